import PyProof.Rows.All
import Wide.All
import OpenK.AllK
import Wide.FinOn
import HandS.ForMost
import HandS.ForExc
import HandS.Defaults
import HandS.MakeKwOnly
import HandS.CallSlots
import HandS.IsInst
import HandS.Wide
import HandS.WideMore
import HandS.Gcd
import HandS.Evl
import HandS.ExcIs
import HandS.Walk
import KE.KxField
import HandS.FStr
import HandS.WideBits
import KE.KMathGC
import KE.GoesEnum
import KE.KMathG
import HandS.ExcInit
import HandS.ExcField
import KE.KExcIs
import KE.KIsAll
import HandS.SetFor
import HandS.Style
import PySem.Challenge.RW_tabletsky_k18_whole_stays_in_zones
set_option Elab.async false
set_option linter.all false
set_option maxRecDepth 100000
set_option maxHeartbeats 4000000
/-! Values as plain data: what an expression, a statement, a def comes to, told by data alone -/
namespace Sky
open PySem L2 Evl

inductive Da where
  | non | bl (b : Bool) | int (i : Int) | str (x : Str) | ty (n : String) | cls (C : Addr)
  | lst (xs : List Da) | tup (xs : List Da) | ins (C : Addr) (fs : List (Str × Da))

mutual
inductive Dr (K : PySem.W.Frag) (B : Hp) : V → Da → Prop
  | non : Dr K B .non .non
  | bl (b : Bool) : Dr K B (.bl b) (.bl b)
  | int (i : Int) : Dr K B (.int i) (.int i)
  | str (x : Str) : Dr K B (.str x) (.str x)
  | ty (n : String) : Dr K B (.ty n) (.ty n)
  | cls (C : Addr) : Dr K B (.ref C) (.cls C)
  | lst {a : Addr} {vs : List V} {ds : List Da} (h : SqL K B a vs) (t : DrA K B vs ds) : Dr K B (.ref a) (.lst ds)
  | tup {a : Addr} {vs : List V} {ds : List Da} (h : SqT K B a vs) (t : DrA K B vs ds) : Dr K B (.ref a) (.tup ds)
  | ins {a C dx : Addr} {fs : List (Str × V)} {ds : List (Str × Da)} (h : B a = some (.ins C dx fs)) (t : DrF K B fs ds) : Dr K B (.ref a) (.ins C ds)
inductive DrA (K : PySem.W.Frag) (B : Hp) : List V → List Da → Prop
  | nil : DrA K B [] []
  | cons {v : V} {vs : List V} {d : Da} {ds : List Da} (h : Dr K B v d) (t : DrA K B vs ds) : DrA K B (v :: vs) (d :: ds)
inductive DrF (K : PySem.W.Frag) (B : Hp) : List (Str × V) → List (Str × Da) → Prop
  | nil : DrF K B [] []
  | cons {f : Str} {v : V} {vs : List (Str × V)} {d : Da} {ds : List (Str × Da)} (h : Dr K B v d) (t : DrF K B vs ds) : DrF K B ((f, v) :: vs) ((f, d) :: ds)
end
section
variable {K : PySem.W.Frag} {B B' H H' H0 B0 : Hp}
mutual
theorem Dr.mono (e : Ex B B') : ∀ {v : V} {d : Da}, Dr K B v d → Dr K B' v d
  | _, _, .non => .non
  | _, _, .bl b => .bl b
  | _, _, .int b => .int b
  | _, _, .str b => .str b
  | _, _, .ty b => .ty b
  | _, _, .cls b => .cls b
  | _, _, .lst h t => .lst (ex_l e h) (DrA.mono e t)
  | _, _, .tup h t => .tup (ex_t e h) (DrA.mono e t)
  | _, _, .ins h t => .ins (e _ _ h) (DrF.mono e t)
theorem DrA.mono (e : Ex B B') : ∀ {v : List V} {d : List Da}, DrA K B v d → DrA K B' v d
  | _, _, .nil => .nil
  | _, _, .cons h t => .cons (Dr.mono e h) (DrA.mono e t)
theorem DrF.mono (e : Ex B B') : ∀ {v : List (Str × V)} {d : List (Str × Da)}, DrF K B v d → DrF K B' v d
  | _, _, .nil => .nil
  | _, _, .cons h t => .cons (Dr.mono e h) (DrF.mono e t)
end
theorem DrA.length : ∀ {vs : List V} {ds : List Da}, DrA K B vs ds → vs.length = ds.length
  | _, _, .nil => rfl
  | _, _, .cons _ t => congrArg (· + 1) (DrA.length t)
theorem DrA.append : ∀ {vs ws : List V} {ds es : List Da}, DrA K B vs ds → DrA K B ws es → DrA K B (vs ++ ws) (ds ++ es)
  | _, _, _, _, .nil, s => s
  | _, _, _, _, .cons h t, s => .cons h (DrA.append t s)
theorem DrA.get : ∀ {vs : List V} {ds : List Da} {j : Nat} {d : Da}, DrA K B vs ds → ds[j]? = some d → ∃ v, vs[j]? = some v ∧ Dr K B v d
  | _, _, _, _, .nil, e => by simp at e
  | _, _, 0, _, .cons h _, e => by simp at e; subst e; exact ⟨_, rfl, h⟩
  | _, _, j + 1, d, .cons _ t, e => by
    obtain ⟨v, h1, h2⟩ := DrA.get (j := j) (d := d) t (by simpa using e)
    exact ⟨v, by simpa using h1, h2⟩
theorem DrA.set : ∀ {vs : List V} {ds : List Da} (j : Nat) {v : V} {d : Da}, DrA K B vs ds → Dr K B v d → DrA K B (vs.set j v) (ds.set j d)
  | _, _, _, _, _, .nil, _ => .nil
  | _, _, 0, _, _, .cons _ t, r => .cons r t
  | _, _, j + 1, _, _, .cons h t, r => .cons h (DrA.set j t r)
theorem DrA.take : ∀ {vs : List V} {ds : List Da} (n : Nat), DrA K B vs ds → DrA K B (vs.take n) (ds.take n)
  | _, _, 0, _ => .nil
  | _, _, _ + 1, .nil => .nil
  | _, _, n + 1, .cons h t => .cons h (DrA.take n t)
theorem DrA.drop : ∀ {vs : List V} {ds : List Da} (n : Nat), DrA K B vs ds → DrA K B (vs.drop n) (ds.drop n)
  | _, _, 0, r => r
  | _, _, _ + 1, .nil => .nil
  | _, _, n + 1, .cons _ t => DrA.drop n t
theorem DrA.rev : ∀ {vs : List V} {ds : List Da}, DrA K B vs ds → DrA K B vs.reverse ds.reverse
  | _, _, .nil => .nil
  | _, _, .cons h t => by
    rw [List.reverse_cons, List.reverse_cons]
    exact (DrA.rev t).append (.cons h .nil)
theorem DrF.look {f : Str} : ∀ {vs : List (Str × V)} {ds : List (Str × Da)} {d : Da}, DrF K B vs ds → ds.lookup f = some d → ∃ v, vs.lookup f = some v ∧ Dr K B v d
  | _, _, _, .nil, e => by simp at e
  | _, _, d, .cons (f := g) (v := v) (vs := vs) (ds := ds) h t, e => by
    rw [List.lookup_cons] at e ⊢
    cases q : f == g with
    | true => rw [q] at e; simp at e; subst e; exact ⟨v, by simp, h⟩
    | false => rw [q] at e; simp at e; simpa using DrF.look t e
theorem DrF.lookN {f : Str} : ∀ {vs : List (Str × V)} {ds : List (Str × Da)}, DrF K B vs ds → ds.lookup f = none → vs.lookup f = none
  | _, _, .nil, e => rfl
  | _, _, .cons (f := g) (d := d) (ds := ds) h t, e => by
    rw [List.lookup_cons] at e ⊢
    cases q : f == g with
    | true => rw [q] at e; cases e
    | false =>
      rw [q] at e
      exact DrF.lookN t e
/-- as ints -/
theorem DrA.ints : ∀ {ns : List Int}, DrA K B (ns.map V.int) (ns.map Da.int)
  | [] => .nil
  | n :: r => .cons (.int n) (DrA.ints (ns := r))

/-! ### how both heaps grow: B what is data, H all -/
structure Gr (B H B' H' : Hp) : Prop where
  b : Ex B B'
  h : Ex H H'
  s : Ex B' H'
  n : ∀ p, H p ≠ none → B p = none → B' p = none
theorem Gr.refl (e : Ex B H) : Gr B H B H := ⟨Ex.refl _, Ex.refl _, e, fun _ _ h => h⟩
theorem Gr.trans {B2 H2 : Hp} (a : Gr B H B' H') (c : Gr B' H' B2 H2) : Gr B H B2 H2 :=
  ⟨a.b.trans c.b, a.h.trans c.h, c.s, fun p hp hb => c.n p (fun z => by
    cases e : H p with
    | none => exact hp e
    | some o => rw [a.h p o e] at z; cases z) (a.n p hp hb)⟩
theorem Gr.back (a : Gr B H B' H') {p : Addr} (h : H' p = none) : H p = none := fresh_back a.h h
theorem Gr.bnone (e : Ex B H) {p : Addr} (h : H p = none) : B p = none := fresh_back e h
/-- a new object that is data -/
theorem Gr.new (e : Ex B H) {p : Addr} {o : HO} (h : H p = none) : Gr B H (upd B p o) (upd H p o) :=
  ⟨Ex.new (fresh_back e h), Ex.new h, fun a u q => by
    by_cases z : a = p
    · subst z; rw [upd_same] at q ⊢; exact q
    · rw [upd_ne z] at q ⊢; exact e a u q, fun q hq hb => by
    have z : q ≠ p := fun w => hq (by rw [w, h])
    rw [upd_ne z]; exact hb⟩
/-- a new object that is none (yet) -/
theorem Gr.newO (e : Ex B H) {p : Addr} {o : HO} (h : H p = none) : Gr B H B (upd H p o) :=
  ⟨Ex.refl _, Ex.new h, e.trans (Ex.new h), fun _ _ hb => hb⟩
/-- what was laid new becomes data -/
theorem Gr.freeze (e0 : Ex B H) (a : Gr B H B' H') {p : Addr} {o : HO} (h0 : H p = none) (h1 : H' p = some o) : Gr B H (upd B' p o) H' :=
  ⟨fun q u e => by
    have z : q ≠ p := ne_of_none (e0 q u e) h0
    rw [upd_ne z]; exact a.b q u e, a.h, fun q u e => by
    by_cases z : q = p
    · subst z; rw [upd_same] at e; rw [h1]; exact e
    · rw [upd_ne z] at e; exact a.s q u e, fun q hq hb => by
    have z : q ≠ p := fun w => hq (by rw [w, h0])
    rw [upd_ne z]; exact a.n q hq hb⟩
end

/-! ### slots -/
inductive Sl where
  | no | da (d : Da) | own (ds : List Da) | rf (v : V) | ob (p C dx : Addr) (fs : List (Str × Da))
inductive SlR (K : PySem.W.Frag) (B H0 H : Hp) : Option V → Sl → Prop
  | no (o : Option V) : SlR K B H0 H o .no
  | da {v : V} {d : Da} (h : Dr K B v d) : SlR K B H0 H (some v) (.da d)
  | rf (v : V) : SlR K B H0 H (some v) (.rf v)
  | ob {p C dx : Addr} {vs : List (Str × V)} {fs : List (Str × Da)} (b : B p = none) (f : H0 p = none) (h : H p = some (.ins C dx vs)) (t : DrF K B vs fs) : SlR K B H0 H (some (.ref p)) (.ob p C dx fs)
  | own {p : Addr} {vs : List V} {ds : List Da} (b : B p = none) (f : H0 p = none) (h : H p = some (.lst vs)) (t : DrA K B vs ds) : SlR K B H0 H (some (.ref p)) (.own ds)
/-- the frame: (B0, H0) at the def's begin, (B, H) now -/
structure Sd (K : PySem.W.Frag) (B0 H0 B H : Hp) (σ : L2.St) (en : List Sl) : Prop where
  gr : Gr B0 H0 B H
  sl : Paired (SlR K B H0 H) σ en
  sep : ∀ (i j : Nat) (p : Addr) (ds es : List Da), en[i]? = some (.own ds) → en[j]? = some (.own es) → σ[i]? = some (some (.ref p)) → σ[j]? = some (some (.ref p)) → i = j
inductive XO where
  | ok (d : Da) | err (C : Addr) (f : Option (Str × Da))
def XF (K : PySem.W.Frag) (B H : Hp) (dd : Option Addr) : Option (Str × Da) → Prop
  | none => dd = none
  | some (n, d) => ∃ a v, dd = some a ∧ H a = some (.xd [(n, v)]) ∧ Dr K B v d
def Ko (K : PySem.W.Frag) (E : XK) (B H : Hp) (Q : VK) : XO → Prop
  | .ok d => ∀ v B' H', Gr B H B' H' → Dr K B' v d → Q v H'
  | .err C f => ∀ dd B' H', Gr B H B' H' → XF K B' H' dd f → E (.ref C) dd H'
/-- an expression comes to o -/
def EX (K : PySem.W.Frag) (W : WX) (te : TE) (en : List Sl) (o : XO) : Prop := ∀ B0 H0 B H σ, Sd K B0 H0 B H σ en → ∀ Q : VK, Ko K (fun c d H' => W c d σ H') B H Q o → te σ H Q
def EA (K : PySem.W.Frag) (ta : TA) (en : List Sl) (ds : List Da) : Prop := ∀ B0 H0 B H σ, Sd K B0 H0 B H σ en → ∀ Q : List V → Hp → Prop, (∀ vs B' H', Gr B H B' H' → DrA K B' vs ds → Q vs H') → ta σ H Q
/-- a new list, nobody else's -/
def EL (K : PySem.W.Frag) (te : TE) (en : List Sl) (ds : List Da) : Prop := ∀ B0 H0 B H σ, Sd K B0 H0 B H σ en → ∀ Q : VK, (∀ p vs B' H', Gr B H B' H' → H p = none → B' p = none → H' p = some (.lst vs) → DrA K B' vs ds → Q (.ref p) H') → te σ H Q

section
variable {K : PySem.W.Frag} {W : WX} {B B' H H' H0 B0 : Hp} {σ : L2.St} {en en' : List Sl} {te ta tb : TE} {d d1 d2 : Da} {o : XO}
theorem SlR.grow (g : Gr B H B' H') {x : Option V} {y : Sl} (h : SlR K B H0 H x y) : SlR K B' H0 H' x y := by
  cases h with
  | no => exact .no _
  | da h => exact .da (h.mono g.b)
  | rf v => exact .rf v
  | ob b f h t => exact .ob (g.n _ (by rw [h]; exact fun z => nomatch z) b) f (g.h _ _ h) (t.mono g.b)
  | own b f h t => exact .own (g.n _ (by rw [h]; exact fun z => nomatch z) b) f (g.h _ _ h) (t.mono g.b)
theorem paired_mp {α β : Type} {F G : α → β → Prop} : ∀ {l₁ : List α} {l₂ : List β}, Paired F l₁ l₂ → (∀ a b, F a b → G a b) → Paired G l₁ l₂
  | _, _, .nil, _ => .nil
  | _, _, .cons r t, f => .cons (f _ _ r) (paired_mp t f)
theorem paired_get {α β : Type} {F : α → β → Prop} : ∀ {l₁ : List α} {l₂ : List β} {i : Nat} {y : β}, Paired F l₁ l₂ → l₂[i]? = some y → ∃ x, l₁[i]? = some x ∧ F x y
  | _, _, _, _, .nil, e => by simp at e
  | _, _, 0, _, .cons r _, e => by simp at e; subst e; exact ⟨_, rfl, r⟩
  | _, _, i + 1, y, .cons _ t, e => by
    obtain ⟨x, h1, h2⟩ := paired_get (i := i) (y := y) t (by simpa using e)
    exact ⟨x, by simpa using h1, h2⟩
theorem paired_set {α β : Type} {F : α → β → Prop} {x : α} {y : β} (r : F x y) : ∀ {xs : List α} {us : List β} (i : Nat), Paired F xs us → Paired F (xs.set i x) (us.set i y)
  | _, _, _, .nil => .nil
  | _, _, 0, .cons _ t => .cons r t
  | _, _, i + 1, .cons q t => .cons q (paired_set r i t)
theorem Sd.grow (S : Sd K B0 H0 B H σ en) (g : Gr B H B' H') : Sd K B0 H0 B' H' σ en :=
  ⟨S.gr.trans g, paired_mp S.sl fun _ _ h => h.grow g, S.sep⟩
theorem Sd.at (S : Sd K B0 H0 B H σ en) {i : Nat} (h : en[i]? = some (.da d)) : ∃ v, σ[i]? = some (some v) ∧ Dr K B v d := by
  obtain ⟨x, h1, h2⟩ := paired_get S.sl h
  cases h2 with
  | da h => exact ⟨_, h1, h⟩
theorem Sd.ownAt (S : Sd K B0 H0 B H σ en) {i : Nat} {ds : List Da} (h : en[i]? = some (.own ds)) : ∃ p vs, σ[i]? = some (some (.ref p)) ∧ B p = none ∧ H0 p = none ∧ H p = some (.lst vs) ∧ DrA K B vs ds := by
  obtain ⟨x, h1, h2⟩ := paired_get S.sl h
  cases h2 with
  | own b f h t => exact ⟨_, _, h1, b, f, h, t⟩
theorem Sd.eb (S : Sd K B0 H0 B H σ en) : Ex B H := S.gr.s
/-- a slot is set to data -/
theorem Sd.set (S : Sd K B0 H0 B H σ en) {v : V} (h : Dr K B v d) (i : Nat) : Sd K B0 H0 B H (σ.set i (some v)) (en.set i (.da d)) :=
  ⟨S.gr, paired_set (.da h) i S.sl, fun a b p ds es h1 h2 h3 h4 => by
    by_cases ha : a = i
    · subst ha
      by_cases hl : a < en.length
      · rw [List.getElem?_set_self hl] at h1; cases h1
      · rw [List.getElem?_eq_none (by rw [List.length_set]; omega)] at h1; cases h1
    · by_cases hb : b = i
      · subst hb
        by_cases hl : b < en.length
        · rw [List.getElem?_set_self hl] at h2; cases h2
        · rw [List.getElem?_eq_none (by rw [List.length_set]; omega)] at h2; cases h2
      · rw [List.getElem?_set_ne (Ne.symm ha)] at h1 h3
        rw [List.getElem?_set_ne (Ne.symm hb)] at h2 h4
        exact S.sep a b p ds es h1 h2 h3 h4⟩
theorem Sd.atRf (S : Sd K B0 H0 B H σ en) {i : Nat} {v : V} (h : en[i]? = some (.rf v)) : σ[i]? = some (some v) := by
  obtain ⟨x, h1, h2⟩ := paired_get S.sl h
  cases h2 with
  | rf => exact h1
/-- a slot holds just this -/
theorem Sd.setRf (S : Sd K B0 H0 B H σ en) (v : V) (i : Nat) : Sd K B0 H0 B H (σ.set i (some v)) (en.set i (.rf v)) :=
  ⟨S.gr, paired_set (.rf v) i S.sl, fun a b p ds es h1 h2 h3 h4 => by
    by_cases ha : a = i
    · subst ha
      by_cases hl : a < en.length
      · rw [List.getElem?_set_self hl] at h1; cases h1
      · rw [List.getElem?_eq_none (by rw [List.length_set]; omega)] at h1; cases h1
    · by_cases hb : b = i
      · subst hb
        by_cases hl : b < en.length
        · rw [List.getElem?_set_self hl] at h2; cases h2
        · rw [List.getElem?_eq_none (by rw [List.length_set]; omega)] at h2; cases h2
      · rw [List.getElem?_set_ne (Ne.symm ha)] at h1 h3
        rw [List.getElem?_set_ne (Ne.symm hb)] at h2 h4
        exact S.sep a b p ds es h1 h2 h3 h4⟩
/-- a slot is forgotten -/
theorem Sd.drop (S : Sd K B0 H0 B H σ en) (i : Nat) (x : Option V) : Sd K B0 H0 B H (σ.set i x) (en.set i .no) :=
  ⟨S.gr, paired_set (.no _) i S.sl, fun a b p ds es h1 h2 h3 h4 => by
    by_cases ha : a = i
    · subst ha
      by_cases hl : a < en.length
      · rw [List.getElem?_set_self hl] at h1; cases h1
      · rw [List.getElem?_eq_none (by rw [List.length_set]; omega)] at h1; cases h1
    · by_cases hb : b = i
      · subst hb
        by_cases hl : b < en.length
        · rw [List.getElem?_set_self hl] at h2; cases h2
        · rw [List.getElem?_eq_none (by rw [List.length_set]; omega)] at h2; cases h2
      · rw [List.getElem?_set_ne (Ne.symm ha)] at h1 h3
        rw [List.getElem?_set_ne (Ne.symm hb)] at h2 h4
        exact S.sep a b p ds es h1 h2 h3 h4⟩
/-- a new own list goes into a slot -/
theorem Sd.setOwn (S : Sd K B0 H0 B H σ en) (g : Gr B H B' H') {p : Addr} {vs : List V} {ds : List Da} (h0 : H p = none) (hb : B' p = none) (h1 : H' p = some (.lst vs)) (t : DrA K B' vs ds) (i : Nat) : Sd K B0 H0 B' H' (σ.set i (some (.ref p))) (en.set i (.own ds)) :=
  have nu : ∀ (a : Nat) (es : List Da), en[a]? = some (.own es) → σ[a]? = some (some (.ref p)) → False := fun a es h2 h4 => by
    obtain ⟨q, ws, e1, _, _, e2, _⟩ := S.ownAt h2
    rw [e1] at h4
    cases h4
    rw [h0] at e2
    cases e2
  ⟨S.gr.trans g, paired_set (.own hb (S.gr.back h0) h1 t) i (paired_mp S.sl fun _ _ h => h.grow g), fun a b q ds es h1 h2 h3 h4 => by
    by_cases ha : a = i
    · by_cases hb : b = i
      · rw [ha, hb]
      · subst ha
        rw [List.getElem?_set_ne (Ne.symm hb)] at h2 h4
        by_cases hl : a < en.length
        · have hs : a < σ.length := by have := Paired.length S.sl; omega
          rw [List.getElem?_set_self hs] at h3
          cases h3
          exact (nu b es h2 h4).elim
        · rw [List.getElem?_eq_none (by rw [List.length_set]; omega)] at h1; cases h1
    · by_cases hb : b = i
      · subst hb
        rw [List.getElem?_set_ne (Ne.symm ha)] at h1 h3
        by_cases hl : b < en.length
        · have hs : b < σ.length := by have := Paired.length S.sl; omega
          rw [List.getElem?_set_self hs] at h4
          cases h4
          exact (nu a ds h1 h3).elim
        · rw [List.getElem?_eq_none (by rw [List.length_set]; omega)] at h2; cases h2
      · rw [List.getElem?_set_ne (Ne.symm ha)] at h1 h3
        rw [List.getElem?_set_ne (Ne.symm hb)] at h2 h4
        exact S.sep a b q ds es h1 h2 h3 h4⟩
theorem paired_ix {α β : Type} {F : α → β → Prop} : ∀ {l₁ : List α} {l₂ : List β}, l₁.length = l₂.length → (∀ (i : Nat) x y, l₁[i]? = some x → l₂[i]? = some y → F x y) → Paired F l₁ l₂
  | [], [], _, _ => .nil
  | [], _ :: _, h, _ => by simp at h
  | _ :: _, [], h, _ => by simp at h
  | x :: xs, y :: ys, h, f => .cons (f 0 x y rfl rfl) (paired_ix (by simpa using h) fun i a b ha hb => f (i + 1) a b (by simpa using ha) (by simpa using hb))
theorem paired_at {α β : Type} {F : α → β → Prop} {l₁ : List α} {l₂ : List β} {i : Nat} {x : α} {y : β} (h : Paired F l₁ l₂) (h1 : l₁[i]? = some x) (h2 : l₂[i]? = some y) : F x y := by
  obtain ⟨x', e1, e2⟩ := paired_get h h2
  rw [h1] at e1
  cases e1
  exact e2
/-- the own list of a slot is changed -/
theorem Sd.mut (S : Sd K B0 H0 B H σ en) {i : Nat} {ds : List Da} {p : Addr} (he : en[i]? = some (.own ds)) (hp : σ[i]? = some (some (.ref p))) {vs : List V} {es : List Da} (t : DrA K B vs es) : Sd K B0 H0 B (upd H p (.lst vs)) σ (en.set i (.own es)) := by
  obtain ⟨q, ws, e1, b, f, e2, t0⟩ := S.ownAt he
  rw [hp] at e1
  cases e1
  have hi : i < en.length := by
    rcases Nat.lt_or_ge i en.length with h | h
    · exact h
    · rw [List.getElem?_eq_none h] at he; cases he
  refine ⟨⟨S.gr.b, S.gr.h.mut f, fun a o h => ?_, S.gr.n⟩, paired_ix (by rw [List.length_set]; exact Paired.length S.sl) fun j x y hx hy => ?_, fun a c r xs ys h1 h2 h3 h4 => ?_⟩
  · have z : a ≠ p := ne_of_none h b
    rw [upd_ne z]
    exact S.gr.s a o h
  · by_cases hj : j = i
    · subst hj
      rw [List.getElem?_set_self hi] at hy
      cases hy
      rw [hp] at hx
      cases hx
      exact .own b f upd_same t
    · rw [List.getElem?_set_ne (Ne.symm hj)] at hy
      have r := paired_at S.sl hx hy
      cases r with
      | no => exact .no _
      | da h => exact .da h
      | rf v => exact .rf v
      | ob b' f' h' t' => exact .ob b' f' (by rw [upd_ne (ne_of h' e2 (fun z => nomatch z))]; exact h') t'
      | own b' f' h' t' =>
        have z : _ ≠ p := fun w => hj (S.sep j i p _ _ hy he (by rw [← w]; exact hx) hp)
        exact .own b' f' (by rw [upd_ne z]; exact h') t'
  · have back : ∀ (a : Nat) (xs : List Da), (en.set i (.own es))[a]? = some (.own xs) → ∃ zs, en[a]? = some (.own zs) := fun a xs h => by
      by_cases ha : a = i
      · subst ha; exact ⟨_, he⟩
      · rw [List.getElem?_set_ne (Ne.symm ha)] at h; exact ⟨_, h⟩
    obtain ⟨z1, k1⟩ := back a xs h1
    obtain ⟨z2, k2⟩ := back c ys h2
    exact S.sep a c r z1 z2 k1 k2 h3 h4
/-- an own list becomes data -/
theorem Sd.freeze (S : Sd K B0 H0 B H σ en) {i : Nat} {ds : List Da} (he : en[i]? = some (.own ds)) : ∃ B', Sd K B0 H0 B' H σ (en.set i (.da (.lst ds))) ∧ (∀ a o, B a = some o → B' a = some o) := by
  obtain ⟨p, vs, e1, b, f, e2, t0⟩ := S.ownAt he
  have hi : i < en.length := by
    rcases Nat.lt_or_ge i en.length with h | h
    · exact h
    · rw [List.getElem?_eq_none h] at he; cases he
  have eB : Ex B (upd B p (.lst vs)) := Ex.new b
  refine ⟨upd B p (.lst vs), ⟨⟨S.gr.b.trans eB, S.gr.h, fun a o h => ?_, fun q hq hb => ?_⟩, paired_ix (by rw [List.length_set]; exact Paired.length S.sl) fun j x y hx hy => ?_, fun a c r xs ys h1 h2 h3 h4 => ?_⟩, eB⟩
  · by_cases z : a = p
    · subst z; rw [upd_same] at h; rw [e2]; exact h
    · rw [upd_ne z] at h; exact S.gr.s a o h
  · have z : q ≠ p := fun w => hq (by rw [w]; exact f)
    rw [upd_ne z]
    exact S.gr.n q hq hb
  · by_cases hj : j = i
    · subst hj
      rw [List.getElem?_set_self hi] at hy
      cases hy
      rw [e1] at hx
      cases hx
      exact .da (.lst (Or.inl (Or.inl upd_same)) (t0.mono eB))
    · rw [List.getElem?_set_ne (Ne.symm hj)] at hy
      have r := paired_at S.sl hx hy
      cases r with
      | no => exact .no _
      | da h => exact .da (h.mono eB)
      | rf v => exact .rf v
      | ob b' f' h' t' => exact .ob (by rw [upd_ne (ne_of h' e2 (fun z => nomatch z))]; exact b') f' h' (t'.mono eB)
      | own b' f' h' t' =>
        have z : _ ≠ p := fun w => hj (S.sep j i p _ _ hy he (by rw [← w]; exact hx) e1)
        exact .own (by rw [upd_ne z]; exact b') f' h' (t'.mono eB)
  · have back : ∀ (a : Nat) (xs : List Da), (en.set i (.da (.lst ds)))[a]? = some (.own xs) → en[a]? = some (.own xs) := fun a xs h => by
      by_cases ha : a = i
      · subst ha; rw [List.getElem?_set_self hi] at h; cases h
      · rw [List.getElem?_set_ne (Ne.symm ha)] at h; exact h
    exact S.sep a c r xs ys (back a xs h1) (back c ys h2) h3 h4
end
end Sky
namespace Sky
open PySem L2 Evl
section
variable {K : PySem.W.Frag} {W : WX} {E : XK} {B B' H H' H0 B0 : Hp} {σ : L2.St} {en en' : List Sl} {te ta tb : TE} {d d1 d2 : Da} {o : XO} {ds es : List Da}
theorem Ko.grow {Q : VK} (g : Gr B H B' H') (k : Ko K E B H Q o) : Ko K E B' H' Q o := by
  cases o with
  | ok d => exact fun v B2 H2 g2 r => k v B2 H2 (g.trans g2) r
  | err C f => exact fun dd B2 H2 g2 r => k dd B2 H2 (g.trans g2) r
/-! ### expressions -/
def FlatD (v : V) (d : Da) : Prop := ∀ K B, Dr K B v d
theorem ex_var {i : Nat} (h : en[i]? = some (.da d)) : EX K W (tVar i) en (.ok d) := fun _ _ B H σ S Q k => by
  obtain ⟨v, h1, h2⟩ := S.at h
  exact ⟨v, h1, k v B H (Gr.refl S.eb) h2⟩
theorem ex_c {v : V} (h : FlatD v d) : EX K W (tC v) en (.ok d) := fun _ _ B H σ S Q k => k v B H (Gr.refl S.eb) (h K B)
theorem ex_cK {v : V} (h : ∀ B, Dr K B v d) : EX K W (tC v) en (.ok d) := fun _ _ B H σ S Q k => k v B H (Gr.refl S.eb) (h B)
def RV (K : PySem.W.Frag) (r : R2) (d1 d2 d : Da) : Prop := ∀ B H x y, Ex B H → Dr K B x d1 → Dr K B y d2 → ∀ Q : VK, (∀ v B' H', Gr B H B' H' → Dr K B' v d → Q v H') → r x y H Q
def RU (K : PySem.W.Frag) (r : V → Hp → VK → Prop) (d1 d : Da) : Prop := ∀ B H x, Ex B H → Dr K B x d1 → ∀ Q : VK, (∀ v B' H', Gr B H B' H' → Dr K B' v d → Q v H') → r x H Q
def RC (K : PySem.W.Frag) (r : List V → Hp → VK → Prop) (ds : List Da) (d : Da) : Prop := ∀ B H vs, Ex B H → DrA K B vs ds → ∀ Q : VK, (∀ v B' H', Gr B H B' H' → Dr K B' v d → Q v H') → r vs H Q
theorem ex_op {r : R2} (ha : EX K W ta en (.ok d1)) (hb : EX K W tb en (.ok d2)) (hr : RV K r d1 d2 d) : EX K W (tOp r ta tb) en (.ok d) := fun _ _ B H σ S Q k =>
  ha _ _ B H σ S _ fun x B1 H1 g1 r1 => hb _ _ B1 H1 σ (S.grow g1) _ fun y B2 H2 g2 r2 => hr B2 H2 x y g2.s (r1.mono g2.b) r2 Q fun v B3 H3 g3 r3 => k v B3 H3 (g1.trans (g2.trans g3)) r3
theorem ex_un {r : V → Hp → VK → Prop} (ha : EX K W ta en (.ok d1)) (hr : RU K r d1 d) : EX K W (tUn r ta) en (.ok d) := fun _ _ B H σ S Q k =>
  ha _ _ B H σ S _ fun x B1 H1 g1 r1 => hr B1 H1 x g1.s r1 Q fun v B3 H3 g3 r3 => k v B3 H3 (g1.trans g3) r3
theorem ea_nil : EA K tNil en [] := fun _ _ B H σ S Q k => k [] B H (Gr.refl S.eb) .nil
theorem ea_cons {t : TA} (ha : EX K W te en (.ok d)) (ht : EA K t en ds) : EA K (tCons te t) en (d :: ds) := fun _ _ B H σ S Q k =>
  ha _ _ B H σ S _ fun x B1 H1 g1 r1 => ht _ _ B1 H1 σ (S.grow g1) _ fun vs B2 H2 g2 r2 => k _ B2 H2 (g1.trans g2) (.cons (r1.mono g2.b) r2)
theorem ex_tup {t : TA} (ht : EA K t en ds) (hl : ds.length ≤ 100000) : EX K W (tTup t) en (.ok (.tup ds)) := fun _ _ B H σ S Q k =>
  ht _ _ B H σ S _ fun vs B1 H1 g1 r1 => ⟨by rw [r1.length]; exact sz_of hl, fun p hp => k _ _ _ (g1.trans (Gr.new g1.s hp)) (.tup (st_of upd_same) (r1.mono (Ex.new (fresh_back g1.s hp))))⟩
theorem el_lst {t : TA} (ht : EA K t en ds) (hl : ds.length ≤ 100000) : EL K (tLst t) en ds := fun _ _ B H σ S Q k =>
  ht _ _ B H σ S _ fun vs B1 H1 g1 r1 => ⟨by rw [r1.length]; exact sz_of hl, fun p hp => k p vs B1 _ (g1.trans (Gr.newO g1.s hp)) (g1.back hp) (fresh_back g1.s hp) upd_same r1⟩
theorem EL.ex (h : EL K te en ds) : EX K W te en (.ok (.lst ds)) := fun _ _ B H σ S Q k =>
  h _ _ B H σ S _ fun p vs B1 H1 g1 h0 hb h1 r => k _ _ _ (g1.freeze S.eb h0 h1) (.lst (sq_of upd_same) (r.mono (Ex.new hb)))
theorem ex_cb {r : List V → Hp → VK → Prop} {t : TA} (ht : EA K t en ds) (hr : RC K r ds d) : EX K W (tCB r t) en (.ok d) := fun _ _ B H σ S Q k =>
  ht _ _ B H σ S _ fun vs B1 H1 g1 r1 => hr B1 H1 vs g1.s r1 Q fun v B3 H3 g3 r3 => k v B3 H3 (g1.trans g3) r3
/-- and, or, not of truths -/
theorem ex_andT {b : Da} (ha : EX K W ta en (.ok (.bl true))) (hb : EX K W tb en (.ok b)) : EX K W (tAndV ta tb) en (.ok b) := fun _ _ B H σ S Q k =>
  ha _ _ B H σ S _ fun x B1 H1 g1 r1 => by
    cases r1
    refine ⟨true, rfl, ?_⟩
    rw [if_pos rfl]
    exact hb _ _ B1 H1 σ (S.grow g1) _ (Ko.grow (o := .ok b) (E := fun _ _ _ => False) g1 k)
theorem ex_andF (ha : EX K W ta en (.ok (.bl false))) : EX K W (tAndV ta tb) en (.ok (.bl false)) := fun _ _ B H σ S Q k =>
  ha _ _ B H σ S _ fun x B1 H1 g1 r1 => by
    cases r1
    refine ⟨false, rfl, ?_⟩
    rw [if_neg Bool.false_ne_true]
    exact k _ _ _ g1 (.bl _)
theorem ex_orF {b : Da} (ha : EX K W ta en (.ok (.bl false))) (hb : EX K W tb en (.ok b)) : EX K W (tOrV ta tb) en (.ok b) := fun _ _ B H σ S Q k =>
  ha _ _ B H σ S _ fun x B1 H1 g1 r1 => by
    cases r1
    refine ⟨false, rfl, ?_⟩
    rw [if_neg Bool.false_ne_true]
    exact hb _ _ B1 H1 σ (S.grow g1) _ (Ko.grow (o := .ok b) (E := fun _ _ _ => False) g1 k)
theorem ex_orT (ha : EX K W ta en (.ok (.bl true))) : EX K W (tOrV ta tb) en (.ok (.bl true)) := fun _ _ B H σ S Q k =>
  ha _ _ B H σ S _ fun x B1 H1 g1 r1 => by
    cases r1
    refine ⟨true, rfl, ?_⟩
    rw [if_pos rfl]
    exact k _ _ _ g1 (.bl _)
theorem ex_not {b : Bool} (ha : EX K W ta en (.ok (.bl b))) : EX K W (tNotV ta) en (.ok (.bl (!b))) := fun _ _ B H σ S Q k =>
  ha _ _ B H σ S _ fun x B1 H1 g1 r1 => by
    cases r1
    exact ⟨b, rfl, k _ _ _ g1 (.bl _)⟩
/-! ### values -/
theorem rv_I {C : Int → Int → Prop} {g : Int → Int → V} {i j : Int} (hc : C i j) (hf : FlatD (g i j) d) : RV K (rI C g) (.int i) (.int j) d := fun B H x y e h1 h2 Q k => by
  cases h1; cases h2
  exact ⟨i, j, rfl, rfl, hc, k _ B H (Gr.refl e) (hf K B)⟩
theorem rv_I0 {g : Int → Int → V} {i j : Int} (hf : FlatD (g i j) d) : RV K (rI0 g) (.int i) (.int j) d := fun B H x y e h1 h2 Q k => by
  cases h1; cases h2
  exact ⟨i, j, rfl, rfl, k _ B H (Gr.refl e) (hf K B)⟩
theorem ixN_len {α β : Type} {xs : List α} {ys : List β} (h : xs.length = ys.length) (i : Int) : ixN xs.length i = ixN ys.length i := by rw [h]
theorem atI_dr {vs : List V} {i : Int} (h : DrA K B vs ds) (e : atI ds i = some d) : ∃ v, atI vs i = some v ∧ Dr K B v d := by
  unfold atI at e ⊢
  rw [ixN_len h.length i]
  cases q : ixN ds.length i with
  | none => rw [q] at e; cases e
  | some j =>
    rw [q] at e
    exact h.get e
theorem rv_ixT {i : Int} (e : atI ds i = some d) : RV K (rIxT K) (.tup ds) (.int i) d := fun B H x y eb h1 h2 Q k => by
  cases h2
  cases h1 with
  | tup h t =>
    obtain ⟨v, e1, r⟩ := atI_dr t e
    exact ⟨_, _, i, v, rfl, rfl, ex_t eb h, e1, k v B H (Gr.refl eb) r⟩
theorem rv_ixL {i : Int} (e : atI ds i = some d) : RV K (rIxL K) (.lst ds) (.int i) d := fun B H x y eb h1 h2 Q k => by
  cases h2
  cases h1 with
  | lst h t =>
    obtain ⟨v, e1, r⟩ := atI_dr t e
    exact ⟨_, _, i, v, rfl, rfl, ex_l eb h, e1, k v B H (Gr.refl eb) r⟩
/-- an item of an own list -/
theorem ex_ixO {i : Nat} {j : Int} (ho : en[i]? = some (.own ds)) (hb : EX K W tb en (.ok (.int j))) (e : atI ds j = some d) : EX K W (tOp (rIxL K) (tVar i) tb) en (.ok d) := fun _ _ B H σ S Q k => by
  obtain ⟨p, vs, e1, _⟩ := S.ownAt ho
  refine ⟨_, e1, hb _ _ B H σ S _ fun y B2 H2 g2 r2 => ?_⟩
  cases r2
  obtain ⟨p', vs', e1', _, _, e2, t⟩ := (S.grow g2).ownAt ho
  rw [e1] at e1'
  cases e1'
  obtain ⟨v, e3, r⟩ := atI_dr t e
  exact ⟨_, _, j, v, rfl, rfl, sq_of e2, e3, k v B2 H2 g2 r⟩

/-! ### equality -/
mutual
def py : Da → PyData
  | .non => .none | .bl b => .bool b | .int i => .int i | .str x => .str x | .ty _ => .none | .cls _ => .none
  | .lst xs => .list (pyA xs) | .tup xs => .tuple (pyA xs) | .ins _ _ => .none
def pyA : List Da → List PyData
  | [] => [] | d :: r => py d :: pyA r
end
mutual
def pl : Da → Bool
  | .non => true | .bl _ => true | .int _ => true | .str _ => true | .ty _ => false | .cls _ => false
  | .lst xs => plA xs | .tup xs => plA xs | .ins _ _ => false
def plA : List Da → Bool
  | [] => true | d :: r => pl d && plA r
end
mutual
theorem Dr.dp (e : Ex B H) : ∀ {v : V} {d : Da}, Dr K B v d → pl d = true → Dp K H v (py d)
  | _, _, .non, _ => .non
  | _, _, .bl b, _ => .bl b
  | _, _, .int b, _ => .int b
  | _, _, .str b, _ => .str b
  | _, _, .lst h t, q => .lst (ex_l e h) (DrA.dp e t q)
  | _, _, .tup h t, q => .tup (ex_t e h) (DrA.dp e t q)
theorem DrA.dp (e : Ex B H) : ∀ {v : List V} {d : List Da}, DrA K B v d → plA d = true → DpAll K H v (pyA d)
  | _, _, .nil, _ => .nil
  | _, _, .cons h t, q => .cons (Dr.dp e h (Bool.and_eq_true_iff.mp q).1) (DrA.dp e t (Bool.and_eq_true_iff.mp q).2)
end
/-- what == asks of both -/
def Cmp (d : Da) : Prop := pl d = true ∧ SeqAt.shaped (py d) = true
def deq (d e : Da) : Bool := PyData.eqv (py d) (py e)
theorem rv_eq (h1 : Cmp d1) (h2 : Cmp d2) : RV K (rEqD K) d1 d2 (.bl (deq d1 d2)) := fun B H x y e r1 r2 Q k =>
  ⟨_, _, r1.dp e h1.1, r2.dp e h2.1, h1.2, h2.2, k _ B H (Gr.refl e) (.bl _)⟩
theorem rv_ne (h1 : Cmp d1) (h2 : Cmp d2) : RV K (rNeD K) d1 d2 (.bl (!deq d1 d2)) := fun B H x y e r1 r2 Q k =>
  ⟨_, _, r1.dp e h1.1, r2.dp e h2.1, h1.2, h2.2, k _ B H (Gr.refl e) (.bl _)⟩
def isNon : Da → Bool
  | .non => true | _ => false
theorem rv_isN : RV K (fun x y H Q => y = .non ∧ Q (.bl (decide (x = .non))) H) d .non (.bl (isNon d)) := fun B H x y e r1 r2 Q k => by
  cases r2
  refine ⟨rfl, k _ B H (Gr.refl e) ?_⟩
  cases r1 <;> exact .bl _
theorem rv_notN : RV K (fun x y H Q => y = .non ∧ Q (.bl (!decide (x = .non))) H) d .non (.bl (!isNon d)) := fun B H x y e r1 r2 Q k => by
  cases r2
  refine ⟨rfl, k _ B H (Gr.refl e) ?_⟩
  cases r1 <;> exact .bl _
/-! ### types -/
def tyN : Da → Option String
  | .non => some "NoneType" | .bl _ => some "bool" | .int _ => some "int" | .str _ => some "str" | .lst _ => some "list" | .tup _ => some "tuple" | _ => none
theorem Dr.tyx (e : Ex B H) {v : V} {T : String} (h : Dr K B v d) (q : tyN d = some T) : TyX K H v (.type T) := by
  cases h with
  | non => cases q; exact .base .non
  | bl b => cases q; exact .base (.bl b)
  | int b => cases q; exact .base (.int b)
  | str b => cases q; exact .base (.str b)
  | ty n => cases q
  | cls n => cases q
  | ins _ _ => cases q
  | lst h t =>
    cases q
    rcases ex_l e h with (h | ⟨o, h⟩) | ⟨o, its, n, h, hc, _⟩
    · exact .base (.lst h)
    · exact .base (.frz h)
    · exact .kList h hc
  | tup h t =>
    cases q
    rcases ex_t e h with (h | ⟨o, h⟩) | ⟨o, its, n, h, hc, _⟩
    · exact .base (.tup h)
    · exact .fTuple h
    · exact .kTuple h hc
theorem rc_isi {T c : String} {b : Bool} (q : tyN d = some T) (h : kitB T c = some b) : RC K (rIsi K) [d, .ty c] (.bl b) := fun B H vs e hA Q k => by
  cases hA with
  | cons h1 t =>
    cases t with
    | cons h2 t =>
      cases t
      cases h2
      exact ⟨_, _, _, _, b, rfl, .ty c, h1.tyx e q, kit_ty h, k _ B H (Gr.refl e) (.bl _)⟩
end
end Sky
namespace Sky
open PySem L2 Evl
inductive Out where
  | nx (en : List Sl) | rt (d : Da) | bk (en : List Sl) | ct (en : List Sl) | rx (en : List Sl) (C : Addr) (f : Option (Str × Da))
def Fi (K : PySem.W.Frag) (W : WX) (B0 H0 : Hp) (D : Ends) : Out → Prop
  | .nx en => ∀ B H σ, Sd K B0 H0 B H σ en → D.nx σ H
  | .bk en => ∀ B H σ, Sd K B0 H0 B H σ en → D.bk σ H
  | .ct en => ∀ B H σ, Sd K B0 H0 B H σ en → D.ct σ H
  | .rt d => ∀ v B H, Gr B0 H0 B H → Dr K B v d → D.rt v H
  | .rx en C f => ∀ B H σ dd, Sd K B0 H0 B H σ en → XF K B H dd f → W (.ref C) dd σ H
def ST (K : PySem.W.Frag) (W : WX) (t : TS) (en : List Sl) (o : Out) : Prop := ∀ B0 H0 B H σ, Sd K B0 H0 B H σ en → ∀ D : Ends, Fi K W B0 H0 D o → t D σ H
/-- forgotten slots -/
inductive Wk : List Sl → List Sl → Prop
  | nil : Wk [] []
  | no {x : Sl} {xs ys : List Sl} (t : Wk xs ys) : Wk (x :: xs) (.no :: ys)
  | eq {x : Sl} {xs ys : List Sl} (t : Wk xs ys) : Wk (x :: xs) (x :: ys)
section
variable {K : PySem.W.Frag} {W : WX} {E : XK} {B B' H H' H0 B0 B1 H1 : Hp} {σ : L2.St} {en en' e1 e2 : List Sl} {te ta tb tl : TE} {d d1 d2 : Da} {o : Out} {ds es : List Da} {t u tbd : TS} {C : Addr} {f : Option (Str × Da)}
theorem Wk.refl : ∀ e : List Sl, Wk e e
  | [] => .nil
  | _ :: r => .eq (Wk.refl r)
theorem Wk.len : ∀ {e1 e2 : List Sl}, Wk e1 e2 → e1.length = e2.length
  | _, _, .nil => rfl
  | _, _, .no t => congrArg (· + 1) (Wk.len t)
  | _, _, .eq t => congrArg (· + 1) (Wk.len t)
theorem Wk.at : ∀ {e1 e2 : List Sl} {i : Nat} {y : Sl}, Wk e1 e2 → e2[i]? = some y → y = .no ∨ e1[i]? = some y
  | _, _, _, _, .nil, e => by simp at e
  | _, _, 0, _, .no _, e => by simp at e; exact .inl e.symm
  | _, _, 0, _, .eq _, e => by simp at e; exact .inr (by simp [e])
  | _, _, i + 1, _, .no t, e => by simpa using Wk.at (i := i) t (by simpa using e)
  | _, _, i + 1, _, .eq t, e => by simpa using Wk.at (i := i) t (by simpa using e)
theorem Sd.weak (S : Sd K B0 H0 B H σ e1) (w : Wk e1 e2) : Sd K B0 H0 B H σ e2 :=
  ⟨S.gr, paired_ix ((Paired.length S.sl).trans w.len) fun i x y hx hy => by
    rcases w.at hy with h | h
    · rw [h]; exact .no _
    · exact paired_at S.sl hx h, fun i j p ds es h1 h2 h3 h4 => by
    rcases w.at h1 with h | h
    · cases h
    · rcases w.at h2 with k | k
      · cases k
      · exact S.sep i j p ds es h k h3 h4⟩
/-- another begin: what is data by now -/
theorem Sd.rebase (S : Sd K B0 H0 B H σ en) : Sd K B H0 B H σ en := ⟨⟨Ex.refl _, S.gr.h, S.gr.s, fun _ _ h => h⟩, S.sl, S.sep⟩
theorem Gr.base (a : Gr B0 H0 B1 H1) (b : Gr B1 H0 B H) : Gr B0 H0 B H := ⟨a.b.trans b.b, b.h, b.s, fun p h1 h2 => b.n p h1 (a.n p h1 h2)⟩
theorem Sd.base (a : Gr B0 H0 B1 H1) (S : Sd K B1 H0 B H σ en) : Sd K B0 H0 B H σ en := ⟨a.base S.gr, S.sl, S.sep⟩
theorem st_weak (h : ST K W t en (.nx e1)) (w : Wk e1 e2) : ST K W t en (.nx e2) := fun B0 H0 B H σ S D k => h B0 H0 B H σ S D fun B' H' σ' S' => k B' H' σ' (S'.weak w)
theorem st_next : ST K W tNext en (.nx en) := fun _ _ _ _ _ S _ k => k _ _ _ S
theorem st_seq (h : ST K W t en (.nx e1)) (h2 : ST K W u e1 o) : ST K W (tSeq t u) en o := fun B0 H0 B H σ S D k =>
  h B0 H0 B H σ S { D with nx := u D } fun B' H' σ' S' => h2 B0 H0 B' H' σ' S' D k
theorem st_stop (h : ST K W t en o) (ho : ∀ e, o ≠ .nx e) : ST K W (tSeq t u) en o := fun B0 H0 B H σ S D k => h B0 H0 B H σ S { D with nx := u D } (by
  cases o with
  | nx e => exact absurd rfl (ho e)
  | rt d => exact k
  | bk d => exact k
  | ct d => exact k
  | rx e C f => exact k)
theorem st_asg {i : Nat} (h : EX K W te en (.ok d)) : ST K W (tAsg te (gName i)) en (.nx (en.set i (.da d))) := fun B0 H0 B H σ S D k =>
  h _ _ B H σ S _ fun v B' H' g r => k B' H' _ ((S.grow g).set r i)
theorem st_asgL {i : Nat} (h : EL K te en ds) : ST K W (tAsg te (gName i)) en (.nx (en.set i (.own ds))) := fun B0 H0 B H σ S D k =>
  h _ _ B H σ S _ fun p vs B' H' g h0 hb h1 r => k B' H' _ (S.setOwn g h0 hb h1 r i)
theorem ko_err (S : Sd K B0 H0 B H σ en) {Q : VK} (k : ∀ B H σ dd, Sd K B0 H0 B H σ en → XF K B H dd f → W (.ref C) dd σ H) : Ko K (fun c d H' => W c d σ H') B H Q (.err C f) := fun dd B' H' g x => k B' H' σ dd (S.grow g) x
theorem st_asgX {g : TG} (h : EX K W te en (.err C f)) : ST K W (tAsg te g) en (.rx en C f) := fun B0 H0 B H σ S D k => h _ _ B H σ S _ (ko_err S k)
theorem st_dropX (h : EX K W te en (.err C f)) : ST K W (tDrop te) en (.rx en C f) := fun B0 H0 B H σ S D k => h _ _ B H σ S _ (ko_err S k)
theorem st_retX (h : EX K W te en (.err C f)) : ST K W (tRet te) en (.rx en C f) := fun B0 H0 B H σ S D k => h _ _ B H σ S _ (ko_err S k)
theorem st_drop (h : EX K W te en (.ok d)) : ST K W (tDrop te) en (.nx en) := fun B0 H0 B H σ S D k => h _ _ B H σ S _ fun v B' H' g r => k B' H' σ (S.grow g)
theorem st_ret (h : EX K W te en (.ok d)) : ST K W (tRet te) en (.rt d) := fun B0 H0 B H σ S D k => h _ _ B H σ S _ fun v B' H' g r => k v B' H' (S.gr.trans g) r
theorem st_retN : ST K W tRetN en (.rt .non) := fun B0 H0 B H σ S D k => k .non B H S.gr .non
def ET (K : PySem.W.Frag) (tt : TT) (en : List Sl) (b : Bool) : Prop := ∀ B0 H0 B H σ, Sd K B0 H0 B H σ en → ∀ Q : Bool → Hp → Prop, (∀ B' H', Gr B H B' H' → Q b H') → tt σ H Q
theorem et_val {b : Bool} (h : EX K W te en (.ok (.bl b))) : ET K (tB te) en b := fun _ _ B H σ S Q k => h _ _ B H σ S _ fun v B' H' g r => by
  cases r
  exact ⟨b, rfl, k B' H' g⟩
theorem et_not {tt : TT} {b : Bool} (h : ET K tt en b) : ET K (tNot tt) en (!b) := fun _ _ B H σ S Q k => h _ _ B H σ S _ fun B' H' g => k B' H' g
theorem et_andT {tt tu : TT} {b : Bool} (h : ET K tt en true) (h2 : ET K tu en b) : ET K (tAnd tt tu) en b := fun _ _ B H σ S Q k => h _ _ B H σ S _ fun B' H' g => iteT (h2 _ _ B' H' σ (S.grow g) _ fun B2 H2 g2 => k B2 H2 (g.trans g2))
theorem et_andF {tt tu : TT} (h : ET K tt en false) : ET K (tAnd tt tu) en false := fun _ _ B H σ S Q k => h _ _ B H σ S _ fun B' H' g => iteF (k B' H' g)
theorem et_orF {tt tu : TT} {b : Bool} (h : ET K tt en false) (h2 : ET K tu en b) : ET K (tOr tt tu) en b := fun _ _ B H σ S Q k => h _ _ B H σ S _ fun B' H' g => iteF (h2 _ _ B' H' σ (S.grow g) _ fun B2 H2 g2 => k B2 H2 (g.trans g2))
theorem et_orT {tt tu : TT} (h : ET K tt en true) : ET K (tOr tt tu) en true := fun _ _ B H σ S Q k => h _ _ B H σ S _ fun B' H' g => iteT (k B' H' g)
theorem st_ifT {tt : TT} (h : ET K tt en true) (k : ST K W t en o) : ST K W (tIfS tt t u) en o := fun B0 H0 B H σ S D q =>
  h _ _ B H σ S _ fun B' H' g => iteT (k B0 H0 B' H' σ (S.grow g) D q)
theorem st_ifF {tt : TT} (h : ET K tt en false) (k : ST K W u en o) : ST K W (tIfS tt t u) en o := fun B0 H0 B H σ S D q =>
  h _ _ B H σ S _ fun B' H' g => iteF (k B0 H0 B' H' σ (S.grow g) D q)
theorem st_freeze {i : Nat} (he : en[i]? = some (.own ds)) (k : ST K W t (en.set i (.da (.lst ds))) o) : ST K W t en o := fun B0 H0 B H σ S D q => by
  obtain ⟨B', S', _⟩ := S.freeze he
  exact k B0 H0 B' H σ S' D q
/-- xs.append(e), xs an own list -/
theorem st_app {i : Nat} (he : en[i]? = some (.own ds)) (h : EX K W te en (.ok d)) (hz : ds.length < 100000) : ST K W (tDrop (tBM K "list" rAppend (tVar i) (tCons te tNil))) en (.nx (en.set i (.own (ds ++ [d])))) := fun B0 H0 B H σ S D k => by
  obtain ⟨p, vs, e1, _, _, e2, t⟩ := S.ownAt he
  refine ⟨_, e1, Or.inl ⟨rfl, vs, sq_of e2⟩, h _ _ B H σ S _ fun v B' H' g r => ?_⟩
  obtain ⟨p', vs', e1', _, _, e2', t'⟩ := (S.grow g).ownAt he
  rw [e1] at e1'
  cases e1'
  exact ⟨p, vs', v, rfl, rfl, e2', by rw [t'.length]; exact sz_lt hz, k B' _ σ ((S.grow g).mut he e1 (t'.append (.cons r .nil)))⟩
/-- a, b = x, y -/
theorem st_par {i j : Nat} {tx : TA} (h : EA K tx en [d1, d2]) : ST K W (tPar i j tx) en (.nx ((en.set i (.da d1)).set j (.da d2))) := fun B0 H0 B H σ S D k =>
  h _ _ B H σ S _ fun vs B' H' g r => by
    cases r with
    | cons r1 r2 =>
      cases r2 with
      | cons r2 r3 =>
        cases r3
        exact ⟨_, _, rfl, k B' H' _ (((S.grow g).set r1 i).set r2 j)⟩
/-! unpacking -/
def gNames : List Nat → TGs
  | [] => gNil
  | i :: r => gCons (gName i) (gNames r)
def setAll : List Sl → List Nat → List Da → List Sl
  | en, i :: is, d :: ds => setAll (en.set i (.da d)) is ds
  | en, _, _ => en
theorem gn_set : ∀ {is : List Nat} {vs : List V} {ds : List Da} {σ : L2.St} {en : List Sl} {Q : L2.St → Hp → Prop}, Sd K B0 H0 B H σ en → DrA K B vs ds → ds.length = is.length → (∀ σ', Sd K B0 H0 B H σ' (setAll en is ds) → Q σ' H) → gNames is vs σ H Q
  | [], _, _, σ, en, Q, S, .nil, _, k => ⟨rfl, k σ S⟩
  | i :: is, _, _, σ, en, Q, S, .cons h t, l, k => ⟨_, _, rfl, gn_set (is := is) (S.set h i) t (by simpa using l) k⟩
theorem st_unT {is : List Nat} {n : Nat} (h : EX K W te en (.ok (.tup ds))) (hl : ds.length = n) (hi : ds.length = is.length) : ST K W (tAsg te (gTup K n (gNames is))) en (.nx (setAll en is ds)) := fun B0 H0 B H σ S D k =>
  h _ _ B H σ S _ fun v B' H' g r => by
    cases r with
    | tup h t => exact ⟨_, _, rfl, ex_t g.s h, by rw [t.length, hl], gn_set (S.grow g) t hi fun σ' S' => k B' H' σ' S'⟩
theorem st_unL {is : List Nat} {n : Nat} (h : EX K W te en (.ok (.lst ds))) (hl : ds.length = n) (hi : ds.length = is.length) : ST K W (tAsg te (gLst K n (gNames is))) en (.nx (setAll en is ds)) := fun B0 H0 B H σ S D k =>
  h _ _ B H σ S _ fun v B' H' g r => by
    cases r with
    | lst h t => exact ⟨_, _, rfl, ex_l g.s h, by rw [t.length, hl], gn_set (S.grow g) t hi fun σ' S' => k B' H' σ' S'⟩
/-! loops -/
theorem fi_turn {Pv : L2.St → Hp → Prop} {D : Ends} (hnx : Fi K W B0 H0 D o → True) : True := trivial
/-- over a list: m turns that go on, then the end or a turn that leaves -/
theorem st_forL {j : Nat} (F : Nat → List Sl) (h : EX K W tl en (.ok (.lst ds))) (h0 : F 0 = en) (ht : ∀ i d, ds[i]? = some d → ST K W tbd ((F i).set j (.da d)) (.nx (F (i + 1)))) : ST K W (tFor (iList K tl) (gName j) tbd) en (.nx (F ds.length)) := fun B0 H0 B H σ S D k =>
  h _ _ B H σ S _ fun v B1 H1 g r => by
    cases r with
    | @lst a vs ds hq t =>
      have S1 := S.grow g
      refine ⟨a, rfl, ⟨vs, ex_l g.s hq⟩, for_list (fun i σ' H' => ∃ B', Sd K B1 H0 B' H' σ' (F i)) ⟨B1, by rw [h0]; exact S1.rebase⟩ (fun i σ' H' _ ⟨B', S'⟩ => ex_l (S'.gr.b.trans S'.gr.s) hq) (fun i x σ' H' hx ⟨B', S'⟩ => ?_) (fun σ' H' ⟨B', S'⟩ => ?_)⟩
      · obtain ⟨d, hd⟩ : ∃ d, ds[i]? = some d := by
          have := (List.getElem?_eq_some_iff.mp hx).1
          rw [t.length] at this
          exact ⟨ds[i], List.getElem?_eq_getElem this⟩
        obtain ⟨x', hx', rx⟩ := t.get hd
        rw [hx] at hx'
        cases hx'
        exact ht i d hd B1 H0 B' H' _ (S'.set (rx.mono S'.gr.b) j) _ fun B2 H2 σ2 S2 => ⟨B2, S2⟩
      · rw [t.length] at S'
        exact k B' H' σ' (S'.base S1.gr)
/-- .. a turn m leaves by o -/
theorem st_forLX {j m : Nat} (F : Nat → List Sl) (h : EX K W tl en (.ok (.lst ds))) (h0 : F 0 = en) (ht : ∀ i d, i < m → ds[i]? = some d → ST K W tbd ((F i).set j (.da d)) (.nx (F (i + 1)))) (hm : ds[m]? = some d) (hx : ST K W tbd ((F m).set j (.da d)) o) (ho : ∃ d', o = .rt d' ∨ ∃ e C f, o = .rx e C f) :
    ST K W (tFor (iList K tl) (gName j) tbd) en o := fun B0 H0 B H σ S D k =>
  h _ _ B H σ S _ fun v B1 H1 g r => by
    cases r with
    | @lst a vs ds hq t =>
      have S1 := S.grow g
      refine ⟨a, rfl, ⟨vs, ex_l g.s hq⟩, for_list (fun i σ' H' => i ≤ m ∧ ∃ B', Sd K B1 H0 B' H' σ' (F i)) ⟨Nat.zero_le _, B1, by rw [h0]; exact S1.rebase⟩ (fun i σ' H' _ ⟨_, B', S'⟩ => ex_l (S'.gr.b.trans S'.gr.s) hq) (fun i x σ' H' hx' ⟨hi, B', S'⟩ => ?_) (fun σ' H' ⟨hi, B', S'⟩ => ?_)⟩
      · obtain ⟨d2, hd⟩ : ∃ d, ds[i]? = some d := by
          have := (List.getElem?_eq_some_iff.mp hx').1
          rw [t.length] at this
          exact ⟨ds[i], List.getElem?_eq_getElem this⟩
        obtain ⟨x', hx2, rx⟩ := t.get hd
        rw [hx'] at hx2
        cases hx2
        rcases Nat.lt_or_ge i m with hlt | hge
        · exact ht i d2 hlt hd B1 H0 B' H' _ (S'.set (rx.mono S'.gr.b) j) _ fun B2 H2 σ2 S2 => ⟨hlt, B2, S2⟩
        · have e : i = m := by omega
          subst e
          rw [hm] at hd
          cases hd
          refine hx B1 H0 B' H' _ (S'.set (rx.mono S'.gr.b) j) _ ?_
          obtain ⟨d', rfl | ⟨e, C, f, rfl⟩⟩ := ho
          · exact fun v B2 H2 g2 r2 => k v B2 H2 (S1.gr.base g2) r2
          · exact fun B2 H2 σ2 dd S2 x2 => k B2 H2 σ2 dd (S2.base S1.gr) x2
      · have := (List.getElem?_eq_some_iff.mp hm).1
        rw [t.length] at hi
        omega
/-- over range(n) -/
theorem st_forR {j n : Nat} {tx : TA} (F : Nat → List Sl) (h : EA K tx en [.int (n : Int)]) (hn : n ≤ 100000) (h0 : F 0 = en) (ht : ∀ i : Nat, i < n → ST K W tbd ((F i).set j (.da (.int (i : Int)))) (.nx (F (i + 1)))) : ST K W (tFor (iRng1 tx) (gName j) tbd) en (.nx (F n)) := fun B0 H0 B H σ S D k =>
  h _ _ B H σ S _ fun vs B1 H1 g r => by
    cases r with
    | cons r r2 =>
      cases r2
      cases r
      have S1 := S.grow g
      refine ⟨n, rfl, by omega, by omega, for_range (lo := 0) (n := (n : Int).toNat) (fun i σ' H' => ∃ B', Sd K B1 H0 B' H' σ' (F i)) ⟨B1, by rw [h0]; exact S1.rebase⟩ (fun i σ' H' hi ⟨B', S'⟩ => ?_) (fun σ' H' ⟨B', S'⟩ => ?_)⟩
      · have e0 : (0 : Int) + (i : Int) = (i : Int) := Int.zero_add _
        rw [e0]
        exact ht i (by omega) B1 H0 B' H' _ (S'.set (.int _) j) _ fun B2 H2 σ2 S2 => ⟨B2, S2⟩
      · rw [Int.toNat_natCast] at S'
        exact k B' H' σ' (S'.base S1.gr)
/-- a while of m turns -/
theorem st_while {m : Nat} {tt : TT} (F : Nat → List Sl) (h0 : F 0 = en) (hc : ∀ i, i < m → ET K tt (F i) true) (ht : ∀ i, i < m → ST K W tbd (F i) (.nx (F (i + 1)))) (he : ET K tt (F m) false) : ST K W (tWhile tt tbd) en (.nx (F m)) := fun B0 H0 B H σ S D k => by
  refine ⟨fun q σ' H' => ∃ i, q = m - i ∧ i ≤ m ∧ ∃ B', Sd K B0 H0 B' H' σ' (F i), ⟨m, 0, rfl, Nat.zero_le _, B, by rw [h0]; exact S⟩, fun q σ' H' ⟨i, e, hi, B', S'⟩ => ?_⟩
  rcases Nat.lt_or_ge i m with hlt | hge
  · refine hc i hlt _ _ B' H' σ' S' _ fun B2 H2 g => ?_
    refine ⟨fun σ2 H2 => ∃ B2, Sd K B0 H0 B2 H2 σ2 (F (i + 1)), fun σ2 H2 ⟨B2, S2⟩ => ⟨m - (i + 1), by omega, i + 1, rfl, hlt, B2, S2⟩, ?_⟩
    exact ht i hlt B0 H0 B2 H2 σ' (S'.grow g) _ fun B3 H3 σ3 S3 => ⟨B3, S3⟩
  · have e : i = m := by omega
    subst e
    exact he _ _ B' H' σ' S' _ fun B2 H2 g => k B2 H2 σ' (S'.grow g)
end
end Sky
namespace Sky
open PySem L2 Evl PySem.Spec PyProof.Rows
structure Bd (X : Cx) (W : WX) (k : Nat) : Prop where
  calm : X.calm = true
  tk : Takes X W
  own : PassesOwn (model X.prog X.w) X.A X.env X.xe
  rm : Room k X.A
  nd : X.N.Nodup
structure EV (X : Cx) (W : WX) (en : List Sl) (e : Expr) (o : XO) : Prop where
  ex : ∃ t, PE X e t ∧ EX X.K W t en o
structure EVA (X : Cx) (W : WX) (en : List Sl) (es : List Expr) (ds : List Da) : Prop where
  ex : ∃ t, PA X es t ∧ EA X.K t en ds
structure EVL (X : Cx) (W : WX) (en : List Sl) (e : Expr) (ds : List Da) : Prop where
  ex : ∃ t, PE X e t ∧ EL X.K t en ds
structure SV (X : Cx) (W : WX) (en : List Sl) (s : Stmt) (o : Out) : Prop where
  ex : ∃ t, PS X s t ∧ ST X.K W t en o
structure SVs (X : Cx) (W : WX) (en : List Sl) (ss : List Stmt) (o : Out) : Prop where
  ex : ∃ t, PSs X ss t ∧ ST X.K W t en o
structure EVT (X : Cx) (W : WX) (en : List Sl) (c : Expr) (b : Bool) : Prop where
  ex : ∃ t, PT X c t ∧ ET X.K t en b
structure EVW (X : Cx) (W : WX) (en : List Sl) (c : Expr) (b : Bool) : Prop where
  ex : ∃ t, PW X c t ∧ ET X.K t en b
theorem pw_none {X : Cx} {e : Expr} : PW X e (fun _ _ _ => False) := ⟨fun _ _ _ _ _ _ _ h => h.elim⟩
theorem pe_none {X : Cx} {e : Expr} : PE X e (fun _ _ _ => False) := ⟨fun _ _ _ _ _ _ h => h.elim⟩
section
variable {X : Cx} {W : WX} {k : Nat} {en en' e1 e2 : List Sl} {e a b c : Expr} {es rest : List Expr} {pos p pos' p2 : Pos} {d d1 d2 : Da} {o : XO} {ou : Out} {ds ds1 ds2 : List Da} {i j : Int} {x : Str} {u v : Bool} {ss s1 s2 : List Stmt} {st : Stmt} {C : Addr} {f : Option (Str × Da)}
/-! ### expressions -/
theorem ev_int {q} : EV X W en (.Constant (.int i) q pos) (.ok (.int i)) := ⟨_, pe_int, ex_c fun _ _ => .int i⟩
theorem ev_bl {q} : EV X W en (.Constant (.bool u) q pos) (.ok (.bl u)) := ⟨_, pe_bl, ex_c fun _ _ => .bl u⟩
theorem ev_non {q} : EV X W en (.Constant .none q pos) (.ok .non) := ⟨_, pe_non, ex_c fun _ _ => .non⟩
theorem ev_str {q} : EV X W en (.Constant (.str x) q pos) (.ok (.str x)) := ⟨_, pe_str, ex_c fun _ _ => .str x⟩
theorem ev_name {n : Nat} (hN : X.N.idxOf? x = some n) (hv : Vis X.env.scope x) (h : en[n]? = some (.da d)) (hN2 : X.N[n]? = some x) (hd : (x == ("__debug__" : Str)) = false) (hc : (x == ("__classdict__" : Str)) = false) : EV X W en (.Name x pos) (.ok d) := ⟨_, pe_var hN2 hv hd hc, ex_var h⟩
theorem ev_ty {n : String} (hg : Gl X x) (hm : X.mg x = none) (hv : bootBuiltins x = some (.type n)) (hn : x ≠ "__name__") (hd : (x == ("__debug__" : Str)) = false) : EV X W en (.Name x pos) (.ok (.ty n)) := ⟨_, pe_bltn (v := .ty n) hg hm hv rfl hn hd, ex_c fun _ _ => .ty n⟩
/-- a name of the module that holds data of the written part -/
theorem ev_glob {v : V} {w : Value} (hg : Gl X x) (hm : X.mg x = some w) (r : RelV v w) (hd : (x == ("__debug__" : Str)) = false) (h : ∀ B, Dr X.K B v d) : EV X W en (.Name x pos) (.ok d) := ⟨_, pe_glob hg hm r hd, ex_cK h⟩
theorem eva_nil : EVA X W en [] [] := ⟨_, pa_nil, ea_nil⟩
theorem eva_cons (h : EV X W en e (.ok d)) (t : EVA X W en es ds) (hs : starEach (e :: es) X.env = (false, eval e X.env) :: starEach es X.env) : EVA X W en (e :: es) (d :: ds) := by
  obtain ⟨te, h1, h2⟩ := h
  obtain ⟨tr, h3, h4⟩ := t
  exact ⟨_, pa_cons h1 h3 hs, ea_cons h2 h4⟩
theorem ev_op {op : Operator} {r : R2} (ho : OpR X (binaryOp op) r) (ha : EV X W en a (.ok d1)) (hb : EV X W en b (.ok d2)) (hr : RV X.K r d1 d2 d) : EV X W en (.BinOp a op b pos) (.ok d) := by
  obtain ⟨te, h1, h2⟩ := ha
  obtain ⟨tr, h3, h4⟩ := hb
  exact ⟨_, pe_op ho h1 h3, ex_op h2 h4 hr⟩
theorem ev_add (ha : EV X W en a (.ok (.int i))) (hb : EV X W en b (.ok (.int j))) : EV X W en (.BinOp a .Add b pos) (.ok (.int (i + j))) := ev_op op_add ha hb (rv_I0 fun _ _ => .int _)
theorem ev_sub (ha : EV X W en a (.ok (.int i))) (hb : EV X W en b (.ok (.int j))) : EV X W en (.BinOp a .Sub b pos) (.ok (.int (i - j))) := ev_op op_sub ha hb (rv_I0 fun _ _ => .int _)
theorem ev_mul (ha : EV X W en a (.ok (.int i))) (hb : EV X W en b (.ok (.int j))) (hc : CMulW i j) : EV X W en (.BinOp a .Mult b pos) (.ok (.int (i * j))) := ev_op op_mulW ha hb (rv_I hc fun _ _ => .int _)
theorem ev_fdiv (ha : EV X W en a (.ok (.int i))) (hb : EV X W en b (.ok (.int j))) (hc : CDivW i j) : EV X W en (.BinOp a .FloorDiv b pos) (.ok (.int (i / j))) := ev_op op_fdivW ha hb (rv_I hc fun _ _ => .int _)
def CDivZ (_ j : Int) : Prop := j ≠ 0 ∧ j.natAbs.log2 < 9000
theorem op_fdivZ : OpR X (binaryOp .FloorDiv) (rI CDivZ fun i j => .int (i.fdiv j)) := opI fun i j _ _ _ _ _ hc q => PyProof.Rows.floordiv_int hc.1 q (.inl (PyProof.noPylong_of_log2 hc.2))
theorem ev_fdivZ (ha : EV X W en a (.ok (.int i))) (hb : EV X W en b (.ok (.int j))) (hc : CDivZ i j) : EV X W en (.BinOp a .FloorDiv b pos) (.ok (.int (i.fdiv j))) := ev_op op_fdivZ ha hb (rv_I hc fun _ _ => .int _)
theorem ev_mod (ha : EV X W en a (.ok (.int i))) (hb : EV X W en b (.ok (.int j))) (hc : 0 < j) : EV X W en (.BinOp a .Mod b pos) (.ok (.int (i % j))) := ev_op op_mod ha hb (rv_I hc fun _ _ => .int _)
theorem ev_pow (ha : EV X W en a (.ok (.int i))) (hb : EV X W en b (.ok (.int j))) (hc : CPow i j) : EV X W en (.BinOp a .Pow b pos) (.ok (.int (i ^ j.toNat))) := ev_op op_pow ha hb (rv_I hc fun _ _ => .int _)
theorem ev_neg (ha : EV X W en a (.ok (.int i))) : EV X W en (.UnaryOp .USub a pos) (.ok (.int (-i))) := by
  obtain ⟨te, h1, h2⟩ := ha
  exact ⟨_, pe_un un_neg h1, ex_un h2 fun B H x e r Q k => by cases r; exact ⟨i, rfl, k _ B H (Gr.refl e) (.int _)⟩⟩
theorem ev_cmp {op : CmpOp} {r : R2} (ho : OpR X (compareOp op) r) (ha : EV X W en a (.ok d1)) (hb : EV X W en b (.ok d2)) (hr : RV X.K r d1 d2 d) (hm : behindInMarks op b = false) : EV X W en (.Compare a [op] [b] pos) (.ok d) := by
  obtain ⟨te, h1, h2⟩ := ha
  obtain ⟨tr, h3, h4⟩ := hb
  exact ⟨_, pe_cmpR ho h1 h3 hm, ex_op h2 h4 hr⟩
theorem ev_lt (ha : EV X W en a (.ok (.int i))) (hb : EV X W en b (.ok (.int j))) : EV X W en (.Compare a [.Lt] [b] pos) (.ok (.bl (decide (i < j)))) := ev_cmp op_lt ha hb (rv_I0 fun _ _ => .bl _) (nomark _)
theorem ev_le (ha : EV X W en a (.ok (.int i))) (hb : EV X W en b (.ok (.int j))) : EV X W en (.Compare a [.LtE] [b] pos) (.ok (.bl (decide (i ≤ j)))) := ev_cmp op_le ha hb (rv_I0 fun _ _ => .bl _) (nomark _)
theorem ev_gt (ha : EV X W en a (.ok (.int i))) (hb : EV X W en b (.ok (.int j))) : EV X W en (.Compare a [.Gt] [b] pos) (.ok (.bl (decide (j < i)))) := ev_cmp op_gt ha hb (rv_I0 fun _ _ => .bl _) (nomark _)
theorem ev_ge (ha : EV X W en a (.ok (.int i))) (hb : EV X W en b (.ok (.int j))) : EV X W en (.Compare a [.GtE] [b] pos) (.ok (.bl (decide (j ≤ i)))) := ev_cmp op_ge ha hb (rv_I0 fun _ _ => .bl _) (nomark _)
theorem ev_eq (Bx : Bd X W k) (ha : EV X W en a (.ok d1)) (hb : EV X W en b (.ok d2)) (h1 : Cmp d1) (h2 : Cmp d2) : EV X W en (.Compare a [.Eq] [b] pos) (.ok (.bl (deq d1 d2))) := ev_cmp (op_eqD Bx.rm.units) ha hb (rv_eq h1 h2) (nomark _)
theorem ev_ne (Bx : Bd X W k) (ha : EV X W en a (.ok d1)) (hb : EV X W en b (.ok d2)) (h1 : Cmp d1) (h2 : Cmp d2) : EV X W en (.Compare a [.NotEq] [b] pos) (.ok (.bl (!deq d1 d2))) := ev_cmp (op_neD Bx.rm.units) ha hb (rv_ne h1 h2) (nomark _)
theorem ev_isN (ha : EV X W en a (.ok d1)) (hb : EV X W en b (.ok .non)) : EV X W en (.Compare a [.Is] [b] pos) (.ok (.bl (isNon d1))) := ev_cmp op_isN ha hb rv_isN (nomark _)
theorem ev_notN (ha : EV X W en a (.ok d1)) (hb : EV X W en b (.ok .non)) : EV X W en (.Compare a [.IsNot] [b] pos) (.ok (.bl (!isNon d1))) := ev_cmp op_notN ha hb rv_notN (nomark _)
/-- a truth by its value -/
theorem EV.is (h : EV X W en e (.ok (.bl u))) (q : u = v) : EV X W en e (.ok (.bl v)) := q ▸ h
theorem EV.to (h : EV X W en e (.ok d1)) (q : d1 = d2) : EV X W en e (.ok d2) := q ▸ h
theorem ev_one {op} (h : EV X W en a o) : EV X W en (.BoolOp op [a] pos) o := by
  obtain ⟨t, h1, h2⟩ := h
  exact ⟨t, pe_one h1, h2⟩
theorem ev_andT (ha : EV X W en a (.ok (.bl true))) (hb : EV X W en (.BoolOp .And (b :: rest) pos) (.ok d)) : EV X W en (.BoolOp .And (a :: b :: rest) pos) (.ok d) := by
  obtain ⟨te, h1, h2⟩ := ha
  obtain ⟨tr, h3, h4⟩ := hb
  exact ⟨_, pe_and h1 h3, ex_andT h2 h4⟩
theorem ev_andF (ha : EV X W en a (.ok (.bl false))) : EV X W en (.BoolOp .And (a :: b :: rest) pos) (.ok (.bl false)) := by
  obtain ⟨te, h1, h2⟩ := ha
  exact ⟨_, pe_and h1 pe_none, ex_andF h2⟩
theorem ev_and (ha : EV X W en a (.ok (.bl u))) (hb : u = true → EV X W en (.BoolOp .And (b :: rest) pos) (.ok (.bl v))) : EV X W en (.BoolOp .And (a :: b :: rest) pos) (.ok (.bl (u && v))) := by
  cases u with
  | true => exact ev_andT ha (hb rfl)
  | false => exact ev_andF ha
theorem ev_orF (ha : EV X W en a (.ok (.bl false))) (hb : EV X W en (.BoolOp .Or (b :: rest) pos) (.ok d)) : EV X W en (.BoolOp .Or (a :: b :: rest) pos) (.ok d) := by
  obtain ⟨te, h1, h2⟩ := ha
  obtain ⟨tr, h3, h4⟩ := hb
  exact ⟨_, pe_or h1 h3, ex_orF h2 h4⟩
theorem ev_orT (ha : EV X W en a (.ok (.bl true))) : EV X W en (.BoolOp .Or (a :: b :: rest) pos) (.ok (.bl true)) := by
  obtain ⟨te, h1, h2⟩ := ha
  exact ⟨_, pe_or h1 pe_none, ex_orT h2⟩
theorem ev_or (ha : EV X W en a (.ok (.bl u))) (hb : u = false → EV X W en (.BoolOp .Or (b :: rest) pos) (.ok (.bl v))) : EV X W en (.BoolOp .Or (a :: b :: rest) pos) (.ok (.bl (u || v))) := by
  cases u with
  | true => exact ev_orT ha
  | false => exact ev_orF ha (hb rfl)
theorem ev_not (ha : EV X W en a (.ok (.bl u))) : EV X W en (.UnaryOp .Not a pos) (.ok (.bl (!u))) := by
  obtain ⟨te, h1, h2⟩ := ha
  exact ⟨_, pe_not h1, ex_not h2⟩
theorem ev_tup {q} (h : EVA X W en es ds) (hl : ds.length ≤ 100000) : EV X W en (.Tuple es q pos) (.ok (.tup ds)) := by
  obtain ⟨t, h1, h2⟩ := h
  exact ⟨_, pe_tup h1, ex_tup h2 hl⟩
theorem evl_lst (h : EVA X W en es ds) (hl : ds.length ≤ 100000) : EVL X W en (.List es pos) ds := by
  obtain ⟨t, h1, h2⟩ := h
  exact ⟨_, pe_lst h1, el_lst h2 hl⟩
theorem EVL.ev (h : EVL X W en e ds) : EV X W en e (.ok (.lst ds)) := by
  obtain ⟨t, h1, h2⟩ := h
  exact ⟨t, h1, h2.ex⟩
theorem ev_lst (h : EVA X W en es ds) (hl : ds.length ≤ 100000) : EV X W en (.List es pos) (.ok (.lst ds)) := (evl_lst h hl).ev
theorem ev_ixT (ha : EV X W en a (.ok (.tup ds))) (hb : EV X W en b (.ok (.int i))) (hp : PlainIx b) (h : atI ds i = some d) : EV X W en (.Subscript a b pos) (.ok d) := by
  obtain ⟨te, h1, h2⟩ := ha
  obtain ⟨tr, h3, h4⟩ := hb
  exact ⟨_, pe_ix ix_tup h1 h3 hp, ex_op h2 h4 (rv_ixT h)⟩
theorem ev_ixL (ha : EV X W en a (.ok (.lst ds))) (hb : EV X W en b (.ok (.int i))) (hp : PlainIx b) (h : atI ds i = some d) : EV X W en (.Subscript a b pos) (.ok d) := by
  obtain ⟨te, h1, h2⟩ := ha
  obtain ⟨tr, h3, h4⟩ := hb
  exact ⟨_, pe_ix ix_list h1 h3 hp, ex_op h2 h4 (rv_ixL h)⟩
theorem ev_ixO {n : Nat} (hN : X.N.idxOf? x = some n) (hv : Vis X.env.scope x) (ho : en[n]? = some (.own ds)) (hN2 : X.N[n]? = some x) (hd : (x == ("__debug__" : Str)) = false) (hc : (x == ("__classdict__" : Str)) = false) (hb : EV X W en b (.ok (.int i))) (hp : PlainIx b) (h : atI ds i = some d) : EV X W en (.Subscript (.Name x p) b pos) (.ok d) := by
  obtain ⟨tr, h3, h4⟩ := hb
  exact ⟨_, pe_ix ix_list (pe_var hN2 hv hd hc) h3 hp, ex_ixO ho h4 h⟩
/-! slices of data lists -/
def cutD (xs : List Da) (lo hi : Option Int) : List Da := (xs.drop (HT.sIx xs.length 0 lo)).take (HT.sIx xs.length xs.length hi - HT.sIx xs.length 0 lo)
def EO (K : PySem.W.Frag) (to : TO) (en : List Sl) (q : Option Int) : Prop := ∀ B0 H0 B H σ, Sd K B0 H0 B H σ en → ∀ Q : Option Int → Hp → Prop, (∀ B' H', Gr B H B' H' → Q q H') → to σ H Q
structure EVO (X : Cx) (W : WX) (en : List Sl) (e : Option Expr) (q : Option Int) : Prop where
  ex : ∃ t, PO X e t ∧ EO X.K t en q
theorem evo_none : EVO X W en none none := ⟨_, po_none, fun _ _ B H σ S Q k => k B H (Gr.refl S.eb)⟩
theorem evo_some (h : EV X W en e (.ok (.int i))) : EVO X W en (some e) (some i) := by
  obtain ⟨t, h1, h2⟩ := h
  exact ⟨_, po_some h1, fun _ _ B H σ S Q k => h2 _ _ B H σ S _ fun v B' H' g r => by cases r; exact ⟨i, rfl, k B' H' g⟩⟩
theorem evl_sl {lo hi : Option Expr} {q1 q2 : Option Int} (ha : EV X W en a (.ok (.lst ds))) (h1 : EVO X W en lo q1) (h2 : EVO X W en hi q2) : EVL X W en (.Subscript a (.Slice lo hi none p2) pos) (cutD ds q1 q2) := by
  obtain ⟨te, a1, a2⟩ := ha
  obtain ⟨tl, b1, b2⟩ := h1
  obtain ⟨th, c1, c2⟩ := h2
  refine ⟨_, pe_slice sl_list a1 b1 c1, fun B0 H0 B H σ S Q k => a2 _ _ B H σ S _ fun v B1 H1 g1 r1 => ?_⟩
  refine b2 _ _ B1 H1 σ (S.grow g1) _ fun B2 H2 g2 => c2 _ _ B2 H2 σ (S.grow (g1.trans g2)) _ fun B3 H3 g3 => ?_
  cases r1 with
  | @lst a vs _ h t =>
    have g := g1.trans (g2.trans g3)
    refine ⟨a, vs, rfl, ex_l g3.s (ex_l (g2.b.trans g3.b) h), fun p hp => k p _ B3 _ (g.trans (Gr.newO g3.s hp)) (g.back hp) (fresh_back g3.s hp) upd_same ?_⟩
    have l := t.length
    unfold cutV cutD
    rw [l]
    exact ((t.drop _).take _).mono (g2.b.trans g3.b)
theorem ev_sl {lo hi : Option Expr} {q1 q2 : Option Int} (ha : EV X W en a (.ok (.lst ds))) (h1 : EVO X W en lo q1) (h2 : EVO X W en hi q2) : EV X W en (.Subscript a (.Slice lo hi none p2) pos) (.ok (.lst (cutD ds q1 q2))) := (evl_sl ha h1 h2).ev
/-! built-ins -/
theorem ev_cb {id : String} {r : List V → Hp → VK → Prop} (hc : CallR X (.builtin id) r) (ha : EVA X W en (e :: es) ds) (hr : RC X.K r ds d) (hg : Gl X x) (hm : X.mg x = none) (hv : bootBuiltins x = some (.builtin id)) (hn : x ≠ "__name__") (hd : (x == ("__debug__" : Str)) = false)
    (he : starEach (e :: es) X.env = (false, eval e X.env) :: starEach es X.env) (hpl : (backTo pos (starEach es X.env)).any (·.1) = false) : EV X W en (.Call (.Name x p) (e :: es) [] pos) (.ok d) := by
  obtain ⟨t, h1, h2⟩ := ha
  exact ⟨_, pe_callB hc hg hm hv h1 hn hd he hpl, ex_cb h2 hr⟩
theorem ev_ct {T : String} {r : List V → Hp → VK → Prop} (hc : CallR X (.type T) r) (ha : EVA X W en (e :: es) ds) (hr : RC X.K r ds d) (hg : Gl X x) (hm : X.mg x = none) (hv : bootBuiltins x = some (.type T)) (hn : x ≠ "__name__") (hd : (x == ("__debug__" : Str)) = false)
    (he : starEach (e :: es) X.env = (false, eval e X.env) :: starEach es X.env) (hpl : (backTo pos (starEach es X.env)).any (·.1) = false) : EV X W en (.Call (.Name x p) (e :: es) [] pos) (.ok d) := by
  obtain ⟨t, h1, h2⟩ := ha
  exact ⟨_, pe_callTy hc hg hm hv h1 hn hd he hpl, ex_cb h2 hr⟩
theorem ev_cf {id : String} {r : List V → Hp → VK → Prop} (hc : CallR X (.builtin id) r) (ha : EVA X W en (e :: es) ds) (hr : RC X.K r ds d) (hg : Gl X x) (hm : X.mg x = some (.builtin id)) (hd : (x == ("__debug__" : Str)) = false)
    (he : starEach (e :: es) X.env = (false, eval e X.env) :: starEach es X.env) (hpl : (backTo pos (starEach es X.env)).any (·.1) = false) : EV X W en (.Call (.Name x p) (e :: es) [] pos) (.ok d) := by
  obtain ⟨t, h1, h2⟩ := ha
  exact ⟨_, pe_callBfun hc hg hm h1 hd he hpl, ex_cb h2 hr⟩
theorem rc_gcd {K : PySem.W.Frag} : RC K rGcd [.int i, .int j] (.int ((Nat.gcd i.natAbs j.natAbs : Nat) : Int)) := fun B H vs e hA Q k => by
  cases hA with
  | cons h1 t =>
    cases t with
    | cons h2 t =>
      cases t; cases h1; cases h2
      exact ⟨i, j, rfl, k _ B H (Gr.refl e) (.int _)⟩
theorem rc_abs {K : PySem.W.Frag} : RC K (fun xs H Q => ∃ i, xs = [.int i] ∧ Q (.int (if i < 0 then -i else i)) H) [.int i] (.int ((i.natAbs : Nat) : Int)) := fun B H vs e hA Q k => by
  cases hA with
  | cons h1 t =>
    cases t; cases h1
    have q : (if i < 0 then -i else i) = ((i.natAbs : Nat) : Int) := by split <;> omega
    exact ⟨i, rfl, by rw [q]; exact k _ B H (Gr.refl e) (.int _)⟩
theorem rc_intB {K : PySem.W.Frag} : RC K (fun xs H Q => (∃ i, xs = [.int i] ∧ Q (.int i) H) ∨ ∃ k, xs = [.bl k] ∧ Q (.int (if k then 1 else 0)) H) [.bl u] (.int (if u then 1 else 0)) := fun B H vs e hA Q k => by
  cases hA with
  | cons h1 t => cases t; cases h1; exact .inr ⟨u, rfl, k _ B H (Gr.refl e) (.int _)⟩
theorem rc_intI {K : PySem.W.Frag} : RC K (fun xs H Q => (∃ i, xs = [.int i] ∧ Q (.int i) H) ∨ ∃ k, xs = [.bl k] ∧ Q (.int (if k then 1 else 0)) H) [.int i] (.int i) := fun B H vs e hA Q k => by
  cases hA with
  | cons h1 t => cases t; cases h1; exact .inl ⟨i, rfl, k _ B H (Gr.refl e) (.int _)⟩
def lenD : Da → Option Nat
  | .lst xs => some xs.length | .tup xs => some xs.length | .str x => if x.length ≤ 100000 then some x.length else none | _ => none
theorem rc_len {K : PySem.W.Frag} {n : Nat} (h : lenD d = some n) : RC K (fun xs H Q => ∃ x n, xs = [x] ∧ LenV K x H n ∧ Q (.int n) H) [d] (.int (n : Int)) := fun B H vs e hA Q k => by
  cases hA with
  | cons h1 t =>
    cases t
    cases h1 with
    | lst hq t =>
      cases h
      exact ⟨_, _, rfl, .inl ⟨_, ex_l e hq, t.length.symm⟩, k _ B H (Gr.refl e) (.int _)⟩
    | tup hq t =>
      cases h
      exact ⟨_, _, rfl, .inr ⟨_, ex_t e hq, t.length.symm⟩, k _ B H (Gr.refl e) (.int _)⟩
    | str x =>
      have h : (if x.length ≤ 100000 then some x.length else none) = some n := h
      by_cases q : x.length ≤ 100000
      · rw [if_pos q] at h
        cases h
        exact ⟨_, _, rfl, ⟨sz_of q, rfl⟩, k _ B H (Gr.refl e) (.int _)⟩
      · rw [if_neg q] at h
        cases h
    | _ => cases h
/-! ### statements -/
theorem svs_nil : SVs X W en [] (.nx en) := ⟨_, pss_nil, st_next⟩
theorem svs_one (h : SV X W en st ou) : SVs X W en [st] ou := by
  obtain ⟨t, h1, h2⟩ := h
  exact ⟨t, pss_one h1, h2⟩
theorem svs_cons (h : SV X W en st (.nx e1)) (r : SVs X W e1 ss ou) : SVs X W en (st :: ss) ou := by
  obtain ⟨t, h1, h2⟩ := h
  obtain ⟨t', h3, h4⟩ := r
  exact ⟨_, pss_cons h1 h3, st_seq h2 h4⟩
theorem svs_stop (h : SV X W en st ou) (ho : ∀ e, ou ≠ .nx e) : SVs X W en (st :: ss) ou := by
  obtain ⟨t, h1, h2⟩ := h
  exact ⟨_, pss_cons h1 pss_never, st_stop h2 ho⟩
theorem svs_weak (h : SVs X W en ss (.nx e1)) (w : Wk e1 e2) : SVs X W en ss (.nx e2) := by
  obtain ⟨t, h1, h2⟩ := h
  exact ⟨t, h1, st_weak h2 w⟩
theorem svs_freeze {n : Nat} (he : en[n]? = some (.own ds)) (h : SVs X W (en.set n (.da (.lst ds))) ss ou) : SVs X W en ss ou := by
  obtain ⟨t, h1, h2⟩ := h
  exact ⟨t, h1, st_freeze he h2⟩
theorem sv_freeze {n : Nat} (he : en[n]? = some (.own ds)) (h : SV X W (en.set n (.da (.lst ds))) st ou) : SV X W en st ou := by
  obtain ⟨t, h1, h2⟩ := h
  exact ⟨t, h1, st_freeze he h2⟩
theorem SVs.env (h : SVs X W e1 ss ou) (q : e2 = e1) : SVs X W e2 ss ou := q ▸ h
theorem sv_set {n : Nat} (Bx : Bd X W k) (he : EV X W en e (.ok d)) (hN : X.N.idxOf? x = some n) (hN2 : X.N[n]? = some x) (hx : Loc X.env.scope x) (hf : X.fn x = true ∨ X.env.scope.names.lookup x = some .local) (hs : swapsWith e (some (.Name x pos')) pos.line X.env = pure false) (hq : en.set n (.da d) = e1) :
    SV X W en (.Assign [.Name x pos'] e pos) (.nx e1) := by
  subst hq
  obtain ⟨t, h1, h2⟩ := he
  exact ⟨_, ps_set Bx.nd hN2 hx h1 hs hf, st_asg h2⟩
theorem sv_setL {n : Nat} (Bx : Bd X W k) (he : EVL X W en e ds) (hN : X.N.idxOf? x = some n) (hN2 : X.N[n]? = some x) (hx : Loc X.env.scope x) (hf : X.fn x = true ∨ X.env.scope.names.lookup x = some .local) (hs : swapsWith e (some (.Name x pos')) pos.line X.env = pure false) (hq : en.set n (.own ds) = e1) :
    SV X W en (.Assign [.Name x pos'] e pos) (.nx e1) := by
  subst hq
  obtain ⟨t, h1, h2⟩ := he
  exact ⟨_, ps_set Bx.nd hN2 hx h1 hs hf, st_asgL h2⟩
theorem sv_setX {n : Nat} (Bx : Bd X W k) (he : EV X W en e (.err C f)) (hN : X.N.idxOf? x = some n) (hN2 : X.N[n]? = some x) (hx : Loc X.env.scope x) (hf : X.fn x = true ∨ X.env.scope.names.lookup x = some .local) (hs : swapsWith e (some (.Name x pos')) pos.line X.env = pure false) :
    SV X W en (.Assign [.Name x pos'] e pos) (.rx en C f) := by
  obtain ⟨t, h1, h2⟩ := he
  exact ⟨_, ps_set Bx.nd hN2 hx h1 hs hf, st_asgX h2⟩
theorem sv_ret (he : EV X W en e (.ok d)) : SV X W en (.Return (some e) pos) (.rt d) := by
  obtain ⟨t, h1, h2⟩ := he
  exact ⟨_, ps_ret h1, st_ret h2⟩
theorem sv_retX (he : EV X W en e (.err C f)) : SV X W en (.Return (some e) pos) (.rx en C f) := by
  obtain ⟨t, h1, h2⟩ := he
  exact ⟨_, ps_ret h1, st_retX h2⟩
theorem sv_expr (he : EV X W en e (.ok d)) (hs : swapsWith e none pos.line X.env = pure false) : SV X W en (.Expr e pos) (.nx en) := by
  obtain ⟨t, h1, h2⟩ := he
  exact ⟨_, ps_expr h1 hs, st_drop h2⟩
theorem sv_exprX (he : EV X W en e (.err C f)) (hs : swapsWith e none pos.line X.env = pure false) : SV X W en (.Expr e pos) (.rx en C f) := by
  obtain ⟨t, h1, h2⟩ := he
  exact ⟨_, ps_expr h1 hs, st_dropX h2⟩
/-! tests -/
theorem evt_val (h : EV X W en c (.ok (.bl u))) (he : ∀ whole, isTrue c X.env whole = (do let v ← whole; standAt c.pos; holding [v] (truthy v))) : EVT X W en c u := by
  obtain ⟨t, h1, h2⟩ := h
  exact ⟨_, pt_val h1 he, et_val h2⟩
theorem evt_cmp {op : CmpOp} {r : R2} (ho : OpR X (compareOp op) r) (ha : EV X W en a (.ok d1)) (hb : EV X W en b (.ok d2)) (hr : RV X.K r d1 d2 (.bl u)) (hm : behindInMarks op b = false) : EVT X W en (.Compare a [op] [b] pos) u := by
  obtain ⟨te, h1, h2⟩ := ha
  obtain ⟨tr, h3, h4⟩ := hb
  exact ⟨_, pt_cmpR ho h1 h3 hm, et_val (W := W) (ex_op h2 h4 hr)⟩
theorem evt_lt (ha : EV X W en a (.ok (.int i))) (hb : EV X W en b (.ok (.int j))) : EVT X W en (.Compare a [.Lt] [b] pos) (decide (i < j)) := evt_cmp op_lt ha hb (rv_I0 fun _ _ => .bl _) (nomark _)
theorem evt_le (ha : EV X W en a (.ok (.int i))) (hb : EV X W en b (.ok (.int j))) : EVT X W en (.Compare a [.LtE] [b] pos) (decide (i ≤ j)) := evt_cmp op_le ha hb (rv_I0 fun _ _ => .bl _) (nomark _)
theorem evt_gt (ha : EV X W en a (.ok (.int i))) (hb : EV X W en b (.ok (.int j))) : EVT X W en (.Compare a [.Gt] [b] pos) (decide (j < i)) := evt_cmp op_gt ha hb (rv_I0 fun _ _ => .bl _) (nomark _)
theorem evt_ge (ha : EV X W en a (.ok (.int i))) (hb : EV X W en b (.ok (.int j))) : EVT X W en (.Compare a [.GtE] [b] pos) (decide (j ≤ i)) := evt_cmp op_ge ha hb (rv_I0 fun _ _ => .bl _) (nomark _)
theorem evt_eq (Bx : Bd X W k) (ha : EV X W en a (.ok d1)) (hb : EV X W en b (.ok d2)) (h1 : Cmp d1) (h2 : Cmp d2) : EVT X W en (.Compare a [.Eq] [b] pos) (deq d1 d2) := evt_cmp (op_eqD Bx.rm.units) ha hb (rv_eq h1 h2) (nomark _)
theorem evt_ne (Bx : Bd X W k) (ha : EV X W en a (.ok d1)) (hb : EV X W en b (.ok d2)) (h1 : Cmp d1) (h2 : Cmp d2) : EVT X W en (.Compare a [.NotEq] [b] pos) (!deq d1 d2) := evt_cmp (op_neD Bx.rm.units) ha hb (rv_ne h1 h2) (nomark _)
theorem evt_isN (ha : EV X W en a (.ok d1)) (hb : EV X W en b (.ok .non)) : EVT X W en (.Compare a [.Is] [b] pos) (isNon d1) := evt_cmp op_isN ha hb rv_isN (nomark _)
theorem evt_notN (ha : EV X W en a (.ok d1)) (hb : EV X W en b (.ok .non)) : EVT X W en (.Compare a [.IsNot] [b] pos) (!isNon d1) := evt_cmp op_notN ha hb rv_notN (nomark _)
theorem evt_not (h : EVT X W en c u) : EVT X W en (.UnaryOp .Not c pos) (!u) := by
  obtain ⟨t, h1, h2⟩ := h
  exact ⟨_, pt_not h1, et_not h2⟩
theorem evt_w {op} (h : EVW X W en (.BoolOp op es pos) u) : EVT X W en (.BoolOp op es pos) u := by
  obtain ⟨t, h1, h2⟩ := h
  exact ⟨_, h1.pt, h2⟩
theorem EVT.is (h : EVT X W en c u) (q : u = v) : EVT X W en c v := q ▸ h
theorem EVW.is (h : EVW X W en c u) (q : u = v) : EVW X W en c v := q ▸ h
theorem evw_and1 (h : EVT X W en c u) : EVW X W en (.BoolOp .And [c] pos) u := by
  obtain ⟨t, h1, h2⟩ := h
  exact ⟨_, pw_and1 h1, h2⟩
theorem evw_or1 (h : EVT X W en c u) : EVW X W en (.BoolOp .Or [c] pos) u := by
  obtain ⟨t, h1, h2⟩ := h
  exact ⟨_, pw_or1 h1, h2⟩
theorem evw_andT (ha : EVT X W en a true) (hb : EVW X W en (.BoolOp .And (b :: rest) pos) u) : EVW X W en (.BoolOp .And (a :: b :: rest) pos) u := by
  obtain ⟨t, h1, h2⟩ := ha
  obtain ⟨t', h3, h4⟩ := hb
  exact ⟨_, pw_and h1 h3, et_andT h2 h4⟩
theorem evw_andF (ha : EVT X W en a false) : EVW X W en (.BoolOp .And (a :: b :: rest) pos) false := by
  obtain ⟨t, h1, h2⟩ := ha
  exact ⟨_, pw_and h1 pw_none, et_andF h2⟩
theorem evw_orF (ha : EVT X W en a false) (hb : EVW X W en (.BoolOp .Or (b :: rest) pos) u) : EVW X W en (.BoolOp .Or (a :: b :: rest) pos) u := by
  obtain ⟨t, h1, h2⟩ := ha
  obtain ⟨t', h3, h4⟩ := hb
  exact ⟨_, pw_or h1 h3, et_orF h2 h4⟩
theorem evw_orT (ha : EVT X W en a true) : EVW X W en (.BoolOp .Or (a :: b :: rest) pos) true := by
  obtain ⟨t, h1, h2⟩ := ha
  exact ⟨_, pw_or h1 pw_none, et_orT h2⟩
/-- all of an or's parts walked, whatever they come to (all can be walked) -/
theorem evw_or (ha : EVT X W en a u) (hb : u = false → EVW X W en (.BoolOp .Or (b :: rest) pos) v) : EVW X W en (.BoolOp .Or (a :: b :: rest) pos) (u || v) := by
  cases u with
  | true => exact evw_orT ha
  | false => exact evw_orF ha (hb rfl)
theorem evw_and (ha : EVT X W en a u) (hb : u = true → EVW X W en (.BoolOp .And (b :: rest) pos) v) : EVW X W en (.BoolOp .And (a :: b :: rest) pos) (u && v) := by
  cases u with
  | true => exact evw_andT ha (hb rfl)
  | false => exact evw_andF ha
theorem sv_ifT (hc : EVT X W en c true) (h : SVs X W en s1 ou) : SV X W en (.If c s1 s2 pos) ou := by
  obtain ⟨t, h1, h2⟩ := hc
  obtain ⟨t', h3, h4⟩ := h
  exact ⟨_, ps_if h1 h3 (pss_never), st_ifT h2 h4⟩
theorem sv_ifF (hc : EVT X W en c false) (h : SVs X W en s2 ou) : SV X W en (.If c s1 s2 pos) ou := by
  obtain ⟨t, h1, h2⟩ := hc
  obtain ⟨t', h3, h4⟩ := h
  exact ⟨_, ps_if h1 (pss_never) h3, st_ifF h2 h4⟩
theorem sv_if (hc : EVT X W en c u) (hT : u = true → SVs X W en s1 ou) (hF : u = false → SVs X W en s2 ou) : SV X W en (.If c s1 s2 pos) ou := by
  cases u with
  | true => exact sv_ifT hc (hT rfl)
  | false => exact sv_ifF hc (hF rfl)
theorem sv_par {n m : Nat} {y : Str} {px py pt : Pos} {kt k2 pt2} (Bx : Bd X W k) (ha : EVA X W en [a, b] [d1, d2]) (hn : X.N.idxOf? x = some n) (hm : X.N.idxOf? y = some m) (hi : X.N[n]? = some x) (hj : X.N[m]? = some y) (hij : n ≠ m)
    (hx : X.env.scope.names.lookup x = some .local) (hy : X.env.scope.names.lookup y = some .local) (hw : swappedStores [.Tuple [.Name x px, .Name y py] kt pt] (.Tuple [a, b] k2 pt2) X.env = pure (some [x, y]))
    (hs : swapsWithSole [.Tuple [.Name x px, .Name y py] kt pt] (.Tuple [a, b] k2 pt2) pos.line X.env = pure false) (hq : (en.set n (.da d1)).set m (.da d2) = e1) :
    SV X W en (.Assign [.Tuple [.Name x px, .Name y py] kt pt] (.Tuple [a, b] k2 pt2) pos) (.nx e1) := by
  subst hq
  obtain ⟨t, h1, h2⟩ := ha
  exact ⟨_, ps_par Bx.calm Bx.nd hi hj hij hx hy h1 hw hs, st_par h2⟩
/-- the targets' names -/
def GN (X : Cx) (es : List Expr) (is : List Nat) : Prop := PGs X es (gNames is)
theorem gn_nil : GN X [] [] := pgs_nil
theorem gn_cons {n : Nat} {is : List Nat} (nd : X.N.Nodup) (hN : X.N.idxOf? x = some n) (hi : X.N[n]? = some x) (hx : Loc X.env.scope x) (hf : X.fn x = true ∨ X.env.scope.names.lookup x = some .local) (h : GN X es is)
    (hs : (assignEach (.Name x pos :: es) X.env).map (·.2) = assign (.Name x pos) X.env :: (assignEach es X.env).map (·.2)) : GN X (.Name x pos :: es) (n :: is) := pgs_cons (pg_name nd hi hx hf) h hs
theorem sv_unT {tp : Pos} {q : _} {is : List Nat} (Bx : Bd X W k) (he : EV X W en e (.ok (.tup ds))) (hg : GN X es is) (hl : ds.length = is.length) (hn : (assignEach es X.env).length = is.length) (hst : (assignEach es X.env).findIdx? (·.1) = none)
    (hs : swapsWithSole [.Tuple es q tp] e pos.line X.env = pure false) (hw : swappedStores [.Tuple es q tp] e X.env = pure none) (h1 : (assignEach [.Tuple es q tp] X.env).map (·.2) = [assign (.Tuple es q tp) X.env]) (hq : setAll en is ds = e1) :
    SV X W en (.Assign [.Tuple es q tp] e pos) (.nx e1) := by
  subst hq
  obtain ⟨t, a1, a2⟩ := he
  exact ⟨_, ps_asg a1 (pg_tup Bx.calm hg hn hst) hs hw h1, st_unT a2 hl hl⟩
theorem sv_unL {tp : Pos} {q : _} {is : List Nat} (Bx : Bd X W k) (he : EV X W en e (.ok (.lst ds))) (hg : GN X es is) (hl : ds.length = is.length) (hn : (assignEach es X.env).length = is.length) (hst : (assignEach es X.env).findIdx? (·.1) = none)
    (hs : swapsWithSole [.Tuple es q tp] e pos.line X.env = pure false) (hw : swappedStores [.Tuple es q tp] e X.env = pure none) (h1 : (assignEach [.Tuple es q tp] X.env).map (·.2) = [assign (.Tuple es q tp) X.env]) (hq : setAll en is ds = e1) :
    SV X W en (.Assign [.Tuple es q tp] e pos) (.nx e1) := by
  subst hq
  obtain ⟨t, a1, a2⟩ := he
  exact ⟨_, ps_asg a1 (pg_lst Bx.calm hg hn hst) hs hw h1, st_unL a2 hl hl⟩
/-- xs.append(e) -/
theorem sv_app {n : Nat} {apos : Pos} {l : Str} (hN : X.N.idxOf? l = some n) (hv : Vis X.env.scope l) (ho : en[n]? = some (.own ds)) (hN2 : X.N[n]? = some l) (hd : (l == ("__debug__" : Str)) = false) (hc : (l == ("__classdict__" : Str)) = false) (he : EV X W en e (.ok d)) (hz : ds.length < 100000)
    (q : ∀ {te : TE}, PE X e te → PE X (.Call (.Attribute (.Name l p) "append" apos) [e] [] pos) (tBM X.K "list" rAppend (tVar n) (tCons te tNil)))
    (hs : swapsWith (.Call (.Attribute (.Name l p) "append" apos) [e] [] pos) none pos'.line X.env = pure false) (hq : en.set n (.own (ds ++ [d])) = e1) : SV X W en (.Expr (.Call (.Attribute (.Name l p) "append" apos) [e] [] pos) pos') (.nx e1) := by
  subst hq
  obtain ⟨t, h1, h2⟩ := he
  exact ⟨_, ps_expr (q h1) hs, st_app ho h2 hz⟩
/-- a block's widest reading: one for all data -/
def tU (X : Cx) (ss : List Stmt) : TS := fun D σ H => ∃ t, PSs X ss t ∧ t D σ H
theorem pss_U : PSs X ss (tU X ss) := ⟨fun pins s σ H D I ⟨t, h, q⟩ => h.run pins s σ H D I q⟩
theorem SVs.U (h : SVs X W en ss ou) : ST X.K W (tU X ss) en ou := by
  obtain ⟨t, h1, h2⟩ := h
  exact fun B0 H0 B H σ S D k => ⟨t, h1, h2 B0 H0 B H σ S D k⟩
def tUE (X : Cx) (e : Expr) : TE := fun σ H Q => ∃ t, PE X e t ∧ t σ H Q
theorem pe_U : PE X e (tUE X e) := ⟨fun pins s σ H Q I ⟨t, h, q⟩ => h.run pins s σ H Q I q⟩
theorem EV.U (h : EV X W en e o) : EX X.K W (tUE X e) en o := by
  obtain ⟨t, h1, h2⟩ := h
  exact fun B0 H0 B H σ S D k => ⟨t, h1, h2 B0 H0 B H σ S D k⟩
theorem sv_forL {n : Nat} {it : Expr} (Bx : Bd X W k) (F : Nat → List Sl) (hN : X.N.idxOf? x = some n) (hN2 : X.N[n]? = some x) (hx : Loc X.env.scope x) (hf : X.fn x = true ∨ X.env.scope.names.lookup x = some .local) (hi : EV X W en it (.ok (.lst ds))) (h0 : F 0 = en) (hq : ∀ v, foldedSetIterable it X.env v = pure v)
    (ht : ∀ i d, ds[i]? = some d → SVs X W ((F i).set n (.da d)) ss (.nx (F (i + 1)))) : SV X W en (.For (.Name x p) it ss [] pos) (.nx (F ds.length)) := by
  obtain ⟨t, h1, h2⟩ := hi
  exact ⟨_, ps_for Bx.own Bx.calm (pi_list h1) (pg_name Bx.nd hN2 hx hf) pss_U hq, st_forL F h2 h0 fun i d hd => (ht i d hd).U⟩
theorem sv_forLX {n m : Nat} {it : Expr} (Bx : Bd X W k) (F : Nat → List Sl) (hN : X.N.idxOf? x = some n) (hN2 : X.N[n]? = some x) (hx : Loc X.env.scope x) (hf : X.fn x = true ∨ X.env.scope.names.lookup x = some .local) (hi : EV X W en it (.ok (.lst ds))) (h0 : F 0 = en) (hq : ∀ v, foldedSetIterable it X.env v = pure v)
    (ht : ∀ i d, i < m → ds[i]? = some d → SVs X W ((F i).set n (.da d)) ss (.nx (F (i + 1)))) (hm : ds[m]? = some d) (hl : SVs X W ((F m).set n (.da d)) ss ou) (ho : ∃ d', ou = .rt d' ∨ ∃ e C f, ou = .rx e C f) : SV X W en (.For (.Name x p) it ss [] pos) ou := by
  obtain ⟨t, h1, h2⟩ := hi
  exact ⟨_, ps_for Bx.own Bx.calm (pi_list h1) (pg_name Bx.nd hN2 hx hf) pss_U hq, st_forLX F h2 h0 (fun i d hi hd => (ht i d hi hd).U) hm hl.U ho⟩
theorem sv_forR {n m : Nat} {q1 q2 : Pos} (Bx : Bd X W k) (F : Nat → List Sl) (hN : X.N.idxOf? x = some n) (hN2 : X.N[n]? = some x) (hx : Loc X.env.scope x) (hf : X.fn x = true ∨ X.env.scope.names.lookup x = some .local) (hr : X.mg "range" = none) (hi : EVA X W en [a] [.int (m : Int)]) (hm : m ≤ 100000) (h0 : F 0 = en)
    (hg : Gl X "range") (hst : starEach [a] X.env = [(false, eval a X.env)])
    (ht : ∀ i : Nat, i < m → SVs X W ((F i).set n (.da (.int (i : Int)))) ss (.nx (F (i + 1)))) : SV X W en (.For (.Name x p) (.Call (.Name "range" q1) [a] [] q2) ss [] pos) (.nx (F m)) := by
  obtain ⟨t, h1, h2⟩ := hi
  exact ⟨_, ps_for Bx.own Bx.calm (pi_range1 hg hr h1 hst) (pg_name Bx.nd hN2 hx hf) pss_U, st_forR F h2 hm h0 fun i hi => (ht i hi).U⟩
def tUT (X : Cx) (e : Expr) : TT := fun σ H Q => ∃ t, PT X e t ∧ t σ H Q
theorem pt_U : PT X e (tUT X e) := ⟨fun pins s σ H Q I ⟨t, h, q⟩ => h.run pins s σ H Q I q⟩
theorem EVT.U (h : EVT X W en e u) : ET X.K (tUT X e) en u := by
  obtain ⟨t, h1, h2⟩ := h
  exact fun B0 H0 B H σ S D k => ⟨t, h1, h2 B0 H0 B H σ S D k⟩
theorem sv_while {m : Nat} (Bx : Bd X W k) (F : Nat → List Sl) (h0 : F 0 = en) (hc : ∀ i, i < m → EVT X W (F i) c true) (ht : ∀ i, i < m → SVs X W (F i) ss (.nx (F (i + 1)))) (he : EVT X W (F m) c false) : SV X W en (.While c ss [] pos) (.nx (F m)) :=
  ⟨_, ps_while Bx.own pt_U pss_U, st_while F h0 (fun i hi => (hc i hi).U) (fun i hi => (ht i hi).U) he.U⟩

/-! ### defs -/
def spD (K : PySem.W.Frag) (n : Nat) (fs : List Da → Option XO) : Sp := fun vs H Q E => vs.length = n ∧ ∃ B ds o, Ex B H ∧ DrA K B vs ds ∧ fs ds = some o ∧ Ko K E B H Q o
/-- how a body's end becomes the def's -/
inductive Leads : Out → XO → Prop
  | rt (d : Da) : Leads (.rt d) (.ok d)
  | rx (en : List Sl) (C : Addr) (f : Option (Str × Da)) : Leads (.rx en C f) (.err C f)
  | nx (en : List Sl) : Leads (.nx en) (.ok .non)
end
def slots (N : List Str) (ds : List Da) : List Sl := ds.map .da ++ List.replicate (N.length - ds.length) .no
section
variable {K : PySem.W.Frag} {B H H0 : Hp}
theorem paired_app {α β : Type} {F : α → β → Prop} : ∀ {l₁ l₃ : List α} {l₂ l₄ : List β}, Paired F l₁ l₂ → Paired F l₃ l₄ → Paired F (l₁ ++ l₃) (l₂ ++ l₄)
  | _, _, _, _, .nil, s => s
  | _, _, _, _, .cons r t, s => .cons r (paired_app t s)
theorem paired_rep : ∀ {n : Nat}, Paired (SlR K B H0 H) (List.replicate n none) (List.replicate n .no)
  | 0 => .nil
  | n + 1 => .cons (.no _) (paired_rep (n := n))
theorem slots_sl : ∀ {vs : List V} {ds : List Da}, DrA K B vs ds → Paired (SlR K B H0 H) (vs.map some) (ds.map .da)
  | _, _, .nil => .nil
  | _, _, .cons h t => .cons (.da h) (slots_sl t)
theorem slots_no {N : List Str} {ds es : List Da} {i : Nat} : (slots N ds)[i]? = some (.own es) → False := fun h => by
  unfold slots at h
  have m := List.mem_of_getElem? h
  rcases List.mem_append.mp m with m | m
  · obtain ⟨d, _, e⟩ := List.mem_map.mp m
    cases e
  · cases (List.eq_of_mem_replicate m)
end
section
variable {P : Program} {w : World} {K : PySem.W.Frag} {mg : Str → Option Value} {base : Heap} {x qual : Str} {st : Stmt} {f : Addr} {fd : FuncData} {N ps : List Str} {k : Nat}
abbrev XB (P : Program) (w : World) (K : PySem.W.Frag) (mg : Str → Option Value) (base : Heap) (N : List Str) (qual : Str) (st : Stmt) (f : Addr) (cdv : Value) (A : Around) (outer : List Env) (s : Shared) (H : Hp) (E : XK) : Cx :=
  cxOf (L2.CX P w) P w K mg base N qual (defScope st) f cdv A outer s H E
abbrev WD (E : XK) : WX := fun c d _ H => E c d H
theorem bd_of (S : FnScope N ps (defScope st)) {cdv : Value} {A : Around} {outer : List Env} {s : Shared} {H : Hp} {E : XK} (hr : Room k (A.deeper (envOfC qual (defScope st) s.heap.objs.size f cdv))) : Bd (XB P w K mg base N qual st f cdv A outer s H E) (WD E) k :=
  ⟨rfl, takes_of rfl rfl rfl rfl, PassesOwn.leaving, hr, S.nd⟩
/-- a def by its data -/
theorem fn_d (F : Fun K x qual st f fd) (S : FnScope N ps (defScope st)) (fs : List Da → Option XO)
    (hb : ∀ (cdv : Value) (A : Around) (outer : List Env) (s : Shared) (H : Hp) (E : XK) (ds : List Da) (o : XO), Bd (XB P w K mg base N qual st f cdv A outer s H E) (WD E) k → ds.length = ps.length → fs ds = some o →
      ∃ ou, Leads ou o ∧ SVs (XB P w K mg base N qual st f cdv A outer s H E) (WD E) (slots N ds) (defBody st) ou) : FnOk P w K mg base (L2.CX P w) (k + 1) f fd ps (spD K ps.length fs) := by
  refine F.okX S (fun vs H Q E h => h.1) fun cdv A outer s H vs Q E hr h => ?_
  obtain ⟨hl, B, ds, o, eB, hA, hf, ko⟩ := h
  obtain ⟨ou, ld, t, h1, h2⟩ := hb cdv A outer s H E ds o (bd_of S hr) (hA.length.symm.trans hl) hf
  have hN : ps.length ≤ N.length := by have := congrArg List.length S.pre; rw [List.length_take] at this; omega
  refine ⟨t, h1, h2 B H B H _ ⟨Gr.refl eB, ?_, fun i j p es1 es2 q1 => (slots_no q1).elim⟩ _ ?_⟩
  · unfold L2.start slots
    rw [hA.length]
    exact paired_app (slots_sl hA) paired_rep
  · cases ld with
    | rt d => exact fun v B' H' g r => ko v B' H' g r
    | rx en C f => exact fun B' H' σ' dd S' x' => ko dd B' H' S'.gr x'
    | nx en => exact fun B' H' σ' S' => ko .non B' H' S'.gr .non
end
section
variable {X : Cx} {W : WX} {k j n : Nat} {en : List Sl} {e : Expr} {es : List Expr} {pos p : Pos} {ds dds : List Da} {o : XO} {x : Str} {f : Addr} {fd : FuncData} {ps : List Str} {fs : List Da → Option XO} {dvs : List V} {dus : List Value}
theorem ex_callD {t : TA} (ha : EA X.K t en ds) (hd : ∀ B, DrA X.K B dvs dds) (hf : fs (ds ++ dds) = some o) (hl : (ds ++ dds).length = n) : EX X.K W (tCallSD (spD X.K n fs) dvs (WE W) t) en o := fun _ _ B H σ S Q ko =>
  ha _ _ B H σ S _ fun vs B1 H1 g r => ⟨by rw [← hl, List.length_append, List.length_append, r.length, (hd B1).length], B1, _, o, g.s, r.append (hd B1), hf, ko.grow g⟩
theorem ev_call (Bx : Bd X W k) (F : FnOk X.prog X.w X.K X.mg X.base (L2.CX X.prog X.w) j f fd ps (spD X.K n fs)) (hj : j ≤ k) (hg : Gl X x) (hm : X.mg x = some (.ref f)) (hk : PySem.W.keepIn X.K (.ref f) = true) (hb : Binds X.K fd ps dus) (hd : Vals dvs dus) (hdd : ∀ B, DrA X.K B dvs dds)
    (ha : EVA X W en (e :: es) ds) (hf : fs (ds ++ dds) = some o) (hl : (ds ++ dds).length = n) (hdb : (x == ("__debug__" : Str)) = false) (he : starEach (e :: es) X.env = (false, eval e X.env) :: starEach es X.env) (hpl : (backTo pos (starEach es X.env)).any (·.1) = false) :
    EV X W en (.Call (.Name x p) (e :: es) [] pos) o := by
  obtain ⟨t, h1, h2⟩ := ha
  exact ⟨_, pe_callSD F (Bx.rm.mono hj) hg hm hk hb hd (fun σ => passAt Bx.tk σ) h1 hdb he hpl, ex_callD h2 hdd hf hl⟩
end
end Sky
namespace Sky
open PySem L2 Evl PySem.Spec PyProof.Rows
/-! ### own errors without fields, callable defs, whiles by a word -/
abbrev veB : List Value := [.type "ValueError", .type "Exception", .type "BaseException", .type "object"]
structure ExF (K : PySem.W.Frag) (mg : Str → Option Value) (x : Str) (C : Addr) : Prop where
  g : mg x = some (.ref C)
  x : PySem.W.excIn K C veB "ValueError.__new__" = true
  k : PySem.W.keepIn K (.ref C) = true
  b : PySem.W.subIn K (.ref C) (.type "BaseException") = some true
  t : PySem.W.typeIn K (.ref C) = some (.type "type")
/-- a def that may be called: its name, how deep, its parameters, the defaults behind, what it comes to -/
structure Cal (P : Program) (w : World) (K : PySem.W.Frag) (mg : Str → Option Value) (base : Heap) (x : Str) (j : Nat) (ps : List Str) (dds : List Da) (fs : List Da → Option XO) : Prop where
  ex : ∃ f fd dus dvs, FnOk P w K mg base (L2.CX P w) j f fd ps (spD K ps.length fs) ∧ mg x = some (.ref f) ∧ PySem.W.keepIn K (.ref f) = true ∧ Binds K fd ps dus ∧ Vals dvs dus ∧ ∀ B, DrA K B dvs dds
section
variable {X : Cx} {W : WX} {k j : Nat} {en : List Sl} {e c : Expr} {es : List Expr} {pos p p2 pos2 : Pos} {ds dds : List Da} {o : XO} {x m : Str} {ps : List Str} {fs : List Da → Option XO} {C : Addr} {q : Nat} {ss : List Stmt} {ou : Out}
theorem sv_raise (Bx : Bd X W k) (T : ExF X.K X.mg x C) (hg : Gl X x) (hd : (x == ("__debug__" : Str)) = false) : SV X W en (.Raise (some (.Call (.Name x p) [.Constant (.str m) q p2] [] pos)) none pos2) (.rx en C none) :=
  ⟨_, ps_raise Bx.calm Bx.tk (pmk_own PySem.F.excBase_ValueError T.x T.g T.k (raises_own T.b T.t) hg hd), fun B0 H0 B H σ S D k => k B H σ none S rfl⟩
theorem ev_cal (cl : Cal X.prog X.w X.K X.mg X.base x j ps dds fs) (Bx : Bd X W k) (hj : j ≤ k) (ha : EVA X W en (e :: es) ds) (hf : fs (ds ++ dds) = some o) (hl : (ds ++ dds).length = ps.length) (hg : Gl X x)
    (hdb : (x == ("__debug__" : Str)) = false) (he : starEach (e :: es) X.env = (false, eval e X.env) :: starEach es X.env) (hpl : (backTo pos (starEach es X.env)).any (·.1) = false) : EV X W en (.Call (.Name x p) (e :: es) [] pos) o := by
  obtain ⟨f, fd, dus, dvs, F, hm, hk, hb, hd, hdd⟩ := cl.ex
  exact ev_call Bx F hj hg hm hk hb hd hdd ha hf hl hdb he hpl
def isiB (a b : String) : Bool := (kitB a b).getD false
theorem ev_isi {a t : Expr} {tn T : String} {d : Da} (hm : X.mg "isinstance" = none) (ha : EV X W en a (.ok d)) (ht : EV X W en t (.ok (.ty tn))) (hT : tyN d = some T) (hb : kitB T tn = some (isiB T tn)) (hg : Gl X "isinstance")
    (h1 : starEach [a, t] X.env = (false, eval a X.env) :: starEach [t] X.env) (h2 : starEach [t] X.env = (false, eval t X.env) :: starEach [] X.env) (hpl : (backTo pos (starEach [t] X.env)).any (·.1) = false) :
    EV X W en (.Call (.Name "isinstance" p) [a, t] [] pos) (.ok (.bl (isiB T tn))) :=
  ev_cb call_isi (eva_cons ha (eva_cons ht eva_nil h2) h1) (rc_isi hT hb) hg hm (by decide +kernel) (by decide) (by decide) h1 hpl
theorem sv_whileP {α : Type} (Bx : Bd X W k) (I : α → List Sl) (go : α → Bool) (μ : α → Nat) (P : α → Prop) (a0 : α) (h0 : P a0) (hI : I a0 = en)
    (step : ∀ a, P a → go a = true → EVT X W (I a) c true ∧ ∃ a', P a' ∧ μ a' < μ a ∧ SVs X W (I a) ss (.nx (I a'))) (stop : ∀ a, P a → go a = false → EVT X W (I a) c false) : ∃ a, P a ∧ go a = false ∧ SV X W en (.While c ss [] pos) (.nx (I a)) := by
  have key : ∀ n a, μ a ≤ n → P a → ∃ (m : Nat) (F : Nat → α), F 0 = a ∧ (∀ i, i < m → EVT X W (I (F i)) c true ∧ SVs X W (I (F i)) ss (.nx (I (F (i + 1))))) ∧ P (F m) ∧ go (F m) = false := by
    intro n
    induction n with
    | zero =>
      intro a ha hp
      cases hg : go a with
      | true =>
        obtain ⟨_, a', _, hl, _⟩ := step a hp hg
        omega
      | false => exact ⟨0, fun _ => a, rfl, fun i hi => by omega, hp, hg⟩
    | succ n ih =>
      intro a ha hp
      cases hg : go a with
      | true =>
        obtain ⟨h1, a', hp', hl, h2⟩ := step a hp hg
        obtain ⟨m, F, f0, fs, fp, fg⟩ := ih a' (by omega) hp'
        refine ⟨m + 1, fun i => match i with | 0 => a | i + 1 => F i, rfl, fun i hi => ?_, fp, fg⟩
        cases i with
        | zero => exact ⟨h1, by rw [← f0] at h2; exact h2⟩
        | succ i => exact fs i (by omega)
      | false => exact ⟨0, fun _ => a, rfl, fun i hi => by omega, hp, hg⟩
  obtain ⟨m, F, f0, fs, fp, fg⟩ := key _ a0 (Nat.le_refl _) h0
  refine ⟨F m, fp, fg, sv_while Bx (fun i => I (F i)) (by rw [f0]; exact hI) (fun i hi => (fs i hi).1) (fun i hi => (fs i hi).2) (stop _ fp fg)⟩
end
theorem cal_mk {P : Program} {w : World} {K : PySem.W.Frag} {mg : Str → Option Value} {base : Heap} {x : Str} {j : Nat} {ps : List Str} {fs : List Da → Option XO} {f : Addr} {fd : FuncData} {n : Nat} (G : FnOk P w K mg base (L2.CX P w) j f fd ps (spD K n fs)) (hn : ps.length = n) (hm : mg x = some (.ref f)) (hk : PySem.W.keepIn K (.ref f) = true) (hb : Binds K fd ps []) : Cal P w K mg base x j ps [] fs := by
  subst hn
  exact ⟨f, fd, [], [], G, hm, hk, hb, .nil, fun _ => .nil⟩
/-! ### the numbers -/
def gz (a b : Int) : Int := if b < 0 then -((Nat.gcd a.natAbs b.natAbs : Nat) : Int) else ((Nat.gcd a.natAbs b.natAbs : Nat) : Int)
def lw (a b : Int) : Da := .tup [.int (a.fdiv (gz a b)), .int (b.fdiv (gz a b))]
def isWholeD : Da → Option Bool
  | .int _ => some true | .non => some false | .bl _ => some false | .str _ => some false | .lst _ => some false | .tup _ => some false | _ => none
def fIsWhole : List Da → Option XO
  | [d] => (isWholeD d).map fun b => .ok (.bl b) | _ => none
def Small (b : Int) : Prop := b.natAbs < 2 ^ 250
instance (b : Int) : Decidable (Small b) := inferInstanceAs (Decidable (_ < _))
def fWorth (C : Addr) : List Da → Option XO
  | [a, b] => match isWholeD a, isWholeD b with
    | some false, some _ => some (.err C none)
    | some true, some false => some (.err C none)
    | some true, some true => match a, b with
      | .int a, .int b => if b = 0 then some (.err C none) else if Small b then some (.ok (lw a b)) else none
      | _, _ => none
    | _, _ => none
  | _ => none
def isWorthD : Da → Option Bool
  | .tup [a, b] => match isWholeD a with
    | some false => if (isWholeD b).isSome then some false else none
    | some true => match isWholeD b with
      | some false => some false
      | some true => match a, b with
        | .int a, .int b => some (decide (0 < b) && decide (Nat.gcd a.natAbs b.natAbs = 1))
        | _, _ => none
      | none => none
    | none => none
  | .tup _ => some false
  | .int _ => some false | .non => some false | .bl _ => some false | .str _ => some false | .lst _ => some false | _ => none
def fIsWorth : List Da → Option XO
  | [d] => (isWorthD d).map fun b => .ok (.bl b) | _ => none
def isW (a b : Int) : Bool := decide (0 < b) && decide (Nat.gcd a.natAbs b.natAbs = 1)
theorem isWorthD_int (a b : Int) : isWorthD (.tup [.int a, .int b]) = some (isW a b) := rfl
theorem gz_ne {a b : Int} (h : b ≠ 0) : gz a b ≠ 0 := by
  have g : 0 < Nat.gcd a.natAbs b.natAbs := Nat.gcd_pos_of_pos_right _ (by omega)
  unfold gz
  split <;> omega
theorem gz_le {a b : Int} (h : b ≠ 0) : (gz a b).natAbs ≤ b.natAbs := by
  have g : Nat.gcd a.natAbs b.natAbs ≤ b.natAbs := Nat.gcd_le_right _ (by omega)
  unfold gz
  split <;> omega
theorem small_log {b : Int} {z : Int} (h : Small b) (hz : z.natAbs ≤ b.natAbs) : z.natAbs.log2 < 9000 := by
  have h1 : z.natAbs < 2 ^ 250 := Nat.lt_of_le_of_lt hz h
  exact Nat.lt_of_lt_of_le (PySem.Flt.log2_lt_of (by decide) h1) (by decide)
theorem gz_div {a b : Int} (h : b ≠ 0) (hb : Small b) (u : Int) : CDivZ u (gz a b) := ⟨gz_ne h, small_log hb (gz_le h)⟩
end Sky
namespace Sky
open PySem L2 Evl PySem.Spec PyProof.Rows
theorem whole_some {d : Da} {b : Bool} (h : isWholeD d = some b) : fIsWhole ([d] ++ []) = some (.ok (.bl b)) := by
  show (isWholeD d).map _ = _
  rw [h]
  rfl
theorem whole_int {d : Da} (h : isWholeD d = some true) : ∃ i, d = .int i := by
  cases d with
  | int i => exact ⟨i, rfl⟩
  | _ => cases h
theorem worth_some {d : Da} {b : Bool} (h : isWorthD d = some b) : fIsWorth ([d] ++ []) = some (.ok (.bl b)) := by
  show (isWorthD d).map _ = _
  rw [h]
  rfl
theorem worth_int {a b : Int} {u : Bool} (h : isW a b = u) : fIsWorth ([.tup [.int a, .int b]] ++ []) = some (.ok (.bl u)) := by
  subst h
  rfl
theorem deq_int (a b : Int) : deq (.int a) (.int b) = (a == b) := rfl
theorem isWorthD_long {a b c : Da} {r : List Da} : isWorthD (.tup (a :: b :: c :: r)) = some false := rfl
/-- refused unless both are worths -/
def fRefuse (C : Addr) : List Da → Option XO
  | [a, b] => match isWorthD a with
    | some false => some (.err C none)
    | some true => match isWorthD b with
      | some false => some (.err C none)
      | some true => some (.ok .non)
      | none => none
    | none => none
  | _ => none
theorem refuse_ok {C : Addr} {a b c d : Int} (h1 : isW a b = true) (h2 : isW c d = true) : fRefuse C ([.tup [.int a, .int b], .tup [.int c, .int d]] ++ []) = some (.ok .non) := by
  show (match isWorthD (.tup [.int a, .int b]) with | some false => _ | some true => _ | none => _) = _
  rw [isWorthD_int, isWorthD_int, h1, h2]
def Bn (i : Int) : Prop := i.natAbs < 2 ^ 124
instance (i : Int) : Decidable (Bn i) := inferInstanceAs (Decidable (_ < _))
/-- two worths of sensible size -/
def Two (a b c d : Int) : Prop := isW a b = true ∧ isW c d = true ∧ Bn a ∧ Bn b ∧ Bn c ∧ Bn d
instance (a b c d : Int) : Decidable (Two a b c d) := inferInstanceAs (Decidable (_ ∧ _))
theorem isW_pos {a b : Int} (h : isW a b = true) : 0 < b := by
  unfold isW at h
  exact of_decide_eq_true (Bool.and_eq_true_iff.mp h).1
def fTwo (g : Int → Int → Int → Int → Option XO) : List Da → Option XO
  | [.tup [.int a, .int b], .tup [.int c, .int d]] => if Two a b c d then g a b c d else none
  | _ => none
theorem fTwo_inv {g : Int → Int → Int → Int → Option XO} {ds : List Da} {o : XO} (h : fTwo g ds = some o) : ∃ a b c d, ds = [.tup [.int a, .int b], .tup [.int c, .int d]] ∧ Two a b c d ∧ g a b c d = some o := by
  unfold fTwo at h
  split at h
  · split at h
    · exact ⟨_, _, _, _, rfl, ‹_›, h⟩
    · cases h
  · cases h
theorem fTwo_ok {g : Int → Int → Int → Int → Option XO} {a b c d : Int} {o : XO} (t : Two a b c d) (h : g a b c d = some o) : fTwo g ([.tup [.int a, .int b], .tup [.int c, .int d]] ++ []) = some o := by
  show (if Two a b c d then g a b c d else none) = some o
  rw [if_pos t]
  exact h
theorem bn_mul {i j : Int} (h1 : Bn i) (h2 : Bn j) : CMulW i j := wide_mul h1 h2 (by decide) (by decide) (by decide)
theorem bn_prod {i j : Int} (h1 : Bn i) (h2 : Bn j) : (i * j).natAbs < 2 ^ 248 := wide_lt h1 h2
theorem small_prod {i j : Int} (h1 : Bn i) (h2 : Bn j) : Small (i * j) := Nat.lt_of_lt_of_le (bn_prod h1 h2) (Nat.pow_le_pow_right (by decide) (by decide))
theorem fWorth_ok {C : Addr} {a b : Int} (h : b ≠ 0) (s : Small b) : fWorth C ([.int a, .int b] ++ []) = some (.ok (lw a b)) := by
  show (if b = 0 then some (XO.err C none) else if Small b then some (.ok (lw a b)) else none) = _
  rw [if_neg h, if_pos s]
theorem fWorth_no {C : Addr} {a b : Int} (h : b = 0) : fWorth C ([.int a, .int b] ++ []) = some (.err C none) := by
  show (if b = 0 then some (XO.err C none) else if Small b then some (.ok (lw a b)) else none) = _
  rw [if_pos h]
def gPlus (a b c d : Int) : Option XO := some (.ok (lw (a * d + c * b) (b * d)))
def gMinus (a b c d : Int) : Option XO := some (.ok (lw (a * d - c * b) (b * d)))
def gTimes (a b c d : Int) : Option XO := some (.ok (lw (a * c) (b * d)))
def gOver (C : Addr) (a b c d : Int) : Option XO := if b * c = 0 then some (.err C none) else some (.ok (lw (a * d) (b * c)))
def gLess (a b c d : Int) : Option XO := some (.ok (.bl (decide (a * d < c * b))))
theorem mul_ne {b d : Int} (h1 : 0 < b) (h2 : 0 < d) : b * d ≠ 0 := Int.ne_of_gt (Int.mul_pos h1 h2)
end Sky
namespace Sky
open PySem L2 Evl PySem.Spec PyProof.Rows
/-! ### the law's own: low, digits -/
def fLow : List Da → Option XO
  | [.int a, .int b] => if b ≠ 0 ∧ Small b then some (.ok (lw a b)) else none
  | _ => none
theorem fLow_inv {ds : List Da} {o : XO} (h : fLow ds = some o) : ∃ a b, ds = [.int a, .int b] ∧ b ≠ 0 ∧ Small b ∧ o = .ok (lw a b) := by
  unfold fLow at h
  split at h
  · split at h
    · exact ⟨_, _, rfl, (‹_ ∧ _› : _ ∧ _).1, (‹_ ∧ _› : _ ∧ _).2, (Option.some.inj h).symm⟩
    · cases h
  · cases h
theorem fLow_ok {a b : Int} (h : b ≠ 0) (s : Small b) : fLow ([.int a, .int b] ++ []) = some (.ok (lw a b)) := if_pos ⟨h, s⟩
def numD (c : Int) : Nat → Int
  | 0 => c % 2147483647
  | k + 1 => ((numD c k * 48271 + 30103 * (k : Int) + 11) % 2147483647) * (((numD c k * 48271 + 30103 * (k : Int) + 11) % 2147483647) / 1009 + 69621) % 2147483629
def restD (c : Int) : Nat → Int
  | 0 => if 10 ^ 18 ≤ c then c else 0
  | k + 1 => if 0 < restD c k then restD c k / 1009 else restD c k
def digD (c : Int) (k : Nat) : Int := if 0 < restD c k then restD c k % 1009 else numD c (k + 1) / 7 % 1009
def digs (c : Int) (n : Nat) : List Int := (List.range n).map (digD c)
theorem digs_len (c : Int) (n : Nat) : (digs c n).length = n := by simp [digs]
theorem digD_lo (c : Int) (k : Nat) : 0 ≤ digD c k := by
  unfold digD
  split <;> exact Int.emod_nonneg _ (by decide)
theorem digD_hi (c : Int) (k : Nat) : digD c k < 1009 := by
  unfold digD
  split <;> exact Int.emod_lt_of_pos _ (by decide)
theorem digs_succ (c : Int) (n : Nat) : digs c (n + 1) = digs c n ++ [digD c n] := by
  unfold digs
  rw [List.range_succ, List.map_append]
  rfl
theorem digs_get (c : Int) {n k : Nat} (h : k < n) : (digs c n)[k]? = some (digD c k) := by
  unfold digs
  rw [List.getElem?_map, List.getElem?_range h]
  rfl
theorem numD_bd (c : Int) : ∀ k, 0 ≤ numD c k ∧ numD c k < 2147483647
  | 0 => ⟨Int.emod_nonneg _ (by decide), Int.emod_lt_of_pos _ (by decide)⟩
  | k + 1 => ⟨Int.emod_nonneg _ (by decide), Int.lt_trans (Int.emod_lt_of_pos _ (by decide)) (by decide)⟩
theorem cm64 {i j : Int} (h1 : i.natAbs < 2 ^ 64) (h2 : j.natAbs < 2 ^ 64) : CMulW i j := wide_mul h1 h2 (by decide) (by decide) (by decide)
def fDigits : List Da → Option XO
  | [.int c, .int n] => if 0 ≤ n ∧ n ≤ 1000 then some (.ok (.lst ((digs c n.toNat).map .int))) else none
  | _ => none
theorem fDigits_inv {ds : List Da} {o : XO} (h : fDigits ds = some o) : ∃ (c : Int) (n : Nat), ds = [.int c, .int (n : Int)] ∧ n ≤ 1000 ∧ o = .ok (.lst ((digs c n).map .int)) := by
  unfold fDigits at h
  split at h
  · split at h
    · rename_i c n hn
      refine ⟨c, n.toNat, ?_, by omega, (Option.some.inj h).symm⟩
      rw [Int.toNat_of_nonneg hn.1]
    · cases h
  · cases h
theorem fDigits_ok {c : Int} {n : Nat} (h : n ≤ 1000) : fDigits ([.int c, .int (n : Int)] ++ []) = some (.ok (.lst ((digs c n).map .int))) := by
  show (if 0 ≤ (n : Int) ∧ (n : Int) ≤ 1000 then some (XO.ok (.lst ((digs c (n : Int).toNat).map .int))) else none) = _
  rw [if_pos ⟨by omega, by omega⟩, Int.toNat_natCast]
def TwoL (a b c d : Int) : Prop := b ≠ 0 ∧ d ≠ 0 ∧ Bn a ∧ Bn b ∧ Bn c ∧ Bn d
instance (a b c d : Int) : Decidable (TwoL a b c d) := inferInstanceAs (Decidable (_ ∧ _))
def fTwoL (g : Int → Int → Int → Int → Option XO) : List Da → Option XO
  | [.tup [.int a, .int b], .tup [.int c, .int d]] => if TwoL a b c d then g a b c d else none
  | _ => none
theorem fTwoL_inv {g : Int → Int → Int → Int → Option XO} {ds : List Da} {o : XO} (h : fTwoL g ds = some o) : ∃ a b c d, ds = [.tup [.int a, .int b], .tup [.int c, .int d]] ∧ TwoL a b c d ∧ g a b c d = some o := by
  unfold fTwoL at h
  split at h
  · split at h
    · exact ⟨_, _, _, _, rfl, ‹_›, h⟩
    · cases h
  · cases h
theorem fTwoL_ok {g : Int → Int → Int → Int → Option XO} {a b c d : Int} {o : XO} (t : TwoL a b c d) (h : g a b c d = some o) : fTwoL g ([.tup [.int a, .int b], .tup [.int c, .int d]] ++ []) = some o := by
  show (if TwoL a b c d then g a b c d else none) = some o
  rw [if_pos t]
  exact h
end Sky
namespace Sky
open PySem L2 Evl PySem.Spec PyProof.Rows
theorem svs_whileP {X : Cx} {W : WX} {k : Nat} {en : List Sl} {c : Expr} {pos : Pos} {ss rest : List Stmt} {ou : Out} {α : Type} (Bx : Bd X W k) (I : α → List Sl) (go : α → Bool) (μ : α → Nat) (P : α → Prop) (a0 : α) (h0 : P a0) (hI : I a0 = en)
    (step : ∀ a, P a → go a = true → EVT X W (I a) c true ∧ ∃ a', P a' ∧ μ a' < μ a ∧ SVs X W (I a) ss (.nx (I a'))) (stop : ∀ a, P a → go a = false → EVT X W (I a) c false)
    (k : ∀ a, P a → go a = false → SVs X W (I a) rest ou) : SVs X W en (.While c ss [] pos :: rest) ou := by
  obtain ⟨a, ha, hg, h⟩ := sv_whileP (pos := pos) Bx I go μ P a0 h0 hI step stop
  exact svs_cons h (k a ha hg)
end Sky
namespace Sky
open PySem L2 Evl PySem.Spec PyProof.Rows
/-! ### try: .. except X as n: .. -/
section
variable {X : Cx} {W : WX} {k i : Nat} {en e1 e2 : List Sl} {x n : Str} {c : Value} {body suite : List Stmt} {b₀ : Stmt} {np pos pos' : Pos} {o : Out} {C : Addr} {f : Option (Str × Da)}
/-- the wish of the body -/
abbrev WA (X : Cx) (c : Value) (i : Nat) (b₀ : Stmt) (suite : List Stmt) (D : Ends) : WX :=
  wAs X.K c i (fun a cls d => fun D σ H => ∀ (oe : Obj) (pn : List (Addr × Obj)), Zc cls d oe → (∃ vs, oe.data = .fields vs) → ∃ t, PSs (X.suite a ((a, oe) :: pn)) (b₀ :: suite) t ∧ t D σ H) (fun _ _ _ _ => False) D
theorem ps_tryU (hs : X.stack = X.env :: X.outer) (hf : X.env.frame = some X.env.locals) (hN : X.N.Nodup) (hi : X.N[i]? = some n) (hln : X.env.kindOf n = some .local) (hc : Names X x c) :
    PS X (.Try body [.ExceptHandler (some (.Name x np)) (some n) (b₀ :: suite) pos'] [] [] pos) (fun D σ H => ∀ (pn : List (Addr × Obj)) (xe : Value → Shared → Prop), Takes (X.tr pn xe) (WA X c i b₀ suite D) → PassesOwn (model X.prog X.w) X.A X.env xe → ∃ t, PSs (X.tr pn xe) body t ∧ t D σ H) :=
  ps_try_as (tb := fun W D σ H => ∀ (pn : List (Addr × Obj)) (xe : Value → Shared → Prop), Takes (X.tr pn xe) W → PassesOwn (model X.prog X.w) X.A X.env xe → ∃ t, PSs (X.tr pn xe) body t ∧ t D σ H)
    hs hf hN hi hln hc takes0
    (fun W pn xe tk ow => ⟨fun pins s σ H D I h => by
      obtain ⟨t, h1, h2⟩ := h pn xe tk ow
      exact h1.run pins s σ H D I h2⟩)
    (fun a oe cls d pn hz hf => ⟨fun pins s σ H D I h => by
      obtain ⟨t, h1, h2⟩ := h oe pn hz hf
      exact h1.run pins s σ H D I h2⟩)
theorem bd_tr (Bx : Bd X W k) {W' : WX} {pn : List (Addr × Obj)} {xe : Value → Shared → Prop} (tk : Takes (X.tr pn xe) W') (ow : PassesOwn (model X.prog X.w) X.A X.env xe) : Bd (X.tr pn xe) W' k := ⟨Bx.calm, tk, ow, Bx.rm, Bx.nd⟩
/-- nothing is raised -/
theorem sv_tryOk (Bx : Bd X W k) (hs : X.stack = X.env :: X.outer) (hf : X.env.frame = some X.env.locals) (hi : X.N[i]? = some n) (hln : X.env.kindOf n = some .local) (hc : Names X x c) (ho : (∃ d, o = .rt d) ∨ ∃ e, o = .nx e)
    (hb : ∀ (W' : WX) (pn : List (Addr × Obj)) (xe : Value → Shared → Prop), Bd (X.tr pn xe) W' k → SVs (X.tr pn xe) W' en body o) :
    SV X W en (.Try body [.ExceptHandler (some (.Name x np)) (some n) (b₀ :: suite) pos'] [] [] pos) o :=
  ⟨_, ps_tryU hs hf Bx.nd hi hln hc, fun B0 H0 B H σ S D q pn xe tk ow => by
    obtain ⟨t, h1, h2⟩ := hb _ pn xe (bd_tr Bx tk ow)
    refine ⟨t, h1, h2 B0 H0 B H σ S D ?_⟩
    rcases ho with ⟨d, rfl⟩ | ⟨e, rfl⟩
    · exact q
    · exact q⟩
/-- the body raises C, the clause's own class takes it; the suite returns -/
theorem sv_tryRet {d : Da} (Bx : Bd X W k) (hs : X.stack = X.env :: X.outer) (hf : X.env.frame = some X.env.locals) (hN : X.N.idxOf? n = some i) (hi : X.N[i]? = some n) (hln : X.env.kindOf n = some .local) (hc : Names X x c)
    (hb : ∀ (W' : WX) (pn : List (Addr × Obj)) (xe : Value → Shared → Prop), Bd (X.tr pn xe) W' k → SVs (X.tr pn xe) W' en body (.rx e1 C f)) (he : PySem.W.exmOne X.K (.ref C) c = some true)
    (hsu : ∀ (a : Addr) (oe : Obj) (dd : Option Addr) (pn : List (Addr × Obj)), (f = none → dd = none) → Zc (.ref C) dd oe → (∃ vs, oe.data = .fields vs) → SVs (X.suite a ((a, oe) :: pn)) (fun _ _ _ _ => False) (e1.set i (.rf (.ref a))) (b₀ :: suite) (.rt d)) :
    SV X W en (.Try body [.ExceptHandler (some (.Name x np)) (some n) (b₀ :: suite) pos'] [] [] pos) (.rt d) :=
  ⟨_, ps_tryU hs hf Bx.nd hi hln hc, fun B0 H0 B H σ S D q pn xe tk ow => by
    obtain ⟨t, h1, h2⟩ := hb _ pn xe (bd_tr Bx tk ow)
    refine ⟨t, h1, h2 B0 H0 B H σ S D fun B' H' σ' dd S' xf => ⟨true, he, fun _ a ha oe pn2 hz hv => ?_, fun z => by cases z⟩⟩
    have hd : f = none → dd = none := fun z => by subst z; exact xf
    obtain ⟨t', h3, h4⟩ := hsu a oe dd pn2 hd hz hv
    exact ⟨t', h3, h4 B0 H0 B' H' _ (S'.setRf (.ref a) i) _ q⟩⟩
theorem ex_rf {K : PySem.W.Frag} {v : V} (h : en[i]? = some (.rf v)) : ∀ B0 H0 B H σ, Sd K B0 H0 B H σ en → ∀ Q : VK, Q v H → tVar i σ H Q := fun _ _ B H σ S Q k => ⟨v, S.atRf h, k⟩
/-- isinstance(e, c), e the error that the suite holds -/
theorem ev_isE {a : Addr} {oe : Obj} {pn : List (Addr × Obj)} {D : Addr} {y : Str} {cx : Expr} {cv : V} {cu : Value} {b : Bool} {p1 p2 p3 : Pos} {W' : WX} (Ec : ExcC X.K D) (hz : Zc (.ref D) none oe) (hf : ∃ vs, oe.data = .fields vs) (hm : X.mg "isinstance" = none)
    (hN : X.N.idxOf? y = some i) (hv : Vis X.env.scope y) (h : en[i]? = some (.rf (.ref a))) (hN2 : X.N[i]? = some y) (hd : (y == ("__debug__" : Str)) = false) (hcd : (y == ("__classdict__" : Str)) = false)
    (hc : PE (X.suite a ((a, oe) :: pn)) cx (tC cv)) (hcu : ∀ u, RelV cv u → u = cu) (hk : PySem.W.kitOne X.K (.ref D) cu = some b) (hg : Gl (X.suite a ((a, oe) :: pn)) "isinstance")
    (h1 : starEach [.Name y p1, cx] X.env = (false, eval (.Name y p1) X.env) :: starEach [cx] X.env) (h2 : starEach [cx] X.env = (false, eval cx X.env) :: starEach [] X.env) (hpl : (backTo p3 (starEach [cx] X.env)).any (·.1) = false) :
    EV (X.suite a ((a, oe) :: pn)) W' en (.Call (.Name "isinstance" p2) [.Name y p1, cx] [] p3) (.ok (.bl b)) := by
  have hvar : PE (X.suite a ((a, oe) :: pn)) (.Name y p1) (tVar i) := pe_var hN2 hv hd hcd
  refine ⟨_, pe_callB (call_isE Ec hz hf) hg hm (by decide +kernel) (pa_cons hvar (pa_cons hc pa_nil h2) h1) (by decide) (by decide) h1 hpl, fun B0 H0 B H σ S Q ko => ?_⟩
  exact ex_rf h B0 H0 B H σ S _ ⟨cv, cu, b, rfl, hcu, hk, ko _ B H (Gr.refl S.eb) (.bl b)⟩
end
end Sky
namespace Sky
open PySem L2 Evl PySem.Spec PyProof.Rows
/-! ### calls with keywords -/
structure CalK (P : Program) (w : World) (K : PySem.W.Frag) (mg : Str → Option Value) (base : Heap) (x : Str) (j : Nat) (n : Nat) (ks : List Str) (gD : List Da → List Da → List Da) (fs : List Da → Option XO) : Prop where
  ex : ∃ (f : Addr) (fd : FuncData) (ps : List Str) (g : List Value → List Value → List Value) (gV : List V → List V → List V), FnOk P w K mg base (L2.CX P w) j f fd ps (spD K ps.length fs) ∧ mg x = some (.ref f) ∧ PySem.W.keepIn K (.ref f) = true ∧ KBn K fd ps n ks g gV ∧
    ∀ B vs zs ds es, DrA K B vs ds → DrA K B zs es → vs.length = n → zs.length = ks.length → (gV vs zs).length = ps.length ∧ DrA K B (gV vs zs) (gD ds es)
def tKS (n m : Nat) (sp : Sp) (gV : List V → List V → List V) (E : L2.St → XK) (t tk : TA) : TE := fun σ H Q => t σ H fun vs H1 => tk σ H1 fun zs H2 => vs.length = n ∧ zs.length = m ∧ sp (gV vs zs) H2 Q (E σ)
section
variable {X : Cx} {W : WX} {k j n : Nat} {f : Addr} {fd : FuncData} {ps ks : List Str} {sp : Sp} {E : L2.St → XK} {x : Str} {p pos : Pos} {e : Expr} {es : List Expr} {kws : List Keyword} {t tk : TA} {g : List Value → List Value → List Value} {gV : List V → List V → List V} {en : List Sl} {o : XO} {ds zs : List Da} {gD : List Da → List Da → List Da} {fs : List Da → Option XO} {d : Da}
theorem run_fnKS {CX : CXT} {pins : List (Addr × Obj)} {σ : L2.St} {H : Hp} {s : Shared} {Q : VK} {us ws : List Value} {vs zs : List V} (F : FnOk X.prog X.w X.K X.mg X.base CX k f fd ps sp) (hr : Room k X.A) (hb : KBn X.K fd ps n ks g gV) (hx : PassesAt CX X σ (E σ))
    (I : Inv X pins σ H s) (r : Vals vs us) (rz : Vals zs ws) (l1 : vs.length = n) (l2 : zs.length = ks.length) (h : sp (gV vs zs) H Q (E σ)) : wpAny (model X.prog X.w) X.A (call (.ref f) us (ks.zip ws)) (EP X pins σ Q) X.xe s := by
  have r2 := hb.rel r rz
  refine wpAny_call (codeAny_mono (F.run X.A X.stack s H ⟨us, ks.zip ws⟩ (g us ws) (gV vs zs) Q (E σ) hr I.env0 (hb.to s us ws I.kIn (r.length.symm.trans l1) (rz.length.symm.trans l2)) r2 h) fun r s' hq => ?_)
  cases r with
  | error e => exact hx pins H s e s' I hq
  | ok fl =>
    cases fl with
    | ret u => exact I.after hq
    | next => exact False.elim hq
    | brk => exact False.elim hq
    | cont => exact False.elim hq
theorem pe_KS {CX : CXT} (F : FnOk X.prog X.w X.K X.mg X.base CX k f fd ps sp) (hr : Room k X.A) (hg : Gl X x) (hm : X.mg x = some (.ref f)) (hk : PySem.W.keepIn X.K (.ref f) = true) (hb : KBn X.K fd ps n ks g gV) (hx : ∀ σ, PassesAt CX X σ (E σ))
    (ha : PA X (e :: es) t) (hkw : PK X kws tk) (hall : (backToKw pos (keywordEach kws X.env)).all (·.1.isSome) = true) (hks : (backToKw pos (keywordEach kws X.env)).filterMap (·.1) = ks)
    (hdb : (x == ("__debug__" : Str)) = false) (he : starEach (e :: es) X.env = (false, eval e X.env) :: starEach es X.env)
    (hpl : ((backTo pos (starEach (e :: es) X.env)).any (·.1) || (backToKw pos (keywordEach kws X.env)).any (·.1.isNone)) = false) :
    PE X (.Call (.Name x p) (e :: es) kws pos) (tKS n ks.length sp gV E t tk) := by
  refine ⟨fun pins s σ H Q I h => ?_⟩
  refine wpAny_Call_Name_kw (ld_glob I hg hm ?_ hdb)
  refine PySem.W.callWith_KW (h₀ := X.base) I.ok.mod.kin hk hall (thn (ha.run pos pins s σ H _ I h) fun us s1 ⟨vs, H1, I1, r, q⟩ => ?_) hpl he
  refine thn (hkw.run pos pins s1 σ H1 _ I1 q) fun ws s2 ⟨zs, H2, I2, rz, l1, l2, q2⟩ => ⟨I2.kIn, ?_⟩
  rw [hks]
  exact run_fnKS F hr hb (hx σ) I2 r rz l1 l2 q2
theorem pe_KS0 {CX : CXT} (F : FnOk X.prog X.w X.K X.mg X.base CX k f fd ps sp) (hr : Room k X.A) (hg : Gl X x) (hm : X.mg x = some (.ref f)) (hk : PySem.W.keepIn X.K (.ref f) = true) (hb : KBn X.K fd ps 0 ks g gV) (hx : ∀ σ, PassesAt CX X σ (E σ))
    (hkw : PK X kws tk) (hall : (backToKw pos (keywordEach kws X.env)).all (·.1.isSome) = true) (hks : (backToKw pos (keywordEach kws X.env)).filterMap (·.1) = ks)
    (hdb : (x == ("__debug__" : Str)) = false)
    (hpl : ((backTo pos (starEach [] X.env)).any (·.1) || (backToKw pos (keywordEach kws X.env)).any (·.1.isNone)) = false) :
    PE X (.Call (.Name x p) [] kws pos) (tKS 0 ks.length sp gV E tNil tk) := by
  refine ⟨fun pins s σ H Q I h => ?_⟩
  refine wpAny_Call_Name_kw (ld_glob I hg hm ?_ hdb)
  refine PySem.W.callWith_KW0 (h₀ := X.base) I.ok.mod.kin hk hall ?_ hpl
  refine thn (hkw.run pos pins s σ H _ I h) fun ws s2 ⟨zs, H2, I2, rz, l1, l2, q2⟩ => ⟨I2.kIn, ?_⟩
  rw [hks]
  exact run_fnKS (us := []) (vs := []) F hr hb (hx σ) I2 .nil rz l1 l2 q2
structure EVK (X : Cx) (W : WX) (en : List Sl) (kws : List Keyword) (ds : List Da) : Prop where
  ex : ∃ t, PK X kws t ∧ EA X.K t en ds
theorem evk_nil : EVK X W en [] [] := ⟨_, pk_nil, ea_nil⟩
theorem evk_cons {nm : Option Str} {kp : Pos} (h : EV X W en e (.ok d)) (t : EVK X W en kws zs) : EVK X W en (⟨nm, e, kp⟩ :: kws) (d :: zs) := by
  obtain ⟨te, h1, h2⟩ := h
  obtain ⟨tr, h3, h4⟩ := t
  exact ⟨_, pk_cons h1 h3, ea_cons h2 h4⟩
theorem ex_KS (ha : EA X.K t en ds) (hk : EA X.K tk en zs) (hgd : ∀ B vs ws, DrA X.K B vs ds → DrA X.K B ws zs → vs.length = n → ws.length = ks.length → (gV vs ws).length = ps.length ∧ DrA X.K B (gV vs ws) (gD ds zs)) (l1 : ds.length = n) (l2 : zs.length = ks.length) (hf : fs (gD ds zs) = some o) :
    EX X.K W (tKS n ks.length (spD X.K ps.length fs) gV (WE W) t tk) en o := fun _ _ B H σ S Q ko =>
  ha _ _ B H σ S _ fun vs B1 H1 g1 r1 => hk _ _ B1 H1 σ (S.grow g1) _ fun ws B2 H2 g2 r2 => by
    have q1 := (r1.mono g2.b).length.trans l1
    have q2 := r2.length.trans l2
    obtain ⟨h1, h2⟩ := hgd B2 vs ws (r1.mono g2.b) r2 q1 q2
    exact ⟨q1, q2, h1, B2, _, o, g2.s, h2, hf, ko.grow (g1.trans g2)⟩
theorem ev_calK (cl : CalK X.prog X.w X.K X.mg X.base x j n ks gD fs) (Bx : Bd X W k) (hj : j ≤ k) (ha : EVA X W en (e :: es) ds) (hk : EVK X W en kws zs) (hf : fs (gD ds zs) = some o) (l1 : ds.length = n) (l2 : zs.length = ks.length) (hg : Gl X x)
    (hall : (backToKw pos (keywordEach kws X.env)).all (·.1.isSome) = true) (hks : (backToKw pos (keywordEach kws X.env)).filterMap (·.1) = ks)
    (hdb : (x == ("__debug__" : Str)) = false) (he : starEach (e :: es) X.env = (false, eval e X.env) :: starEach es X.env)
    (hpl : ((backTo pos (starEach (e :: es) X.env)).any (·.1) || (backToKw pos (keywordEach kws X.env)).any (·.1.isNone)) = false) : EV X W en (.Call (.Name x p) (e :: es) kws pos) o := by
  obtain ⟨f, fd, ps, g, gV, F, hm, hkp, hb, hgd⟩ := cl.ex
  obtain ⟨t, h1, h2⟩ := ha
  obtain ⟨tk, h3, h4⟩ := hk
  exact ⟨_, pe_KS F (Bx.rm.mono hj) hg hm hkp hb (fun σ => passAt Bx.tk σ) h1 h3 hall hks hdb he hpl, ex_KS h2 h4 (fun B vs ws r1 r2 q1 q2 => hgd B vs ws ds zs r1 r2 q1 q2) l1 l2 hf⟩
theorem ev_calK0 (cl : CalK X.prog X.w X.K X.mg X.base x j 0 ks gD fs) (Bx : Bd X W k) (hj : j ≤ k) (hk : EVK X W en kws zs) (hf : fs (gD [] zs) = some o) (l2 : zs.length = ks.length) (hg : Gl X x)
    (hall : (backToKw pos (keywordEach kws X.env)).all (·.1.isSome) = true) (hks : (backToKw pos (keywordEach kws X.env)).filterMap (·.1) = ks)
    (hdb : (x == ("__debug__" : Str)) = false)
    (hpl : ((backTo pos (starEach [] X.env)).any (·.1) || (backToKw pos (keywordEach kws X.env)).any (·.1.isNone)) = false) : EV X W en (.Call (.Name x p) [] kws pos) o := by
  obtain ⟨f, fd, ps, g, gV, F, hm, hkp, hb, hgd⟩ := cl.ex
  obtain ⟨tk, h3, h4⟩ := hk
  exact ⟨_, pe_KS0 F (Bx.rm.mono hj) hg hm hkp hb (fun σ => passAt Bx.tk σ) h3 hall hks hdb hpl, ex_KS ea_nil h4 (fun B vs ws r1 r2 q1 q2 => hgd B vs ws [] zs r1 r2 q1 q2) rfl l2 hf⟩
end
/-! defaults -/
section
variable {P : Program} {w : World} {K : PySem.W.Frag} {mg : Str → Option Value} {base : Heap} {x qual : Str} {st : Stmt} {f : Addr} {fd : FuncData} {N ps : List Str} {k : Nat} {dvs : List V} {kws : List (Str × V)}
abbrev FunDS (K : PySem.W.Frag) (x qual : Str) (st : Stmt) (dvs : List V) (kws : List (Str × V)) (f : Addr) (fd : FuncData) : Prop := FunD K x qual (defArgs st) (defBody st) (defScope st) dvs kws f fd
/-- a def by its data, whatever its defaults are -/
theorem fn_dD (F : FunDS K x qual st dvs kws f fd) (S : FnScope N ps (defScope st)) (fs : List Da → Option XO)
    (hb : ∀ (cdv : Value) (A : Around) (outer : List Env) (s : Shared) (H : Hp) (E : XK) (ds : List Da) (o : XO), Bd (XB P w K mg base N qual st f cdv A outer s H E) (WD E) k → ds.length = ps.length → fs ds = some o →
      ∃ ou, Leads ou o ∧ SVs (XB P w K mg base N qual st f cdv A outer s H E) (WD E) (slots N ds) (defBody st) ou) : FnOk P w K mg base (L2.CX P w) (k + 1) f fd ps (spD K ps.length fs) := by
  refine F.ok (CX := L2.CX P w) S (fun vs H Q E h => h.1) fun cdv A outer s H vs Q E hr h => ?_
  obtain ⟨hl, B, ds, o, eB, hA, hf, ko⟩ := h
  obtain ⟨ou, ld, t, h1, h2⟩ := hb cdv A outer s H E ds o (bd_of S hr) (hA.length.symm.trans hl) hf
  have hN : ps.length ≤ N.length := by have := congrArg List.length S.pre; rw [List.length_take] at this; omega
  refine ⟨t, h1, h2 B H B H _ ⟨Gr.refl eB, ?_, fun i j p es1 es2 q1 => (slots_no q1).elim⟩ _ ?_⟩
  · unfold L2.start slots
    rw [hA.length]
    exact paired_app (slots_sl hA) paired_rep
  · cases ld with
    | rt d => exact fun v B' H' g r => ko v B' H' g r
    | rx en C f => exact fun B' H' σ' dd S' x' => ko dd B' H' S'.gr x'
    | nx en => exact fun B' H' σ' S' => ko .non B' H' S'.gr .non
/-- keywords over a def with positional defaults alone -/
theorem FunD.kb1 (F : FunDS K x qual st dvs kws f fd) (n : Nat) (ks : List Str) (g : {α : Type} → List α → List α → List α → List α) (hd : dvs ≠ [])
    (hrel : ∀ {vs ds zs : List V} {us its ws : List Value}, Vals vs us → Vals ds its → Vals zs ws → Vals (g vs ds zs) (g us its ws))
    (h : ∀ (T : Addr) (kV doc pm : Value) (an : Option Addr) (cdv ct : Value) (us its ws : List Value), us.length = n → its.length = dvs.length → ws.length = ks.length →
      ∃ k, bindArgs (PySem.W.fnOf x qual (defArgs st) (defBody st) (defScope st) (.ref T) kV doc pm an cdv ct) ⟨us, ks.zip ws⟩ = seqItems? (.ref T) >>= k ∧ k (some its.toArray) = pure (ps.zip (g us its ws))) :
    ∃ its : List Value, KBn K fd ps n ks (fun us ws => g us its ws) (fun vs zs => g vs dvs zs) := by
  obtain ⟨oc, od, dV, kV, doc, pm, an, cdv, ct, osl, rfl, lk, hcd, hD, hK⟩ := F.ex
  rcases hD with ⟨e, _⟩ | ⟨_, T, o, its, m, rfl, lT, oT, rT⟩
  · exact absurd e hd
  · refine ⟨its, ⟨fun s us ws X l1 l2 => ?_, fun r1 r2 => hrel r1 rT r2⟩⟩
    obtain ⟨k, e1, e2⟩ := h T kV doc pm an cdv ct us its ws l1 rT.length.symm l2
    refine BindsTo.of_looks fun M => ?_
    rw [e1]
    exact looks_items X lT oT (.of_pure e2)
end
/-! ### [e for x in xs] -/
def wipeE (en : List Sl) : List Nat → List Sl
  | [] => en
  | v :: vs => (wipeE en vs).set v .no
section
variable {K : PySem.W.Frag} {W : WX} {B B' H H' H0 B0 : Hp} {σ : L2.St} {en : List Sl} {te tl : TE} {ds : List Da}
theorem Sd.wipe (S : Sd K B0 H0 B H σ en) : ∀ vs : List Nat, Sd K B0 H0 B H (wipe σ vs) (wipeE en vs)
  | [] => S
  | v :: vs => (Sd.wipe S vs).drop v none
theorem el_lc {j : Nat} (gf : Da → Da) (h : EX K W tl en (.ok (.lst ds))) (hz : ds.length ≤ 40000) (he : ∀ d, d ∈ ds → EX K (fun _ _ _ _ => False) te ((wipeE en [j]).set j (.da d)) (.ok (gf d))) : EL K (tLc (iList K tl) (gName j) tYes te [j]) en (ds.map gf) := fun B0 H0 B H σ S Q q =>
  h _ _ B H σ S _ fun v B1 H1 g1 r1 => by
    cases r1 with
    | @lst a vs _ hq t =>
      have S1 := S.grow g1
      refine ⟨a, rfl, ⟨vs, ex_l g1.s hq⟩, fun D hD => lc_list (xs := vs) (fun i H' => ∃ B' acc, Gr B1 H1 B' H' ∧ B' D = none ∧ H' D = some (.lst acc) ∧ DrA K B' acc ((ds.take i).map gf)) ⟨B1, [], Gr.newO g1.s hD, fresh_back g1.s hD, upd_same, .nil⟩ (fun i H' _ ⟨B', acc, g, _⟩ => ex_l g.s (ex_l g.b hq)) (fun i x H' hi ⟨B', acc, g, hB, hH, hA⟩ => ?_) (fun H' ⟨B', acc, g, hB, hH, hA⟩ => ?_)⟩
      · obtain ⟨d, hd⟩ : ∃ d, ds[i]? = some d := by
          have := (List.getElem?_eq_some_iff.mp hi).1
          rw [t.length] at this
          exact ⟨ds[i], List.getElem?_eq_getElem this⟩
        obtain ⟨x', hx', rx⟩ := t.get hd
        rw [hi] at hx'
        cases hx'
        have S2 := ((S1.grow g).wipe [j]).set (rx.mono g.b) j
        refine ⟨by simp only [L2.wipe, List.set_set], ?_⟩
        show te ((wipe σ [j]).set j (some x)) H' _
        refine he d (List.mem_of_getElem? hd) _ _ B' H' _ S2 _ fun y B4 H4 g4 r4 => ?_
        have h4 : H4 D = some (.lst acc) := g4.h _ _ hH
        have b4 : B4 D = none := g4.n D (by rw [hH]; exact fun z => nomatch z) hB
        have hl : i < ds.length := by
          rcases Nat.lt_or_ge i ds.length with q | q
          · exact q
          · rw [List.getElem?_eq_none q] at hd; cases hd
        refine ⟨acc, h4, ?_, B4, acc ++ [y], ⟨g.b.trans g4.b, (g.h.trans g4.h).mut hD, fun a o e => ?_, (g.trans g4).n⟩, b4, upd_same, ?_⟩
        · rw [hA.length, List.length_map, List.length_take]
          exact sz_lt (by omega)
        · rw [upd_ne (ne_of_none e b4)]
          exact g4.s a o e
        · rw [List.take_add_one, hd, List.map_append]
          exact (hA.mono g4.b).append (.cons r4 .nil)
      · rw [t.length, List.take_length] at hA
        exact q D acc B' H' (g1.trans g) (g1.back hD) hB hH hA
end
section
variable {X : Cx} {W : WX} {k : Nat} {en : List Sl} {it elt : Expr} {x : Str} {p pos : Pos} {scope : Scope} {ds : List Da} {j : Nat}
theorem evl_lc (Bx : Bd X W k) (gf : Da → Da) (hi : EV X W en it (.ok (.lst ds))) (hz : ds.length ≤ 40000) (hN2 : X.N[j]? = some x) (ok : BlkOk X.N X.env.scope scope [(x, j)])
    (hg : ∀ (s : Shared) (H : Hp) (C : Addr) (cl : List (Str × Addr)) (fp : List Addr), PG (X.blk s H scope (compEnvC scope cl C X.env) fp) (.Name x p) (gName j)) (hs : ∀ v, foldedSetIterable it X.env v = pure v)
    (he : ∀ (s : Shared) (H : Hp) (C : Addr) (cl : List (Str × Addr)) (fp : List Addr) d, d ∈ ds → EV (X.blk s H scope (compEnvC scope cl C X.env) fp) (fun _ _ _ _ => False) ((wipeE en [j]).set j (.da d)) elt (.ok (gf d))) :
    EVL X W en (.ListComp elt [⟨.Name x p, it, [], 0⟩] scope pos) (ds.map gf) := by
  obtain ⟨t, h1, h2⟩ := hi
  refine ⟨_, pe_lc (own := [(x, j)]) (g := gName j) (tt := tYes) (te := fun σ H Q => ∀ (s : Shared) (H_ : Hp) (C : Addr) (cl : List (Str × Addr)) (fp : List Addr), ∃ t, PE (X.blk s H_ scope (compEnvC scope cl C X.env) fp) elt t ∧ t σ H Q) Bx.calm Bx.nd (pi_list h1) ok hg (fun _ _ _ _ _ => pts_nil)
    (fun s H C cl fp => ⟨fun pins s' σ H' Q I hh => ?_⟩) hs, ?_⟩
  · obtain ⟨t', h3, h4⟩ := hh s H C cl fp
    exact h3.run pins s' σ H' Q I h4
  · refine el_lc gf h2 hz fun d hd => ?_
    intro B0 H0 B H σ S Q ko s H_ C cl fp
    obtain ⟨t', h3, h4⟩ := he s H_ C cl fp d hd
    exact ⟨t', h3, h4 B0 H0 B H σ S Q ko⟩
theorem bd_blk (Bx : Bd X W k) {s : Shared} {H : Hp} {cenv : Env} {fp : List Addr} (hN : (X.blk s H scope cenv fp).N.Nodup) : Bd (X.blk s H scope cenv fp) (fun _ _ _ _ => False) k := ⟨Bx.calm, takes0, PassesOwn.never, Bx.rm, hN⟩
end
theorem rc_all {K : PySem.W.Frag} {bs : List Bool} : RC K (rAll K) [.lst (bs.map .bl)] (.bl (bs.all id)) := fun B H vs e hA Q k => by
  cases hA with
  | cons h1 t =>
    cases t
    cases h1 with
    | @lst a vs _ h t =>
      have ev : vs = bs.map V.bl := by
        clear h k
        induction bs generalizing vs with
        | nil => cases t; rfl
        | cons b r ih =>
          cases t with
          | cons h t =>
            cases h
            rw [ih t]
            rfl
      subst ev
      exact ⟨a, bs, rfl, ex_l e h, k _ B H (Gr.refl e) (.bl _)⟩
end Sky
namespace Sky
open PySem L2 Evl PySem.Spec PyProof.Rows
/-! ### numbers once more -/
def tp (a b : Int) : Int := a.fdiv (gz a b)
def bt (a b : Int) : Int := b.fdiv (gz a b)
theorem lw_is (a b : Int) : lw a b = .tup [.int (tp a b), .int (bt a b)] := rfl
/-- what lowest terms are: u = z q, l = z r, r above 0, q and r without a common divisor -/
theorem gz_of {u l z q r : Int} (hz : z ≠ 0) (hu : u = z * q) (hl : l = z * r) (hr : 0 < r) (hg : Nat.gcd q.natAbs r.natAbs = 1) : gz u l = z := by
  have g : Nat.gcd u.natAbs l.natAbs = z.natAbs := by
    rw [hu, hl, Int.natAbs_mul, Int.natAbs_mul, Nat.gcd_mul_left, hg, Nat.mul_one]
  unfold gz
  rw [g]
  by_cases h : z < 0
  · have : l < 0 := by rw [hl]; exact Int.mul_neg_of_neg_of_pos h hr
    rw [if_pos this]
    omega
  · have : ¬ l < 0 := by
      have : 0 ≤ l := by rw [hl]; exact Int.mul_nonneg (by omega) (by omega)
      omega
    rw [if_neg this]
    omega
theorem lw_of {u l z q r : Int} (hz : z ≠ 0) (hu : u = z * q) (hl : l = z * r) (hr : 0 < r) (hg : Nat.gcd q.natAbs r.natAbs = 1) : tp u l = q ∧ bt u l = r := by
  have e := gz_of hz hu hl hr hg
  unfold tp bt
  rw [e, hu, hl, Int.mul_fdiv_cancel_left _ hz, Int.mul_fdiv_cancel_left _ hz]
  exact ⟨rfl, rfl⟩
theorem lw_ex (u : Int) {l : Int} (h : l ≠ 0) : ∃ z q r, z ≠ 0 ∧ u = z * q ∧ l = z * r ∧ 0 < r ∧ Nat.gcd q.natAbs r.natAbs = 1 := by
  have gp : 0 < Nat.gcd u.natAbs l.natAbs := Nat.gcd_pos_of_pos_right _ (by omega)
  have d1 : ((Nat.gcd u.natAbs l.natAbs : Nat) : Int) ∣ u := Int.ofNat_dvd_left.mpr (Nat.gcd_dvd_left _ _)
  have d2 : ((Nat.gcd u.natAbs l.natAbs : Nat) : Int) ∣ l := Int.ofNat_dvd_left.mpr (Nat.gcd_dvd_right _ _)
  obtain ⟨q, hq⟩ := d1
  obtain ⟨r, hr⟩ := d2
  have hg : Nat.gcd q.natAbs r.natAbs = 1 := by
    have e : Nat.gcd u.natAbs l.natAbs = Nat.gcd u.natAbs l.natAbs * Nat.gcd q.natAbs r.natAbs := by
      have e1 : u.natAbs = Nat.gcd u.natAbs l.natAbs * q.natAbs := by
        have := congrArg Int.natAbs hq
        rwa [Int.natAbs_mul, Int.natAbs_natCast] at this
      have e2 : l.natAbs = Nat.gcd u.natAbs l.natAbs * r.natAbs := by
        have := congrArg Int.natAbs hr
        rwa [Int.natAbs_mul, Int.natAbs_natCast] at this
      have e3 : Nat.gcd (Nat.gcd u.natAbs l.natAbs * q.natAbs) (Nat.gcd u.natAbs l.natAbs * r.natAbs) = Nat.gcd u.natAbs l.natAbs * Nat.gcd q.natAbs r.natAbs := Nat.gcd_mul_left _ _ _
      rw [← e1, ← e2] at e3
      exact e3
    exact Nat.eq_of_mul_eq_mul_left gp (by rw [Nat.mul_one]; exact e.symm)
  by_cases hs : 0 < r
  · exact ⟨_, q, r, by omega, hq, hr, hs, hg⟩
  · have hr0 : r ≠ 0 := fun z => by rw [z, Int.mul_zero] at hr; exact h hr
    refine ⟨-((Nat.gcd u.natAbs l.natAbs : Nat) : Int), -q, -r, by omega, by rw [Int.neg_mul_neg]; exact hq, by rw [Int.neg_mul_neg]; exact hr, by omega, by rw [Int.natAbs_neg, Int.natAbs_neg]; exact hg⟩
theorem lw_isW (u : Int) {l : Int} (h : l ≠ 0) : isW (tp u l) (bt u l) = true := by
  obtain ⟨z, q, r, h1, h2, h3, h4, h5⟩ := lw_ex u h
  obtain ⟨e1, e2⟩ := lw_of h1 h2 h3 h4 h5
  unfold isW
  rw [e1, e2, decide_eq_true h4, decide_eq_true h5]
  rfl
theorem natAbs_le_mul {z q : Int} (hz : z ≠ 0) : q.natAbs ≤ (z * q).natAbs := by
  rw [Int.natAbs_mul]
  exact Nat.le_mul_of_pos_left _ (by omega)
theorem tp_le (u : Int) {l : Int} (h : l ≠ 0) : (tp u l).natAbs ≤ u.natAbs := by
  obtain ⟨z, q, r, h1, h2, h3, h4, h5⟩ := lw_ex u h
  rw [(lw_of h1 h2 h3 h4 h5).1, h2]
  exact natAbs_le_mul h1
theorem bt_le (u : Int) {l : Int} (h : l ≠ 0) : (bt u l).natAbs ≤ l.natAbs := by
  obtain ⟨z, q, r, h1, h2, h3, h4, h5⟩ := lw_ex u h
  rw [(lw_of h1 h2 h3 h4 h5).2, h3]
  exact natAbs_le_mul h1
theorem lw_neg (u : Int) {l : Int} (h : l ≠ 0) : lw (0 - u) (0 - l) = lw u l := by
  obtain ⟨z, q, r, h1, h2, h3, h4, h5⟩ := lw_ex u h
  obtain ⟨e1, e2⟩ := lw_of h1 h2 h3 h4 h5
  have m1 : 0 - u = -z * q := by rw [h2, Int.neg_mul]; omega
  have m2 : 0 - l = -z * r := by rw [h3, Int.neg_mul]; omega
  obtain ⟨f1, f2⟩ := lw_of (u := 0 - u) (l := 0 - l) (z := -z) (by omega) m1 m2 h4 h5
  rw [lw_is, lw_is, e1, e2, f1, f2]
theorem lw_one (u : Int) : lw u 1 = .tup [.int u, .int 1] := by
  obtain ⟨e1, e2⟩ := lw_of (u := u) (l := 1) (z := 1) (q := u) (r := 1) (by decide) (by omega) (by omega) (by decide) (Nat.gcd_one_right _)
  rw [lw_is, e1, e2]
theorem lw_self {a b : Int} (h : isW a b = true) : lw a b = .tup [.int a, .int b] := by
  have hp := isW_pos h
  have hg : Nat.gcd a.natAbs b.natAbs = 1 := of_decide_eq_true (Bool.and_eq_true_iff.mp h).2
  obtain ⟨e1, e2⟩ := lw_of (u := a) (l := b) (z := 1) (q := a) (r := b) (by decide) (by omega) (by omega) hp hg
  rw [lw_is, e1, e2]
/-! equality of equal data -/
theorem deq_self {d : Da} (h : Cmp d) : deq d d = true := by
  have h1 := h.2
  unfold SeqAt.shaped at h1
  exact SeqAt.eqv_refl _ (Bool.and_eq_true_iff.mp h1).1
theorem eqv_ints : ∀ {xs ys : List Int}, PyData.eqvAll (pyA (xs.map .int)) (pyA (ys.map .int)) = decide (xs = ys)
  | [], [] => rfl
  | [], _ :: _ => rfl
  | _ :: _, [] => rfl
  | x :: xs, y :: ys => by
    show (PyData.eqv (.int x) (.int y) && PyData.eqvAll (pyA (xs.map .int)) (pyA (ys.map .int))) = _
    rw [eqv_ints]
    show ((x == y) && decide (xs = ys)) = decide (x :: xs = y :: ys)
    by_cases h : x = y
    · subst h
      simp
    · simp [h]
end Sky
namespace Sky
open PySem L2 Evl PySem.Spec PyProof.Rows
def fByN : List Da → Option XO
  | [.tup [.int a, .int b]] => if isW a b = true ∧ Bn a ∧ Bn b then some (.ok (.bl true)) else none
  | _ => none
theorem fByN_inv {ds : List Da} {o : XO} (h : fByN ds = some o) : ∃ a b, ds = [.tup [.int a, .int b]] ∧ isW a b = true ∧ Bn a ∧ Bn b ∧ o = .ok (.bl true) := by
  unfold fByN at h
  split at h
  · split at h
    · rename_i hh
      exact ⟨_, _, rfl, hh.1, hh.2.1, hh.2.2, (Option.some.inj h).symm⟩
    · cases h
  · cases h
theorem fByN_ok {a b : Int} (h1 : isW a b = true) (h2 : Bn a) (h3 : Bn b) : fByN ([.tup [.int a, .int b]] ++ []) = some (.ok (.bl true)) := if_pos ⟨h1, h2, h3⟩
/-- an item at an open place of a short list -/
theorem at_ints {ns : List Int} {i : Int} (h0 : 0 ≤ i) (h1 : i < ns.length) : atI (ns.map Da.int) i = some (.int (ns.getD i.toNat 0)) := by
  unfold atI ixN
  rw [if_pos h0, List.length_map, if_pos h1]
  show (ns.map Da.int)[i.toNat]? = _
  rw [List.getElem?_map, List.getD_eq_getElem?_getD, List.getElem?_eq_getElem (by omega)]
  rfl
theorem at_nat {ds : List Da} {k : Nat} {d : Da} (h : ds[k]? = some d) : atI ds (k : Int) = some d := by
  have hk : k < ds.length := by
    rcases Nat.lt_or_ge k ds.length with q | q
    · exact q
    · rw [List.getElem?_eq_none q] at h; cases h
  unfold atI ixN
  rw [if_pos (by omega), if_pos (by omega)]
  simpa using h
theorem at_last {ds : List Da} {d : Da} : atI (ds ++ [d]) (-1) = some d := by
  unfold atI ixN
  rw [if_neg (by decide), if_pos (by rw [List.length_append]; show -((ds.length + 1 : Nat) : Int) ≤ -1; omega)]
  show (ds ++ [d])[(-1 + ((ds ++ [d]).length : Int)).toNat]? = _
  have e : (-1 + ((ds ++ [d]).length : Int)).toNat = ds.length := by
    rw [List.length_append]
    show (-1 + ((ds.length + 1 : Nat) : Int)).toNat = _
    omega
  rw [e]
  simp
end Sky
namespace Sky
open PySem L2 Evl PySem.Spec PyProof.Rows
theorem kit_refT {K : PySem.W.Frag} {C : Addr} {t : Value} (h2 : PySem.W.hasDictIn K C = true) (h3 : PySem.W.typeIn K (.ref C) = some (.type "type")) (h : PySem.W.subIn K t (.ref C) = some true) : PySem.W.kitOne K t (.ref C) = some true := by
  obtain ⟨cd, hc, _⟩ := PySem.W.any_some h2
  have e2 : ((PySem.W.clsIn K C).isSome && PySem.W.typeIn K (.ref C) == some (.type "type")) = true := by rw [hc, h3] <;> rfl
  unfold PySem.W.kitOne
  split
  · rfl
  · show (if _ = true then _ else _) = _
    rw [if_pos e2]
    exact h
theorem kit_tyT {K : PySem.W.Frag} {T : String} {t : Value} (h2 : PySem.W.kitMeta T = true) (h : PySem.W.subIn K t (.type T) = some true) : PySem.W.kitOne K t (.type T) = some true := by
  unfold PySem.W.kitOne
  split
  · rfl
  · show (if _ = true then _ else _) = _
    rw [if_pos h2]
    exact h
end Sky
namespace Sky
open PySem L2 Evl PySem.Spec PyProof.Rows
/-! ### for i, x in enumerate(xs) -/
section
variable {K : PySem.W.Frag} {W : WX} {en : List Sl} {tx : TA} {tbd : TS} {ds : List Da} {o : Out} {j1 j2 m : Nat}
theorem en_turn {B0 H0 B H : Hp} {σ : L2.St} {F : List Sl} (S : Sd K B0 H0 B H σ F) {T : Addr} {x : V} {d : Da} {i : Nat} (hT : H T = none) (r : Dr K B x d) {Q : L2.St → Hp → Prop}
    (k : ∀ σ' , Sd K B0 H0 (upd B T (.tup [.int (i : Nat), x])) (upd H T (.tup [.int (i : Nat), x])) σ' ((F.set j1 (.da (.int (i : Nat)))).set j2 (.da d)) → Q σ' (upd H T (.tup [.int (i : Nat), x]))) :
    gTup K 2 (gNames [j1, j2]) (.ref T) σ (upd H T (.tup [.int (i : Nat), x])) Q := by
  have g := Gr.new (o := .tup [.int (i : Nat), x]) S.eb hT
  have S2 := S.grow g
  exact ⟨_, _, rfl, st_of upd_same, rfl, gn_set (is := [j1, j2]) (ds := [.int (i : Nat), d]) S2 (.cons (.int _) (.cons (r.mono g.b) .nil)) rfl fun σ' S' => k σ' S'⟩
theorem st_forE (F : Nat → List Sl) (h : EA K tx en [.lst ds]) (h0 : F 0 = en) (ht : ∀ i d, ds[i]? = some d → ST K W tbd (((F i).set j1 (.da (.int (i : Nat)))).set j2 (.da d)) (.nx (F (i + 1)))) : ST K W (tFor (iEnum K tx) (gTup K 2 (gNames [j1, j2])) tbd) en (.nx (F ds.length)) := fun B0 H0 B H σ S D k =>
  h _ _ B H σ S _ fun vs B1 H1 g r => by
    cases r with
    | cons r r2 =>
      cases r2
      cases r with
      | @lst a xs _ hq t =>
        have S1 := S.grow g
        refine ⟨a, xs, rfl, ex_l g.s hq, for_it (walk_enum (a := a) (xs := xs)) (fun i σ' H' => ∃ B', Sd K B1 H0 B' H' σ' (F i)) ⟨B1, by rw [h0]; exact S1.rebase⟩ (fun i σ' H' _ ⟨B', S'⟩ => ex_l (S'.gr.b.trans S'.gr.s) hq) (fun i v σ' H' H2 hi ⟨B', S'⟩ y => ?_) (fun σ' H' ⟨B', S'⟩ => ?_)⟩
        · obtain ⟨T, x, z, rfl, hT, rfl, e1, hx⟩ := y
          cases e1
          obtain ⟨d, hd⟩ : ∃ d, ds[i]? = some d := by
            rw [t.length] at hi
            exact ⟨ds[i], List.getElem?_eq_getElem hi⟩
          obtain ⟨x', hx', rx⟩ := t.get hd
          have hx : xs[i]? = some z := hx
          rw [hx] at hx'
          cases hx'
          exact en_turn S' hT (rx.mono S'.gr.b) fun σ2 S2 => ht i d hd B1 H0 _ _ _ S2 _ fun B3 H3 σ3 S3 => ⟨B3, S3⟩
        · rw [t.length] at S'
          exact k B' H' σ' (S'.base S1.gr)
theorem st_forEX {d : Da} (F : Nat → List Sl) (h : EA K tx en [.lst ds]) (h0 : F 0 = en) (ht : ∀ i d, i < m → ds[i]? = some d → ST K W tbd (((F i).set j1 (.da (.int (i : Nat)))).set j2 (.da d)) (.nx (F (i + 1)))) (hm : ds[m]? = some d)
    (hx : ST K W tbd (((F m).set j1 (.da (.int (m : Nat)))).set j2 (.da d)) o) (ho : ∃ d', o = .rt d' ∨ ∃ e C f, o = .rx e C f) : ST K W (tFor (iEnum K tx) (gTup K 2 (gNames [j1, j2])) tbd) en o := fun B0 H0 B H σ S D k =>
  h _ _ B H σ S _ fun vs B1 H1 g r => by
    cases r with
    | cons r r2 =>
      cases r2
      cases r with
      | @lst a xs _ hq t =>
        have S1 := S.grow g
        have hml : m < ds.length := (List.getElem?_eq_some_iff.mp hm).1
        refine ⟨a, xs, rfl, ex_l g.s hq, for_it (walk_enum (a := a) (xs := xs)) (fun i σ' H' => i ≤ m ∧ ∃ B', Sd K B1 H0 B' H' σ' (F i)) ⟨Nat.zero_le _, B1, by rw [h0]; exact S1.rebase⟩ (fun i σ' H' _ ⟨_, B', S'⟩ => ex_l (S'.gr.b.trans S'.gr.s) hq) (fun i v σ' H' H2 hi ⟨him, B', S'⟩ y => ?_) (fun σ' H' ⟨him, B', S'⟩ => ?_)⟩
        · obtain ⟨T, x, z, rfl, hT, rfl, e1, hx'⟩ := y
          cases e1
          obtain ⟨d2, hd⟩ : ∃ d, ds[i]? = some d := by
            rw [t.length] at hi
            exact ⟨ds[i], List.getElem?_eq_getElem hi⟩
          obtain ⟨x', hx2, rx⟩ := t.get hd
          have hx' : xs[i]? = some z := hx'
          rw [hx'] at hx2
          cases hx2
          rcases Nat.lt_or_ge i m with hlt | hge
          · exact en_turn S' hT (rx.mono S'.gr.b) fun σ2 S2 => ht i d2 hlt hd B1 H0 _ _ _ S2 _ fun B3 H3 σ3 S3 => ⟨hlt, B3, S3⟩
          · have e : i = m := by omega
            subst e
            rw [hm] at hd
            cases hd
            refine en_turn S' hT (rx.mono S'.gr.b) fun σ2 S2 => hx B1 H0 _ _ _ S2 _ ?_
            obtain ⟨d', rfl | ⟨e, C, f, rfl⟩⟩ := ho
            · exact fun v B2 H2 g2 r2 => k v B2 H2 (S1.gr.base g2) r2
            · exact fun B2 H2 σ2 dd S2 x2 => k B2 H2 σ2 dd (S2.base S1.gr) x2
        · rw [t.length] at him
          omega
end
section
variable {X : Cx} {W : WX} {k : Nat} {en : List Sl} {e : Expr} {ds : List Da} {ou : Out} {x y : Str} {p q1 q2 p1 p2 tp pos : Pos} {q : Nat} {ss : List Stmt} {j1 j2 m : Nat}
theorem sv_forE (Bx : Bd X W k) (F : Nat → List Sl) (hm0 : X.mg "enumerate" = none) (hg : Gl X "enumerate") (hi : EV X W en e (.ok (.lst ds))) (h0 : F 0 = en) (hgn : GN X [.Name x p1, .Name y p2] [j1, j2])
    (hn : (assignEach [.Name x p1, .Name y p2] X.env).length = 2) (hst : (assignEach [.Name x p1, .Name y p2] X.env).findIdx? (·.1) = none) (hs : starEach [e] X.env = [(false, eval e X.env)])
    (ht : ∀ i d, ds[i]? = some d → SVs X W (((F i).set j1 (.da (.int (i : Nat)))).set j2 (.da d)) ss (.nx (F (i + 1)))) : SV X W en (.For (.Tuple [.Name x p1, .Name y p2] q tp) (.Call (.Name "enumerate" q1) [e] [] q2) ss [] pos) (.nx (F ds.length)) := by
  obtain ⟨t, h1, h2⟩ := hi
  exact ⟨_, ps_for Bx.own Bx.calm (pi_enum hg hm0 (pa_cons h1 pa_nil hs) hs) (pg_tup Bx.calm hgn hn hst) pss_U, st_forE F (ea_cons (W := W) h2 ea_nil) h0 fun i d hd => (ht i d hd).U⟩
theorem sv_forEX {d : Da} (Bx : Bd X W k) (F : Nat → List Sl) (hm0 : X.mg "enumerate" = none) (hg : Gl X "enumerate") (hi : EV X W en e (.ok (.lst ds))) (h0 : F 0 = en) (hgn : GN X [.Name x p1, .Name y p2] [j1, j2])
    (hn : (assignEach [.Name x p1, .Name y p2] X.env).length = 2) (hst : (assignEach [.Name x p1, .Name y p2] X.env).findIdx? (·.1) = none) (hs : starEach [e] X.env = [(false, eval e X.env)])
    (ht : ∀ i d, i < m → ds[i]? = some d → SVs X W (((F i).set j1 (.da (.int (i : Nat)))).set j2 (.da d)) ss (.nx (F (i + 1)))) (hm : ds[m]? = some d) (hx : SVs X W (((F m).set j1 (.da (.int (m : Nat)))).set j2 (.da d)) ss ou) (ho : ∃ d', ou = .rt d' ∨ ∃ e C f, ou = .rx e C f) :
    SV X W en (.For (.Tuple [.Name x p1, .Name y p2] q tp) (.Call (.Name "enumerate" q1) [e] [] q2) ss [] pos) ou := by
  obtain ⟨t, h1, h2⟩ := hi
  exact ⟨_, ps_for Bx.own Bx.calm (pi_enum hg hm0 (pa_cons h1 pa_nil hs) hs) (pg_tup Bx.calm hgn hn hst) pss_U, st_forEX F (ea_cons (W := W) h2 ea_nil) h0 (fun i d hi hd => (ht i d hi hd).U) hm hx.U ho⟩
end
end Sky
namespace Sky
open PySem L2 Evl PySem.Spec PyProof.Rows
/-! ### comprehensions over any walk of data -/
def outs (p : Nat → Bool) (gf : Nat → Da) (n : Nat) : List Da := (List.range n).filterMap fun k => if p k then some (gf k) else none
theorem outs_succ (p : Nat → Bool) (gf : Nat → Da) (n : Nat) : outs p gf (n + 1) = outs p gf n ++ (if p n then [gf n] else []) := by
  unfold outs
  rw [List.range_succ, List.filterMap_append]
  cases h : p n <;> simp [h]
theorem outs_len (p : Nat → Bool) (gf : Nat → Da) (n : Nat) : (outs p gf n).length ≤ n := by
  unfold outs
  have := List.length_filterMap_le (fun k => if p k then some (gf k) else none) (List.range n)
  rwa [List.length_range] at this
/-- walked at en, turn i leaves E i -/
def Wlk (K : PySem.W.Frag) (wi : TI) (g : TG) (vs : List Nat) (en : List Sl) (n : Nat) (E : Nat → List Sl) : Prop :=
  ∀ B0 H0 B H σ, Sd K B0 H0 B H σ en → ∀ R : It → Hp → Prop,
    (∀ J B1 H1 G Y, Gr B H B1 H1 → Walk J n G Y → (∀ B2 H2, Gr B1 H1 B2 H2 → G H2) →
      (∀ B2 H2 i x H3, Gr B1 H1 B2 H2 → Sd K B0 H0 B2 H2 (wipe σ vs) (wipeE en vs) → i < n → Y i H2 x H3 → ∀ Q : L2.St → Hp → Prop, (∀ σ2 B3, Gr B2 H2 B3 H3 → Sd K B0 H0 B3 H3 σ2 (E i) → wipe σ2 vs = wipe σ vs → Q σ2 H3) → g x (wipe σ vs) H3 Q) → R J H1) → wi σ H R
section
variable {K : PySem.W.Frag} {en : List Sl} {wi : TI} {g : TG} {tt : TT} {te tl : TE} {ta : TA} {vs : List Nat} {n : Nat} {E : Nat → List Sl} {p : Nat → Bool} {gf : Nat → Da} {ds es : List Da} {W : WX}
theorem el_lcG (hw : Wlk K wi g vs en n E) (hz : n ≤ 40000) (ht : ∀ i, i < n → ET K tt (E i) (p i)) (he : ∀ i, i < n → p i = true → EX K (fun _ _ _ _ => False) te (E i) (.ok (gf i))) : EL K (tLc wi g tt te vs) en (outs p gf n) := fun B0 H0 B H σ S Q q =>
  hw B0 H0 B H σ S _ fun J B1 H1 G Y g1 wk hG hY => fun D hD => by
    have S1 := S.grow g1
    refine lc_it wk (fun i H' => ∃ B' acc, Gr B1 H1 B' H' ∧ B' D = none ∧ H' D = some (.lst acc) ∧ DrA K B' acc (outs p gf i)) ⟨B1, [], Gr.newO g1.s hD, fresh_back g1.s hD, upd_same, .nil⟩ (fun i H' _ ⟨B', acc, g, _⟩ => hG B' H' g) (fun i x H' H3 hi ⟨B', acc, gg, hB, hH, hA⟩ y => ?_) (fun H' ⟨B', acc, gg, hB, hH, hA⟩ => q D acc B' H' (g1.trans gg) (g1.back hD) hB hH hA)
    refine hY B' H' i x H3 gg ((S1.grow gg).wipe vs) hi y _ fun σ2 B3 g3 S3 ew => ⟨ew, ?_⟩
    refine ht i hi _ _ B3 H3 σ2 S3 _ fun B4 H4 g4 => ?_
    have g34 := g3.trans g4
    have keep : ∀ {B5 H5}, Gr B' H' B5 H5 → H5 D = some (.lst acc) ∧ B5 D = none := fun {B5 H5} z => ⟨z.h _ _ hH, z.n D (by rw [hH]; exact fun z => nomatch z) hB⟩
    cases hp : p i with
    | false =>
      rw [if_neg Bool.false_ne_true]
      refine ⟨B4, acc, gg.trans g34, (keep g34).2, (keep g34).1, ?_⟩
      rw [outs_succ, hp]
      simpa using hA.mono g34.b
    | true =>
      rw [if_pos rfl]
      refine he i hi hp _ _ B4 H4 σ2 (S3.grow g4) _ fun y B5 H5 g5 r5 => ?_
      have g35 := g34.trans g5
      obtain ⟨h5, b5⟩ := keep g35
      refine ⟨acc, h5, ?_, B5, acc ++ [y], ⟨gg.b.trans g35.b, (gg.h.trans g35.h).mut hD, fun a o e => ?_, (gg.trans g35).n⟩, b5, upd_same, ?_⟩
      · rw [hA.length]
        have := outs_len p gf i
        exact sz_lt (by omega)
      · rw [upd_ne (ne_of_none e b5)]
        exact g35.s a o e
      · rw [outs_succ, hp]
        exact (hA.mono g35.b).append (.cons r5 .nil)
theorem wlk_list {j : Nat} (h : EX K W tl en (.ok (.lst ds))) : Wlk K (iList K tl) (gName j) [j] en ds.length (fun i => (wipeE en [j]).set j (.da (ds.getD i .non))) := fun B0 H0 B H σ S R k =>
  h _ _ B H σ S _ fun v B1 H1 g1 r1 => by
    cases r1 with
    | @lst a xs _ hq t =>
      refine ⟨a, rfl, ⟨xs, ex_l g1.s hq⟩, k (Itl K a) B1 H1 (fun H => SqL K H a xs) (YAt xs) g1 (by rw [← t.length]; exact walk_list) (fun B2 H2 g => ex_l (g.b.trans g.s) hq) fun B2 H2 i x H3 g S2 hi y Q q => ?_⟩
      obtain ⟨rfl, hx⟩ := y
      obtain ⟨x', hx', rx⟩ := t.get (List.getElem?_eq_getElem hi)
      rw [hx] at hx'
      cases hx'
      have e : ds.getD i .non = ds[i] := by rw [List.getD_eq_getElem?_getD, List.getElem?_eq_getElem hi]; rfl
      refine q _ B2 (Gr.refl g.s) (by show Sd _ _ _ _ _ _ (List.set _ j (.da (ds.getD i .non))); rw [e]; exact S2.set (rx.mono g.b) j) (by simp only [L2.wipe, List.set_set])
theorem wlk_tup {j : Nat} (h : EX K W tl en (.ok (.tup ds))) : Wlk K (iTup K tl) (gName j) [j] en ds.length (fun i => (wipeE en [j]).set j (.da (ds.getD i .non))) := fun B0 H0 B H σ S R k =>
  h _ _ B H σ S _ fun v B1 H1 g1 r1 => by
    cases r1 with
    | @tup a xs _ hq t =>
      refine ⟨a, rfl, ⟨xs, ex_t g1.s hq⟩, k (Itt K a) B1 H1 (fun H => SqT K H a xs) (YAt xs) g1 (by rw [← t.length]; exact walk_tup) (fun B2 H2 g => ex_t (g.b.trans g.s) hq) fun B2 H2 i x H3 g S2 hi y Q q => ?_⟩
      obtain ⟨rfl, hx⟩ := y
      obtain ⟨x', hx', rx⟩ := t.get (List.getElem?_eq_getElem hi)
      rw [hx] at hx'
      cases hx'
      have e : ds.getD i .non = ds[i] := by rw [List.getD_eq_getElem?_getD, List.getElem?_eq_getElem hi]; rfl
      refine q _ B2 (Gr.refl g.s) (by show Sd _ _ _ _ _ _ (List.set _ j (.da (ds.getD i .non))); rw [e]; exact S2.set (rx.mono g.b) j) (by simp only [L2.wipe, List.set_set])
theorem wlk_range {j : Nat} (h : EA K ta en [.int (n : Int)]) (hn : n ≤ 100000) : Wlk K (iRng1 ta) (gName j) [j] en n (fun i => (wipeE en [j]).set j (.da (.int (i : Int)))) := fun B0 H0 B H σ S R k =>
  h _ _ B H σ S _ fun vs B1 H1 g1 r1 => by
    cases r1 with
    | cons r r2 =>
      cases r2
      cases r
      refine ⟨n, rfl, by omega, by omega, ?_⟩
      rw [Int.toNat_natCast]
      refine k (Itr 0 n) B1 H1 (fun _ => True) _ g1 walk_range (fun _ _ _ => trivial) fun B2 H2 i x H3 g S2 hi y Q q => ?_
      obtain ⟨rfl, rfl⟩ := y
      have e0 : (0 : Int) + (i : Int) = (i : Int) := Int.zero_add _
      show gName j (.int ((0 : Int) + (i : Int))) _ _ _
      rw [e0]
      exact q _ B2 (Gr.refl g.s) (S2.set (.int _) j) (by simp only [L2.wipe, List.set_set])
theorem wlk_zip {j1 j2 : Nat} (hj : j1 ≠ j2) (h : EA K ta en [.lst ds, .lst es]) (hl : ds.length = es.length) : Wlk K (iZip K ta) (gTup K 2 (gNames [j1, j2])) [j1, j2] en ds.length (fun i => ((wipeE en [j1, j2]).set j1 (.da (ds.getD i .non))).set j2 (.da (es.getD i .non))) := fun B0 H0 B H σ S R k =>
  h _ _ B H σ S _ fun vs B1 H1 g1 r1 => by
    cases r1 with
    | cons r r2 =>
      cases r2 with
      | cons r2 r3 =>
        cases r3
        cases r with
        | @lst a xs _ hq t =>
          cases r2 with
          | @lst b ys _ hq2 t2 =>
            have l1 := t.length
            have l2 := t2.length
            refine ⟨a, b, xs, ys, rfl, ex_l g1.s hq, ex_l g1.s hq2, k (Itz K a b) B1 H1 (fun H => SqL K H a xs ∧ SqL K H b ys) _ g1 (walk_zip (n := ds.length) (by omega)) (fun B2 H2 g => ⟨ex_l (g.b.trans g.s) hq, ex_l (g.b.trans g.s) hq2⟩) fun B2 H2 i x H3 g S2 hi y Q q => ?_⟩
            obtain ⟨T, x1, x2, rfl, hT, rfl, hx, hy⟩ := y
            have hx : xs[i]? = some x1 := hx
            have hy : ys[i]? = some x2 := hy
            have hi2 : i < es.length := by omega
            obtain ⟨x', hx', rx⟩ := t.get (List.getElem?_eq_getElem hi)
            rw [hx] at hx'
            cases hx'
            obtain ⟨y', hy', ry⟩ := t2.get (List.getElem?_eq_getElem hi2)
            rw [hy] at hy'
            cases hy'
            have e : ds.getD i .non = ds[i] := by rw [List.getD_eq_getElem?_getD, List.getElem?_eq_getElem hi]; rfl
            have e2 : es.getD i .non = es[i] := by rw [List.getD_eq_getElem?_getD, List.getElem?_eq_getElem hi2]; rfl
            have gn := Gr.new (o := .tup [x1, x2]) g.s hT
            refine ⟨_, _, rfl, st_of upd_same, rfl, ?_⟩
            have S3 := S2.grow gn
            refine ⟨_, _, rfl, ?_⟩
            refine ⟨_, _, rfl, rfl, q _ _ gn (by show Sd _ _ _ _ _ _ ((List.set _ j1 (.da (ds.getD i .non))).set j2 (.da (es.getD i .non))); rw [e, e2]; exact (S3.set (rx.mono (g.b.trans gn.b)) j1).set (ry.mono (g.b.trans gn.b)) j2) ?_⟩
            have fin : ∀ (τ : L2.St), (((((τ.set j2 none).set j1 none).set j1 (some x1)).set j2 (some x2)).set j2 none).set j1 none = (τ.set j2 none).set j1 none := fun τ => by
              rw [List.set_set, List.set_set]
              apply List.ext_getElem?
              intro q
              simp only [List.getElem?_set, List.length_set]
              by_cases h1 : j1 = q
              · simp [h1]
              · by_cases h2 : j2 = q
                · simp [h1, h2]
                · simp [h1, h2]
            exact fin σ
end
/-- a comprehension by its reading -/
structure LcB (X : Cx) (en : List Sl) (tg iter elt : Expr) (ifs : List Expr) (scope : Scope) (own : List (Str × Nat)) (out : List Da) : Prop where
  ex : ∃ wi g tt te, PI X tg iter wi ∧ BlkOk X.N X.env.scope scope own ∧ (∀ (s : Shared) (H : Hp) (C : Addr) (cl : List (Str × Addr)) (fp : List Addr), PG (X.blk s H scope (compEnvC scope cl C X.env) fp) tg g) ∧ (∀ (s : Shared) (H : Hp) (C : Addr) (cl : List (Str × Addr)) (fp : List Addr), PTs (X.blk s H scope (compEnvC scope cl C X.env) fp) ifs tt) ∧
    (∀ (s : Shared) (H : Hp) (C : Addr) (cl : List (Str × Addr)) (fp : List Addr), PE (X.blk s H scope (compEnvC scope cl C X.env) fp) elt te) ∧ EL X.K (tLc wi g tt te (own.map (·.2))) en out
section
variable {X : Cx} {W : WX} {k n m : Nat} {en e1 : List Sl} {it it2 elt c a tg : Expr} {ifs : List Expr} {x y : Str} {p p0 q1 q2 pos spos py p1 p2 tp : Pos} {scope : Scope} {own : List (Str × Nat)} {ds es out : List Da} {j j1 j2 : Nat} {gf : Nat → Da} {pp : Nat → Bool}
theorem evl_lcB (Bx : Bd X W k) (L : LcB X en tg it elt ifs scope own out) (hs : ∀ v, foldedSetIterable it X.env v = pure v) : EVL X W en (.ListComp elt [⟨tg, it, ifs, 0⟩] scope pos) out := by
  obtain ⟨wi, g, tt, te, h1, h2, h3, h4, h5, h6⟩ := L
  exact ⟨_, pe_lc Bx.calm Bx.nd h1 h2 h3 h4 h5 hs, h6⟩
/-- name = [..] -/
theorem sv_setLc (Bx : Bd X W k) (L : LcB X en tg it elt ifs scope own out) (hs : ∀ v, foldedSetIterable it X.env v = pure v) (hy : X.N[n]? = some y) (hyl : X.env.scope.names.lookup y = some .local) (hsw : swapsWith (.ListComp elt [⟨tg, it, ifs, 0⟩] scope pos) (some (.Name y py)) spos.line X.env = pure true) (hq : en.set n (.own out) = e1) :
    SV X W en (.Assign [.Name y py] (.ListComp elt [⟨tg, it, ifs, 0⟩] scope pos) spos) (.nx e1) := by
  subst hq
  obtain ⟨wi, g, tt, te, h1, h2, h3, h4, h5, h6⟩ := L
  exact ⟨_, ps_setLc Bx.calm Bx.nd hy hyl hsw h1 h2 h3 h4 h5 hs, st_asgL h6⟩
theorem lcb_mk {wi : TI} {g : TG} {E : Nat → List Sl} (hi : PI X tg it wi) (ok : BlkOk X.N X.env.scope scope own) (hg : ∀ (s : Shared) (H : Hp) (C : Addr) (cl : List (Str × Addr)) (fp : List Addr), PG (X.blk s H scope (compEnvC scope cl C X.env) fp) tg g) (hw : Wlk X.K wi g (own.map (·.2)) en n E) (hz : n ≤ 40000)
    (he : ∀ (s : Shared) (H : Hp) (C : Addr) (cl : List (Str × Addr)) (fp : List Addr) i, i < n → EV (X.blk s H scope (compEnvC scope cl C X.env) fp) (fun _ _ _ _ => False) (E i) elt (.ok (gf i))) : LcB X en tg it elt [] scope own (outs (fun _ => true) gf n) :=
  ⟨wi, g, tYes, fun σ H Q => ∀ (s : Shared) (H_ : Hp) (C : Addr) (cl : List (Str × Addr)) (fp : List Addr), ∃ t, PE (X.blk s H_ scope (compEnvC scope cl C X.env) fp) elt t ∧ t σ H Q, hi, ok, hg, fun _ _ _ _ _ => pts_nil,
    fun s H C cl fp => ⟨fun pins s' σ H' Q I hh => by obtain ⟨t', h3, h4⟩ := hh s H C cl fp; exact h3.run pins s' σ H' Q I h4⟩,
    el_lcG hw hz (fun i hi B0 H0 B H σ S Q k => k B H (Gr.refl S.eb)) (fun i hi _ B0 H0 B H σ S Q ko s H_ C cl fp => by obtain ⟨t', h3, h4⟩ := he s H_ C cl fp i hi; exact ⟨t', h3, h4 B0 H0 B H σ S Q ko⟩)⟩
theorem lcb_if {wi : TI} {g : TG} {E : Nat → List Sl} (hi : PI X tg it wi) (ok : BlkOk X.N X.env.scope scope own) (hg : ∀ (s : Shared) (H : Hp) (C : Addr) (cl : List (Str × Addr)) (fp : List Addr), PG (X.blk s H scope (compEnvC scope cl C X.env) fp) tg g) (hw : Wlk X.K wi g (own.map (·.2)) en n E) (hz : n ≤ 40000)
    (hc : ∀ (s : Shared) (H : Hp) (C : Addr) (cl : List (Str × Addr)) (fp : List Addr) i, i < n → EVT (X.blk s H scope (compEnvC scope cl C X.env) fp) (fun _ _ _ _ => False) (E i) c (pp i))
    (he : ∀ (s : Shared) (H : Hp) (C : Addr) (cl : List (Str × Addr)) (fp : List Addr) i, i < n → pp i = true → EV (X.blk s H scope (compEnvC scope cl C X.env) fp) (fun _ _ _ _ => False) (E i) elt (.ok (gf i))) : LcB X en tg it elt [c] scope own (outs pp gf n) :=
  ⟨wi, g, fun σ H Q => ∀ (s : Shared) (H_ : Hp) (C : Addr) (cl : List (Str × Addr)) (fp : List Addr), ∃ t, PT (X.blk s H_ scope (compEnvC scope cl C X.env) fp) c t ∧ t σ H Q, fun σ H Q => ∀ (s : Shared) (H_ : Hp) (C : Addr) (cl : List (Str × Addr)) (fp : List Addr), ∃ t, PE (X.blk s H_ scope (compEnvC scope cl C X.env) fp) elt t ∧ t σ H Q, hi, ok, hg,
    fun s H C cl fp => pts_one ⟨fun pins s' σ H' Q I hh => by obtain ⟨t', h3, h4⟩ := hh s H C cl fp; exact h3.run pins s' σ H' Q I h4⟩,
    fun s H C cl fp => ⟨fun pins s' σ H' Q I hh => by obtain ⟨t', h3, h4⟩ := hh s H C cl fp; exact h3.run pins s' σ H' Q I h4⟩,
    el_lcG hw hz (fun i hi B0 H0 B H σ S Q ko s H_ C cl fp => by obtain ⟨t', h3, h4⟩ := hc s H_ C cl fp i hi; exact ⟨t', h3, h4 B0 H0 B H σ S Q ko⟩) (fun i hi hp B0 H0 B H σ S Q ko s H_ C cl fp => by obtain ⟨t', h3, h4⟩ := he s H_ C cl fp i hi hp; exact ⟨t', h3, h4 B0 H0 B H σ S Q ko⟩)⟩
end
theorem outs_all {gf : Nat → Da} {n : Nat} {ds : List Da} (h : ds.length = n) (e : ∀ i, i < n → ds[i]? = some (gf i)) : outs (fun _ => true) gf n = ds := by
  unfold outs
  refine List.ext_getElem? fun i => ?_
  have : (List.range n).filterMap (fun k => if (fun _ => true) k = true then some (gf k) else none) = (List.range n).map gf := by
    rw [← List.filterMap_eq_map]
    rfl
  rw [this, List.getElem?_map]
  rcases Nat.lt_or_ge i n with q | q
  · rw [List.getElem?_range q, e i q]
    rfl
  · rw [List.getElem?_eq_none (by rw [List.length_range]; exact q), List.getElem?_eq_none (by omega)]
    rfl
end Sky
namespace Sky
open PySem L2 Evl PySem.Spec PyProof.Rows
section
variable {X : Cx} {W : WX} {k n m : Nat} {en e1 : List Sl} {it elt c a a2 : Expr} {x y x2 : Str} {p p0 q1 q2 pos spos py p1 p2 tp : Pos} {q : Nat} {scope : Scope} {ds es out : List Da} {j j2 : Nat} {gf : Nat → Da} {pp : Nat → Bool}
abbrev BlkPG (X : Cx) (scope : Scope) (tg : Expr) (g : TG) : Prop := ∀ (s : Shared) (H : Hp) (C : Addr) (cl : List (Str × Addr)) (fp : List Addr), PG (X.blk s H scope (compEnvC scope cl C X.env) fp) tg g
abbrev BlkEV (X : Cx) (scope : Scope) (n : Nat) (pp : Nat → Bool) (E : Nat → List Sl) (elt : Expr) (gf : Nat → Da) : Prop := ∀ (s : Shared) (H : Hp) (C : Addr) (cl : List (Str × Addr)) (fp : List Addr) i, i < n → pp i = true → EV (X.blk s H scope (compEnvC scope cl C X.env) fp) (fun _ _ _ _ => False) (E i) elt (.ok (gf i))
abbrev BlkEVT (X : Cx) (scope : Scope) (n : Nat) (E : Nat → List Sl) (c : Expr) (pp : Nat → Bool) : Prop := ∀ (s : Shared) (H : Hp) (C : Addr) (cl : List (Str × Addr)) (fp : List Addr) i, i < n → EVT (X.blk s H scope (compEnvC scope cl C X.env) fp) (fun _ _ _ _ => False) (E i) c (pp i)
/-- [elt for x in range(a)] -/
theorem lcb_range (ha : EVA X W en [a] [.int (n : Int)]) (hn : n ≤ 40000) (hm : X.mg "range" = none) (hg : Gl X "range") (hst : starEach [a] X.env = [(false, eval a X.env)]) (ok : BlkOk X.N X.env.scope scope [(x, j)]) (hp : BlkPG X scope (.Name x p0) (gName j))
    (he : BlkEV X scope n (fun _ => true) (fun i => (wipeE en [j]).set j (.da (.int (i : Int)))) elt gf) : LcB X en (.Name x p0) (.Call (.Name "range" q1) [a] [] q2) elt [] scope [(x, j)] (outs (fun _ => true) gf n) := by
  obtain ⟨t, h1, h2⟩ := ha
  exact lcb_mk (pi_range1 hg hm h1 hst) ok hp (wlk_range h2 (by omega)) hn fun s H C cl fp i hi => he s H C cl fp i hi rfl
/-- [elt for x in xs] -/
theorem lcb_list (hi : EV X W en it (.ok (.lst ds))) (hn : ds.length ≤ 40000) (ok : BlkOk X.N X.env.scope scope [(x, j)]) (hp : BlkPG X scope (.Name x p0) (gName j))
    (he : BlkEV X scope ds.length (fun _ => true) (fun i => (wipeE en [j]).set j (.da (ds.getD i .non))) elt gf) : LcB X en (.Name x p0) it elt [] scope [(x, j)] (outs (fun _ => true) gf ds.length) := by
  obtain ⟨t, h1, h2⟩ := hi
  exact lcb_mk (pi_list h1) ok hp (wlk_list h2) hn fun s H C cl fp i hi => he s H C cl fp i hi rfl
theorem lcb_listIf (hi : EV X W en it (.ok (.lst ds))) (hn : ds.length ≤ 40000) (ok : BlkOk X.N X.env.scope scope [(x, j)]) (hp : BlkPG X scope (.Name x p0) (gName j))
    (hc : BlkEVT X scope ds.length (fun i => (wipeE en [j]).set j (.da (ds.getD i .non))) c pp) (he : BlkEV X scope ds.length pp (fun i => (wipeE en [j]).set j (.da (ds.getD i .non))) elt gf) : LcB X en (.Name x p0) it elt [c] scope [(x, j)] (outs pp gf ds.length) := by
  obtain ⟨t, h1, h2⟩ := hi
  exact lcb_if (pi_list h1) ok hp (wlk_list h2) hn hc he
theorem lcb_tupIf (hi : EV X W en it (.ok (.tup ds))) (hn : ds.length ≤ 40000) (ok : BlkOk X.N X.env.scope scope [(x, j)]) (hp : BlkPG X scope (.Name x p0) (gName j))
    (hc : BlkEVT X scope ds.length (fun i => (wipeE en [j]).set j (.da (ds.getD i .non))) c pp) (he : BlkEV X scope ds.length pp (fun i => (wipeE en [j]).set j (.da (ds.getD i .non))) elt gf) : LcB X en (.Name x p0) it elt [c] scope [(x, j)] (outs pp gf ds.length) := by
  obtain ⟨t, h1, h2⟩ := hi
  exact lcb_if (pi_tup h1) ok hp (wlk_tup h2) hn hc he
/-- [elt for x, x2 in zip(a, a2)] -/
theorem lcb_zip (hj : j ≠ j2) (ha : EVA X W en [a, a2] [.lst ds, .lst es]) (hl : ds.length = es.length) (hn : ds.length ≤ 40000) (hm : X.mg "zip" = none) (hg : Gl X "zip") (hst : starEach [a, a2] X.env = (false, eval a X.env) :: starEach [a2] X.env) (hpl : (backTo q2 (starEach [a2] X.env)).any (·.1) = false) (ok : BlkOk X.N X.env.scope scope [(x, j), (x2, j2)])
    (hp : BlkPG X scope (.Tuple [.Name x p1, .Name x2 p2] q tp) (gTup X.K 2 (gNames [j, j2])))
    (he : BlkEV X scope ds.length (fun _ => true) (fun i => ((wipeE en [j, j2]).set j (.da (ds.getD i .non))).set j2 (.da (es.getD i .non))) elt gf) : LcB X en (.Tuple [.Name x p1, .Name x2 p2] q tp) (.Call (.Name "zip" q1) [a, a2] [] q2) elt [] scope [(x, j), (x2, j2)] (outs (fun _ => true) gf ds.length) := by
  obtain ⟨t, h1, h2⟩ := ha
  exact lcb_mk (pi_zip hg hm h1 hst hpl) ok hp (wlk_zip hj h2 hl) hn fun s H C cl fp i hi => he s H C cl fp i hi rfl
end
end Sky
namespace Sky
open PySem L2 Evl PySem.Spec PyProof.Rows PySem.W
/-! ### two figures -/
def two (i : Int) : Str := ⟨#[48 + (i / 10).toNat, 48 + (i % 10).toNat]⟩
def sp02 : Str := "02d"
abbrev M02 (i : Int) : Prop := ∀ t u : Tok, Meets (Builtin.«int.__format__» ⟨[.int i t, .str sp02 u], []⟩) (fun _ R s => ∀ t' k, R (.ok (.ret (.str (two i) t'))) { s with toks := k })
set_option maxHeartbeats 0 in
theorem m02_0 : M02 0 := fun _ => by kxf_run_i
set_option maxHeartbeats 0 in
theorem m02_1 : M02 1 := fun _ => by kxf_run_i
set_option maxHeartbeats 0 in
theorem m02_2 : M02 2 := fun _ => by kxf_run_i
set_option maxHeartbeats 0 in
theorem m02_3 : M02 3 := fun _ => by kxf_run_i
set_option maxHeartbeats 0 in
theorem m02_4 : M02 4 := fun _ => by kxf_run_i
set_option maxHeartbeats 0 in
theorem m02_5 : M02 5 := fun _ => by kxf_run_i
set_option maxHeartbeats 0 in
theorem m02_6 : M02 6 := fun _ => by kxf_run_i
set_option maxHeartbeats 0 in
theorem m02_7 : M02 7 := fun _ => by kxf_run_i
set_option maxHeartbeats 0 in
theorem m02_8 : M02 8 := fun _ => by kxf_run_i
set_option maxHeartbeats 0 in
theorem m02_9 : M02 9 := fun _ => by kxf_run_i
set_option maxHeartbeats 0 in
theorem m02_10 : M02 10 := fun _ => by kxf_run_i
set_option maxHeartbeats 0 in
theorem m02_11 : M02 11 := fun _ => by kxf_run_i
set_option maxHeartbeats 0 in
theorem m02_12 : M02 12 := fun _ => by kxf_run_i
set_option maxHeartbeats 0 in
theorem m02_13 : M02 13 := fun _ => by kxf_run_i
set_option maxHeartbeats 0 in
theorem m02_14 : M02 14 := fun _ => by kxf_run_i
set_option maxHeartbeats 0 in
theorem m02_15 : M02 15 := fun _ => by kxf_run_i
set_option maxHeartbeats 0 in
theorem m02_16 : M02 16 := fun _ => by kxf_run_i
set_option maxHeartbeats 0 in
theorem m02_17 : M02 17 := fun _ => by kxf_run_i
set_option maxHeartbeats 0 in
theorem m02_18 : M02 18 := fun _ => by kxf_run_i
set_option maxHeartbeats 0 in
theorem m02_19 : M02 19 := fun _ => by kxf_run_i
set_option maxHeartbeats 0 in
theorem m02_20 : M02 20 := fun _ => by kxf_run_i
set_option maxHeartbeats 0 in
theorem m02_21 : M02 21 := fun _ => by kxf_run_i
set_option maxHeartbeats 0 in
theorem m02_22 : M02 22 := fun _ => by kxf_run_i
set_option maxHeartbeats 0 in
theorem m02_23 : M02 23 := fun _ => by kxf_run_i
set_option maxHeartbeats 0 in
theorem m02_24 : M02 24 := fun _ => by kxf_run_i
set_option maxHeartbeats 0 in
theorem m02_25 : M02 25 := fun _ => by kxf_run_i
set_option maxHeartbeats 0 in
theorem m02_26 : M02 26 := fun _ => by kxf_run_i
set_option maxHeartbeats 0 in
theorem m02_27 : M02 27 := fun _ => by kxf_run_i
set_option maxHeartbeats 0 in
theorem m02_28 : M02 28 := fun _ => by kxf_run_i
set_option maxHeartbeats 0 in
theorem m02_29 : M02 29 := fun _ => by kxf_run_i
set_option maxHeartbeats 0 in
theorem m02_30 : M02 30 := fun _ => by kxf_run_i
set_option maxHeartbeats 0 in
theorem m02_31 : M02 31 := fun _ => by kxf_run_i
set_option maxHeartbeats 0 in
theorem m02_32 : M02 32 := fun _ => by kxf_run_i
set_option maxHeartbeats 0 in
theorem m02_33 : M02 33 := fun _ => by kxf_run_i
set_option maxHeartbeats 0 in
theorem m02_34 : M02 34 := fun _ => by kxf_run_i
set_option maxHeartbeats 0 in
theorem m02_35 : M02 35 := fun _ => by kxf_run_i
set_option maxHeartbeats 0 in
theorem m02_36 : M02 36 := fun _ => by kxf_run_i
set_option maxHeartbeats 0 in
theorem m02_37 : M02 37 := fun _ => by kxf_run_i
set_option maxHeartbeats 0 in
theorem m02_38 : M02 38 := fun _ => by kxf_run_i
set_option maxHeartbeats 0 in
theorem m02_39 : M02 39 := fun _ => by kxf_run_i
set_option maxHeartbeats 0 in
theorem m02_40 : M02 40 := fun _ => by kxf_run_i
set_option maxHeartbeats 0 in
theorem m02_41 : M02 41 := fun _ => by kxf_run_i
set_option maxHeartbeats 0 in
theorem m02_42 : M02 42 := fun _ => by kxf_run_i
set_option maxHeartbeats 0 in
theorem m02_43 : M02 43 := fun _ => by kxf_run_i
set_option maxHeartbeats 0 in
theorem m02_44 : M02 44 := fun _ => by kxf_run_i
set_option maxHeartbeats 0 in
theorem m02_45 : M02 45 := fun _ => by kxf_run_i
set_option maxHeartbeats 0 in
theorem m02_46 : M02 46 := fun _ => by kxf_run_i
set_option maxHeartbeats 0 in
theorem m02_47 : M02 47 := fun _ => by kxf_run_i
set_option maxHeartbeats 0 in
theorem m02_48 : M02 48 := fun _ => by kxf_run_i
set_option maxHeartbeats 0 in
theorem m02_49 : M02 49 := fun _ => by kxf_run_i
set_option maxHeartbeats 0 in
theorem m02_50 : M02 50 := fun _ => by kxf_run_i
set_option maxHeartbeats 0 in
theorem m02_51 : M02 51 := fun _ => by kxf_run_i
set_option maxHeartbeats 0 in
theorem m02_52 : M02 52 := fun _ => by kxf_run_i
set_option maxHeartbeats 0 in
theorem m02_53 : M02 53 := fun _ => by kxf_run_i
set_option maxHeartbeats 0 in
theorem m02_54 : M02 54 := fun _ => by kxf_run_i
set_option maxHeartbeats 0 in
theorem m02_55 : M02 55 := fun _ => by kxf_run_i
set_option maxHeartbeats 0 in
theorem m02_56 : M02 56 := fun _ => by kxf_run_i
set_option maxHeartbeats 0 in
theorem m02_57 : M02 57 := fun _ => by kxf_run_i
set_option maxHeartbeats 0 in
theorem m02_58 : M02 58 := fun _ => by kxf_run_i
set_option maxHeartbeats 0 in
theorem m02_59 : M02 59 := fun _ => by kxf_run_i
theorem m02 : ∀ n : Nat, n < 60 → M02 (n : Int)
  | 0, _ => m02_0
  | 1, _ => m02_1
  | 2, _ => m02_2
  | 3, _ => m02_3
  | 4, _ => m02_4
  | 5, _ => m02_5
  | 6, _ => m02_6
  | 7, _ => m02_7
  | 8, _ => m02_8
  | 9, _ => m02_9
  | 10, _ => m02_10
  | 11, _ => m02_11
  | 12, _ => m02_12
  | 13, _ => m02_13
  | 14, _ => m02_14
  | 15, _ => m02_15
  | 16, _ => m02_16
  | 17, _ => m02_17
  | 18, _ => m02_18
  | 19, _ => m02_19
  | 20, _ => m02_20
  | 21, _ => m02_21
  | 22, _ => m02_22
  | 23, _ => m02_23
  | 24, _ => m02_24
  | 25, _ => m02_25
  | 26, _ => m02_26
  | 27, _ => m02_27
  | 28, _ => m02_28
  | 29, _ => m02_29
  | 30, _ => m02_30
  | 31, _ => m02_31
  | 32, _ => m02_32
  | 33, _ => m02_33
  | 34, _ => m02_34
  | 35, _ => m02_35
  | 36, _ => m02_36
  | 37, _ => m02_37
  | 38, _ => m02_38
  | 39, _ => m02_39
  | 40, _ => m02_40
  | 41, _ => m02_41
  | 42, _ => m02_42
  | 43, _ => m02_43
  | 44, _ => m02_44
  | 45, _ => m02_45
  | 46, _ => m02_46
  | 47, _ => m02_47
  | 48, _ => m02_48
  | 49, _ => m02_49
  | 50, _ => m02_50
  | 51, _ => m02_51
  | 52, _ => m02_52
  | 53, _ => m02_53
  | 54, _ => m02_54
  | 55, _ => m02_55
  | 56, _ => m02_56
  | 57, _ => m02_57
  | 58, _ => m02_58
  | 59, _ => m02_59
  | n + 60, h => absurd h (by omega)
theorem m02i {i : Int} (h0 : 0 ≤ i) (h1 : i < 60) : M02 i := by
  have := m02 i.toNat (by omega)
  rwa [Int.toNat_of_nonneg h0] at this
end Sky
namespace Sky
open PySem L2 Evl PySem.Spec PyProof.Rows PySem.W
/-- the rule of the field .. with its two figures -/
def tF02 (te : TE) : TE := fun σ H Q => te σ H fun x H1 => ∃ i : Int, x = .int i ∧ 0 ≤ i ∧ i < 60 ∧ Q (.str (two i)) H1
section
variable {X : Cx} {W : WX} {k n : Nat} {en e1 : List Sl} {e a b c o : Expr} {es : List Expr} {q : Nat} {p1 p2 p3 p4 pos apos p : Pos} {i j m : Int} {z y : Str} {ds es' : List Da} {d : Da} {x : Str} {u v : Bool}
theorem pe_f02 {te : TE} (he : PE X e te) : PE X (.JoinedStr [.FormattedValue e (-1) (some (.JoinedStr [.Constant (.str "02d") q p1] p2)) p3] p4) (tF02 te) := by
  refine ⟨fun pins s σ H Q I h => ?_⟩
  refine wpAny_JoinedStr_one (wpAny_FormattedValue_spec (thn (he.run pins s σ H _ I h) fun v s1 hv => ?_))
  obtain ⟨x, H1, I1, r1, i, rfl, h0, h1, q⟩ := hv
  obtain ⟨t, rfl⟩ := r1
  refine thn ((pe_joined1 (pe_str (X := X) (x := "02d"))).run pins s1 σ H1 (fun y H2 => y = .str sp02 ∧ H2 = H1) I1 ⟨rfl, rfl⟩) fun w s2 hw => ?_
  obtain ⟨y, H2, I2, r2, rfl, rfl⟩ := hw
  obtain ⟨t2, rfl⟩ := r2
  refine ⟨sp02, t2, rfl, KXf.field_int (spec' := sp02) rfl (by decide +kernel) (by decide +kernel) (m02i h0 h1 t) fun t' k => ?_⟩
  exact ⟨.str (two i), H2, I2.tok _, ⟨_, rfl⟩, q⟩
theorem ev_f02 (he : EV X W en e (.ok (.int i))) (h0 : 0 ≤ i) (h1 : i < 60) : EV X W en (.JoinedStr [.FormattedValue e (-1) (some (.JoinedStr [.Constant (.str "02d") q p1] p2)) p3] p4) (.ok (.str (two i))) := by
  obtain ⟨t, a1, a2⟩ := he
  refine ⟨_, pe_f02 a1, fun _ _ B H σ S Q k => a2 _ _ B H σ S _ fun x B1 H1 g r => ?_⟩
  cases r
  exact ⟨i, rfl, h0, h1, k _ B1 H1 g (.str _)⟩
theorem DrA.strs {K : PySem.W.Frag} {B : Hp} : ∀ {ys : List Str} {vs : List V}, DrA K B vs (ys.map Da.str) → vs = ys.map V.str
  | [], _, .nil => rfl
  | y :: r, _, .cons h t => by
    cases h
    rw [DrA.strs t]
    rfl
theorem DrA.ofStrs {K : PySem.W.Frag} {B : Hp} : ∀ {ys : List Str}, DrA K B (ys.map V.str) (ys.map Da.str)
  | [] => .nil
  | y :: r => .cons (.str y) (DrA.ofStrs (ys := r))
/-- sep.join(texts) -/
theorem ev_join {ys : List Str} (ho : EV X W en o (.ok (.str z))) (he : EV X W en e (.ok (.lst (ys.map .str)))) (hz : (ys.map (·.length)).sum + ys.length * z.length ≤ 16777216) (hs : starEach [e] X.env = [(false, eval e X.env)]) (hb : attributeBase o "join" X.env (eval o X.env) = eval o X.env) (hl : (apos.endLine == pos.line) = true) :
    EV X W en (.Call (.Attribute o "join" apos) [e] [] pos) (.ok (.str (Txt.join z ys))) := by
  obtain ⟨t, a1, a2⟩ := ho
  obtain ⟨t', b1, b2⟩ := he
  refine ⟨_, pe_join a1 b1 hs hb hl, fun _ _ B H σ S Q k => a2 _ _ B H σ S _ fun x B1 H1 g r => ?_⟩
  cases r
  refine ⟨⟨z, rfl⟩, b2 _ _ B1 H1 σ (S.grow g) _ fun v B2 H2 g2 r2 => ?_⟩
  cases r2 with
  | lst h t =>
    have := DrA.strs t
    subst this
    exact ⟨z, _, ys, rfl, rfl, .inl (ex_l g2.s h), hz, k _ B2 H2 (g.trans g2) (.str _)⟩
theorem rv_addS (hz : y.length + z.length ≤ 16777216) {K : PySem.W.Frag} : RV K (fun x y H Q => ∃ i j, x = .str i ∧ y = .str j ∧ i.length + j.length ≤ sizeLine ∧ Q (.str (i ++ j)) H) (.str y) (.str z) (.str (y ++ z)) := fun B H x y e h1 h2 Q k => by
  cases h1; cases h2
  exact ⟨_, _, rfl, rfl, hz, k _ B H (Gr.refl e) (.str _)⟩
theorem ev_addS (ha : EV X W en a (.ok (.str y))) (hb : EV X W en b (.ok (.str z))) (hz : y.length + z.length ≤ 16777216) : EV X W en (.BinOp a .Add b pos) (.ok (.str (y ++ z))) := by
  obtain ⟨te, h1, h2⟩ := ha
  obtain ⟨tr, h3, h4⟩ := hb
  exact ⟨_, pe_op op_add_str h1 h3, ex_op h2 h4 (rv_addS hz)⟩
/-- a <= b <= c -/
theorem ev_le2 (ha : EV X W en a (.ok (.int i))) (hb : EV X W en b (.ok (.int j))) (hc : EV X W en c (.ok (.int m))) (hm : lastMarks [.LtE, .LtE] [b, c] = false) : EV X W en (.Compare a [.LtE, .LtE] [b, c] pos) (.ok (.bl (decide (i ≤ j) && decide (j ≤ m)))) := by
  obtain ⟨ta, a1, a2⟩ := ha
  obtain ⟨tb, b1, b2⟩ := hb
  obtain ⟨tc, c1, c2⟩ := hc
  refine ⟨_, pe_chain op_le op_le a1 b1 c1 hm, fun _ _ B H σ S Q k => a2 _ _ B H σ S _ fun x B1 H1 g1 r1 => b2 _ _ B1 H1 σ (S.grow g1) _ fun y B2 H2 g2 r2 => ?_⟩
  cases r1; cases r2
  refine ⟨i, j, rfl, rfl, _, rfl, ?_⟩
  cases q : decide (i ≤ j) with
  | false =>
    rw [if_neg Bool.false_ne_true]
    rw [q] at k
    exact k _ B2 H2 (g1.trans g2) (.bl _)
  | true =>
    rw [if_pos rfl]
    rw [q] at k
    refine c2 _ _ B2 H2 σ (S.grow (g1.trans g2)) _ fun z B3 H3 g3 r3 => ?_
    cases r3
    exact ⟨j, m, rfl, rfl, k _ B3 H3 ((g1.trans g2).trans g3) (.bl _)⟩
theorem rc_divmod {K : PySem.W.Frag} (h : CDivP i j) : RC K (fun xs H Q => ∃ i j, xs = [.int i, .int j] ∧ CDivP i j ∧ ∀ p, H p = none → Q (.ref p) (upd H p (.tup [.int (i / j), .int (i % j)]))) [.int i, .int j] (.tup [.int (i / j), .int (i % j)]) := fun B H vs e hA Q k => by
  cases hA with
  | cons h1 t =>
    cases t with
    | cons h2 t =>
      cases t; cases h1; cases h2
      exact ⟨i, j, rfl, h, fun p hp => k _ _ _ (Gr.new e hp) (.tup (st_of upd_same) (.cons (.int _) (.cons (.int _) .nil)))⟩
/-- lists laid end to end -/
def rCatL (K : PySem.W.Frag) : R2 := fun x y H Q => ∃ l b xs zs, x = .ref l ∧ y = .ref b ∧ SqL K H l xs ∧ SqL K H b zs ∧ xs.length + zs.length ≤ sizeLine ∧ ∀ p, H p = none → Q (.ref p) (upd H p (.lst (xs ++ zs)))
theorem op_catL : OpR X (binaryOp .Add) (rCatL X.K) := by
  intro pins s σ H x y v u Q I rx ry h
  obtain ⟨l, b, xs, zs, rfl, rfl, hH, hB, hz, q⟩ := h
  cases rx
  cases ry
  obtain ⟨its, r, ⟨⟨cls, dd, data, sl⟩, n, ho, hc, hdn, hd⟩, _⟩ := I.list hH
  obtain ⟨its2, r2, ⟨⟨cls2, dd2, data2, sl2⟩, n2, ho2, hc2, hdn2, hd2⟩, _⟩ := I.list hB
  simp only at hc hd hc2 hd2
  subst hc hd hc2 hd2
  have ea : its.toArray ++ its2.toArray = (its ++ its2).toArray := by simp
  have z1 := r.length
  have z2 := r2.length
  refine concat_meets ⟨_, ho, rfl⟩ ⟨_, ho2, rfl⟩ noFill_list_add seq_list_add PySem.F.slot_list_add PySem.F.entry_list_add (PySem.F.args_list_add_2 _ _) (list_addW l b its.toArray its2.toArray n n2 dd dd2 sl sl2 ?_) ⟨ho, ho2, ?_⟩
  · rw [List.size_toArray, List.size_toArray]; omega
  · rw [ea]
    exact ⟨.ref _, _, I.lnew (t' := s.toks) (r.append r2) (by rw [List.length_append]; omega), rfl, q _ I.fresh⟩
theorem evl_cat (ha : EV X W en a (.ok (.lst ds))) (hb : EV X W en b (.ok (.lst es'))) (hz : ds.length + es'.length ≤ 100000) : EVL X W en (.BinOp a .Add b pos) (ds ++ es') := by
  obtain ⟨te, h1, h2⟩ := ha
  obtain ⟨tr, h3, h4⟩ := hb
  refine ⟨_, pe_op op_catL h1 h3, fun _ _ B H σ S Q k => h2 _ _ B H σ S _ fun x B1 H1 g1 r1 => h4 _ _ B1 H1 σ (S.grow g1) _ fun y B2 H2 g2 r2 => ?_⟩
  cases r1 with
  | lst hq t =>
    cases r2 with
    | lst hq2 t2 =>
      have g := g1.trans g2
      exact ⟨_, _, _, _, rfl, rfl, ex_l (g2.b.trans g2.s) hq, ex_l g2.s hq2, by rw [t.length, t2.length]; exact sz_of hz, fun p hp => k p _ B2 _ (g.trans (Gr.newO g2.s hp)) (g.back hp) (fresh_back g2.s hp) upd_same ((t.mono g2.b).append t2)⟩
/-- an own list is turned about -/
theorem st_rev {i : Nat} (he : en[i]? = some (.own ds)) {K : PySem.W.Frag} {W : WX} : ST K W (tDrop (tBM K "list" rReverse (tVar i) tNil)) en (.nx (en.set i (.own ds.reverse))) := fun B0 H0 B H σ S D k => by
  obtain ⟨p, vs, e1, _, _, e2, t⟩ := S.ownAt he
  refine ⟨_, e1, Or.inl ⟨rfl, vs, sq_of e2⟩, ⟨p, vs, rfl, rfl, e2, k B _ σ (S.mut he e1 t.rev)⟩⟩
theorem sv_rev {n : Nat} {l : Str} {pos' : Pos} (hN : X.N.idxOf? l = some n) (hv : Vis X.env.scope l) (ho : en[n]? = some (.own ds)) (hN2 : X.N[n]? = some l) (hd : (l == ("__debug__" : Str)) = false) (hc : (l == ("__classdict__" : Str)) = false)
    (q : PE X (.Call (.Attribute (.Name l p) "reverse" apos) [] [] pos) (tBM X.K "list" rReverse (tVar n) tNil))
    (hs : swapsWith (.Call (.Attribute (.Name l p) "reverse" apos) [] [] pos) none pos'.line X.env = pure false) (hq : en.set n (.own ds.reverse) = e1) : SV X W en (.Expr (.Call (.Attribute (.Name l p) "reverse" apos) [] [] pos) pos') (.nx e1) := by
  subst hq
  exact ⟨_, ps_expr q hs, st_rev ho⟩
/-- a sign of a text, its place known -/
theorem rv_ixS {K : PySem.W.Frag} {c : Nat} (hz : z.length ≤ 16777216) (h : atI z.cps.toList i = some c) : RV K rIxS (.str z) (.int i) (.str ⟨#[c]⟩) := fun B H x y e h1 h2 Q k => by
  cases h1; cases h2
  exact ⟨z, i, c, rfl, rfl, hz, h, k _ B H (Gr.refl e) (.str _)⟩
theorem ev_ixS {c : Nat} (ha : EV X W en a (.ok (.str z))) (hb : EV X W en b (.ok (.int i))) (hp : PlainIx b) (hz : z.length ≤ 16777216) (h : atI z.cps.toList i = some c) : EV X W en (.Subscript a b pos) (.ok (.str ⟨#[c]⟩)) := by
  obtain ⟨te, h1, h2⟩ := ha
  obtain ⟨tr, h3, h4⟩ := hb
  exact ⟨_, pe_ix ix_str h1 h3 hp, ex_op h2 h4 (rv_ixS hz h)⟩
/-- a sign in a text -/
theorem ev_inS {c : Nat} (ha : EV X W en a (.ok (.str ⟨#[c]⟩))) (hb : EV X W en b (.ok (.str z))) (hm : behindInMarks .In b = false) : EV X W en (.Compare a [.In] [b] pos) (.ok (.bl (decide (c ∈ z.cps.toList)))) := ev_cmp op_in_sign ha hb (fun B H x y e h1 h2 Q k => by
  cases h1; cases h2
  exact ⟨c, z, rfl, rfl, k _ B H (Gr.refl e) (.bl _)⟩) hm
/-- split and partition by a sign -/
theorem evl_split (ho : EV X W en o (.ok (.str y))) (he : EV X W en e (.ok (.str z))) (hz : (z.length == 0) = false) (hy : y.length + 2 ≤ 16777216) (hs : starEach [e] X.env = [(false, eval e X.env)]) (hb : attributeBase o "split" X.env (eval o X.env) = eval o X.env) (hl : (apos.endLine == pos.line) = true) :
    EVL X W en (.Call (.Attribute o "split" apos) [e] [] pos) ((Txt.split y z).map .str) := by
  obtain ⟨t, a1, a2⟩ := ho
  obtain ⟨t', b1, b2⟩ := he
  refine ⟨_, pe_split a1 b1 hs hb hl, fun _ _ B H σ S Q k => a2 _ _ B H σ S _ fun x B1 H1 g r => ?_⟩
  cases r
  refine ⟨⟨y, rfl⟩, b2 _ _ B1 H1 σ (S.grow g) _ fun v B2 H2 g2 r2 => ?_⟩
  cases r2
  have g3 := g.trans g2
  exact ⟨y, z, rfl, rfl, hz, hy, fun p hp => k p _ B2 _ (g3.trans (Gr.newO g2.s hp)) (g3.back hp) (fresh_back g2.s hp) upd_same DrA.ofStrs⟩
theorem ev_part (ho : EV X W en o (.ok (.str y))) (he : EV X W en e (.ok (.str z))) (hz : (z.length == 0) = false) (hy : y.length ≤ 16777216) (hs : starEach [e] X.env = [(false, eval e X.env)]) (hb : attributeBase o "partition" X.env (eval o X.env) = eval o X.env) (hl : (apos.endLine == pos.line) = true) :
    EV X W en (.Call (.Attribute o "partition" apos) [e] [] pos) (.ok (.tup [.str (Txt.partition y z).1, .str (Txt.partition y z).2.1, .str (Txt.partition y z).2.2])) := by
  obtain ⟨t, a1, a2⟩ := ho
  obtain ⟨t', b1, b2⟩ := he
  refine ⟨_, pe_partition a1 b1 hs hb hl, fun _ _ B H σ S Q k => a2 _ _ B H σ S _ fun x B1 H1 g r => ?_⟩
  cases r
  refine ⟨⟨y, rfl⟩, b2 _ _ B1 H1 σ (S.grow g) _ fun v B2 H2 g2 r2 => ?_⟩
  cases r2
  have g3 := g.trans g2
  exact ⟨y, z, rfl, rfl, hz, hy, fun p hp => k _ _ _ (g3.trans (Gr.new g2.s hp)) (.tup (st_of upd_same) (.cons (.str _) (.cons (.str _) (.cons (.str _) .nil))))⟩
theorem rc_intS {K : PySem.W.Frag} (h : PySem.intText? z = some i) (hz : z.length ≤ 640) : RC K (fun xs H Q => ∃ a n, xs = [.str a] ∧ PySem.intText? a = some n ∧ a.length ≤ 640 ∧ Q (.int n) H) [.str z] (.int i) := fun B H vs e hA Q k => by
  cases hA with
  | cons h1 t =>
    cases t; cases h1
    exact ⟨z, i, rfl, h, hz, k _ B H (Gr.refl e) (.int _)⟩
end
end Sky
namespace PySem.W
open PySem PySem.Spec PySem.Calls PyProof.Rows
theorem run_lcm4 (a : Int) (t : Tok) (b : Int) (u : Tok) (c : Int) (v : Tok) (d : Int) (w : Tok) (hc0 : ¬(max 1 a.natAbs).log2 / 30 + 1 > 450) (hc1 : ¬(max a.natAbs b.natAbs).log2 / 30 + 1 > 450) (hc2 : ¬(max (a.natAbs.lcm b.natAbs) c.natAbs).log2 / 30 + 1 > 450) (hc3 : ¬(max ((a.natAbs.lcm b.natAbs).lcm c.natAbs) d.natAbs).log2 / 30 + 1 > 450)
    (hsz : (((((Nat.lcm 1 a.natAbs).lcm b.natAbs).lcm c.natAbs).lcm d.natAbs : Nat) : Int).natAbs.log2 < bitsLine) :
    Gives (Builtin.«math.lcm» ⟨[.int a t, .int b u, .int c v, .int d w], []⟩) (.int (((((Nat.lcm 1 a.natAbs).lcm b.natAbs).lcm c.natAbs).lcm d.natAbs : Nat) : Int)) :=
  .of_wp fun M A E s Q h => by obtain ⟨hp, g, d, tk, os⟩ := s; wp_walk; (try (refine wpAny_ite_false (decide_eq_false (Nat.not_le.mpr hsz)) ?_; wp_walk)); exact ⟨_, rfl, h⟩
theorem args_lcm4 (a b c d : Value) : argsOk "math.lcm" ⟨[a, b, c, d], []⟩ := by unfold argsOk; kernel_rfl
theorem log_small {n : Nat} (h : n < 2 ^ 200) : ¬ n.log2 / 30 + 1 > 450 := by
  have := mg_log (k := 199) h
  omega
theorem wp_lcm4 {prog : Program} {w : World} {A : Around} {E : Value → Shared → Prop} {s : Shared} {Q : Value → Shared → Prop} {a b c d : Int} {t u v x : Tok} (ha : a.natAbs < 2 ^ 60) (hb : b.natAbs < 2 ^ 60) (hc : c.natAbs < 2 ^ 60) (hd : d.natAbs < 2 ^ 60)
    (h : Q (.int (((((Nat.lcm 1 a.natAbs).lcm b.natAbs).lcm c.natAbs).lcm d.natAbs : Nat) : Int) s.toks) { s with toks := s.toks + 1 }) : wpAny (model prog w) A (call (.builtin "math.lcm") [.int a t, .int b u, .int c v, .int d x]) Q E s := by
  have l1 : a.natAbs.lcm b.natAbs < 2 ^ 120 := Nat.lt_of_le_of_lt (mc_lcm_le _ _) (Nat.lt_of_lt_of_le (Nat.mul_lt_mul'' ha hb) (by decide))
  have l2 : (a.natAbs.lcm b.natAbs).lcm c.natAbs < 2 ^ 180 := Nat.lt_of_le_of_lt (mc_lcm_le _ _) (Nat.lt_of_lt_of_le (Nat.mul_lt_mul'' l1 hc) (by decide))
  have l3 : ((a.natAbs.lcm b.natAbs).lcm c.natAbs).lcm d.natAbs < 2 ^ 240 := Nat.lt_of_le_of_lt (mc_lcm_le _ _) (Nat.lt_of_lt_of_le (Nat.mul_lt_mul'' l2 hd) (by decide))
  have lift : ∀ {n k : Nat}, n < 2 ^ k → k ≤ 200 → n < 2 ^ 200 := fun h1 h2 => Nat.lt_of_lt_of_le h1 (Nat.pow_le_pow_right (by decide) h2)
  refine call_function_meets MGF.kind_lcm MGF.plain_lcm MGF.entry_lcm (args_lcm4 _ _ _ _) (run_lcm4 a t b u c v d x (log_small ?_) (log_small ?_) (log_small ?_) (log_small ?_) ?_).meets h
  · exact Nat.max_lt.mpr ⟨by decide, lift ha (by decide)⟩
  · exact Nat.max_lt.mpr ⟨lift ha (by decide), lift hb (by decide)⟩
  · exact Nat.max_lt.mpr ⟨lift l1 (by decide), lift hc (by decide)⟩
  · exact Nat.max_lt.mpr ⟨lift l2 (by decide), lift hd (by decide)⟩
  · rw [Nat.lcm_one_left]
    show ((((a.natAbs.lcm b.natAbs).lcm c.natAbs).lcm d.natAbs : Nat) : Int).natAbs.log2 < bitsLine
    rw [Int.natAbs_natCast]
    have := mg_log (k := 239) l3
    have e : bitsLine = 134217728 := by decide
    omega
end PySem.W
namespace Sky
open PySem L2 Evl PySem.Spec PyProof.Rows
def lcm4 (a b c d : Int) : Int := ((((a.natAbs.lcm b.natAbs).lcm c.natAbs).lcm d.natAbs : Nat) : Int)
def rLcm4 : List V → Hp → VK → Prop := fun vs H Q => ∃ a b c d : Int, vs = [.int a, .int b, .int c, .int d] ∧ (a.natAbs < 2 ^ 60 ∧ b.natAbs < 2 ^ 60 ∧ c.natAbs < 2 ^ 60 ∧ d.natAbs < 2 ^ 60) ∧ Q (.int (lcm4 a b c d)) H
theorem cr_lcm4 {X : Cx} : CallR X (.builtin "math.lcm") rLcm4 := by
  intro pins s σ H vs us Q I r h
  obtain ⟨a, b, c, d, rfl, ⟨h1, h2, h3, h4⟩, q⟩ := h
  cases r with
  | cons r1 r => cases r with
    | cons r2 r => cases r with
      | cons r3 r => cases r with
        | cons r4 r =>
          cases r
          obtain ⟨t1, rfl⟩ := r1
          obtain ⟨t2, rfl⟩ := r2
          obtain ⟨t3, rfl⟩ := r3
          obtain ⟨t4, rfl⟩ := r4
          refine PySem.W.wp_lcm4 h1 h2 h3 h4 ⟨.int (lcm4 a b c d), H, I.tok _, ⟨s.toks, ?_⟩, q⟩
          unfold lcm4
          rw [Nat.lcm_one_left]
theorem rc_lcm4 {K : PySem.W.Frag} {a b c d : Int} (h : a.natAbs < 2 ^ 60 ∧ b.natAbs < 2 ^ 60 ∧ c.natAbs < 2 ^ 60 ∧ d.natAbs < 2 ^ 60) : RC K rLcm4 [.int a, .int b, .int c, .int d] (.int (lcm4 a b c d)) := fun B H vs e hA Q k => by
  cases hA with
  | cons h1 t => cases t with
    | cons h2 t => cases t with
      | cons h3 t => cases t with
        | cons h4 t =>
          cases t; cases h1; cases h2; cases h3; cases h4
          exact ⟨a, b, c, d, rfl, h, k _ B H (Gr.refl e) (.int _)⟩
theorem rc_min2 {K : PySem.W.Frag} {i j : Int} : RC K (fun xs H Q => ∃ i j, xs = [.int i, .int j] ∧ Q (.int (if j < i then j else i)) H) [.int i, .int j] (.int (if j < i then j else i)) := fun B H vs e hA Q k => by
  cases hA with
  | cons h1 t => cases t with
    | cons h2 t =>
      cases t; cases h1; cases h2
      exact ⟨i, j, rfl, k _ B H (Gr.refl e) (.int _)⟩
/-! ### attributes -/
def putD (f : Str) (v : Da) : List (Str × Da) → List (Str × Da)
  | [] => [(f, v)]
  | (g, x) :: r => if g = f then (g, v) :: r else (g, x) :: putD f v r
theorem DrF.put {K : PySem.W.Frag} {B : Hp} {f : Str} {v : V} {d : Da} (r : Dr K B v d) : ∀ {vs : List (Str × V)} {ds : List (Str × Da)}, DrF K B vs ds → DrF K B (putF f v vs) (putD f d ds)
  | _, _, .nil => .cons r .nil
  | _, _, .cons (f := g) h t => by
    unfold putF putD
    by_cases e : g = f
    · rw [if_pos e, if_pos e]; exact .cons r t
    · rw [if_neg e, if_neg e]; exact .cons h (DrF.put r t)
theorem DrF.len {K : PySem.W.Frag} {B : Hp} : ∀ {vs : List (Str × V)} {ds : List (Str × Da)}, DrF K B vs ds → vs.length = ds.length
  | _, _, .nil => rfl
  | _, _, .cons _ t => congrArg (· + 1) (DrF.len t)
def notOb : Sl → Bool
  | .ob _ _ _ _ => false | _ => true
section
variable {K : PySem.W.Frag} {W : WX} {B B' H H' H0 B0 : Hp} {σ : L2.St} {en en' : List Sl} {te ta tb : TE} {d d1 d2 : Da} {o : XO} {C dx : Addr} {fs : List (Str × Da)} {ds : List Da} {f : Str} {i : Nat}
theorem Sd.obAt {p : Addr} (S : Sd K B0 H0 B H σ en) (h : en[i]? = some (.ob p C dx fs)) : ∃ vs, σ[i]? = some (some (.ref p)) ∧ B p = none ∧ H0 p = none ∧ H p = some (.ins C dx vs) ∧ DrF K B vs fs := by
  obtain ⟨x, h1, h2⟩ := paired_get S.sl h
  cases h2 with
  | ob b f h t => exact ⟨_, h1, b, f, h, t⟩
theorem ex_fldO {p : Addr} (ho : en[i]? = some (.ob p C dx fs)) (hc : Cls K C) (hn : NoAttr K C f) (hl : fs.lookup f = some d) : EX K W (tFld K (tVar i) f) en (.ok d) := fun _ _ B H σ S Q k => by
  obtain ⟨vs, e1, _, _, e2, t⟩ := S.obAt ho
  obtain ⟨v, l, r⟩ := t.look hl
  exact ⟨_, e1, p, C, dx, vs, v, rfl, e2, hc, hn, l, k v B H (Gr.refl S.eb) r⟩
theorem ex_fld (ha : EX K W ta en (.ok (.ins C fs))) (hc : Cls K C) (hn : NoAttr K C f) (hl : fs.lookup f = some d) : EX K W (tFld K ta f) en (.ok d) := fun _ _ B H σ S Q k =>
  ha _ _ B H σ S _ fun x B1 H1 g r => by
    cases r with
    | ins h t =>
      obtain ⟨v, l, r⟩ := t.look hl
      exact ⟨_, C, _, _, v, rfl, g.s _ _ h, hc, hn, l, k v B1 H1 g r⟩
theorem st_fldO {p : Addr} (ho : en[i]? = some (.ob p C dx fs)) (h1 : (en.set i .no).all notOb = true) (hc : Cls K C) (hn : NoAttr K C f) (hz : fs.length < 1000) (h : EX K W te en (.ok d)) : ST K W (sFld K (tVar i) te f) en (.nx (en.set i (.ob p C dx (putD f d fs)))) := fun B0 H0 B H σ S D k =>
  h _ _ B H σ S _ fun v B1 H1 g r => by
    have S1 := S.grow g
    obtain ⟨vs, e1, b, f0, e2, t⟩ := S1.obAt ho
    have hi : i < en.length := by
      rcases Nat.lt_or_ge i en.length with h | h
      · exact h
      · rw [List.getElem?_eq_none h] at ho; cases ho
    refine ⟨_, e1, p, C, dx, vs, rfl, e2, hc, hn, by rw [t.len]; exact hz, k B1 _ σ ⟨⟨S1.gr.b, S1.gr.h.mut f0, fun a o e => ?_, S1.gr.n⟩, paired_ix (by rw [List.length_set]; exact Paired.length S1.sl) fun j x y hx hy => ?_, fun a c q xs ys q1 q2 q3 q4 => ?_⟩⟩
    · rw [upd_ne (ne_of_none e b)]
      exact S1.gr.s a o e
    · by_cases hj : j = i
      · subst hj
        rw [List.getElem?_set_self hi] at hy
        cases hy
        rw [e1] at hx
        cases hx
        exact .ob b f0 upd_same (t.put r)
      · rw [List.getElem?_set_ne (Ne.symm hj)] at hy
        have rr := paired_at S1.sl hx hy
        cases rr with
        | no => exact .no _
        | da h => exact .da h
        | rf v => exact .rf v
        | own b' f' h' t' => exact .own b' f' (by rw [upd_ne (ne_of h' e2 (fun z => nomatch z))]; exact h') t'
        | ob b' f' h' t' =>
          have m := hy
          rw [← List.getElem?_set_ne (Ne.symm hj) (a := Sl.no)] at m
          have := (List.all_eq_true.mp h1) _ (List.mem_of_getElem? m)
          cases this
    · have back : ∀ (a : Nat) (xs : List Da), (en.set i (.ob p C dx (putD f d fs)))[a]? = some (.own xs) → en[a]? = some (.own xs) := fun a xs h => by
        by_cases ha : a = i
        · subst ha; rw [List.getElem?_set_self hi] at h; cases h
        · rw [List.getElem?_set_ne (Ne.symm ha)] at h; exact h
      exact S1.sep a c q xs ys (back a xs q1) (back c ys q2) q3 q4
/-- a method of data -/
theorem ex_meth {m : Str} {n : Nat} {fsem : List Da → Option XO} {t : TA} (ha : EX K W ta en (.ok (.ins C fs))) (hm : fs.lookup m = none) (ht : EA K t en ds) (hf : fsem (.ins C fs :: (ds ++ [])) = some (.ok d)) (hl : (Da.ins C fs :: (ds ++ [])).length = n) : EX K W (tMeth C m (spD K n fsem) [] E0 ta t) en (.ok d) := fun _ _ B H σ S Q k =>
  ha _ _ B H σ S _ fun x B1 H1 g r => by
    have r0 := r
    cases r with
    | @ins a _ dx' vs _ h t' =>
      refine ⟨a, dx', vs, rfl, g.s _ _ h, t'.lookN hm, ht _ _ B1 H1 σ (S.grow g) _ fun ws B2 H2 g2 r2 => ?_⟩
      refine ⟨by rw [← hl]; simp [r2.length], B2, _, .ok d, g2.s, .cons (r0.mono g2.b) (r2.append .nil), hf, ?_⟩
      exact fun v B3 H3 g3 r3 => k v B3 H3 ((g.trans g2).trans g3) r3
/-- a method of the object that is being made; what it gives is a number -/
theorem ex_methO {m : Str} {n : Nat} {fsem : List Da → Option XO} {t : TA} {z : Int} {p : Addr} (ho : en[i]? = some (.ob p C dx fs)) (hm : fs.lookup m = none) (ht : EA K t en ds) (hf : fsem (.ins C fs :: (ds ++ [])) = some (.ok (.int z))) (hl : (Da.ins C fs :: (ds ++ [])).length = n) : EX K W (tMeth C m (spD K n fsem) [] E0 (tVar i) t) en (.ok (.int z)) := fun _ _ B H σ S Q k => by
  obtain ⟨vs, e1, b, f0, e2, t'⟩ := S.obAt ho
  refine ⟨_, e1, p, dx, vs, rfl, e2, t'.lookN hm, ht _ _ B H σ S _ fun ws B2 H2 g2 r2 => ?_⟩
  obtain ⟨vs', e1', b', f0', e2', t2⟩ := (S.grow g2).obAt ho
  have eB : Ex B2 (upd B2 p (.ins C dx vs')) := Ex.new b'
  refine ⟨by rw [← hl]; simp [r2.length], upd B2 p (.ins C dx vs'), _, .ok (.int z), fun a o e => ?_, .cons (.ins upd_same (t2.mono eB)) ((r2.mono eB).append .nil), hf, fun v B3 H3 g3 r3 => ?_⟩
  · by_cases q : a = p
    · subst q; rw [upd_same] at e; rw [e2']; exact e
    · rw [upd_ne q] at e; exact g2.s a o e
  · cases r3
    exact k _ B2 H3 (g2.trans ⟨Ex.refl _, g3.h, eB.trans (g3.b.trans g3.s), fun _ _ hb => hb⟩) (.int z)
end
/-! ### a new object -/
/-- what __init__ makes of the arguments: the attributes, or an error -/
inductive XI where
  | ok (fs : List (Str × Da)) | err (C : Addr) (f : Option (Str × Da))
def del (H : Hp) (p : Addr) : Hp := fun q => if q = p then none else H q
theorem del_ne {H : Hp} {p q : Addr} (h : q ≠ p) : del H p q = H q := by unfold del; rw [if_neg h]
theorem del_same {H : Hp} {p : Addr} : del H p p = none := by unfold del; rw [if_pos rfl]
theorem del_ex {H : Hp} {p : Addr} : Ex (del H p) H := fun a o e => by
  by_cases h : a = p
  · subst h; rw [del_same] at e; cases e
  · rw [del_ne h] at e; exact e
def spI (K : PySem.W.Frag) (C : Addr) (n : Nat) (fi : List Da → Option XI) : Sp := fun vs H Q E => vs.length = n ∧ ∃ p dx ws B ds o, vs = .ref p :: ws ∧ H p = some (.ins C dx []) ∧ B p = none ∧ Ex B H ∧ DrA K B ws ds ∧ fi ds = some o ∧
  match o with
  | .ok fs => ∀ B' H' us, Gr B (del H p) B' H' → B' p = none → H' p = some (.ins C dx us) → DrF K B' us fs → Q .non H'
  | .err D f => ∀ dd B' H', Gr B (del H p) B' H' → XF K B' H' dd f → E (.ref D) dd H'
section
variable {P : Program} {w : World} {K : PySem.W.Frag} {mg : Str → Option Value} {base : Heap} {x qual : Str} {st : Stmt} {f : Addr} {fd : FuncData} {N ps : List Str} {k : Nat} {dvs : List V} {kws : List (Str × V)} {C : Addr}
inductive LeadI (p C dx : Addr) : Out → XI → Prop
  | nx (en : List Sl) (fs : List (Str × Da)) (h : en[0]? = some (.ob p C dx fs)) : LeadI p C dx (.nx en) (.ok fs)
  | rx (en : List Sl) (D : Addr) (f : Option (Str × Da)) : LeadI p C dx (.rx en D f) (.err D f)
theorem fn_i (F : FunDS K x qual st dvs kws f fd) {s0 : Str} {pr : List Str} (hps : ps = s0 :: pr) (S : FnScope N ps (defScope st)) (fi : List Da → Option XI)
    (hb : ∀ (cdv : Value) (A : Around) (outer : List Env) (s : Shared) (H : Hp) (E : XK) (p dx : Addr) (ds : List Da) (o : XI), Bd (XB P w K mg base N qual st f cdv A outer s H E) (WD E) k → ds.length = pr.length → fi ds = some o →
      ∃ ou, LeadI p C dx ou o ∧ SVs (XB P w K mg base N qual st f cdv A outer s H E) (WD E) (.ob p C dx [] :: (ds.map .da ++ List.replicate (N.length - (ds.length + 1)) .no)) (defBody st) ou) : FnOk P w K mg base (L2.CX P w) (k + 1) f fd ps (spI K C ps.length fi) := by
  refine F.ok (CX := L2.CX P w) S (fun vs H Q E h => h.1) fun cdv A outer s H vs Q E hr h => ?_
  obtain ⟨hl, p, dx, ws, B, ds, o, rfl, hp, hBp, eB, hA, hf, ko⟩ := h
  have hlen : ds.length = pr.length := by
    rw [hps] at hl
    have := hA.length
    simp only [List.length_cons] at hl
    omega
  obtain ⟨ou, ld, t, h1, h2⟩ := hb cdv A outer s H E p dx ds o (bd_of S hr) hlen hf
  refine ⟨t, h1, h2 B (del H p) B H _ ⟨⟨Ex.refl _, del_ex, eB, fun _ _ hb => hb⟩, ?_, fun i j q es1 es2 q1 => ?_⟩ _ ?_⟩
  · have e : L2.start N (.ref p :: ws) = some (V.ref p) :: (ws.map some ++ List.replicate (N.length - (ws.length + 1)) none) := rfl
    rw [e, hA.length]
    exact .cons (.ob hBp del_same hp .nil) (paired_app (slots_sl hA) paired_rep)
  · cases i with
    | zero => cases q1
    | succ i =>
      have m := List.mem_of_getElem? (show (ds.map Sl.da ++ List.replicate (N.length - (ds.length + 1)) .no)[i]? = _ from q1)
      rcases List.mem_append.mp m with m | m
      · obtain ⟨d, _, e⟩ := List.mem_map.mp m
        cases e
      · cases (List.eq_of_mem_replicate m)
  · cases ld with
    | rx en C f => exact fun B' H' σ' dd S' x' => ko dd B' H' S'.gr x'
    | nx en fs h =>
      intro B' H' σ' S'
      obtain ⟨us, e1, b, f0, e2, t2⟩ := S'.obAt h
      exact ko B' H' us S'.gr b e2 t2
end
/-! C(k = v, ..): the new object as data -/
section
variable {X : Cx} {W : WX} {k j n : Nat} {f C : Addr} {fd : FuncData} {ps ks : List Str} {x : Str} {p pos : Pos} {kws : List Keyword} {tk : TA} {g : List Value → List Value → List Value} {gV : List V → List V → List V} {en : List Sl} {zs : List Da} {fs : List (Str × Da)} {fi : List Da → Option XI} {gD : List Da → List Da}
theorem ex_make (hk : EA X.K tk en zs) (hgd : ∀ B r vs, DrA X.K B vs zs → vs.length = ks.length → (gV [r] vs).length = n ∧ ∃ ws, gV [r] vs = r :: ws ∧ DrA X.K B ws (gD zs)) (l2 : zs.length = ks.length) (hf : fi (gD zs) = some (.ok fs)) :
    EX X.K W (tMakeK C 0 ks.length (spI X.K C n fi) gV E0 tNil tk) en (.ok (.ins C fs)) := fun _ _ B H σ S Q ko =>
  hk _ _ B H σ S _ fun vs B1 H1 g1 r1 => ⟨rfl, r1.length.trans l2, fun o dx ho hd hne => by
    obtain ⟨h1, ws, e1, h2⟩ := hgd B1 (.ref o) vs r1 (r1.length.trans l2)
    have eH : Ex H1 (upd (upd H1 dx (.own o)) o (.ins C dx [])) := fun a u e => by
      rw [upd_ne (ne_of_none e ho), upd_ne (ne_of_none e hd)]; exact e
    refine ⟨h1, o, dx, ws, B1, gD zs, .ok fs, e1, upd_same, fresh_back g1.s ho, g1.s.trans eH, h2, hf, fun B' H' us g hb hh t => ⟨rfl, ?_⟩⟩
    have eD : Ex H1 (del (upd (upd H1 dx (.own o)) o (.ins C dx [])) o) := fun a u e => by
      rw [del_ne (ne_of_none e ho)]; exact eH a u e
    have g2 : Gr B1 H1 B' H' := ⟨g.b, eD.trans g.h, g.s, fun q hq hb => g.n q (fun z => by
      cases e : H1 q with
      | none => exact hq e
      | some u => rw [eD q u e] at z; cases z) hb⟩
    exact ko _ _ _ (g1.trans (g2.freeze g1.s ho hh)) (.ins upd_same (t.mono (Ex.new hb)))⟩
/-- an own class that can be made by keywords -/
structure Mak (P : Program) (w : World) (K : PySem.W.Frag) (mg : Str → Option Value) (base : Heap) (x : Str) (C : Addr) (j : Nat) (ks : List Str) (gD : List Da → List Da) (fi : List Da → Option XI) : Prop where
  ex : ∃ (f : Addr) (fd : FuncData) (ps : List Str) (g : List Value → List Value → List Value) (gV : List V → List V → List V), FnOk P w K mg base (L2.CX P w) j f fd ps (spI K C ps.length fi) ∧ Mk K C f ∧ mg x = some (.ref C) ∧ KBn K fd ps 1 ks g gV ∧
    ∀ B r vs zs, DrA K B vs zs → vs.length = ks.length → (gV [r] vs).length = ps.length ∧ ∃ ws, gV [r] vs = r :: ws ∧ DrA K B ws (gD zs)
theorem ev_make (cl : Mak X.prog X.w X.K X.mg X.base x C j ks gD fi) (Bx : Bd X W k) (hj : j + 1 ≤ k) (hk : EVK X W en kws zs) (hf : fi (gD zs) = some (.ok fs)) (l2 : zs.length = ks.length) (hg : Gl X x)
    (hall : (backToKw pos (keywordEach kws X.env)).all (·.1.isSome) = true) (hks : (backToKw pos (keywordEach kws X.env)).filterMap (·.1) = ks) (hdb : (x == ("__debug__" : Str)) = false)
    (hpl : ((backTo pos (starEach [] X.env)).any (·.1) || (backToKw pos (keywordEach kws X.env)).any (·.1.isNone)) = false) : EV X W en (.Call (.Name x p) [] kws pos) (.ok (.ins C fs)) := by
  obtain ⟨f, fd, ps, g, gV, F, M, hm, hb, hgd⟩ := cl.ex
  obtain ⟨tk, h3, h4⟩ := hk
  exact ⟨_, pe_makeK0 M F (Bx.rm.mono hj) hg hm hb passL h3 hall hks hdb hpl, ex_make h4 (fun B r vs r1 q1 => hgd B r vs zs r1 q1) l2 hf⟩
/-! methods, attributes in a body -/
structure Mth (P : Program) (w : World) (K : PySem.W.Frag) (mg : Str → Option Value) (base : Heap) (C : Addr) (m : Str) (j : Nat) (ps : List Str) (fs : List Da → Option XO) : Prop where
  ex : ∃ f fd, FnOk P w K mg base (L2.CX P w) j f fd ps (spD K ps.length fs) ∧ Meth K C m f ∧ Binds K fd ps []
variable {o e : Expr} {es : List Expr} {m : Str} {apos : Pos} {ds : List Da} {d : Da} {fsem : List Da → Option XO} {i : Nat} {z : Int} {dx pa : Addr} {y : Str} {np : Pos}
theorem ev_meth {pl : Sem Bool} (cl : Mth X.prog X.w X.K X.mg X.base C m j ps fsem) (Bx : Bd X W k) (hj : j ≤ k) (c : Cls X.K C) (ho : EV X W en o (.ok (.ins C fs))) (ha : EVA X W en (e :: es) ds) (hf : fsem (.ins C fs :: (ds ++ [])) = some (.ok d)) (hm : fs.lookup m = none) (hl : (Da.ins C fs :: (ds ++ [])).length = ps.length)
    (hst : starEach (e :: es) X.env = (false, eval e X.env) :: starEach es X.env) (hpl : (backTo pos (starEach es X.env)).any (·.1) = false)
    (ht : eval (.Call (.Attribute o m apos) (e :: es) [] pos) X.env = (do
      let ov ← eval o X.env
      standAt apos.atName
      let (f, first) ← holding [ov] (getMethod ov m pl)
      callWith pos f first (backTo pos (starEach (e :: es) X.env)) (backToKw pos (keywordEach [] X.env)))) : EV X W en (.Call (.Attribute o m apos) (e :: es) [] pos) (.ok d) := by
  obtain ⟨f, fd, F, hM, hb⟩ := cl.ex
  obtain ⟨te, h1, h2⟩ := ho
  obtain ⟨t, h3, h4⟩ := ha
  exact ⟨_, pe_meth h1 c hM F (Bx.rm.mono hj) hb .nil passL h3 hst hpl ht, ex_meth h2 hm h4 hf hl⟩
theorem ev_meth0 {pl : Sem Bool} (cl : Mth X.prog X.w X.K X.mg X.base C m j ps fsem) (Bx : Bd X W k) (hj : j ≤ k) (c : Cls X.K C) (ho : EV X W en o (.ok (.ins C fs))) (hf : fsem [.ins C fs] = some (.ok d)) (hm : fs.lookup m = none) (hl : [Da.ins C fs].length = ps.length)
    (ht : eval (.Call (.Attribute o m apos) [] [] pos) X.env = (do
      let ov ← eval o X.env
      standAt apos.atName
      let (f, first) ← holding [ov] (getMethod ov m pl)
      callWith pos f first (backTo pos (starEach [] X.env)) (backToKw pos (keywordEach [] X.env)))) : EV X W en (.Call (.Attribute o m apos) [] [] pos) (.ok d) := by
  obtain ⟨f, fd, F, hM, hb⟩ := cl.ex
  obtain ⟨te, h1, h2⟩ := ho
  exact ⟨_, pe_meth0 h1 c hM F (Bx.rm.mono hj) hb .nil passL ht, ex_meth h2 hm ea_nil hf hl⟩
theorem ev_methO {pl : Sem Bool} (cl : Mth X.prog X.w X.K X.mg X.base C m j ps fsem) (Bx : Bd X W k) (hj : j ≤ k) (c : Cls X.K C) (hN : X.N.idxOf? y = some i) (hv : Vis X.env.scope y) (ho : en[i]? = some (.ob pa C dx fs)) (hN2 : X.N[i]? = some y) (hd : (y == ("__debug__" : Str)) = false) (hcd : (y == ("__classdict__" : Str)) = false)
    (ha : EVA X W en (e :: es) ds) (hf : fsem (.ins C fs :: (ds ++ [])) = some (.ok (.int z))) (hm : fs.lookup m = none) (hl : (Da.ins C fs :: (ds ++ [])).length = ps.length)
    (hst : starEach (e :: es) X.env = (false, eval e X.env) :: starEach es X.env) (hpl : (backTo pos (starEach es X.env)).any (·.1) = false)
    (ht : eval (.Call (.Attribute (.Name y np) m apos) (e :: es) [] pos) X.env = (do
      let ov ← eval (.Name y np) X.env
      standAt apos.atName
      let (f, first) ← holding [ov] (getMethod ov m pl)
      callWith pos f first (backTo pos (starEach (e :: es) X.env)) (backToKw pos (keywordEach [] X.env)))) : EV X W en (.Call (.Attribute (.Name y np) m apos) (e :: es) [] pos) (.ok (.int z)) := by
  obtain ⟨f, fd, F, hM, hb⟩ := cl.ex
  obtain ⟨t, h3, h4⟩ := ha
  exact ⟨_, pe_meth (pe_var hN2 hv hd hcd) c hM F (Bx.rm.mono hj) hb .nil passL h3 hst hpl ht, ex_methO ho hm h4 hf hl⟩
theorem ev_fld (c : Cls X.K C) (hn : NoAttr X.K C m) (ho : EV X W en o (.ok (.ins C fs))) (hl : fs.lookup m = some d) (hb : attributeBase o m X.env (eval o X.env) = eval o X.env) : EV X W en (.Attribute o m pos) (.ok d) := by
  obtain ⟨te, h1, h2⟩ := ho
  exact ⟨_, pe_fld h1 hb, ex_fld h2 c hn hl⟩
theorem ev_fldO (c : Cls X.K C) (hn : NoAttr X.K C m) (hN : X.N.idxOf? y = some i) (hv : Vis X.env.scope y) (ho : en[i]? = some (.ob pa C dx fs)) (hN2 : X.N[i]? = some y) (hd : (y == ("__debug__" : Str)) = false) (hcd : (y == ("__classdict__" : Str)) = false) (hl : fs.lookup m = some d)
    (hb : attributeBase (.Name y np) m X.env (eval (.Name y np) X.env) = eval (.Name y np) X.env) : EV X W en (.Attribute (.Name y np) m pos) (.ok d) :=
  ⟨_, pe_fld (pe_var hN2 hv hd hcd) hb, ex_fldO ho c hn hl⟩
theorem sv_fldO {e1 : List Sl} {v : Expr} {pos' : Pos} (c : Cls X.K C) (hn : NoAttr X.K C m) (hN : X.N.idxOf? y = some i) (hv : Vis X.env.scope y) (ho : en[i]? = some (.ob pa C dx fs)) (hN2 : X.N[i]? = some y) (hd : (y == ("__debug__" : Str)) = false) (hcd : (y == ("__classdict__" : Str)) = false)
    (h1 : (en.set i .no).all notOb = true) (hz : fs.length < 1000) (he : EV X W en v (.ok d)) (hs : swapsWith v (some (.Attribute (.Name y np) m pos')) pos.line X.env = pure false) (hq : en.set i (.ob pa C dx (putD m d fs)) = e1) : SV X W en (.Assign [.Attribute (.Name y np) m pos'] v pos) (.nx e1) := by
  subst hq
  obtain ⟨te, a1, a2⟩ := he
  exact ⟨_, ps_fld (pe_var hN2 hv hd hcd) a1 hs, st_fldO ho h1 c hn hz a2⟩
theorem ev_if {a b c : Expr} {u : Bool} (hc : EVT X W en c u) (h1 : u = true → EV X W en a (.ok d)) (h2 : u = false → EV X W en b (.ok d)) : EV X W en (.IfExp c a b pos) (.ok d) := by
  obtain ⟨t, c1, c2⟩ := hc
  cases u with
  | true =>
    obtain ⟨te, a1, a2⟩ := h1 rfl
    exact ⟨_, pe_ifExp c1 a1 pe_none, fun B0 H0 B H σ S Q k => c2 _ _ B H σ S _ fun B' H' g => iteT (a2 _ _ B' H' σ (S.grow g) Q (Ko.grow (o := .ok d) (E := fun _ _ _ => False) g k))⟩
  | false =>
    obtain ⟨te, a1, a2⟩ := h2 rfl
    exact ⟨_, pe_ifExp c1 pe_none a1, fun B0 H0 B H σ S Q k => c2 _ _ B H σ S _ fun B' H' g => iteF (a2 _ _ B' H' σ (S.grow g) Q (Ko.grow (o := .ok d) (E := fun _ _ _ => False) g k))⟩
end
end Sky
namespace Sky
open PySem L2 Evl PySem.Spec PyProof.Rows
/-! worths above nought -/
def fAbove : List Da → Option XO
  | [d] => match isWorthD d with
    | some false => some (.ok (.bl false))
    | some true => match d with
      | .tup [.int a, _] => some (.ok (.bl (decide (0 < a))))
      | _ => none
    | none => none
  | _ => none
theorem above_no {d : Da} (h : isWorthD d = some false) : fAbove ([d] ++ []) = some (.ok (.bl false)) := by
  show (match isWorthD d with | some false => _ | some true => _ | none => _) = _
  rw [h]
theorem above_int {a b : Int} (h : isW a b = true) : fAbove ([.tup [.int a, .int b]] ++ []) = some (.ok (.bl (decide (0 < a)))) := by
  show (match isWorthD (.tup [.int a, .int b]) with | some false => _ | some true => _ | none => _) = _
  rw [isWorthD_int, h]
theorem above_lw {x n : Int} (h : 0 < n) : fAbove ([lw x n] ++ []) = some (.ok (.bl (decide (0 < x)))) := by
  have hn : n ≠ 0 := by omega
  rw [lw_is, above_int (lw_isW x hn)]
  obtain ⟨z, q, r, h1, h2, h3, h4, h5⟩ := lw_ex x hn
  obtain ⟨e1, e2⟩ := lw_of h1 h2 h3 h4 h5
  rw [e1, h2]
  have hz : 0 < z := Int.lt_of_mul_lt_mul_right (a := r) (by rw [Int.zero_mul, ← h3]; exact h) (Int.le_of_lt h4)
  have : (0 < q) = (0 < z * q) := propext ⟨fun p => Int.mul_pos hz p, fun p => by
    rcases Int.lt_or_le 0 q with l | l
    · exact l
    · have := Int.mul_nonpos_of_nonneg_of_nonpos (Int.le_of_lt hz) l
      omega⟩
  simp only [this]
theorem fAbove_inv {ds : List Da} {o : XO} (h : fAbove ds = some o) : ∃ d, ds = [d] ∧ ((isWorthD d = some false ∧ o = .ok (.bl false)) ∨ ∃ a b, d = .tup [.int a, .int b] ∧ isW a b = true ∧ o = .ok (.bl (decide (0 < a)))) := by
  unfold fAbove at h
  split at h
  · rename_i d
    refine ⟨d, rfl, ?_⟩
    cases q : isWorthD d with
    | none => rw [q] at h; cases h
    | some u =>
      rw [q] at h
      cases u with
      | false => exact .inl ⟨rfl, (Option.some.inj h).symm⟩
      | true =>
        right
        simp only at h
        split at h
        · rename_i a e
          have e2 : isWholeD e = some true := by cases e <;> first | rfl | cases q
          obtain ⟨b, rfl⟩ := whole_int e2
          refine ⟨a, b, rfl, ?_, (Option.some.inj h).symm⟩
          rw [isWorthD_int] at q
          exact Option.some.inj q
        · cases h
  · cases h
end Sky
namespace Sky
open PySem L2 Evl PySem.Spec PyProof.Rows
/-! ### for x, y, z in zip(a, b, c): three lists -/
def ItzT (K : PySem.W.Frag) (a b c : Addr) : It :=
  ⟨fun i H => ∃ (xs ys zs : List V) (x y z : V), SqL K H a xs ∧ SqL K H b ys ∧ SqL K H c zs ∧ xs[i]? = some x ∧ ys[i]? = some y ∧ zs[i]? = some z,
    fun i H v H' => ∃ T x y z, v = .ref T ∧ H T = none ∧ H' = upd H T (.tup [x, y, z]) ∧ (∀ xs, SqL K H a xs → xs[i]? = some x) ∧ (∀ ys, SqL K H b ys → ys[i]? = some y) ∧ ∀ zs, SqL K H c zs → zs[i]? = some z,
    fun i H => ∃ xs ys zs : List V, SqL K H a xs ∧ SqL K H b ys ∧ SqL K H c zs ∧ xs.length = i ∧ ys.length = i ∧ zs.length = i⟩
theorem turn_zipT {P : Program} {w : World} {K : PySem.W.Frag} {elts : List Expr} {kk : Nat} {tpos : Pos} {a b c z TI TO i1 i2 i3 : Addr} (D : ZipSep3 z TI TO i1 i2 i3 [i1, a] [i2, b] [i3, c]) (ha : a ≠ i1) (hb : b ≠ i2) (hc' : c ≠ i3) :
    Turn P w K (.Tuple elts kk tpos) (ItzT K a b c) [z, TI, TO, i1, i2, i3] z (fun i h => IsZip h z TI TO .none ∧ IsTupOf3 h TI (.ref i1) (.ref i2) (.ref i3) ∧ (∃ x y z, IsTupOf3 h TO x y z) ∧ h.IsListIter i1 a i ∧ h.IsListIter i2 b i ∧ h.IsListIter i3 c i) where
  mem := by simp
  obj := fun i h st c hc => by
    obtain ⟨hz, hTI, ⟨x, y, u, hTO⟩, ⟨o1, e1, _, d1⟩, ⟨o2, e2, _, d2⟩, ⟨o3, e3, _, d3⟩⟩ := st
    have e' : c = z ∨ c = TI ∨ c = TO ∨ c = i1 ∨ c = i2 ∨ c = i3 := by simpa using hc
    rcases e' with q | q | q | q | q | q
    · rw [q]; exact ⟨_, hz, fun v q => nomatch q⟩
    · rw [q]; exact ⟨_, hTI, fun v q => nomatch q⟩
    · rw [q]; exact ⟨_, hTO, fun v q => nomatch q⟩
    · rw [q]; exact ⟨o1, e1, fun v q => by rw [d1] at q; cases q⟩
    · rw [q]; exact ⟨o2, e2, fun v q => by rw [d2] at q; cases q⟩
    · rw [q]; exact ⟨o3, e3, fun v q => by rw [d3] at q; cases q⟩
  keep := fun i h h' st k => by
    obtain ⟨hz, hTI, ⟨x, y, u, hTO⟩, h1, h2, h3⟩ := st
    exact ⟨k z (by simp) _ hz, k TI (by simp) _ hTI, ⟨x, y, u, k TO (by simp) _ hTO⟩, h1.at fun o q => k i1 (by simp) o q, h2.at fun o q => k i2 (by simp) o q, h3.at fun o q => k i3 (by simp) o q⟩
  item := by
    intro X hP hw hK hc i pins s σ H E I hf st hg
    subst hP hw hK
    obtain ⟨hz, hTI, ⟨x0, y0, z0, hTO⟩, h1, h2, h3⟩ := st
    obtain ⟨xs, ys, zs, x, y, zz, hqx, hqy, hqz, hx, hy, hzz⟩ := hg
    obtain ⟨its, rv, p, _⟩ := I.list hqx
    obtain ⟨its2, rv2, p2, _⟩ := I.list hqy
    obtain ⟨its3, rv3, p3, _⟩ := I.list hqz
    obtain ⟨u, hu, ru⟩ := rv.get hx
    obtain ⟨u2, hu2, ru2⟩ := rv2.get hy
    obtain ⟨u3, hu3, ru3⟩ := rv3.get hzz
    have hzl : z < s.heap.objs.size := Heap.lt_size hz
    have hh : X.A.in1.handled = none := I.ok.hd hc
    have lt1 : i < its.toArray.size := by simpa using (List.getElem?_eq_some_iff.mp hu).1
    have lt2 : i < its2.toArray.size := by simpa using (List.getElem?_eq_some_iff.mp hu2).1
    have lt3 : i < its3.toArray.size := by simpa using (List.getElem?_eq_some_iff.mp hu3).1
    refine wpAny_pyNext_zipD3_item D (Draws.list hh i1 a ha its.toArray) (Draws.list hh i2 b hb its2.toArray) (Draws.list hh i3 c hc' its3.toArray) hz hTI hTO ⟨h1, p.isList⟩ ⟨h2, p2.isList⟩ ⟨h3, p3.isList⟩ lt1 lt2 lt3 fun x1 x2 x3 h' tk q1 q2 q3 z' TO' s1' s2' s3' hT hsz hk => ?_
    have e1 : x1 = u := by
      have q1' : its.toArray[i]? = some x1 := q1
      rw [List.getElem?_toArray, hu] at q1'
      exact (Option.some.inj q1').symm
    have e2 : x2 = u2 := by
      have q1' : its2.toArray[i]? = some x2 := q2
      rw [List.getElem?_toArray, hu2] at q1'
      exact (Option.some.inj q1').symm
    have e3 : x3 = u3 := by
      have q1' : its3.toArray[i]? = some x3 := q3
      rw [List.getElem?_toArray, hu3] at q1'
      exact (Option.some.inj q1').symm
    subst e1 e2 e3
    refine ⟨_, rfl, wpAny_letOwnedTupleGo_zip (s := { s with heap := h', toks := tk }) z' fun h'' z'' sb => ?_⟩
    have hT2 : h''.get? s.heap.objs.size = some { cls := .type "tuple", data := .seq #[x1, x2, x3] } := (sb.2 _ (Nat.ne_of_gt hzl)).trans hT
    have new : ObjOk X.prog X.w (upd H s.heap.objs.size (.tup [x, y, zz])) h'' s.heap.objs.size (.tup [x, y, zz]) :=
      ⟨by show 3 ≤ sizeLine; decide, [x1, x2, x3], .cons ru (.cons ru2 (.cons ru3 .nil)), ⟨_, hT2, rfl, _, rfl⟩⟩
    have I1 : Inv X pins σ (upd H s.heap.objs.size (.tup [x, y, zz])) { s with heap := h'', toks := tk } :=
      I.turnedNew (t' := tk) (ch := [z, TI, TO, i1, i2, i3]) (fun c o hb q => (sb.2 c (fun q' => hb (by simp [q']))).trans (hk c o (fun q' => hb (by simp [q'])) (fun q' => hb (by simp [q'])) (fun q' => hb (by simp [q'])) (fun q' => hb (by simp [q'])) (fun q' => hb (by simp [q'])) q)) hf (Nat.le_refl _) new
    refine ⟨.ref s.heap.objs.size, _, I1, rfl, ⟨_, x, y, zz, rfl, I.hok.fresh (Nat.le_refl _), rfl, fun l hl => by rw [I.list_inj hl hqx]; exact hx, fun l hl => by rw [I.list_inj hl hqy]; exact hy, fun l hl => by rw [I.list_inj hl hqz]; exact hzz⟩, ⟨z'', ?_, ⟨x1, x2, x3, ?_⟩, ?_, ?_, ?_⟩, fun c hcm => ?_⟩
    · exact (sb.2 _ D.TIz).trans (hk _ _ D.TIz D.TITO D.TIi1 D.TIi2 D.TIi3 hTI)
    · exact (sb.2 _ D.TOz).trans TO'
    · exact s1'.1.at fun o q => (sb.2 _ D.zi1.symm).trans q
    · exact s2'.1.at fun o q => (sb.2 _ D.zi2.symm).trans q
    · exact s3'.1.at fun o q => (sb.2 _ D.zi3.symm).trans q
    · have hlt : c < s.heap.objs.size := by
        have e' : c = z ∨ c = TI ∨ c = TO ∨ c = i1 ∨ c = i2 ∨ c = i3 := by simpa using hcm
        rcases e' with q | q | q | q | q | q
        · rw [q]; exact hzl
        · rw [q]; exact Heap.lt_size hTI
        · rw [q]; exact Heap.lt_size hTO
        · rw [q]; obtain ⟨_, e1, _⟩ := h1; exact Heap.lt_size e1
        · rw [q]; obtain ⟨_, e2, _⟩ := h2; exact Heap.lt_size e2
        · rw [q]; obtain ⟨_, e2, _⟩ := h3; exact Heap.lt_size e2
      rw [upd_ne (Nat.ne_of_lt hlt)]
      exact (hf c hcm).1
  done := by
    intro X hP hw hK hc i pins s σ H E I hf st hg
    subst hP hw hK
    obtain ⟨hz, hTI, ⟨x0, y0, z0, hTO⟩, h1, h2, h3⟩ := st
    obtain ⟨xs, ys, zs, hqx, hqy, hqz, l1, l2, l3⟩ := hg
    obtain ⟨its, rv, p, _⟩ := I.list hqx
    obtain ⟨its2, rv2, p2, _⟩ := I.list hqy
    obtain ⟨its3, rv3, p3, _⟩ := I.list hqz
    have hh : X.A.in1.handled = none := I.ok.hd hc
    have m1 : its.toArray.size = i := by have := rv.length; simp; omega
    have m2 : its2.toArray.size = i := by have := rv2.length; simp; omega
    have m3 : its3.toArray.size = i := by have := rv3.length; simp; omega
    exact wpAny_pyNext_zipD3_end D (Draws.list hh i1 a ha its.toArray) (Draws.list hh i2 b hb its2.toArray) (Draws.list hh i3 c hc' its3.toArray) hz hTI hTO ⟨h1, p.isList⟩ ⟨h2, p2.isList⟩ ⟨h3, p3.isList⟩ (by omega) (by omega) (by omega) (.inl m1.symm) fun h' tk hk => ⟨rfl, I.turnedL (t' := tk) (ch := [z, TI, TO, i1, i2, i3]) (fun c o hb q =>
      hk c o (fun q' => hb (by simp [q'])) (fun q' => hb (by simp [q'])) (fun q' => hb (by simp [q'])) (fun q' => hb (by simp [q'])) (fun q' => hb (by simp [q'])) q) hf⟩
  self := fun A i s Q E st h => wpAny_pyIter_zip st.1 h
def iZipT (K : PySem.W.Frag) (ta : TA) : TI := fun σ H R => ta σ H fun vs H1 => ∃ a b c xs ys zs, vs = [.ref a, .ref b, .ref c] ∧ SqL K H1 a xs ∧ SqL K H1 b ys ∧ SqL K H1 c zs ∧ R (ItzT K a b c) H1
theorem pi_zipT {X : Cx} {e e2 e3 : Expr} {ta : TA} {p pos tpos : Pos} {elts : List Expr} {kk : Nat} (hg : Gl X "zip") (hm : X.mg "zip" = none) (ha : PA X [e, e2, e3] ta)
    (hs : starEach [e, e2, e3] X.env = (false, eval e X.env) :: starEach [e2, e3] X.env := by rfl) (hpl : (backTo pos (starEach [e2, e3] X.env)).any (·.1) = false := by rfl) :
    PI X (.Tuple elts kk tpos) (.Call (.Name "zip" p) [e, e2, e3] [] pos) (iZipT X.K ta) := by
  refine ⟨fun pins s σ H R I h => ?_⟩
  refine Call_ (ld_blt I hg hm PyProof.Rows.boot_zip (PyProof.Rows.callWith_type1 (thn (ha.run pos pins s σ H _ I h) fun us s1 ⟨vs, H1, I1, r1, q1⟩ => ?_) hs hpl))
  obtain ⟨a, b, c, xs, ys, zs, ex, hqx, hqy, hqz, q⟩ := q1
  subst ex
  cases r1 with
  | cons r rr =>
    cases rr with
    | cons r' rr =>
      cases rr with
      | cons r'' rr =>
        cases rr
        cases r
        cases r'
        cases r''
        obtain ⟨its, rv, p1, _⟩ := I1.list hqx
        obtain ⟨its2, rv2, p2, _⟩ := I1.list hqy
        obtain ⟨its3, rv3, p3, _⟩ := I1.list hqz
        have la : a < s1.heap.objs.size := p1.lt
        have lb : b < s1.heap.objs.size := p2.lt
        have lc : c < s1.heap.objs.size := p3.lt
        have m1 : ∀ x ∈ [a], x < s1.heap.objs.size := fun x hx => by rw [List.mem_singleton.mp hx]; exact la
        have m2 : ∀ x ∈ [b], x < s1.heap.objs.size := fun x hx => by rw [List.mem_singleton.mp hx]; exact lb
        have m3 : ∀ x ∈ [c], x < s1.heap.objs.size := fun x hx => by rw [List.mem_singleton.mp hx]; exact lc
        have D := zip_sep3 (N := s1.heap.objs.size) (fp1 := [a]) (fp2 := [b]) (fp3 := [c]) m1 m2 m3
        refine zip_begins3 (begins_list a its.toArray) (begins_list b its2.toArray) (begins_list c its3.toArray) p1.isList p2.isList p3.isList fun h' hz hTI hTO g1 g2 g3 hsz hk => wpAny_pyIter_zip hz ?_
        have I2 : Inv X pins σ H1 { s1 with heap := h' } := I1.kept (t' := s1.toks) hk
        refine ⟨s1.heap.objs.size + 5, [s1.heap.objs.size + 5, s1.heap.objs.size + 3, s1.heap.objs.size + 4, s1.heap.objs.size, s1.heap.objs.size + 1, s1.heap.objs.size + 2], _, _, H1, rfl, I2, turn_zipT D (Nat.ne_of_lt la) (Nat.ne_of_lt (Nat.lt_succ_of_lt lb)) (Nat.ne_of_lt (Nat.lt_succ_of_lt (Nat.lt_succ_of_lt lc))), ⟨hz, hTI, ⟨_, _, _, hTO⟩, ⟨_, g1, rfl, rfl⟩, ⟨_, g2, rfl, rfl⟩, ⟨_, g3, rfl, rfl⟩⟩, fun c hcm => ?_, q⟩
        have e' : c = s1.heap.objs.size + 5 ∨ c = s1.heap.objs.size + 3 ∨ c = s1.heap.objs.size + 4 ∨ c = s1.heap.objs.size ∨ c = s1.heap.objs.size + 1 ∨ c = s1.heap.objs.size + 2 := by simpa using hcm
        have hle : s1.heap.objs.size ≤ c := by
          rcases e' with z | z | z | z | z | z
          · rw [z]; exact Nat.le_add_right _ _
          · rw [z]; exact Nat.le_add_right _ _
          · rw [z]; exact Nat.le_add_right _ _
          · rw [z]; exact Nat.le_refl _
          · rw [z]; exact Nat.le_add_right _ _
          · rw [z]; exact Nat.le_add_right _ _
        exact I1.fpOk hle (I1.hok.fresh hle)
def YTri (xs ys zs : Nat → Option V) : Nat → Hp → V → Hp → Prop := fun i H v H' => ∃ T x y z, v = .ref T ∧ H T = none ∧ H' = upd H T (.tup [x, y, z]) ∧ xs i = some x ∧ ys i = some y ∧ zs i = some z
theorem walk_zipT {K : PySem.W.Frag} {a b c : Addr} {xs ys zs : List V} {n : Nat} (h1 : xs.length = n) (h2 : ys.length = n) (h3 : zs.length = n) : Walk (ItzT K a b c) n (fun H => SqL K H a xs ∧ SqL K H b ys ∧ SqL K H c zs) (YTri (fun i => xs[i]?) (fun i => ys[i]?) (fun i => zs[i]?)) := by
  refine ⟨fun i _ hi q => ?_, fun _ q => ⟨xs, ys, zs, q.1, q.2.1, q.2.2, h1, h2, h3⟩, fun i H v H' _ q y => ?_⟩
  · exact ⟨xs, ys, zs, xs[i]'(by omega), ys[i]'(by omega), zs[i]'(by omega), q.1, q.2.1, q.2.2, List.getElem?_eq_getElem _, List.getElem?_eq_getElem _, List.getElem?_eq_getElem _⟩
  · obtain ⟨T, x, u, z, e1, e2, e3, e4, e5, e6⟩ := y
    exact ⟨T, x, u, z, e1, e2, e3, e4 xs q.1, e5 ys q.2.1, e6 zs q.2.2⟩
section
variable {K : PySem.W.Frag} {W : WX} {en : List Sl} {tx : TA} {tbd : TS} {ds es fs : List Da} {o : Out} {j1 j2 j3 m : Nat}
theorem st_forZ3 (F : Nat → List Sl) (h : EA K tx en [.lst ds, .lst es, .lst fs]) (hl : ds.length = es.length) (hl2 : ds.length = fs.length) (h0 : F 0 = en)
    (ht : ∀ i d e f, ds[i]? = some d → es[i]? = some e → fs[i]? = some f → ST K W tbd ((((F i).set j1 (.da d)).set j2 (.da e)).set j3 (.da f)) (.nx (F (i + 1)))) : ST K W (tFor (iZipT K tx) (gTup K 3 (gNames [j1, j2, j3])) tbd) en (.nx (F ds.length)) := fun B0 H0 B H σ S D k =>
  h _ _ B H σ S _ fun vs B1 H1 g r => by
    cases r with
    | cons r r2 =>
      cases r2 with
      | cons r2 r3 =>
        cases r3 with
        | cons r3 r4 =>
          cases r4
          cases r with
          | @lst a xs _ hq t =>
            cases r2 with
            | @lst b ys _ hq2 t2 =>
              cases r3 with
              | @lst c zs _ hq3 t3 =>
                have S1 := S.grow g
                have l1 := t.length
                have l2 := t2.length
                have l3 := t3.length
                refine ⟨a, b, c, xs, ys, zs, rfl, ex_l g.s hq, ex_l g.s hq2, ex_l g.s hq3, for_it (walk_zipT (a := a) (b := b) (c := c) (xs := xs) (ys := ys) (zs := zs) (n := ds.length) l1 (by omega) (by omega)) (fun i σ' H' => ∃ B', Sd K B1 H0 B' H' σ' (F i)) ⟨B1, by rw [h0]; exact S1.rebase⟩ (fun i σ' H' _ ⟨B', S'⟩ => ⟨ex_l (S'.gr.b.trans S'.gr.s) hq, ex_l (S'.gr.b.trans S'.gr.s) hq2, ex_l (S'.gr.b.trans S'.gr.s) hq3⟩) (fun i v σ' H' H2 hi ⟨B', S'⟩ y => ?_) (fun σ' H' ⟨B', S'⟩ => ?_)⟩
                · obtain ⟨T, x, y, z, rfl, hT, rfl, hx, hy, hz⟩ := y
                  have hx : xs[i]? = some x := hx
                  have hy : ys[i]? = some y := hy
                  have hz : zs[i]? = some z := hz
                  have hi2 : i < es.length := by omega
                  have hi3 : i < fs.length := by omega
                  obtain ⟨x', hx', rx⟩ := t.get (List.getElem?_eq_getElem hi)
                  rw [hx] at hx'
                  cases hx'
                  obtain ⟨y', hy', ry⟩ := t2.get (List.getElem?_eq_getElem hi2)
                  rw [hy] at hy'
                  cases hy'
                  obtain ⟨z', hz', rz⟩ := t3.get (List.getElem?_eq_getElem hi3)
                  rw [hz] at hz'
                  cases hz'
                  have gn := Gr.new (o := .tup [x, y, z]) S'.eb hT
                  have S2 := S'.grow gn
                  have gg := S'.gr.b.trans gn.b
                  exact ⟨_, _, rfl, st_of upd_same, rfl, gn_set (is := [j1, j2, j3]) (ds := [ds[i], es[i], fs[i]]) S2 (.cons (rx.mono gg) (.cons (ry.mono gg) (.cons (rz.mono gg) .nil))) rfl fun σ2 S3 =>
                    ht i _ _ _ (List.getElem?_eq_getElem hi) (List.getElem?_eq_getElem hi2) (List.getElem?_eq_getElem hi3) B1 H0 _ _ _ S3 _ fun B3 H3 σ3 S3 => ⟨B3, S3⟩⟩
                · exact k B' H' σ' (S'.base S1.gr)
end
section
variable {X : Cx} {W : WX} {k : Nat} {en : List Sl} {a b c : Expr} {ds es fs : List Da} {ou : Out} {x y z : Str} {p q1 q2 p1 p2 p3 tp pos : Pos} {q : Nat} {ss : List Stmt} {j1 j2 j3 m : Nat}
theorem sv_forZ3 (Bx : Bd X W k) (F : Nat → List Sl) (hm0 : X.mg "zip" = none) (hg : Gl X "zip") (hi : EVA X W en [a, b, c] [.lst ds, .lst es, .lst fs]) (hl : ds.length = es.length) (hl2 : ds.length = fs.length) (h0 : F 0 = en) (hgn : GN X [.Name x p1, .Name y p2, .Name z p3] [j1, j2, j3])
    (hn : (assignEach [.Name x p1, .Name y p2, .Name z p3] X.env).length = 3) (hst : (assignEach [.Name x p1, .Name y p2, .Name z p3] X.env).findIdx? (·.1) = none) (hs : starEach [a, b, c] X.env = (false, eval a X.env) :: starEach [b, c] X.env) (hpl : (backTo q2 (starEach [b, c] X.env)).any (·.1) = false)
    (ht : ∀ i d e f, ds[i]? = some d → es[i]? = some e → fs[i]? = some f → SVs X W ((((F i).set j1 (.da d)).set j2 (.da e)).set j3 (.da f)) ss (.nx (F (i + 1)))) : SV X W en (.For (.Tuple [.Name x p1, .Name y p2, .Name z p3] q tp) (.Call (.Name "zip" q1) [a, b, c] [] q2) ss [] pos) (.nx (F ds.length)) := by
  obtain ⟨t, h1, h2⟩ := hi
  exact ⟨_, ps_for Bx.own Bx.calm (pi_zipT hg hm0 h1 hs hpl) (pg_tup Bx.calm hgn hn hst) pss_U, st_forZ3 F h2 hl hl2 h0 fun i d e f hd he hf => (ht i d e f hd he hf).U⟩
end
/-! ### lcm of two -/
def lcm2 (a b : Int) : Int := ((a.natAbs.lcm b.natAbs : Nat) : Int)
def rLcm2 : List V → Hp → VK → Prop := fun vs H Q => ∃ a b : Int, vs = [.int a, .int b] ∧ (a.natAbs < 2 ^ 100 ∧ b.natAbs < 2 ^ 100) ∧ Q (.int (lcm2 a b)) H
open PySem.W PySem.Calls in
theorem cr_lcm2 {X : Cx} : CallR X (.builtin "math.lcm") rLcm2 := by
  intro pins s σ H vs us Q I r h
  obtain ⟨a, b, rfl, ⟨h1, h2⟩, q⟩ := h
  cases r with
  | cons r1 r => cases r with
    | cons r2 r =>
      cases r
      obtain ⟨t1, rfl⟩ := r1
      obtain ⟨t2, rfl⟩ := r2
      have lift : ∀ {n : Nat}, n < 2 ^ 100 → n < 2 ^ 200 := fun h1 => Nat.lt_of_lt_of_le h1 (Nat.pow_le_pow_right (by decide) (by decide))
      have l1 : a.natAbs.lcm b.natAbs < 2 ^ 200 := Nat.lt_of_le_of_lt (mc_lcm_le _ _) (Nat.lt_of_lt_of_le (Nat.mul_lt_mul'' h1 h2) (by decide))
      have hs : ((((Nat.lcm 1 a.natAbs).lcm b.natAbs : Nat) : Int)).natAbs.log2 < bitsLine := by
        rw [Nat.lcm_one_left, Int.natAbs_natCast]
        have := mg_log (k := 199) l1
        have e : bitsLine = 134217728 := by decide
        omega
      refine call_function_meets MGF.kind_lcm MGF.plain_lcm MGF.entry_lcm (MGF.args_lcm _ _) (mg_run_lcm a t1 b t2 (PySem.W.log_small (Nat.max_lt.mpr ⟨by decide, lift h1⟩)) (PySem.W.log_small (Nat.max_lt.mpr ⟨lift h1, lift h2⟩)) hs).meets ⟨.int (lcm2 a b), H, I.tok _, ⟨s.toks, ?_⟩, q⟩
      unfold lcm2
      rw [Nat.lcm_one_left]
theorem rc_lcm2 {K : PySem.W.Frag} {a b : Int} (h : a.natAbs < 2 ^ 100 ∧ b.natAbs < 2 ^ 100) : RC K rLcm2 [.int a, .int b] (.int (lcm2 a b)) := fun B H vs e hA Q k => by
  cases hA with
  | cons h1 t => cases t with
    | cons h2 t =>
      cases t; cases h1; cases h2
      exact ⟨a, b, rfl, h, k _ B H (Gr.refl e) (.int _)⟩
end Sky
namespace Sky
open PySem L2 Evl PySem.Spec PyProof.Rows
/-! ### worths over a common bottom -/
theorem lw_cross (x : Int) {n : Int} (h : n ≠ 0) : tp x n * n = x * bt x n := by
  obtain ⟨z, q, r, h1, h2, h3, h4, h5⟩ := lw_ex x h
  obtain ⟨e1, e2⟩ := lw_of h1 h2 h3 h4 h5
  rw [e1, e2, h2, h3]
  grind
theorem bt_pos (x : Int) {n : Int} (h : n ≠ 0) : 0 < bt x n := isW_pos (lw_isW x h)
theorem low_uniq {q r p s : Int} (hr : 0 < r) (hs : 0 < s) (g1 : Nat.gcd q.natAbs r.natAbs = 1) (g2 : Nat.gcd p.natAbs s.natAbs = 1) (h : q * s = p * r) : q = p ∧ r = s := by
  have hn : q.natAbs * s.natAbs = p.natAbs * r.natAbs := by rw [← Int.natAbs_mul, ← Int.natAbs_mul, h]
  have d1 : r.natAbs ∣ s.natAbs := by
    have : r.natAbs ∣ q.natAbs * s.natAbs := ⟨p.natAbs, by rw [hn, Nat.mul_comm]⟩
    exact Nat.Coprime.dvd_of_dvd_mul_left (Nat.Coprime.symm g1) this
  have d2 : s.natAbs ∣ r.natAbs := by
    have : s.natAbs ∣ p.natAbs * r.natAbs := ⟨q.natAbs, by rw [← hn, Nat.mul_comm]⟩
    exact Nat.Coprime.dvd_of_dvd_mul_left (Nat.Coprime.symm g2) this
  have e : r.natAbs = s.natAbs := Nat.dvd_antisymm d1 d2
  have e' : r = s := by omega
  subst e'
  exact ⟨Int.eq_of_mul_eq_mul_right (by omega) h, rfl⟩
theorem lw_eq {a b c d : Int} (hb : b ≠ 0) (hd : d ≠ 0) (h : a * d = c * b) : tp a b = tp c d ∧ bt a b = bt c d := by
  obtain ⟨z, q, r, h1, h2, h3, h4, h5⟩ := lw_ex a hb
  obtain ⟨y, p, s, k1, k2, k3, k4, k5⟩ := lw_ex c hd
  obtain ⟨e1, e2⟩ := lw_of h1 h2 h3 h4 h5
  obtain ⟨f1, f2⟩ := lw_of k1 k2 k3 k4 k5
  have hh : (z * y) * (q * s) = (z * y) * (p * r) := by
    have : z * q * (y * s) = y * p * (z * r) := by rw [← h2, ← h3, ← k2, ← k3]; exact h
    grind
  have := low_uniq h4 k4 h5 k5 (Int.eq_of_mul_eq_mul_left (Int.mul_ne_zero h1 k1) hh)
  rw [e1, e2, f1, f2]
  exact this
theorem lw_same {a b c d : Int} (hb : b ≠ 0) (hd : d ≠ 0) (h : a * d = c * b) : lw a b = lw c d := by
  obtain ⟨e1, e2⟩ := lw_eq hb hd h
  rw [lw_is, lw_is, e1, e2]
theorem lw_scale {k a b : Int} (hk : k ≠ 0) (hb : b ≠ 0) : lw (k * a) (k * b) = lw a b := lw_same (Int.mul_ne_zero hk hb) hb (by grind)
theorem lw_inj {x y n : Int} (h : n ≠ 0) (e : lw x n = lw y n) : x = y := by
  rw [lw_is, lw_is] at e
  injection e with e
  injection e with e1 e2
  injection e1 with e1
  injection e2 with e2 e3
  injection e2 with e2
  have a := lw_cross x h
  have b := lw_cross y h
  rw [e1, e2] at a
  have hp := bt_pos y h
  exact Int.eq_of_mul_eq_mul_right (by omega) (a.symm.trans b)
section
variable {x y n : Int} (h : 0 < n)
include h
theorem lw_add : lw (tp x n * bt y n + tp y n * bt x n) (bt x n * bt y n) = lw (x + y) n := by
  have hn : n ≠ 0 := by omega
  have a := lw_cross x hn
  have b := lw_cross y hn
  have p := bt_pos x hn
  have q := bt_pos y hn
  exact lw_same (mul_ne p q) hn (by grind)
theorem lw_sub : lw (tp x n * bt y n - tp y n * bt x n) (bt x n * bt y n) = lw (x - y) n := by
  have hn : n ≠ 0 := by omega
  have a := lw_cross x hn
  have b := lw_cross y hn
  have p := bt_pos x hn
  have q := bt_pos y hn
  exact lw_same (mul_ne p q) hn (by grind)
theorem lw_less : decide (tp x n * bt y n < tp y n * bt x n) = decide (x < y) := by
  have hn : n ≠ 0 := by omega
  have a := lw_cross x hn
  have b := lw_cross y hn
  have p := bt_pos x hn
  have q := bt_pos y hn
  have pq : 0 < bt x n * bt y n := Int.mul_pos p q
  have e1 : tp x n * bt y n * n = x * (bt x n * bt y n) := by grind
  have e2 : tp y n * bt x n * n = y * (bt x n * bt y n) := by grind
  have : tp x n * bt y n < tp y n * bt x n ↔ x < y := by
    constructor
    · intro l
      have := Int.mul_lt_mul_of_pos_right l h
      rw [e1, e2] at this
      exact Int.lt_of_mul_lt_mul_right this (by omega)
    · intro l
      have := Int.mul_lt_mul_of_pos_right l pq
      rw [← e1, ← e2] at this
      exact Int.lt_of_mul_lt_mul_right this (by omega)
  exact decide_eq_decide.mpr this
end
theorem lw_times {x n y m : Int} (hn : n ≠ 0) (hm : m ≠ 0) : lw (tp x n * tp y m) (bt x n * bt y m) = lw (x * y) (n * m) := by
  have a := lw_cross x hn
  have b := lw_cross y hm
  have p := bt_pos x hn
  have q := bt_pos y hm
  exact lw_same (mul_ne p q) (Int.mul_ne_zero hn hm) (by grind)
theorem cmp_lw {a b : Int} : Cmp (lw a b) := ⟨rfl, rfl⟩
theorem deq_lw {x y n : Int} (h : n ≠ 0) : deq (lw x n) (lw y n) = decide (x = y) := by
  by_cases e : x = y
  · subst e
    rw [deq_self cmp_lw, decide_eq_true rfl]
  · rw [decide_eq_false e]
    rw [lw_is, lw_is]
    show (PyData.eqv (.int (tp x n)) (.int (tp y n)) && (PyData.eqv (.int (bt x n)) (.int (bt y n)) && true)) = false
    show ((tp x n == tp y n) && ((bt x n == bt y n) && true)) = false
    cases h1 : (tp x n == tp y n) with
    | false => rfl
    | true =>
      cases h2 : (bt x n == bt y n) with
      | false => rfl
      | true =>
        exact absurd (lw_inj h (by rw [lw_is, lw_is, of_decide_eq_true (by simpa using h1 : decide (tp x n = tp y n) = true), of_decide_eq_true (by simpa using h2 : decide (bt x n = bt y n) = true)])) e
theorem tp_bn {x n : Int} (hn : n ≠ 0) (hx : Bn x) : Bn (tp x n) := Nat.lt_of_le_of_lt (tp_le x hn) hx
theorem bt_bn {x n : Int} (hn : n ≠ 0) (hx : Bn n) : Bn (bt x n) := Nat.lt_of_le_of_lt (bt_le x hn) hx
theorem two_lw {x y n : Int} (h : 0 < n) (hx : Bn x) (hy : Bn y) (hn : Bn n) : Two (tp x n) (bt x n) (tp y n) (bt y n) :=
  ⟨lw_isW x (by omega), lw_isW y (by omega), tp_bn (by omega) hx, bt_bn (by omega) hn, tp_bn (by omega) hy, bt_bn (by omega) hn⟩
theorem twoL_lw {x n y m : Int} (h : n ≠ 0) (k : m ≠ 0) (hx : Bn x) (hn : Bn n) (hy : Bn y) (hm : Bn m) : TwoL (tp x n) (bt x n) (tp y m) (bt y m) :=
  ⟨Int.ne_of_gt (bt_pos x h), Int.ne_of_gt (bt_pos y k), tp_bn h hx, bt_bn h hn, tp_bn k hy, bt_bn k hm⟩
/-- what the defs tell of worths over a common bottom -/
theorem minus_lw {x y n : Int} (h : 0 < n) (hx : Bn x) (hy : Bn y) (hn : Bn n) : fTwo gMinus ([lw x n, lw y n] ++ []) = some (.ok (lw (x - y) n)) := by
  rw [lw_is, lw_is, ← lw_sub h]
  exact fTwo_ok (two_lw h hx hy hn) rfl
theorem less_lw {x y n : Int} (h : 0 < n) (hx : Bn x) (hy : Bn y) (hn : Bn n) : fTwo gLess ([lw x n, lw y n] ++ []) = some (.ok (.bl (decide (x < y)))) := by
  rw [lw_is, lw_is, ← lw_less h]
  exact fTwo_ok (two_lw h hx hy hn) rfl
theorem ladd_lw {x y n : Int} (h : 0 < n) (hx : Bn x) (hy : Bn y) (hn : Bn n) : fTwoL gPlus ([lw x n, lw y n] ++ []) = some (.ok (lw (x + y) n)) := by
  rw [lw_is, lw_is, ← lw_add h]
  exact fTwoL_ok (twoL_lw (by omega) (by omega) hx hn hy hn) rfl
theorem ltake_lw {x y n : Int} (h : 0 < n) (hx : Bn x) (hy : Bn y) (hn : Bn n) : fTwoL gMinus ([lw x n, lw y n] ++ []) = some (.ok (lw (x - y) n)) := by
  rw [lw_is, lw_is, ← lw_sub h]
  exact fTwoL_ok (twoL_lw (by omega) (by omega) hx hn hy hn) rfl
theorem lless_lw {x y n : Int} (h : 0 < n) (hx : Bn x) (hy : Bn y) (hn : Bn n) : fTwoL gLess ([lw x n, lw y n] ++ []) = some (.ok (.bl (decide (x < y)))) := by
  rw [lw_is, lw_is, ← lw_less h]
  exact fTwoL_ok (twoL_lw (by omega) (by omega) hx hn hy hn) rfl
theorem lby_lw {x n y m : Int} (h : n ≠ 0) (k : m ≠ 0) (hx : Bn x) (hn : Bn n) (hy : Bn y) (hm : Bn m) : fTwoL gTimes ([lw x n, lw y m] ++ []) = some (.ok (lw (x * y) (n * m))) := by
  rw [lw_is, lw_is, ← lw_times h k]
  exact fTwoL_ok (twoL_lw h k hx hn hy hm) rfl
theorem isw_lw {x n : Int} (h : n ≠ 0) : fIsWorth ([lw x n] ++ []) = some (.ok (.bl true)) := worth_int (lw_isW x h)
/-! ### lines -/
/-- a line: least worth l, greatest h, step t, begin a, all over n -/
structure Ln (l h t a n : Int) : Prop where
  n0 : 0 < n
  l0 : 0 ≤ l
  lh : l < h
  t0 : 0 < t
  th : t ≤ h - l
  la : l ≤ a
  ah : a ≤ h
  hb : h < 1000000
  nb : n < 1000000
def lnM (l h t a n : Int) : Int := lcm4 (bt l n) (bt h n) (bt t n) (bt a n)
def lnU (x n m : Int) : Int := tp x n * (m / bt x n)
theorem lcm4_dvd (a b c d : Int) : a ∣ lcm4 a b c d ∧ b ∣ lcm4 a b c d ∧ c ∣ lcm4 a b c d ∧ d ∣ lcm4 a b c d := by
  unfold lcm4
  have q1 := Nat.dvd_lcm_left a.natAbs b.natAbs
  have q2 := Nat.dvd_lcm_right a.natAbs b.natAbs
  have q3 := Nat.dvd_lcm_left (a.natAbs.lcm b.natAbs) c.natAbs
  have q4 := Nat.dvd_lcm_right (a.natAbs.lcm b.natAbs) c.natAbs
  have q5 := Nat.dvd_lcm_left ((a.natAbs.lcm b.natAbs).lcm c.natAbs) d.natAbs
  have q6 := Nat.dvd_lcm_right ((a.natAbs.lcm b.natAbs).lcm c.natAbs) d.natAbs
  have up : ∀ {z : Int} {m : Nat}, z.natAbs ∣ m → z ∣ (m : Int) := fun {z m} h => Int.natAbs_dvd_natAbs.mp (by rw [Int.natAbs_natCast]; exact h)
  exact ⟨up (Nat.dvd_trans q1 (Nat.dvd_trans q3 q5)), up (Nat.dvd_trans q2 (Nat.dvd_trans q3 q5)), up (Nat.dvd_trans q4 q5), up q6⟩
theorem bt_dvd (x : Int) {n : Int} (h : n ≠ 0) : bt x n ∣ n := by
  obtain ⟨z, q, r, h1, h2, h3, h4, h5⟩ := lw_ex x h
  obtain ⟨e1, e2⟩ := lw_of h1 h2 h3 h4 h5
  rw [e2, h3]
  exact ⟨z, Int.mul_comm _ _⟩
theorem lnM_dvd {l h t a n : Int} (hn : n ≠ 0) : lnM l h t a n ∣ n := by
  unfold lnM lcm4
  have dn : ∀ x, (bt x n).natAbs ∣ n.natAbs := fun x => Int.natAbs_dvd_natAbs.mpr (bt_dvd x hn)
  refine Int.natAbs_dvd_natAbs.mp ?_
  rw [Int.natAbs_natCast]
  exact Nat.lcm_dvd (Nat.lcm_dvd (Nat.lcm_dvd (dn l) (dn h)) (dn t)) (dn a)
theorem lnM_pos {l h t a n : Int} (hn : 0 < n) : 0 < lnM l h t a n := by
  obtain ⟨k, e⟩ := lnM_dvd (l := l) (h := h) (t := t) (a := a) (show n ≠ 0 by omega)
  have h0 : 0 ≤ lnM l h t a n := Int.natCast_nonneg _
  have h1 : lnM l h t a n ≠ 0 := fun z => by rw [z, Int.zero_mul] at e; omega
  omega
/-- the line's own units: n is k times its scale, all else likewise -/
theorem unit_is {x n m k : Int} (hn : 0 < n) (hm : n = m * k) (hd : bt x n ∣ m) : x = lnU x n m * k := by
  obtain ⟨c, hc⟩ := hd
  have b0 := bt_pos x (show n ≠ 0 by omega)
  have cr := lw_cross x (show n ≠ 0 by omega)
  unfold lnU
  rw [hc, Int.mul_ediv_cancel_left _ (by omega)]
  have : bt x n * x = bt x n * (tp x n * c * k) := by
    rw [hc] at hm
    have e : tp x n * (bt x n * c * k) = x * bt x n := by rw [← hm]; exact cr
    grind
  exact Int.eq_of_mul_eq_mul_left (by omega) this
end Sky
namespace Sky
open PySem L2 Evl PySem.Spec PyProof.Rows
/-! what the defs of lines tell -/
def lnC (l h t a n l1 l2 h1 h2 t1 t2 a1 a2 : Int) : Prop := Ln l h t a n ∧ l1 = tp l n ∧ l2 = bt l n ∧ h1 = tp h n ∧ h2 = bt h n ∧ t1 = tp t n ∧ t2 = bt t n ∧ a1 = tp a n ∧ a2 = bt a n
open Classical in
noncomputable def fFirst : List Da → Option XO
  | [.tup [.int l1, .int l2], .tup [.int h1, .int h2], .tup [.int t1, .int t2], .tup [.int a1, .int a2], .bl _] => if ∃ l h t a n, lnC l h t a n l1 l2 h1 h2 t1 t2 a1 a2 then some (.ok .non) else none
  | _ => none
theorem fFirst_inv {ds : List Da} {o : XO} (h : fFirst ds = some o) : ∃ l h t a n u, Ln l h t a n ∧ ds = [lw l n, lw h n, lw t n, lw a n, .bl u] ∧ o = .ok .non := by
  unfold fFirst at h
  split at h
  · split at h
    · rename_i hh
      obtain ⟨l, h', t, a, n, H, rfl, rfl, rfl, rfl, rfl, rfl, rfl, rfl⟩ := hh
      exact ⟨l, h', t, a, n, _, H, rfl, (Option.some.inj h).symm⟩
    · cases h
  · cases h
theorem fFirst_ok {l h t a n : Int} {u : Bool} (H : Ln l h t a n) : fFirst ([lw l n, lw h n, lw t n, lw a n, .bl u] ++ []) = some (.ok .non) := if_pos ⟨l, h, t, a, n, H, rfl, rfl, rfl, rfl, rfl, rfl, rfl, rfl⟩
def lnFs (m L S T Z : Int) : List (Str × Da) := [("_scale", .int m), ("_low", .int L), ("_span", .int S), ("_step", .int T), ("_start", .int Z)]
def uI (x1 x2 m : Int) : Int := x1 * (m / x2)
def lnF (l1 l2 h1 h2 t1 t2 a1 a2 : Int) (u : Bool) : List (Str × Da) :=
  lnFs (lcm4 l2 h2 t2 a2) (uI l1 l2 (lcm4 l2 h2 t2 a2)) (uI h1 h2 (lcm4 l2 h2 t2 a2) - uI l1 l2 (lcm4 l2 h2 t2 a2)) (uI t1 t2 (lcm4 l2 h2 t2 a2))
    (if u = true then uI a1 a2 (lcm4 l2 h2 t2 a2) - uI l1 l2 (lcm4 l2 h2 t2 a2) else 2 * (uI h1 h2 (lcm4 l2 h2 t2 a2) - uI l1 l2 (lcm4 l2 h2 t2 a2)) - (uI a1 a2 (lcm4 l2 h2 t2 a2) - uI l1 l2 (lcm4 l2 h2 t2 a2)))
open Classical in
noncomputable def fInit : List Da → Option XI
  | [.tup [.int l1, .int l2], .tup [.int h1, .int h2], .tup [.int t1, .int t2], .tup [.int a1, .int a2], .bl u] => if ∃ l h t a n, lnC l h t a n l1 l2 h1 h2 t1 t2 a1 a2 then some (.ok (lnF l1 l2 h1 h2 t1 t2 a1 a2 u)) else none
  | _ => none
theorem fInit_inv {ds : List Da} {o : XI} (h : fInit ds = some o) : ∃ l h t a n u, Ln l h t a n ∧ ds = [lw l n, lw h n, lw t n, lw a n, .bl u] ∧ o = .ok (lnF (tp l n) (bt l n) (tp h n) (bt h n) (tp t n) (bt t n) (tp a n) (bt a n) u) := by
  unfold fInit at h
  split at h
  · split at h
    · rename_i hh
      obtain ⟨l, h', t, a, n, H, rfl, rfl, rfl, rfl, rfl, rfl, rfl, rfl⟩ := hh
      exact ⟨l, h', t, a, n, _, H, rfl, (Option.some.inj h).symm⟩
    · cases h
  · cases h
theorem fInit_ok {l h t a n : Int} {u : Bool} (H : Ln l h t a n) : fInit [lw l n, lw h n, lw t n, lw a n, .bl u] = some (.ok (lnF (tp l n) (bt l n) (tp h n) (bt h n) (tp t n) (bt t n) (tp a n) (bt a n) u)) := if_pos ⟨l, h, t, a, n, H, rfl, rfl, rfl, rfl, rfl, rfl, rfl, rfl⟩
/-- a made line's numbers, in its own units -/
structure Lm (m L S T Z : Int) : Prop where
  m0 : 0 < m
  s0 : 0 < S
  t0 : 0 < T
  mb : m < 1000000
  lb : L.natAbs < 1000000
  sb : S < 1000000
  tb : T < 1000000
  zb : Z.natAbs < 2000000
theorem lnF_is {l h t a n : Int} (u : Bool) (H : Ln l h t a n) : ∃ k m L S T Z, 0 < k ∧ Lm m L S T Z ∧ lnF (tp l n) (bt l n) (tp h n) (bt h n) (tp t n) (bt t n) (tp a n) (bt a n) u = lnFs m L S T Z ∧ n = m * k ∧ l = L * k ∧ h - l = S * k ∧ t = T * k ∧ (if u = true then a - l else 2 * (h - l) - (a - l)) = Z * k := by
  obtain ⟨k, hk⟩ := lnM_dvd (l := l) (h := h) (t := t) (a := a) (show n ≠ 0 by have := H.n0; omega)
  have m0 := lnM_pos (l := l) (h := h) (t := t) (a := a) H.n0
  have dv := lcm4_dvd (bt l n) (bt h n) (bt t n) (bt a n)
  have el := unit_is (x := l) H.n0 hk dv.1
  have eh := unit_is (x := h) H.n0 hk dv.2.1
  have et := unit_is (x := t) H.n0 hk dv.2.2.1
  have ea := unit_is (x := a) H.n0 hk dv.2.2.2
  have k0 : 0 < k := by
    have := H.n0
    rw [hk] at this
    exact Int.pos_of_mul_pos_right this m0 |> fun z => z
  have le : ∀ {x y : Int}, x = y * k → y.natAbs ≤ x.natAbs := fun {x y} e => by
    rw [e, Int.mul_comm]; exact natAbs_le_mul (by omega)
  obtain ⟨n0, l0, lh, t0, th, la, ah, hb, nb⟩ := H
  have es : h - l = (lnU h n (lnM l h t a n) - lnU l n (lnM l h t a n)) * k := by rw [Int.sub_mul, ← eh, ← el]
  have eal : a - l = (lnU a n (lnM l h t a n) - lnU l n (lnM l h t a n)) * k := by rw [Int.sub_mul, ← ea, ← el]
  have pos : ∀ {x y : Int}, x = y * k → 0 < x → 0 < y := fun {x y} e hx => by
    rw [e] at hx
    exact Int.pos_of_mul_pos_left hx k0 |> fun z => z
  have ez : (if u = true then a - l else 2 * (h - l) - (a - l)) = (if u = true then lnU a n (lnM l h t a n) - lnU l n (lnM l h t a n) else 2 * (lnU h n (lnM l h t a n) - lnU l n (lnM l h t a n)) - (lnU a n (lnM l h t a n) - lnU l n (lnM l h t a n))) * k := by
    cases u
    · show 2 * (h - l) - (a - l) = (2 * (lnU h n (lnM l h t a n) - lnU l n (lnM l h t a n)) - (lnU a n (lnM l h t a n) - lnU l n (lnM l h t a n))) * k
      rw [Int.sub_mul, Int.mul_assoc, ← es, ← eal]
    · exact eal
  have bz : (if u = true then a - l else 2 * (h - l) - (a - l)).natAbs < 2000000 := by cases u <;> simp <;> omega
  refine ⟨k, lnM l h t a n, lnU l n (lnM l h t a n), _, lnU t n (lnM l h t a n), _, k0, ⟨m0, pos es (by omega), pos et t0, ?_, ?_, ?_, ?_, ?_⟩, rfl, hk, el, es, et, ez⟩
  · have := le hk; omega
  · have := le el; omega
  · have := le es; have := pos es (by omega); omega
  · have := le et; have := pos et t0; omega
  · exact Nat.lt_of_le_of_lt (le ez) bz
def gi (f : Str) (fs : List (Str × Da)) : Int := match fs.lookup f with
  | some (.int i) => i | _ => 0
def plc (S T Z r : Int) : Int := (Z + T * r) % (2 * S)
def fold (S p : Int) : Int := if 2 * S - p < p then 2 * S - p else p
def Rw (r : Int) : Prop := r.natAbs < 2 ^ 50
open Classical in
noncomputable def fL (CL : Addr) (g : Int → Int → Int → Int → Int → Int → XO) : List Da → Option XO
  | [.ins C fs, .int r] => if C = CL ∧ (∃ m L S T Z, fs = lnFs m L S T Z ∧ Lm m L S T Z) ∧ Rw r then some (g (gi "_scale" fs) (gi "_low" fs) (gi "_span" fs) (gi "_step" fs) (gi "_start" fs) r) else none
  | _ => none
theorem fL_inv {CL : Addr} {g : Int → Int → Int → Int → Int → Int → XO} {ds : List Da} {o : XO} (h : fL CL g ds = some o) : ∃ m L S T Z r, Lm m L S T Z ∧ Rw r ∧ ds = [.ins CL (lnFs m L S T Z), .int r] ∧ o = g m L S T Z r := by
  unfold fL at h
  split at h
  · split at h
    · rename_i hh
      obtain ⟨rfl, ⟨m, L, S, T, Z, rfl, H⟩, hr⟩ := hh
      exact ⟨m, L, S, T, Z, _, H, hr, rfl, (Option.some.inj h).symm⟩
    · cases h
  · cases h
theorem fL_ok {g : Int → Int → Int → Int → Int → Int → XO} {C : Addr} {m L S T Z r : Int} (H : Lm m L S T Z) (hr : Rw r) : fL C g (.ins C (lnFs m L S T Z) :: ([.int r] ++ [])) = some (g m L S T Z r) := if_pos ⟨rfl, ⟨m, L, S, T, Z, rfl, H⟩, hr⟩
def gPlace (_ _ S T Z r : Int) : XO := .ok (.int (plc S T Z r))
def gValue (m L S T Z r : Int) : XO := .ok (lw (L + fold S (plc S T Z r)) m)
def gRises (_ _ S T Z r : Int) : XO := .ok (.bl (decide (plc S T Z r < S)))
open Classical in
noncomputable def fRet (CL : Addr) : List Da → Option XO
  | [.ins C fs] => if C = CL ∧ ∃ m L S T Z, fs = lnFs m L S T Z ∧ Lm m L S T Z then some (.ok (.tup [.int (2 * gi "_span" fs / ((Nat.gcd (gi "_step" fs).natAbs (2 * gi "_span" fs).natAbs : Nat) : Int)), .int (gi "_step" fs / ((Nat.gcd (gi "_step" fs).natAbs (2 * gi "_span" fs).natAbs : Nat) : Int))])) else none
  | _ => none
theorem fRet_inv {CL : Addr} {ds : List Da} {o : XO} (h : fRet CL ds = some o) : ∃ m L S T Z, Lm m L S T Z ∧ ds = [.ins CL (lnFs m L S T Z)] ∧ o = .ok (.tup [.int (2 * S / ((Nat.gcd T.natAbs (2 * S).natAbs : Nat) : Int)), .int (T / ((Nat.gcd T.natAbs (2 * S).natAbs : Nat) : Int))]) := by
  unfold fRet at h
  split at h
  · split at h
    · rename_i hh
      obtain ⟨rfl, m, L, S, T, Z, rfl, H⟩ := hh
      exact ⟨m, L, S, T, Z, H, rfl, (Option.some.inj h).symm⟩
    · cases h
  · cases h
theorem fRet_ok {C : Addr} {m L S T Z : Int} (H : Lm m L S T Z) : fRet C [.ins C (lnFs m L S T Z)] = some (.ok (.tup [.int (2 * S / ((Nat.gcd T.natAbs (2 * S).natAbs : Nat) : Int)), .int (T / ((Nat.gcd T.natAbs (2 * S).natAbs : Nat) : Int))])) := if_pos ⟨rfl, m, L, S, T, Z, rfl, H⟩
/-! _units of a line that is being made: only the scale is asked -/
open Classical in
noncomputable def fUnits (CL : Addr) : List Da → Option XO
  | [.ins C fs, .tup [.int a, .int b]] => if C = CL ∧ 0 < b ∧ Bn b ∧ Bn a ∧ (fs.lookup ("_scale" : Str) = some (Da.int (gi "_scale" fs))) ∧ 0 ≤ gi "_scale" fs ∧ gi "_scale" fs < 2 ^ 100 then some (.ok (.int (uI a b (gi "_scale" fs)))) else none
  | _ => none
theorem fUnits_inv {CL : Addr} {ds : List Da} {o : XO} (h : fUnits CL ds = some o) : ∃ fs a b, ds = [.ins CL fs, .tup [.int a, .int b]] ∧ 0 < b ∧ Bn b ∧ Bn a ∧ fs.lookup ("_scale" : Str) = some (Da.int (gi "_scale" fs)) ∧ 0 ≤ gi "_scale" fs ∧ gi "_scale" fs < 2 ^ 100 ∧ o = .ok (.int (uI a b (gi "_scale" fs))) := by
  unfold fUnits at h
  split at h
  · split at h
    · rename_i hh
      obtain ⟨rfl, h1, h2, h3, h4, h5, h6⟩ := hh
      exact ⟨_, _, _, rfl, h1, h2, h3, h4, h5, h6, (Option.some.inj h).symm⟩
    · cases h
  · cases h
end Sky
namespace Sky
theorem bn_mil {x : Int} (h : -1000000 ≤ x ∧ x ≤ 1000000) : Bn x := by
  unfold Bn
  have : x.natAbs ≤ 1000000 := by omega
  exact Nat.lt_of_le_of_lt this (by decide)
theorem lw_zero {n : Int} (h : n ≠ 0) : lw 0 n = .tup [.int 0, .int 1] := by
  have : lw 0 n = lw 0 1 := lw_same h (by decide) (by omega)
  rw [this, lw_one]
end Sky
namespace Sky
open PySem L2 Evl PySem.Spec PyProof.Rows
theorem fUnits_ok {C : Addr} {fs : List (Str × Da)} {a b m : Int} (h1 : 0 < b) (h2 : Bn b) (h3 : Bn a) (h4 : fs.lookup ("_scale" : Str) = some (Da.int m)) (h5 : 0 ≤ m) (h6 : m < 2 ^ 100) : fUnits C (.ins C fs :: ([.tup [.int a, .int b]] ++ [])) = some (.ok (.int (uI a b m))) := by
  have e : gi "_scale" fs = m := by unfold gi; rw [h4]
  exact Eq.trans (if_pos ⟨rfl, h1, h2, h3, by rw [e]; exact h4, by rw [e]; exact h5, by rw [e]; exact h6⟩) (by rw [e])
theorem units_mul {a b m : Int} (h1 : 0 < b) (h3 : Bn a) (h5 : 0 ≤ m) (h6 : m < 2 ^ 100) : CDivW m b → CMulW a (m / b) := fun _ => by
  have q0 : 0 ≤ m / b := Int.ediv_nonneg h5 (by omega)
  have q1 : m / b ≤ m := Int.ediv_le_self b h5
  have q : Bn (m / b) := by
    unfold Bn
    have e : ((2 : Int) ^ 100) = ((2 ^ 100 : Nat) : Int) := by decide
    rw [e] at h6
    omega
  exact bn_mul h3 q
theorem div_bn {m b : Int} (h1 : 0 < b) (h2 : Bn b) : CDivW m b := wide_div h1 h2 (by decide) (by decide)
/-- bounds of a line's numbers -/
theorem plc_bd {S T Z r : Int} (h : 0 < S) : 0 ≤ plc S T Z r ∧ plc S T Z r < 2 * S := ⟨Int.emod_nonneg _ (by omega), Int.emod_lt_of_pos _ (by omega)⟩
theorem cm_small {i j : Int} (h1 : i.natAbs < 2 ^ 60) (h2 : j.natAbs < 2 ^ 60) : CMulW i j := wide_mul h1 h2 (by decide) (by decide) (by decide)
theorem lt60 {x : Int} (h : -4000000 ≤ x ∧ x ≤ 4000000) : x.natAbs < 2 ^ 60 := by
  have : x.natAbs ≤ 4000000 := by omega
  exact Nat.lt_of_le_of_lt this (by decide)
end Sky
namespace Sky
open PySem L2 Evl PySem.Spec PyProof.Rows
/-! ### is_tuple -/
def isTupD : Da → Int → Option Bool
  | .tup ds, m => some (decide ((ds.length : Int) = m))
  | .int _, _ => some false | .non, _ => some false | .bl _, _ => some false | .str _, _ => some false | .lst _, _ => some false | _, _ => none
def fIsTuple : List Da → Option XO
  | [d, .int m] => (isTupD d m).map fun b => .ok (.bl b)
  | _ => none
theorem tuple_some {d : Da} {m : Int} {b : Bool} (h : isTupD d m = some b) : fIsTuple ([d, .int m] ++ []) = some (.ok (.bl b)) := by
  show (isTupD d m).map _ = _
  rw [h]
  rfl
end Sky
namespace Sky
open PySem L2 Evl PySem.Spec PyProof.Rows TL
/-! ### groups by sixties, in numbers and as texts -/
def gsR (u : Int) (m : Nat) : List Int := (List.range m).map fun i => u / 60 ^ i % 60
def gsT (u : Int) (m : Nat) : List Str := (gsR u m).reverse.map two
theorem gsR_succ (u : Int) (m : Nat) : gsR u (m + 1) = gsR u m ++ [u / 60 ^ m % 60] := by
  unfold gsR
  rw [List.range_succ, List.map_append]
  rfl
theorem gsR_len (u : Int) (m : Nat) : (gsR u m).length = m := by simp [gsR]
theorem gsT_len (u : Int) (m : Nat) : (gsT u m).length = m := by simp [gsT, gsR_len]
theorem two_len (i : Int) : (two i).length = 2 := rfl
theorem gsT_two (u : Int) (m : Nat) : ∀ y ∈ gsT u m, ∃ i, 0 ≤ i ∧ i < 60 ∧ y = two i := fun y hy => by
  unfold gsT at hy
  obtain ⟨i, hi, rfl⟩ := List.mem_map.mp hy
  have hi := List.mem_reverse.mp hi
  unfold gsR at hi
  obtain ⟨k, _, rfl⟩ := List.mem_map.mp hi
  exact ⟨_, Int.emod_nonneg _ (by decide), Int.emod_lt_of_pos _ (by decide), rfl⟩
theorem div60 {u : Int} (i : Nat) : u / 60 ^ i / 60 = u / 60 ^ (i + 1) := by
  rw [Int.ediv_ediv_of_nonneg (by exact Int.pow_nonneg (by decide)), Int.pow_succ]
def cmS : Str := ","
def scS : Str := ";"
def joinG (ys : List Str) (w : Nat) : Str := if w < ys.length then (Txt.join cmS (ys.take w) ++ scS) ++ Txt.join cmS (ys.drop w) else Txt.join cmS (ys.take w)
theorem join_len : ∀ {ys : List Str}, (∀ y ∈ ys, y.length = 2) → ys ≠ [] → (Txt.join cmS ys).length + 1 = 3 * ys.length
  | [], _, h => absurd rfl h
  | [y], h, _ => by
    rw [join_eq]
    show y.length + 1 = _
    rw [h y (by simp)]
    rfl
  | y :: z :: r, h, _ => by
    have ih := join_len (ys := z :: r) (fun w hw => h w (List.mem_cons_of_mem _ hw)) (by simp)
    rw [join_eq] at ih ⊢
    show (y ++ cmS ++ Str.join cmS (z :: r)).length + 1 = _
    rw [Str.length_append, Str.length_append, h y (by simp)]
    have : cmS.length = 1 := rfl
    simp only [List.length_cons] at ih ⊢
    omega
theorem joinG_len {ys : List Str} {w : Nat} (h : ∀ y ∈ ys, y.length = 2) (h1 : 1 ≤ w) (h2 : w ≤ ys.length) : (joinG ys w).length + 1 = 3 * ys.length := by
  have ht : ∀ y ∈ ys.take w, y.length = 2 := fun y hy => h y (List.mem_of_mem_take hy)
  have hd : ∀ y ∈ ys.drop w, y.length = 2 := fun y hy => h y (List.mem_of_mem_drop hy)
  have lt : (ys.take w).length = w := by rw [List.length_take]; omega
  have ld : (ys.drop w).length = ys.length - w := List.length_drop
  have a := join_len ht (fun z => by rw [z] at lt; simp at lt; omega)
  unfold joinG
  by_cases q : w < ys.length
  · rw [if_pos q, Str.length_append, Str.length_append]
    have b := join_len hd (fun z => by rw [z] at ld; simp at ld; omega)
    have : scS.length = 1 := rfl
    omega
  · rw [if_neg q]
    omega
theorem sum_two : ∀ {ys : List Str}, (∀ y ∈ ys, y.length = 2) → (ys.map (·.length)).sum = 2 * ys.length
  | [], _ => rfl
  | y :: r, h => by
    have ih := sum_two (ys := r) (fun w hw => h w (List.mem_cons_of_mem _ hw))
    rw [List.map_cons, List.sum_cons, ih, h y (by simp), List.length_cons]
    omega
/-- the first sign is a figure -/
theorem join_head {i : Int} {r : List Str} : ∃ t, tl (Txt.join cmS (two i :: r)) = (48 + (i / 10).toNat) :: t := by
  rw [join_eq]
  cases r with
  | nil => exact ⟨_, rfl⟩
  | cons z r =>
    show ∃ t, tl (two i ++ cmS ++ Str.join cmS (z :: r)) = _
    rw [tl_append, tl_append]
    exact ⟨_, rfl⟩
theorem joinG_head {ys : List Str} {w : Nat} (h : ∀ y ∈ ys, ∃ i, 0 ≤ i ∧ i < 60 ∧ y = two i) (h1 : 1 ≤ w) (h2 : w ≤ ys.length) : ∃ c t, tl (joinG ys w) = c :: t ∧ c < 58 := by
  obtain ⟨y, r, e⟩ : ∃ y r, ys.take w = y :: r := by
    cases q : ys.take w with
    | nil =>
      have : (ys.take w).length = w := by rw [List.length_take]; omega
      rw [q] at this
      simp at this
      omega
    | cons y r => exact ⟨y, r, rfl⟩
  obtain ⟨i, i0, i1, rfl⟩ := h y (List.mem_of_mem_take (by rw [e]; simp))
  obtain ⟨t, ht⟩ := join_head (i := i) (r := r)
  unfold joinG
  rw [e]
  by_cases q : w < ys.length
  · rw [if_pos q, tl_append, tl_append, ht]
    exact ⟨_, _, rfl, by omega⟩
  · rw [if_neg q, ht]
    exact ⟨_, _, rfl, by omega⟩
theorem deq_str (a b : Str) : deq (.str a) (.str b) = decide (a = b) := by
  show PyData.eqv (.str a) (.str b) = _
  unfold PyData.eqv
  rfl
end Sky
namespace Sky
open PySem L2 Evl PySem.Spec PyProof.Rows TL
/-! ### what show and its own defs tell -/
def wfD (d : Da) (lo hi : Int) : Option Bool := match d with
  | .int i => some (decide (lo ≤ i) && decide (i ≤ hi))
  | d => match isWholeD d with | some false => some false | _ => none
def fWholeFrom : List Da → Option XO
  | [d, .int lo, .int hi] => (wfD d lo hi).map fun b => .ok (.bl b)
  | _ => none
theorem wf_some {d : Da} {lo hi : Int} {b : Bool} (h : wfD d lo hi = some b) : fWholeFrom ([d, .int lo, .int hi] ++ []) = some (.ok (.bl b)) := by
  show (wfD d lo hi).map _ = _
  rw [h]; rfl
def isFormD (a b : Da) : Option Bool := match wfD a 1 8 with
  | some true => wfD b 0 8
  | some false => (wfD b 0 8).map fun _ => false
  | none => none
def fIsForm : List Da → Option XO
  | [.tup [a, b]] => (isFormD a b).map fun b => .ok (.bl b)
  | _ => none
theorem form_some {a b : Da} {u : Bool} (h : isFormD a b = some u) : fIsForm ([.tup [a, b]] ++ []) = some (.ok (.bl u)) := by
  show (isFormD a b).map _ = _
  rw [h]; rfl
theorem form_int {w p : Int} (h1 : 1 ≤ w) (h2 : w ≤ 8) (h3 : 0 ≤ p) (h4 : p ≤ 8) : isFormD (.int w) (.int p) = some true := by
  have e1 : wfD (.int w) 1 8 = some true := by
    show some (decide (1 ≤ w) && decide (w ≤ 8)) = _
    rw [decide_eq_true h1, decide_eq_true h2]; rfl
  have e2 : wfD (.int p) 0 8 = some true := by
    show some (decide (0 ≤ p) && decide (p ≤ 8)) = _
    rw [decide_eq_true h3, decide_eq_true h4]; rfl
  unfold isFormD
  rw [e1]
  exact e2
def fSix : List Da → Option XO
  | [.int n] => if 0 ≤ n ∧ n ≤ 16 then some (.ok (.int (60 ^ n.toNat))) else none
  | _ => none
theorem fSix_inv {ds : List Da} {o : XO} (h : fSix ds = some o) : ∃ n : Nat, n ≤ 16 ∧ ds = [.int (n : Int)] ∧ o = .ok (.int (60 ^ n)) := by
  unfold fSix at h
  split at h
  · split at h
    · rename_i n hh
      exact ⟨n.toNat, by omega, by rw [Int.toNat_of_nonneg hh.1], (Option.some.inj h).symm⟩
    · cases h
  · cases h
theorem fSix_ok {n : Nat} (h : n ≤ 16) : fSix ([.int (n : Int)] ++ []) = some (.ok (.int (60 ^ n))) := by
  show (if 0 ≤ (n : Int) ∧ (n : Int) ≤ 16 then some (XO.ok (.int (60 ^ ((n : Int)).toNat))) else none) = _
  rw [if_pos ⟨by omega, by omega⟩, Int.toNat_natCast]
def fGroups : List Da → Option XO
  | [.int u, .int n] => if 0 ≤ u ∧ u < 2 ^ 100 ∧ 0 ≤ n ∧ n ≤ 16 then some (.ok (.lst ((gsT u n.toNat).map .str))) else none
  | _ => none
theorem fGroups_inv {ds : List Da} {o : XO} (h : fGroups ds = some o) : ∃ (u : Int) (n : Nat), 0 ≤ u ∧ u < 2 ^ 100 ∧ n ≤ 16 ∧ ds = [.int u, .int (n : Int)] ∧ o = .ok (.lst ((gsT u n).map .str)) := by
  unfold fGroups at h
  split at h
  · split at h
    · rename_i u n hh
      exact ⟨u, n.toNat, hh.1, hh.2.1, by omega, by rw [Int.toNat_of_nonneg hh.2.2.1], (Option.some.inj h).symm⟩
    · cases h
  · cases h
theorem fGroups_ok {u : Int} {n : Nat} (h0 : 0 ≤ u) (h1 : u < 2 ^ 100) (h : n ≤ 16) : fGroups ([.int u, .int (n : Int)] ++ []) = some (.ok (.lst ((gsT u n).map .str))) := by
  show (if 0 ≤ u ∧ u < 2 ^ 100 ∧ 0 ≤ (n : Int) ∧ (n : Int) ≤ 16 then some (XO.ok (.lst ((gsT u ((n : Int)).toNat).map .str))) else none) = _
  rw [if_pos ⟨h0, h1, by omega, by omega⟩, Int.toNat_natCast]
open Classical in
noncomputable def fJoinG : List Da → Option XO
  | [.lst ds, .int w] => if h : ∃ ys : List Str, ds = ys.map .str ∧ ys.length ≤ 16 ∧ (∀ y ∈ ys, y.length = 2) ∧ 0 ≤ w then some (.ok (.str (joinG h.choose w.toNat))) else none
  | _ => none
theorem str_inj : ∀ {a b : List Str}, a.map Da.str = b.map Da.str → a = b
  | [], [], _ => rfl
  | [], _ :: _, h => by cases h
  | _ :: _, [], h => by cases h
  | x :: r, y :: s, h => by
    rw [List.map_cons, List.map_cons] at h
    injection h with h1 h2
    injection h1 with h1
    rw [h1, str_inj h2]
theorem fJoinG_inv {ds : List Da} {o : XO} (h : fJoinG ds = some o) : ∃ (ys : List Str) (w : Nat), ys.length ≤ 16 ∧ (∀ y ∈ ys, y.length = 2) ∧ ds = [.lst (ys.map .str), .int (w : Int)] ∧ o = .ok (.str (joinG ys w)) := by
  unfold fJoinG at h
  split at h
  · split at h
    · rename_i ds w hh
      obtain ⟨e, l, q, z⟩ := hh.choose_spec
      refine ⟨hh.choose, w.toNat, l, q, ?_, (Option.some.inj h).symm⟩
      rw [← e, Int.toNat_of_nonneg z]
    · cases h
  · cases h
open Classical in
theorem fJoinG_ok {ys : List Str} {w : Nat} (h1 : ys.length ≤ 16) (h2 : ∀ y ∈ ys, y.length = 2) : fJoinG ([.lst (ys.map .str), .int (w : Int)] ++ []) = some (.ok (.str (joinG ys w))) := by
  have hh : ∃ zs : List Str, ys.map Da.str = zs.map Da.str ∧ zs.length ≤ 16 ∧ (∀ y ∈ zs, y.length = 2) ∧ 0 ≤ (w : Int) := ⟨ys, rfl, h1, h2, by omega⟩
  show (if h : ∃ zs : List Str, ys.map Da.str = zs.map Da.str ∧ zs.length ≤ 16 ∧ (∀ y ∈ zs, y.length = 2) ∧ 0 ≤ (w : Int) then some (XO.ok (.str (joinG h.choose ((w : Int)).toNat))) else none) = _
  rw [dif_pos hh, Int.toNat_natCast, ← str_inj hh.choose_spec.1]
/-- units of a worth in the last part's -/
def showOk (a b : Int) (w p : Nat) : Prop := 0 ≤ a * 60 ^ p / b ∧ a * 60 ^ p / b < 60 ^ (w + p) ∧ a * 60 ^ p % b = 0
instance (a b : Int) (w p : Nat) : Decidable (showOk a b w p) := inferInstanceAs (Decidable (_ ∧ _))
def shown (a b : Int) (w p : Nat) : Str := joinG (gsT (a * 60 ^ p / b) (w + p)) w
/-- show: what is no worth, no form; a worth that fits or not -/
def fShowI (CF : Addr) : Da → Da → Da → Option XO
  | .tup [.int a, .int b], .int w, .int p => if Bn a ∧ Bn b then some (if showOk a b w.toNat p.toNat then .ok (.str (shown a b w.toNat p.toNat)) else .err CF none) else none
  | _, _, _ => none
def fShow3 (CW CF : Addr) (d x y : Da) : Option XO := match isWorthD d, isFormD x y with
  | some false, some _ => some (.err CW none)
  | some true, some false => some (.err CW none)
  | some true, some true => fShowI CF d x y
  | _, _ => none
def fShow (CW CF : Addr) : List Da → Option XO
  | [d, x, y] => fShow3 CW CF d x y
  | _ => none
theorem cut_headD {ds : List Da} (n : Nat) : cutD ds none (some (n : Int)) = ds.take n := by
  have e : cutD ds none (some (n : Int)) = (ds.drop 0).take (min n ds.length - 0) := by
    unfold cutD
    congr 1
  rw [e, List.drop_zero, Nat.sub_zero]
  by_cases hh : n ≤ ds.length
  · rw [Nat.min_eq_left hh]
  · rw [Nat.min_eq_right (by omega), List.take_of_length_le (Nat.le_refl _), List.take_of_length_le (by omega)]
theorem cut_tailD {ds : List Da} (n : Nat) : cutD ds (some (n : Int)) none = ds.drop n := by
  have e : cutD ds (some (n : Int)) none = (ds.drop (min n ds.length)).take (ds.length - min n ds.length) := by
    unfold cutD
    congr 1
  rw [e, List.take_of_length_le (by rw [List.length_drop]; omega)]
  by_cases hh : n ≤ ds.length
  · rw [Nat.min_eq_left hh]
  · rw [Nat.min_eq_right (by omega), List.drop_eq_nil_of_le (Nat.le_refl _), List.drop_eq_nil_of_le (by omega)]
theorem p60 (n : Nat) (h : n ≤ 16) : (60 : Int) ^ n ≤ 60 ^ 16 ∧ 0 < (60 : Int) ^ n := by
  refine ⟨?_, Int.pow_pos (by decide)⟩
  have : (60 : Nat) ^ n ≤ 60 ^ 16 := Nat.pow_le_pow_right (by decide) h
  exact_mod_cast this
theorem cm60 {i : Int} {n : Nat} (h : n ≤ 16) (hi : Bn i) : CMulW i (60 ^ n) := by
  have := p60 n h
  exact bn_mul hi (show ((60 : Int) ^ n).natAbs < 2 ^ 124 from Nat.lt_of_le_of_lt (show ((60 : Int) ^ n).natAbs ≤ (60 ^ 16 : Int).natAbs by omega) (by decide))
theorem bn60 {n : Nat} (h : n ≤ 16) : Bn (60 ^ n) := by
  have := p60 n h
  exact Nat.lt_of_le_of_lt (show ((60 : Int) ^ n).natAbs ≤ (60 ^ 16 : Int).natAbs by omega) (by decide)
theorem divp_bn {i j : Int} (hj : 0 < j) (hi : i.natAbs < 2 ^ 250) : CDivP i j := divp_ok hj (by
  have := PyProof.Rows.intBits_le hi
  omega)
end Sky
namespace Sky
open PySem L2 Evl PySem.Spec PyProof.Rows TL
theorem fShowI_inv {CF : Addr} {d x y : Da} {o : XO} (h : fShowI CF d x y = some o) : ∃ a b w p, d = .tup [.int a, .int b] ∧ x = .int w ∧ y = .int p ∧ Bn a ∧ Bn b ∧ o = (if showOk a b w.toNat p.toNat then .ok (.str (shown a b w.toNat p.toNat)) else .err CF none) := by
  unfold fShowI at h
  split at h
  · split at h
    · rename_i hb
      exact ⟨_, _, _, _, rfl, rfl, rfl, hb.1, hb.2, (Option.some.inj h).symm⟩
    · cases h
  · cases h
theorem form_inv {w p : Int} (h : isFormD (.int w) (.int p) = some true) : 1 ≤ w ∧ w ≤ 8 ∧ 0 ≤ p ∧ p ≤ 8 := by
  have e1 : wfD (.int w) 1 8 = some (decide (1 ≤ w) && decide (w ≤ 8)) := rfl
  have e2 : wfD (.int p) 0 8 = some (decide (0 ≤ p) && decide (p ≤ 8)) := rfl
  unfold isFormD at h
  rw [e1, e2] at h
  cases q4 : (decide (1 ≤ w) && decide (w ≤ 8)) with
  | false => rw [q4] at h; cases h
  | true =>
    rw [q4] at h
    have q5 := Option.some.inj h
    have a1 := Bool.and_eq_true_iff.mp q4
    have a2 := Bool.and_eq_true_iff.mp q5
    exact ⟨of_decide_eq_true a1.1, of_decide_eq_true a1.2, of_decide_eq_true a2.1, of_decide_eq_true a2.2⟩
theorem fShow_inv {CW CF : Addr} {ds : List Da} {o : XO} (h : fShow CW CF ds = some o) : ∃ d x y, ds = [d, x, y] ∧
    ((isWorthD d = some false ∧ o = .err CW none) ∨ (isWorthD d = some true ∧ isFormD x y = some false ∧ o = .err CW none) ∨
     ∃ (a b : Int) (w p : Nat), d = .tup [.int a, .int b] ∧ x = .int (w : Int) ∧ y = .int (p : Int) ∧ isW a b = true ∧ 1 ≤ w ∧ w ≤ 8 ∧ p ≤ 8 ∧ Bn a ∧ Bn b ∧ o = (if showOk a b w p then .ok (.str (shown a b w p)) else .err CF none)) := by
  unfold fShow at h
  split at h
  · rename_i d x y
    refine ⟨d, x, y, rfl, ?_⟩
    unfold fShow3 at h
    split at h
    · rename_i q _
      exact .inl ⟨q, (Option.some.inj h).symm⟩
    · rename_i q q2
      exact .inr (.inl ⟨q, q2, (Option.some.inj h).symm⟩)
    · rename_i q q2
      obtain ⟨a, b, w, p, rfl, rfl, rfl, h1, h2, rfl⟩ := fShowI_inv h
      have fw := form_inv q2
      have hw : ((w.toNat : Nat) : Int) = w := Int.toNat_of_nonneg (by omega)
      have hp : ((p.toNat : Nat) : Int) = p := Int.toNat_of_nonneg (by omega)
      exact .inr (.inr ⟨a, b, w.toNat, p.toNat, rfl, by rw [hw], by rw [hp], Option.some.inj q, by omega, by omega, by omega, h1, h2, rfl⟩)
    · cases h
  · cases h
theorem fShow_ok {CW CF : Addr} {a b : Int} {w p : Nat} (h : isW a b = true) (h1 : 1 ≤ w) (h2 : w ≤ 8) (h3 : p ≤ 8) (ha : Bn a) (hb : Bn b) : fShow CW CF [.tup [.int a, .int b], .int (w : Int), .int (p : Int)] = some (if showOk a b w p then .ok (.str (shown a b w p)) else .err CF none) := by
  have q1 : isWorthD (.tup [.int a, .int b]) = some true := by rw [isWorthD_int, h]
  have q2 : isFormD (.int (w : Int)) (.int (p : Int)) = some true := form_int (by omega) (by omega) (by omega) (by omega)
  show fShow3 CW CF _ _ _ = _
  unfold fShow3
  rw [q1, q2]
  show (if Bn a ∧ Bn b then some (if showOk a b ((w : Int)).toNat ((p : Int)).toNat then XO.ok (.str (shown a b ((w : Int)).toNat ((p : Int)).toNat)) else .err CF none) else none) = _
  rw [if_pos ⟨ha, hb⟩, Int.toNat_natCast, Int.toNat_natCast]
end Sky
namespace Sky
open PySem L2 Evl PySem.Spec PyProof.Rows
/-! ### counts, places among rising numbers -/
def cnt (p : Nat → Bool) : Nat → Nat
  | 0 => 0
  | m + 1 => cnt p m + (if p m then 1 else 0)
theorem outs_cnt (p : Nat → Bool) (gf : Nat → Da) : ∀ m, (outs p gf m).length = cnt p m
  | 0 => rfl
  | m + 1 => by
    rw [outs_succ, List.length_append, outs_cnt p gf m, cnt]
    cases p m <;> rfl
theorem cnt_lt {p : Nat → Bool} {z : Nat} : ∀ {m : Nat}, (∀ i, i < m → p i = decide (i < z)) → cnt p m = min z m
  | 0, _ => by simp [cnt]
  | m + 1, h => by
    rw [cnt, cnt_lt fun i hi => h i (by omega), h m (by omega)]
    by_cases q : m < z
    · rw [decide_eq_true q, if_pos rfl]; omega
    · rw [decide_eq_false q, if_neg Bool.false_ne_true]; omega
def Ris (f : Nat → Int) (k : Nat) : Prop := ∀ i, i < k → f i < f (i + 1)
structure Zo (f : Nat → Int) (k z : Nat) (x : Int) : Prop where
  zk : z < k
  lo : f z ≤ x
  hi : x < f (z + 1)
section
variable {f : Nat → Int} {k z y : Nat} {x : Int}
theorem Ris.le (h : Ris f k) {i : Nat} : ∀ {j : Nat}, i ≤ j → j ≤ k → f i ≤ f j
  | 0, hi, _ => by have : i = 0 := by omega
                   rw [this]; exact Int.le_refl _
  | j + 1, hi, hj => by
    rcases Nat.lt_or_ge i (j + 1) with q | q
    · exact Int.le_of_lt (Int.lt_of_le_of_lt (Ris.le h (j := j) (by omega) (by omega)) (h j (by omega)))
    · have : i = j + 1 := by omega
      rw [this]; exact Int.le_refl _
theorem Ris.lt0 (h : Ris f k) (hk : 0 < k) : f 0 < f k := Int.lt_of_lt_of_le (h 0 hk) (h.le hk (Nat.le_refl _))
theorem zo_ex : ∀ {k : Nat}, f 0 ≤ x → x < f k → ∃ z, Zo f k z x
  | 0, h0, h1 => by omega
  | k + 1, h0, h1 => by
    rcases Int.lt_or_le x (f k) with q | q
    · obtain ⟨z, Z⟩ := zo_ex (k := k) h0 q
      exact ⟨z, Nat.lt_succ_of_lt Z.zk, Z.lo, Z.hi⟩
    · exact ⟨k, Nat.lt_succ_self k, q, h1⟩
theorem Zo.iff (h : Ris f k) (Z : Zo f k z x) {i : Nat} (hi : i ≤ k) : f i ≤ x ↔ i ≤ z := by
  constructor
  · intro q
    rcases Nat.lt_or_ge z i with c | c
    · have := h.le (i := z + 1) (j := i) c hi
      have := Z.hi
      omega
    · exact c
  · intro q
    have := h.le (i := i) (j := z) q (Nat.le_of_lt Z.zk)
    have := Z.lo
    omega
theorem Zo.cnt2 (h : Ris f k) (Z : Zo f k z x) : cnt (fun i => decide (f (i + 1) ≤ x)) (k - 1) = z := by
  rw [cnt_lt (z := z) fun i hi => decide_eq_decide.mpr ((Z.iff h (by omega)).trans Nat.succ_le_iff)]
  have := Z.zk
  omega
theorem Zo.cnt1 (h : Ris f k) (Z : Zo f k z x) : cnt (fun i => !decide (x < f (i + 1))) (k - 1) = z := by
  have e : (fun i => !decide (x < f (i + 1))) = fun i => decide (f (i + 1) ≤ x) := funext fun i => by
    by_cases q : x < f (i + 1)
    · rw [decide_eq_true q, decide_eq_false (by omega)]; rfl
    · rw [decide_eq_false q, decide_eq_true (by omega)]; rfl
  rw [e]
  exact Z.cnt2 h
theorem Zo.cnt0 (h : Ris f k) (Z : Zo f k z x) : cnt (fun i => !decide (x < f i)) k = z + 1 := by
  rw [cnt_lt (z := z + 1) fun i hi => by
    by_cases q : x < f i
    · have : ¬ i ≤ z := fun c => by have := (Z.iff h (Nat.le_of_lt hi)).mpr c; omega
      rw [decide_eq_true q, decide_eq_false (by omega)]; rfl
    · have : i ≤ z := (Z.iff h (Nat.le_of_lt hi)).mp (by omega)
      rw [decide_eq_false q, decide_eq_true (by omega)]; rfl]
  have := Z.zk
  omega
theorem Zo.uniq (h : Ris f k) (Z : Zo f k z x) (Y : Zo f k y x) : z = y := by
  have a := Z.cnt1 h
  have b := Y.cnt1 h
  omega
end
/-! ### lists of worths -/
def lws (f : Nat → Int) (n : Int) (k : Nat) : List Da := (List.range k).map fun i => lw (f i) n
def nms (f : Nat → Int) (k : Nat) : List Da := (List.range k).map fun i => .int (f i)
section
variable {f : Nat → Int} {n : Int} {k i : Nat} {g : Nat → Da}
theorem lws_len : (lws f n k).length = k := by unfold lws; rw [List.length_map, List.length_range]
theorem nms_len : (nms f k).length = k := by unfold nms; rw [List.length_map, List.length_range]
theorem lws_get (h : i < k) : (lws f n k)[i]? = some (lw (f i) n) := by unfold lws; rw [List.getElem?_map, List.getElem?_range h]; rfl
theorem nms_get (h : i < k) : (nms f k)[i]? = some (.int (f i)) := by unfold nms; rw [List.getElem?_map, List.getElem?_range h]; rfl
theorem lws_succ : lws f n (k + 1) = lws f n k ++ [lw (f k) n] := by unfold lws; rw [List.range_succ, List.map_append]; rfl
theorem nms_succ : nms f (k + 1) = nms f k ++ [.int (f k)] := by unfold nms; rw [List.range_succ, List.map_append]; rfl
theorem lws_at (h : i < k) : atI (lws f n k) (i : Int) = some (lw (f i) n) := at_nat (lws_get h)
theorem nms_at (h : i < k) : atI (nms f k) (i : Int) = some (.int (f i)) := at_nat (nms_get h)
theorem lws_lastI : atI (lws f n (k + 1)) (-1) = some (lw (f k) n) := by rw [lws_succ]; exact at_last
theorem nms_lastI : atI (nms f (k + 1)) (-1) = some (.int (f k)) := by rw [nms_succ]; exact at_last
theorem lws_getD (h : i < k) : (lws f n k).getD i .non = lw (f i) n := by rw [List.getD_eq_getElem?_getD, lws_get h]; rfl
theorem nms_getD (h : i < k) : (nms f k).getD i .non = .int (f i) := by rw [List.getD_eq_getElem?_getD, nms_get h]; rfl
theorem rng_tail : cutD ((List.range (k + 1)).map g) (some 1) none = (List.range k).map fun i => g (i + 1) := by
  unfold cutD
  have e : HT.sIx ((List.range (k + 1)).map g).length 0 (some 1) = 1 := by
    have := HT.sIx_nat ((List.range (k + 1)).map g).length 0 1
    rw [List.length_map, List.length_range] at this ⊢
    exact this.trans (by omega)
  rw [e, HT.sIx_none, List.range_succ_eq_map, List.map_cons, List.drop_one, List.tail_cons, List.map_map]
  rw [List.take_of_length_le (by simp)]
  rfl
theorem lws_tail : cutD (lws f n (k + 1)) (some 1) none = lws (fun i => f (i + 1)) n k := rng_tail
theorem rng_init : cutD ((List.range (k + 1)).map g) none (some (-1)) = (List.range k).map g := by
  unfold cutD
  have e : HT.sIx ((List.range (k + 1)).map g).length ((List.range (k + 1)).map g).length (some (-1)) = k := by
    rw [List.length_map, List.length_range]
    show (if (-1 : Int) < 0 then ((-1 : Int) + ((k + 1 : Nat) : Int)).toNat else min (-1 : Int).toNat (k + 1)) = k
    exact (if_pos (by decide)).trans (by omega)
  rw [e, HT.sIx_none, List.drop_zero, Nat.sub_zero, List.range_succ, List.map_append]
  rw [List.take_append_of_le_length (by simp), List.take_of_length_le (by simp)]
theorem lws_init : cutD (lws f n (k + 1)) none (some (-1)) = lws f n k := rng_init
theorem nms_mid : cutD (nms f (k + 2)) (some 1) (some (-1)) = nms (fun i => f (i + 1)) k := by
  unfold cutD nms
  have e : HT.sIx ((List.range (k + 2)).map fun i => Da.int (f i)).length 0 (some 1) = 1 := by
    have := HT.sIx_nat ((List.range (k + 2)).map fun i => Da.int (f i)).length 0 1
    rw [List.length_map, List.length_range] at this ⊢
    exact this.trans (by omega)
  have e2 : HT.sIx ((List.range (k + 2)).map fun i => Da.int (f i)).length ((List.range (k + 2)).map fun i => Da.int (f i)).length (some (-1)) = k + 1 := by
    rw [List.length_map, List.length_range]
    show (if (-1 : Int) < 0 then ((-1 : Int) + ((k + 2 : Nat) : Int)).toNat else min (-1 : Int).toNat (k + 2)) = k + 1
    exact (if_pos (by decide)).trans (by omega)
  rw [e, e2, List.range_succ_eq_map, List.map_cons, List.drop_one, List.tail_cons, List.map_map, List.range_succ, List.map_append]
  rw [List.take_append_of_le_length (by simp), List.take_of_length_le (by simp)]
  rfl
theorem lws_zero : lws f n 0 = [] := rfl
end
/-! ### worths over different bottoms -/
theorem two_of {x n y m : Int} (h : 0 < n) (k : 0 < m) (hx : Bn x) (hn : Bn n) (hy : Bn y) (hm : Bn m) : Two (tp x n) (bt x n) (tp y m) (bt y m) :=
  ⟨lw_isW x (by omega), lw_isW y (by omega), tp_bn (by omega) hx, bt_bn (by omega) hn, tp_bn (by omega) hy, bt_bn (by omega) hm⟩
theorem lw_add2 {x n y m : Int} (h : 0 < n) (k : 0 < m) : lw (tp x n * bt y m + tp y m * bt x n) (bt x n * bt y m) = lw (x * m + y * n) (n * m) := by
  have hn : n ≠ 0 := by omega
  have hm : m ≠ 0 := by omega
  have a := lw_cross x hn
  have b := lw_cross y hm
  have p := bt_pos x hn
  have q := bt_pos y hm
  refine lw_same (mul_ne p q) (Int.mul_ne_zero hn hm) ?_
  have e1 : (tp x n * bt y m + tp y m * bt x n) * (n * m) = (tp x n * n) * bt y m * m + (tp y m * m) * bt x n * n := by grind
  rw [e1, a, b]
  grind
theorem plus_lw2 {x n y m : Int} (h : 0 < n) (k : 0 < m) (hx : Bn x) (hn : Bn n) (hy : Bn y) (hm : Bn m) : fTwo gPlus ([lw x n, lw y m] ++ []) = some (.ok (lw (x * m + y * n) (n * m))) := by
  rw [lw_is, lw_is, ← lw_add2 h k]
  exact fTwo_ok (two_of h k hx hn hy hm) rfl
theorem plus_lw {x y n : Int} (h : 0 < n) (hx : Bn x) (hy : Bn y) (hn : Bn n) : fTwo gPlus ([lw x n, lw y n] ++ []) = some (.ok (lw (x + y) n)) := by
  rw [lw_is, lw_is, ← lw_add h]
  exact fTwo_ok (two_lw h hx hy hn) rfl
theorem times_lw {x n y m : Int} (h : 0 < n) (k : 0 < m) (hx : Bn x) (hn : Bn n) (hy : Bn y) (hm : Bn m) : fTwo gTimes ([lw x n, lw y m] ++ []) = some (.ok (lw (x * y) (n * m))) := by
  rw [lw_is, lw_is, ← lw_times (by omega) (by omega)]
  exact fTwo_ok (two_of h k hx hn hy hm) rfl
theorem tp_pos {x n : Int} (h : 0 < n) (hx : 0 < x) : 0 < tp x n := by
  have a := lw_cross x (show n ≠ 0 by omega)
  have p := bt_pos x (show n ≠ 0 by omega)
  have : 0 < tp x n * n := by rw [a]; exact Int.mul_pos hx p
  exact Int.pos_of_mul_pos_left this h |> fun z => z
theorem over_lw {C : Addr} {x n y : Int} (h : 0 < n) (k : 0 < y) (hx : Bn x) (hy : Bn y) (hn : Bn n) : fTwo (gOver C) ([lw x n, lw y n] ++ []) = some (.ok (lw x y)) := by
  have hn' : n ≠ 0 := by omega
  have a := lw_cross x hn'
  have b := lw_cross y hn'
  have p := bt_pos x hn'
  have q := tp_pos h k
  rw [lw_is, lw_is]
  refine fTwo_ok (two_of h h hx hn hy hn) ?_
  unfold gOver
  rw [if_neg (mul_ne p q)]
  refine congrArg some (congrArg XO.ok (lw_same (mul_ne p q) (by omega) ?_))
  refine Int.eq_of_mul_eq_mul_right hn' ?_
  have e1 : tp x n * bt y n * y * n = (tp x n * n) * (y * bt y n) := by grind
  rw [e1, a, ← b]
  grind
theorem lcm2_d {a b : Int} : a ∣ lcm2 a b ∧ b ∣ lcm2 a b := by
  unfold lcm2
  have up : ∀ {z : Int} {m : Nat}, z.natAbs ∣ m → z ∣ (m : Int) := fun {z m} h => Int.natAbs_dvd_natAbs.mp (by rw [Int.natAbs_natCast]; exact h)
  exact ⟨up (Nat.dvd_lcm_left _ _), up (Nat.dvd_lcm_right _ _)⟩
theorem lcm2_l {a b m : Int} (h : a ∣ m) (k : b ∣ m) : lcm2 a b ∣ m := by
  unfold lcm2
  refine Int.natAbs_dvd_natAbs.mp ?_
  rw [Int.natAbs_natCast]
  exact Nat.lcm_dvd (Int.natAbs_dvd_natAbs.mpr h) (Int.natAbs_dvd_natAbs.mpr k)
theorem dvd_pos {a m : Int} (h : a ∣ m) (h0 : 0 ≤ a) (hm : 0 < m) : 0 < a := by
  rcases Int.lt_or_eq_of_le h0 with q | q
  · exact q
  · obtain ⟨c, hc⟩ := h
    rw [← q, Int.zero_mul] at hc
    omega
/-! ### zones -/
/-- k zones over n, from b i to b (i + 1); b k is the ring; steps s i; begun at a; M is a multiple of all steps -/
structure Zn (k : Nat) (n : Int) (b s : Nat → Int) (a M : Int) : Prop where
  n0 : 0 < n
  nB : n < 2 ^ 15
  k0 : 0 < k
  k1 : k ≤ 12
  b0 : b 0 = 0
  up : Ris b k
  rB : b k < 2 ^ 22
  s0 : ∀ i, i < k → 0 < s i
  sB : ∀ i, i < k → s i < 2 ^ 18
  sM : ∀ i, i < k → s i ∣ M
  m0 : 0 < M
  mB : M < 2 ^ 65
  a0 : 0 ≤ a
  a1 : a < b k
def zT (b s : Nat → Int) (M : Int) : Nat → Int
  | 0 => 0
  | i + 1 => zT b s M i + (b (i + 1) - b i) * (M / s i)
def zN (b : Nat → Int) (k : Nat) (a : Int) : Nat := cnt (fun i => !decide (a < b (i + 1))) (k - 1)
def zU (b s : Nat → Int) (M : Int) (z : Nat) (a : Int) : Int := zT b s M z + (a - b z) * (M / s z)
def zS (b s : Nat → Int) (M U : Int) : Nat → Int
  | 0 => bt U M
  | i + 1 => lcm2 (zS b s M U i) (bt (zT b s M i) M)
/-- made zones: S their scale, u where they begin, τ i when zone i begins -/
structure Zm (k : Nat) (n S u : Int) (b s τ : Nat → Int) : Prop where
  n0 : 0 < n
  nB : n < 2 ^ 15
  k0 : 0 < k
  k1 : k ≤ 12
  b0 : b 0 = 0
  up : Ris b k
  rB : b k < 2 ^ 22
  s0 : ∀ i, i < k → 0 < s i
  sB : ∀ i, i < k → s i < 2 ^ 18
  S0 : 0 < S
  SB : S < 2 ^ 65
  t0 : τ 0 = 0
  eq : ∀ i, i < k → (τ (i + 1) - τ i) * s i = S * (b (i + 1) - b i)
  u0 : 0 ≤ u
  u1 : u < τ k
section
variable {k : Nat} {n S u a M : Int} {b s τ : Nat → Int}
theorem Zn.nb (Z : Zn k n b s a M) : n < 2 ^ 24 := by have := Z.nB; omega
theorem Zn.rb (Z : Zn k n b s a M) : b k < 2 ^ 24 := by have := Z.rB; omega
theorem Zn.sb (Z : Zn k n b s a M) (i : Nat) (h : i < k) : s i < 2 ^ 24 := by have := Z.sB i h; omega
theorem Zn.mb (Z : Zn k n b s a M) : M < 2 ^ 66 := by have := Z.mB; omega
theorem Zm.nb (Z : Zm k n S u b s τ) : n < 2 ^ 24 := by have := Z.nB; omega
theorem Zm.rb (Z : Zm k n S u b s τ) : b k < 2 ^ 24 := by have := Z.rB; omega
theorem Zm.sb (Z : Zm k n S u b s τ) (i : Nat) (h : i < k) : s i < 2 ^ 24 := by have := Z.sB i h; omega
theorem Zm.Sb (Z : Zm k n S u b s τ) : S < 2 ^ 66 := by have := Z.SB; omega
end
theorem b_le {b : Nat → Int} {k i : Nat} (b0 : b 0 = 0) (up : Ris b k) (h : i ≤ k) : 0 ≤ b i ∧ b i ≤ b k := ⟨by rw [← b0]; exact up.le (Nat.zero_le _) h, up.le h (Nat.le_refl _)⟩
section
variable {k : Nat} {n S u : Int} {b s τ : Nat → Int}
theorem Zm.ris (Z : Zm k n S u b s τ) : Ris τ k := fun i hi => by
  have e := Z.eq i hi
  have p : 0 < S * (b (i + 1) - b i) := Int.mul_pos Z.S0 (by have := Z.up i hi; omega)
  rw [← e] at p
  have := Int.pos_of_mul_pos_left p (Z.s0 i hi)
  omega
theorem Zm.tle (Z : Zm k n S u b s τ) : ∀ {i : Nat}, i ≤ k → 0 ≤ τ i ∧ τ i ≤ S * b i
  | 0, _ => by rw [Z.t0, Z.b0, Int.mul_zero]; exact ⟨Int.le_refl _, Int.le_refl _⟩
  | i + 1, h => by
    have ih := Zm.tle Z (i := i) (by omega)
    have r := Z.ris i (by omega)
    have e := Z.eq i (by omega)
    have s1 : 1 ≤ s i := Z.s0 i (by omega)
    have l : (τ (i + 1) - τ i) * 1 ≤ (τ (i + 1) - τ i) * s i := Int.mul_le_mul_of_nonneg_left s1 (by omega)
    rw [e, Int.mul_sub] at l
    omega
theorem Zm.tb (Z : Zm k n S u b s τ) {i : Nat} (h : i ≤ k) : 0 ≤ τ i ∧ τ i < 2 ^ 90 := by
  have q := Z.tle h
  have l := b_le Z.b0 Z.up h
  have r := Z.rb
  have : S * b i ≤ S * b k := Int.mul_le_mul_of_nonneg_left l.2 (Int.le_of_lt Z.S0)
  have t : S * b k ≤ 2 ^ 66 * b k := Int.mul_le_mul_of_nonneg_right (Int.le_of_lt Z.Sb) (by omega)
  have v : 2 ^ 66 * b k < 2 ^ 66 * 2 ^ 24 := Int.mul_lt_mul_of_pos_left r (by decide)
  exact ⟨q.1, by omega⟩
end
section
variable {k : Nat} {n a M : Int} {b s : Nat → Int}
theorem Zn.zT_eq (Z : Zn k n b s a M) {i : Nat} (h : i < k) (x : Int) : x * (M / s i) * s i = M * x := by
  obtain ⟨c, hc⟩ := Z.sM i h
  have s0 := Z.s0 i h
  rw [hc, Int.mul_ediv_cancel_left _ (by omega)]
  grind
theorem Zn.msp (Z : Zn k n b s a M) {i : Nat} (h : i < k) : 0 < M / s i ∧ M / s i ≤ M := by
  obtain ⟨c, hc⟩ := Z.sM i h
  have s0 := Z.s0 i h
  have m0 := Z.m0
  have e : M / s i = c := by rw [hc, Int.mul_ediv_cancel_left _ (by omega)]
  rw [e]
  have c0 : 0 < c := by rw [hc] at m0; exact Int.pos_of_mul_pos_right m0 s0 |> fun z => z
  refine ⟨c0, ?_⟩
  have : 1 * c ≤ s i * c := Int.mul_le_mul_of_nonneg_right s0 (Int.le_of_lt c0)
  omega
theorem Zn.zTris (Z : Zn k n b s a M) : Ris (zT b s M) k := fun i hi => by
  show zT b s M i < zT b s M i + (b (i + 1) - b i) * (M / s i)
  have := Int.mul_pos (show 0 < b (i + 1) - b i by have := Z.up i hi; omega) (Z.msp hi).1
  omega
theorem Zn.zTle (Z : Zn k n b s a M) : ∀ {i : Nat}, i ≤ k → 0 ≤ zT b s M i ∧ zT b s M i ≤ b i * M
  | 0, _ => by rw [Z.b0]; show (0 : Int) ≤ 0 ∧ (0 : Int) ≤ 0 * M; omega
  | i + 1, h => by
    have ih := Zn.zTle Z (i := i) (by omega)
    have ms := Z.msp (i := i) (by omega)
    have up := Z.up i (by omega)
    have l : (b (i + 1) - b i) * (M / s i) ≤ (b (i + 1) - b i) * M := Int.mul_le_mul_of_nonneg_left ms.2 (by omega)
    have l0 : 0 ≤ (b (i + 1) - b i) * (M / s i) := Int.mul_nonneg (by omega) (by omega)
    rw [Int.sub_mul (b (i + 1)) (b i) M] at l
    show 0 ≤ zT b s M i + (b (i + 1) - b i) * (M / s i) ∧ zT b s M i + (b (i + 1) - b i) * (M / s i) ≤ b (i + 1) * M
    omega
theorem Zn.zone (Z : Zn k n b s a M) : Zo b k (zN b k a) a := by
  obtain ⟨z, h⟩ := zo_ex (f := b) (k := k) (x := a) (by rw [Z.b0]; exact Z.a0) Z.a1
  have : zN b k a = z := h.cnt1 Z.up
  rw [this]
  exact h
theorem Zn.zUle (Z : Zn k n b s a M) : zT b s M (zN b k a) ≤ zU b s M (zN b k a) a ∧ zU b s M (zN b k a) a < zT b s M (zN b k a + 1) := by
  have h := Z.zone
  have ms := Z.msp h.zk
  have l0 : 0 ≤ (a - b (zN b k a)) * (M / s (zN b k a)) := Int.mul_nonneg (by have := h.lo; omega) (by omega)
  have l1 : (a - b (zN b k a)) * (M / s (zN b k a)) < (b (zN b k a + 1) - b (zN b k a)) * (M / s (zN b k a)) := Int.mul_lt_mul_of_pos_right (by have := h.hi; omega) ms.1
  exact ⟨by unfold zU; omega, by show zT b s M (zN b k a) + _ < zT b s M (zN b k a) + _; omega⟩
theorem Zn.zSd (Z : Zn k n b s a M) (U : Int) : ∀ i, 0 < zS b s M U i ∧ zS b s M U i ∣ M ∧ bt U M ∣ zS b s M U i ∧ ∀ j, j < i → bt (zT b s M j) M ∣ zS b s M U i
  | 0 => ⟨bt_pos U (by have := Z.m0; omega), bt_dvd U (by have := Z.m0; omega), Int.dvd_refl _, fun j hj => by omega⟩
  | i + 1 => by
    have ih := Zn.zSd Z U i
    have nn : M ≠ 0 := by have := Z.m0; omega
    have d := lcm2_d (a := zS b s M U i) (b := bt (zT b s M i) M)
    have l := lcm2_l ih.2.1 (bt_dvd (zT b s M i) nn)
    refine ⟨dvd_pos l (Int.natCast_nonneg _) Z.m0, l, Int.dvd_trans ih.2.2.1 d.1, fun j hj => ?_⟩
    rcases Nat.lt_or_ge j i with q | q
    · exact Int.dvd_trans (ih.2.2.2 j q) d.1
    · have : j = i := by omega
      rw [this]
      exact d.2
def znS (b s : Nat → Int) (k : Nat) (a M : Int) : Int := zS b s M (zU b s M (zN b k a) a) (k + 1)
def znU (b s : Nat → Int) (k : Nat) (a M : Int) : Int := lnU (zU b s M (zN b k a) a) M (znS b s k a M)
def znT (b s : Nat → Int) (k : Nat) (a M : Int) (i : Nat) : Int := lnU (zT b s M i) M (znS b s k a M)
theorem Zn.made (Z : Zn k n b s a M) : Zm k n (znS b s k a M) (znU b s k a M) b s (znT b s k a M) ∧ Zo (znT b s k a M) k (zN b k a) (znU b s k a M) ∧ (znU b s k a M - znT b s k a M (zN b k a)) * s (zN b k a) = znS b s k a M * (a - b (zN b k a)) := by
  have d := Z.zSd (zU b s M (zN b k a) a) (k + 1)
  have S0 : 0 < znS b s k a M := d.1
  obtain ⟨c, hc⟩ : znS b s k a M ∣ M := d.2.1
  have m0 := Z.m0
  have c0 : 0 < c := by rw [hc] at m0; exact Int.pos_of_mul_pos_right m0 S0 |> fun z => z
  have hU : zU b s M (zN b k a) a = znU b s k a M * c := unit_is (x := zU b s M (zN b k a) a) m0 hc d.2.2.1
  have hT : ∀ {i}, i ≤ k → zT b s M i = znT b s k a M i * c := fun {i} hi => unit_is (x := zT b s M i) m0 hc (d.2.2.2 i (by omega))
  have z := Z.zone
  have zle := Z.zUle
  have lt : ∀ {x y : Int}, x * c < y * c → x < y := fun {x y} h => Int.lt_of_mul_lt_mul_right h (Int.le_of_lt c0)
  have le : ∀ {x y : Int}, x * c ≤ y * c → x ≤ y := fun {x y} h => Int.le_of_mul_le_mul_right h c0
  have zo : Zo (znT b s k a M) k (zN b k a) (znU b s k a M) := ⟨z.zk, le (by rw [← hT (Nat.le_of_lt z.zk), ← hU]; exact zle.1), lt (by rw [← hT z.zk, ← hU]; exact zle.2)⟩
  have eqv : ∀ (X x : Int) {i : Nat}, i < k → X * c = x * (M / s i) → X * s i = znS b s k a M * x := fun X x i hi h => by
    have e := Z.zT_eq hi x
    rw [← h, hc] at e
    refine Int.eq_of_mul_eq_mul_right (show c ≠ 0 by omega) ?_
    have e1 : X * s i * c = X * c * s i := by grind
    rw [e1, e]
    grind
  have eq : ∀ i, i < k → (znT b s k a M (i + 1) - znT b s k a M i) * s i = znS b s k a M * (b (i + 1) - b i) := fun i hi => eqv _ _ hi (by
    rw [Int.sub_mul, ← hT (show i + 1 ≤ k by omega), ← hT (Nat.le_of_lt hi)]
    show zT b s M i + (b (i + 1) - b i) * (M / s i) - zT b s M i = _
    omega)
  have t0 : znT b s k a M 0 = 0 := by
    have := hT (i := 0) (Nat.zero_le _)
    have e : (0 : Int) = znT b s k a M 0 * c := this
    rcases Int.mul_eq_zero.mp e.symm with h | h
    · exact h
    · omega
  have SB : znS b s k a M < 2 ^ 65 := Int.lt_of_le_of_lt (Int.le_of_dvd m0 d.2.1) Z.mB
  have u0 : 0 ≤ znU b s k a M := le (by rw [Int.zero_mul, ← hU]; exact Int.le_trans (Z.zTle (Nat.le_of_lt z.zk)).1 zle.1)
  have u1 : znU b s k a M < znT b s k a M k := lt (by
    rw [← hU, ← hT (Nat.le_refl _)]
    exact Int.lt_of_lt_of_le zle.2 (Z.zTris.le z.zk (Nat.le_refl _)))
  refine ⟨⟨Z.n0, Z.nB, Z.k0, Z.k1, Z.b0, Z.up, Z.rB, Z.s0, Z.sB, S0, SB, t0, eq, u0, u1⟩, zo, eqv _ _ z.zk ?_⟩
  rw [Int.sub_mul, ← hU, ← hT (Nat.le_of_lt z.zk)]
  unfold zU
  omega
end
end Sky
namespace Sky
open PySem L2 Evl PySem.Spec PyProof.Rows
theorem small_of {x : Int} (h : Bn x) : Small x := Nat.lt_of_lt_of_le h (by decide)
/-! ### defs by what holds of arguments and result -/
def spR (K : PySem.W.Frag) (n : Nat) (R : List Da → XO → Prop) : Sp := fun vs H Q E => vs.length = n ∧ ∃ B ds o, Ex B H ∧ DrA K B vs ds ∧ R ds o ∧ Ko K E B H Q o
structure CalR (P : Program) (w : World) (K : PySem.W.Frag) (mg : Str → Option Value) (base : Heap) (x : Str) (j : Nat) (ps : List Str) (R : List Da → XO → Prop) : Prop where
  ex : ∃ f fd, FnOk P w K mg base (L2.CX P w) j f fd ps (spR K ps.length R) ∧ mg x = some (.ref f) ∧ PySem.W.keepIn K (.ref f) = true ∧ Binds K fd ps []
section
variable {P : Program} {w : World} {K : PySem.W.Frag} {mg : Str → Option Value} {base : Heap} {x qual : Str} {st : Stmt} {f : Addr} {fd : FuncData} {N ps : List Str} {k : Nat}
theorem fn_r (F : Fun K x qual st f fd) (S : FnScope N ps (defScope st)) (R : List Da → XO → Prop)
    (hb : ∀ (cdv : Value) (A : Around) (outer : List Env) (s : Shared) (H : Hp) (E : XK) (ds : List Da) (o : XO), Bd (XB P w K mg base N qual st f cdv A outer s H E) (WD E) k → ds.length = ps.length → R ds o →
      ∃ ou, Leads ou o ∧ SVs (XB P w K mg base N qual st f cdv A outer s H E) (WD E) (slots N ds) (defBody st) ou) : FnOk P w K mg base (L2.CX P w) (k + 1) f fd ps (spR K ps.length R) := by
  refine F.okX S (fun vs H Q E h => h.1) fun cdv A outer s H vs Q E hr h => ?_
  obtain ⟨hl, B, ds, o, eB, hA, hf, ko⟩ := h
  obtain ⟨ou, ld, t, h1, h2⟩ := hb cdv A outer s H E ds o (bd_of S hr) (hA.length.symm.trans hl) hf
  have hN : ps.length ≤ N.length := by have := congrArg List.length S.pre; rw [List.length_take] at this; omega
  refine ⟨t, h1, h2 B H B H _ ⟨Gr.refl eB, ?_, fun i j p es1 es2 q1 => (slots_no q1).elim⟩ _ ?_⟩
  · unfold L2.start slots
    rw [hA.length]
    exact paired_app (slots_sl hA) paired_rep
  · cases ld with
    | rt d => exact fun v B' H' g r => ko v B' H' g r
    | rx en C f => exact fun B' H' σ' dd S' x' => ko dd B' H' S'.gr x'
    | nx en => exact fun B' H' σ' S' => ko .non B' H' S'.gr .non
theorem calR_mk {j n : Nat} {R : List Da → XO → Prop} (G : FnOk P w K mg base (L2.CX P w) j f fd ps (spR K n R)) (hn : ps.length = n) (hm : mg x = some (.ref f)) (hk : PySem.W.keepIn K (.ref f) = true) (hb : Binds K fd ps []) : CalR P w K mg base x j ps R := by
  subst hn
  exact ⟨f, fd, G, hm, hk, hb⟩
end
section
variable {X : Cx} {W : WX} {k j n : Nat} {en : List Sl} {e a b : Expr} {es : List Expr} {pos p p2 q1 q2 : Pos} {ds : List Da} {o : XO} {x : Str} {ps : List Str} {R : List Da → XO → Prop} {ss : List Stmt} {d : Da} {ou : Out}
theorem ex_callR {t : TA} (ha : EA X.K t en ds) (hf : R ds o) (hl : ds.length = n) : EX X.K W (tCallSD (spR X.K n R) [] (WE W) t) en o := fun _ _ B H σ S Q ko =>
  ha _ _ B H σ S _ fun vs B1 H1 g r => ⟨by rw [← hl, List.append_nil, r.length], B1, _, o, g.s, by rw [List.append_nil]; exact r, hf, ko.grow g⟩
theorem ev_calR (cl : CalR X.prog X.w X.K X.mg X.base x j ps R) (Bx : Bd X W k) (hj : j ≤ k) (ha : EVA X W en (e :: es) ds) (hf : R ds o) (hl : ds.length = ps.length) (hg : Gl X x)
    (hdb : (x == ("__debug__" : Str)) = false) (he : starEach (e :: es) X.env = (false, eval e X.env) :: starEach es X.env) (hpl : (backTo pos (starEach es X.env)).any (·.1) = false) : EV X W en (.Call (.Name x p) (e :: es) [] pos) o := by
  obtain ⟨f, fd, F, hm, hk, hb⟩ := cl.ex
  obtain ⟨t, h1, h2⟩ := ha
  exact ⟨_, pe_callSD F (Bx.rm.mono hj) hg hm hk hb .nil (fun σ => passAt Bx.tk σ) h1 hdb he hpl, ex_callR h2 hf hl⟩
/-- a slice of a tuple, some of it -/
theorem ev_slT {lo hi : Option Expr} {o1 o2 : Option Int} (ha : EV X W en a (.ok (.tup ds))) (h1 : EVO X W en lo o1) (h2 : EVO X W en hi o2) (hc : ¬ (HT.sIx ds.length 0 o1 = 0 ∧ HT.sIx ds.length ds.length o2 = ds.length)) : EV X W en (.Subscript a (.Slice lo hi none p2) pos) (.ok (.tup (Sky.cutD ds o1 o2))) := by
  obtain ⟨te, a1, a2⟩ := ha
  obtain ⟨tl, b1, b2⟩ := h1
  obtain ⟨th, c1, c2⟩ := h2
  refine ⟨_, pe_slice sl_tup a1 b1 c1, fun B0 H0 B H σ S Q k => a2 _ _ B H σ S _ fun v B1 H1 g1 r1 => ?_⟩
  refine b2 _ _ B1 H1 σ (S.grow g1) _ fun B2 H2 g2 => c2 _ _ B2 H2 σ (S.grow (g1.trans g2)) _ fun B3 H3 g3 => ?_
  cases r1 with
  | @tup a vs _ h t =>
    have g := g1.trans (g2.trans g3)
    have l := t.length
    refine ⟨a, vs, rfl, ex_t g3.s (ex_t (g2.b.trans g3.b) h), by rw [l]; exact hc, fun p hp => k _ _ _ (g.trans (Gr.new g3.s hp)) (.tup (st_of upd_same) (DrA.mono (Ex.new (fresh_back g3.s hp)) ?_))⟩
    unfold cutV Sky.cutD
    rw [l]
    exact ((t.drop _).take _).mono (g2.b.trans g3.b)
/-- for x in range(lo, hi): all turns, or a turn m that returns -/
theorem st_forR2 {K : PySem.W.Frag} {n lo hi : Nat} {tx : TA} {tbd : TS} (F : Nat → List Sl) (h : EA K tx en [.int (lo : Int), .int (hi : Int)]) (hm : hi ≤ 100000) (hlo : lo ≤ hi) (h0 : F 0 = en)
    (ht : ∀ i : Nat, lo + i < hi → ST K W tbd ((F i).set n (.da (.int ((lo : Int) + (i : Int))))) (.nx (F (i + 1)))) : ST K W (tFor (iRng2 tx) (gName n) tbd) en (.nx (F (hi - lo))) := fun B0 H0 B H σ S D k =>
  h _ _ B H σ S _ fun vs B1 H1 g r => by
    cases r with
    | cons r r2 => cases r2 with
      | cons r2 r3 =>
        cases r3; cases r; cases r2
        have S1 := S.grow g
        have e : ((hi : Int) - (lo : Int)).toNat = hi - lo := by omega
        refine ⟨lo, hi, rfl, ⟨by omega, by omega, by omega, by omega⟩, for_range (lo := lo) (n := ((hi : Int) - (lo : Int)).toNat) (fun i σ' H' => ∃ B', Sd K B1 H0 B' H' σ' (F i)) ⟨B1, by rw [h0]; exact S1.rebase⟩ (fun i σ' H' hi' ⟨B', S'⟩ => ?_) (fun σ' H' ⟨B', S'⟩ => ?_)⟩
        · exact ht i (by omega) B1 H0 B' H' _ (S'.set (.int _) n) _ fun B2 H2 σ2 S2 => ⟨B2, S2⟩
        · rw [e] at S'
          exact k B' H' σ' (S'.base S1.gr)
theorem st_forR2X {K : PySem.W.Frag} {n m lo hi : Nat} {tx : TA} {tbd : TS} (F : Nat → List Sl) (h : EA K tx en [.int (lo : Int), .int (hi : Int)]) (hm : hi ≤ 100000) (h0 : F 0 = en)
    (ht : ∀ i : Nat, i < m → ST K W tbd ((F i).set n (.da (.int ((lo : Int) + (i : Int))))) (.nx (F (i + 1)))) (hl : lo + m < hi) (hx : ST K W tbd ((F m).set n (.da (.int ((lo : Int) + (m : Int))))) (.rt d)) : ST K W (tFor (iRng2 tx) (gName n) tbd) en (.rt d) := fun B0 H0 B H σ S D k =>
  h _ _ B H σ S _ fun vs B1 H1 g r => by
    cases r with
    | cons r r2 => cases r2 with
      | cons r2 r3 =>
        cases r3; cases r; cases r2
        have S1 := S.grow g
        refine ⟨lo, hi, rfl, ⟨by omega, by omega, by omega, by omega⟩, for_range (lo := lo) (n := ((hi : Int) - (lo : Int)).toNat) (fun i σ' H' => i ≤ m ∧ ∃ B', Sd K B1 H0 B' H' σ' (F i)) ⟨Nat.zero_le _, B1, by rw [h0]; exact S1.rebase⟩ (fun i σ' H' hi' ⟨him, B', S'⟩ => ?_) (fun σ' H' ⟨him, B', S'⟩ => ?_)⟩
        · rcases Nat.lt_or_ge i m with hlt | hge
          · exact ht i hlt B1 H0 B' H' _ (S'.set (.int _) n) _ fun B2 H2 σ2 S2 => ⟨hlt, B2, S2⟩
          · have e : i = m := by omega
            subst e
            exact hx B1 H0 B' H' _ (S'.set (.int _) n) _ fun v B2 H2 g2 r2 => k v B2 H2 (S1.gr.base g2) r2
        · omega
theorem sv_forR2 {n lo hi : Nat} (Bx : Bd X W k) (F : Nat → List Sl) (hN : X.N.idxOf? x = some n) (hN2 : X.N[n]? = some x) (hx : Loc X.env.scope x) (hf : X.fn x = true ∨ X.env.scope.names.lookup x = some .local) (hr : X.mg "range" = none) (hi' : EVA X W en [a, b] [.int (lo : Int), .int (hi : Int)]) (hm : hi ≤ 100000) (hlo : lo ≤ hi) (h0 : F 0 = en)
    (hg : Gl X "range") (hst : starEach [a, b] X.env = [(false, eval a X.env), (false, eval b X.env)]) (hst2 : starEach [b] X.env = [(false, eval b X.env)])
    (ht : ∀ i : Nat, lo + i < hi → SVs X W ((F i).set n (.da (.int ((lo : Int) + (i : Int))))) ss (.nx (F (i + 1)))) : SV X W en (.For (.Name x p) (.Call (.Name "range" q1) [a, b] [] q2) ss [] pos) (.nx (F (hi - lo))) := by
  obtain ⟨t, h1, h2⟩ := hi'
  exact ⟨_, ps_for Bx.own Bx.calm (pi_range2 hg hr h1 hst hst2) (pg_name Bx.nd hN2 hx hf) pss_U, st_forR2 F h2 hm hlo h0 fun i hi => (ht i hi).U⟩
theorem sv_forR2X {n m lo hi : Nat} (Bx : Bd X W k) (F : Nat → List Sl) (hN : X.N.idxOf? x = some n) (hN2 : X.N[n]? = some x) (hx : Loc X.env.scope x) (hf : X.fn x = true ∨ X.env.scope.names.lookup x = some .local) (hr : X.mg "range" = none) (hi' : EVA X W en [a, b] [.int (lo : Int), .int (hi : Int)]) (hm : hi ≤ 100000) (h0 : F 0 = en)
    (hg : Gl X "range") (hst : starEach [a, b] X.env = [(false, eval a X.env), (false, eval b X.env)]) (hst2 : starEach [b] X.env = [(false, eval b X.env)])
    (ht : ∀ i : Nat, i < m → SVs X W ((F i).set n (.da (.int ((lo : Int) + (i : Int))))) ss (.nx (F (i + 1)))) (hl : lo + m < hi) (hx2 : SVs X W ((F m).set n (.da (.int ((lo : Int) + (m : Int))))) ss (.rt d)) : SV X W en (.For (.Name x p) (.Call (.Name "range" q1) [a, b] [] q2) ss [] pos) (.rt d) := by
  obtain ⟨t, h1, h2⟩ := hi'
  exact ⟨_, ps_for Bx.own Bx.calm (pi_range2 hg hr h1 hst hst2) (pg_name Bx.nd hN2 hx hf) pss_U, st_forR2X F h2 hm h0 (fun i hi => (ht i hi).U) hl hx2.U⟩
end
/-! ### a drawn line -/
def qf (ns : List Int) (i : Nat) : Int := ns.getD i 0
structure Dl (ns : List Int) : Prop where
  len : 8 ≤ ns.length
  lo : ∀ i, 0 ≤ qf ns i
  hi : ∀ i, qf ns i < 1009
theorem digs_dl (c : Int) {m : Nat} (h : 8 ≤ m) : Dl (digs c m) := by
  have key : ∀ i, 0 ≤ qf (digs c m) i ∧ qf (digs c m) i < 1009 := fun i => by
    unfold qf
    rw [List.getD_eq_getElem?_getD]
    rcases Nat.lt_or_ge i m with q | q
    · rw [digs_get c q]; exact ⟨digD_lo c i, digD_hi c i⟩
    · rw [List.getElem?_eq_none (by rw [digs_len]; exact q)]; exact ⟨by decide, by decide⟩
  exact ⟨by rw [digs_len]; exact h, fun i => (key i).1, fun i => (key i).2⟩
theorem dl_at {ns : List Int} (h : Dl ns) {i : Nat} (hi : i < 8) : atI (ns.map Da.int) (i : Int) = some (.int (qf ns i)) := by
  refine at_nat ?_
  have := h.len
  rw [List.getElem?_map, List.getElem?_eq_getElem (by omega)]
  unfold qf
  rw [List.getD_eq_getElem?_getD, List.getElem?_eq_getElem (by omega)]
  rfl
def uTop (q : Nat → Int) : Int := 1 + q 0 % 40
def uBot (q : Nat → Int) : Int := ([1, 60, 2, 3600, 7] : List Int).getD (q 1 % 5).toNat 0
def lWide (q : Nat → Int) : Int := 1 + q 2 % 30
def lMod (q : Nat → Int) : Int := ([1, 25] : List Int).getD (q 4 % 2).toNat 0
def lBeg (q : Nat → Int) : Int := q 3 % lMod q
def lStep (q : Nat → Int) : Int := 1 + q 5 % (2 * lWide q)
def lAt (q : Nat → Int) : Int := q 6 % (3 * lWide q + 1)
def dl (q : Nat → Int) : Int := 6 * uTop q * lBeg q
def dh (q : Nat → Int) : Int := 6 * uTop q * (lBeg q + lWide q)
def dt (q : Nat → Int) : Int := 3 * uTop q * lStep q
def da (q : Nat → Int) : Int := 2 * uTop q * (3 * lBeg q + lAt q)
def dn (q : Nat → Int) : Int := 6 * uBot q
def du (q : Nat → Int) : Bool := deq (.int (q 7 % 2)) (.int 0)
structure Db (q : Nat → Int) : Prop where
  u : 1 ≤ uTop q ∧ uTop q ≤ 40
  b : 1 ≤ uBot q ∧ uBot q ≤ 3600
  w : 1 ≤ lWide q ∧ lWide q ≤ 30
  m : 1 ≤ lMod q
  g : 0 ≤ lBeg q ∧ lBeg q ≤ 24
  s : 1 ≤ lStep q ∧ lStep q ≤ 2 * lWide q
  t : 0 ≤ lAt q ∧ lAt q ≤ 3 * lWide q
theorem db_of {ns : List Int} (h : Dl ns) : Db (qf ns) := by
  have a0 := Int.emod_nonneg (qf ns 0) (show (40 : Int) ≠ 0 by decide)
  have a1 := Int.emod_lt_of_pos (qf ns 0) (show (0 : Int) < 40 by decide)
  have b0 := Int.emod_nonneg (qf ns 1) (show (5 : Int) ≠ 0 by decide)
  have b1 := Int.emod_lt_of_pos (qf ns 1) (show (0 : Int) < 5 by decide)
  have c0 := Int.emod_nonneg (qf ns 2) (show (30 : Int) ≠ 0 by decide)
  have c1 := Int.emod_lt_of_pos (qf ns 2) (show (0 : Int) < 30 by decide)
  have d0 := Int.emod_nonneg (qf ns 4) (show (2 : Int) ≠ 0 by decide)
  have d1 := Int.emod_lt_of_pos (qf ns 4) (show (0 : Int) < 2 by decide)
  have hm : lMod (qf ns) = 1 ∨ lMod (qf ns) = 25 := by
    unfold lMod
    rcases (show qf ns 4 % 2 = 0 ∨ qf ns 4 % 2 = 1 by omega) with e | e <;> rw [e]
    · exact .inl rfl
    · exact .inr rfl
  have hw : 1 ≤ lWide (qf ns) ∧ lWide (qf ns) ≤ 30 := by unfold lWide; omega
  have g0 := Int.emod_nonneg (qf ns 3) (show lMod (qf ns) ≠ 0 by omega)
  have g1 := Int.emod_lt_of_pos (qf ns 3) (show 0 < lMod (qf ns) by omega)
  have s0 := Int.emod_nonneg (qf ns 5) (show 2 * lWide (qf ns) ≠ 0 by omega)
  have s1 := Int.emod_lt_of_pos (qf ns 5) (show 0 < 2 * lWide (qf ns) by omega)
  have t0 := Int.emod_nonneg (qf ns 6) (show 3 * lWide (qf ns) + 1 ≠ 0 by omega)
  have t1 := Int.emod_lt_of_pos (qf ns 6) (show 0 < 3 * lWide (qf ns) + 1 by omega)
  refine ⟨by unfold uTop; omega, ?_, hw, by omega, ?_, ?_, ?_⟩
  · unfold uBot
    rcases (show qf ns 1 % 5 = 0 ∨ qf ns 1 % 5 = 1 ∨ qf ns 1 % 5 = 2 ∨ qf ns 1 % 5 = 3 ∨ qf ns 1 % 5 = 4 by omega) with e | e | e | e | e <;> rw [e] <;> decide
  · show 0 ≤ qf ns 3 % lMod (qf ns) ∧ qf ns 3 % lMod (qf ns) ≤ 24
    omega
  · show 1 ≤ 1 + qf ns 5 % (2 * lWide (qf ns)) ∧ 1 + qf ns 5 % (2 * lWide (qf ns)) ≤ 2 * lWide (qf ns)
    omega
  · show 0 ≤ qf ns 6 % (3 * lWide (qf ns) + 1) ∧ qf ns 6 % (3 * lWide (qf ns) + 1) ≤ 3 * lWide (qf ns)
    omega
theorem mul_le3 {a b c d : Int} (h0 : 0 ≤ a) (h1 : a ≤ c) (k0 : 0 ≤ b) (k1 : b ≤ d) : 0 ≤ a * b ∧ a * b ≤ c * d := ⟨Int.mul_nonneg h0 k0, Int.mul_le_mul h1 k1 k0 (by omega)⟩
theorem ln_of {q : Nat → Int} (h : Db q) : Ln (dl q) (dh q) (dt q) (da q) (dn q) := by
  obtain ⟨u, b, w, m, g, s, t⟩ := h
  unfold dl dh dt da dn
  generalize uTop q = U at *
  generalize uBot q = N at *
  generalize lWide q = V at *
  generalize lBeg q = G at *
  generalize lStep q = S at *
  generalize lAt q = A at *
  have e1 := mul_le3 (show 0 ≤ U by omega) u.2 g.1 g.2
  have e2 := mul_le3 (show 0 ≤ U by omega) u.2 (show 0 ≤ V by omega) w.2
  have e3 := mul_le3 (show 0 ≤ U by omega) u.2 (show 0 ≤ S by omega) (show S ≤ 60 by omega)
  have e4 := mul_le3 (show 0 ≤ U by omega) u.2 t.1 (show A ≤ 90 by omega)
  have p1 : U * S ≤ U * (2 * V) := Int.mul_le_mul_of_nonneg_left s.2 (by omega)
  have p2 : U * A ≤ U * (3 * V) := Int.mul_le_mul_of_nonneg_left t.2 (by omega)
  have p3 : 0 < U * V := Int.mul_pos (by omega) (by omega)
  have p4 : 0 < U * S := Int.mul_pos (by omega) (by omega)
  have f1 : 6 * U * G = 6 * (U * G) := by grind
  have f2 : 6 * U * (G + V) = 6 * (U * G) + 6 * (U * V) := by grind
  have f3 : 3 * U * S = 3 * (U * S) := by grind
  have f4 : 2 * U * (3 * G + A) = 6 * (U * G) + 2 * (U * A) := by grind
  have f5 : U * (2 * V) = 2 * (U * V) := by grind
  have f6 : U * (3 * V) = 3 * (U * V) := by grind
  rw [f1, f2, f3, f4]
  rw [f5] at p1
  rw [f6] at p2
  exact ⟨by omega, by omega, by omega, by omega, by omega, by omega, by omega, by omega, by omega⟩
end Sky
namespace Sky
open PySem L2 Evl PySem.Spec PyProof.Rows
/-! ### own errors with one field -/
def spOI (K : PySem.W.Frag) (C : Addr) (f : Str) : Sp := fun vs H Q _ => ∃ (a : Addr) (v : V), vs = [.ref a, v] ∧ H a = some (exo a C none) ∧ ∀ dx, H dx = none → dx ≠ a → Q .non (upd (upd H dx (exd dx [(f, v)])) a (exo a C (some dx)))
structure ExI (P : Program) (w : World) (K : PySem.W.Frag) (mg : Str → Option Value) (base : Heap) (x : Str) (C : Addr) (fld : Str) : Prop where
  g : mg x = some (.ref C)
  o : OexC K C
  xf : XfC K C
  ha : PySem.W.findIn K (.ref C) "__class__" = some (some (.builtin "object.__class__"))
  hn : PySem.W.specialIn K (.builtin "object.__class__") "__get__" = some (some (.builtin "getset_descriptor.__get__"))
  ht : PySem.W.takesIn K (.builtin "object.__class__") = some true
  hm : PySem.W.mroIn K C (.type "object") = some true
  no : PySem.W.findIn K (.ref C) fld = some none
  ini : ∃ (fI : Addr) (fd : FuncData) (ps : List Str), PySem.W.findIn K (.ref C) "__init__" = some (some (.ref fI)) ∧ PySem.W.typeIn K (.ref fI) = some (.type "function") ∧ FnOk P w K mg base (L2.CX P w) 1 fI fd ps (spOI K C fld) ∧ Binds K fd ps []
section
variable {X : Cx} {W : WX} {k i : Nat} {en e1 : List Sl} {e c r : Expr} {es : List Expr} {x fld : Str} {C : Addr} {p p2 pos pos2 : Pos} {d : Da} {b : Bool}
theorem sv_raiseF (Bx : Bd X W k) (T : ExI X.prog X.w X.K X.mg X.base x C fld) (hk : 2 ≤ k) (ha : EV X W en e (.ok d)) (hg : Gl X x) (hdb : (x == ("__debug__" : Str)) = false) (hst : starEach [e] X.env = (false, eval e X.env) :: starEach [] X.env) (hpl : (backTo pos (starEach [] X.env)).any (·.1) = false) :
    SV X W en (.Raise (some (.Call (.Name x p) [e] [] pos)) none pos2) (.rx en C (some (fld, d))) := by
  obtain ⟨fI, fd, ps, iC, tI, F1, hb⟩ := T.ini
  obtain ⟨t, h1, h2⟩ := ha
  refine ⟨_, ps_raise Bx.calm Bx.tk (pmk_oex T.o iC tI F1 (Bx.rm.mono hk) hb .nil passL hg T.g (pa_cons h1 pa_nil hst) hdb hst hpl), fun B0 H0 B H σ S D q => ?_⟩
  refine h2 _ _ B H σ S _ fun v B1 H1 g1 r1 => ?_
  have S1 := S.grow g1
  refine ⟨by show 1 ≤ 1000; decide, fun a ha => ⟨a, v, rfl, upd_same, fun dx hd hne => ⟨rfl, dx, [(fld, v)], upd_same, ?_, ?_, ?_⟩⟩⟩
  · rw [upd_ne hne]; exact upd_same
  · rw [upd_ne hne] at hd; exact hd
  · rw [upd_ne hne] at hd
    have eH : upd (L2.del (upd (upd (upd H1 a (exo a C none)) dx (exd dx [(fld, v)])) a (exo a C (some dx))) a) dx (.xd [(fld, v)]) = upd H1 dx (.xd [(fld, v)]) := by
      funext z
      by_cases z1 : z = dx
      · subst z1; rw [upd_same, upd_same]
      · rw [upd_ne z1, upd_ne z1]
        by_cases z2 : z = a
        · subst z2; rw [L2.del_same, ha]
        · rw [L2.del_ne z2, upd_ne z2, upd_ne z1, upd_ne z2]
    rw [eH]
    exact q B1 _ σ (some dx) (S1.grow (Gr.newO S1.eb hd)) ⟨dx, v, rfl, upd_same, r1⟩
/-! what the suite may read of the error that it holds -/
def HX (K : PySem.W.Frag) (dd : Addr) (n : Str) (dF : Da) (B H : Hp) : Prop := ∃ v, H dd = some (.xd [(n, v)]) ∧ Dr K B v dF
theorem HX.grow {K : PySem.W.Frag} {dd : Addr} {n : Str} {dF : Da} {B H B' H' : Hp} (h : HX K dd n dF B H) (g : Gr B H B' H') : HX K dd n dF B' H' := by
  obtain ⟨v, h1, h2⟩ := h
  exact ⟨v, g.h _ _ h1, h2.mono g.b⟩
structure EVX (X : Cx) (W : WX) (dd : Addr) (n : Str) (dF : Da) (en : List Sl) (e : Expr) (d : Da) : Prop where
  ex : ∃ t, PE X e t ∧ ∀ B0 H0 B H σ, Sd X.K B0 H0 B H σ en → HX X.K dd n dF B H → ∀ Q : VK, (∀ v B' H', Gr B H B' H' → Dr X.K B' v d → Q v H') → t σ H Q
structure ETX (X : Cx) (dd : Addr) (n : Str) (dF : Da) (en : List Sl) (e : Expr) (b : Bool) : Prop where
  ex : ∃ t, PT X e t ∧ ∀ B0 H0 B H σ, Sd X.K B0 H0 B H σ en → HX X.K dd n dF B H → ∀ Q : Bool → Hp → Prop, (∀ B' H', Gr B H B' H' → Q b H') → t σ H Q
structure EWX (X : Cx) (dd : Addr) (n : Str) (dF : Da) (en : List Sl) (e : Expr) (b : Bool) : Prop where
  ex : ∃ t, PW X e t ∧ ∀ B0 H0 B H σ, Sd X.K B0 H0 B H σ en → HX X.K dd n dF B H → ∀ Q : Bool → Hp → Prop, (∀ B' H', Gr B H B' H' → Q b H') → t σ H Q
structure SVX (X : Cx) (W : WX) (dd : Addr) (n : Str) (dF : Da) (en : List Sl) (ss : List Stmt) (ou : Out) : Prop where
  ex : ∃ t, PSs X ss t ∧ ∀ B0 H0 B H σ, Sd X.K B0 H0 B H σ en → HX X.K dd n dF B H → ∀ D : Ends, Fi X.K W B0 H0 D ou → t D σ H
variable {dd : Addr} {n : Str} {dF : Da}
theorem evx_of (h : EV X W en e (.ok d)) : EVX X W dd n dF en e d := by
  obtain ⟨t, h1, h2⟩ := h
  exact ⟨t, h1, fun B0 H0 B H σ S _ Q k => h2 B0 H0 B H σ S Q k⟩
theorem etx_w {op} (h : EWX X dd n dF en (.BoolOp op es pos) b) : ETX X dd n dF en (.BoolOp op es pos) b := by
  obtain ⟨t, h1, h2⟩ := h
  exact ⟨_, h1.pt, h2⟩
theorem ewx_and1 (h : ETX X dd n dF en c b) : EWX X dd n dF en (.BoolOp .And [c] pos) b := by
  obtain ⟨t, h1, h2⟩ := h
  exact ⟨_, pw_and1 h1, h2⟩
theorem ewx_andT {c2 : Expr} {rest : List Expr} (h : ETX X dd n dF en c true) (k : EWX X dd n dF en (.BoolOp .And (c2 :: rest) pos) b) : EWX X dd n dF en (.BoolOp .And (c :: c2 :: rest) pos) b := by
  obtain ⟨t, h1, h2⟩ := h
  obtain ⟨t', h3, h4⟩ := k
  exact ⟨_, pw_and h1 h3, fun B0 H0 B H σ S hx Q q => h2 _ _ B H σ S hx _ fun B' H' g => iteT (h4 _ _ B' H' σ (S.grow g) (hx.grow g) _ fun B2 H2 g2 => q B2 H2 (g.trans g2))⟩
theorem evx_tup2 {e2 : Expr} {q : Nat} {d2 : Da} (h : EVX X W dd n dF en e d) (k : EVX X W dd n dF en e2 d2) (h1 : starEach [e, e2] X.env = (false, eval e X.env) :: starEach [e2] X.env) (h2 : starEach [e2] X.env = (false, eval e2 X.env) :: starEach [] X.env) : EVX X W dd n dF en (.Tuple [e, e2] q pos) (.tup [d, d2]) := by
  obtain ⟨t, a1, a2⟩ := h
  obtain ⟨t', a3, a4⟩ := k
  refine ⟨_, pe_tup (pa_cons a1 (pa_cons a3 pa_nil h2) h1), fun B0 H0 B H σ S hx Q q => a2 _ _ B H σ S hx _ fun v B1 H1 g1 r1 => a4 _ _ B1 H1 σ (S.grow g1) (hx.grow g1) _ fun v2 B2 H2 g2 r2 => ?_⟩
  exact ⟨by show 2 ≤ sizeLine; decide, fun p hp => q _ _ _ ((g1.trans g2).trans (Gr.new g2.s hp)) (.tup (st_of upd_same) (.cons (r1.mono (g2.b.trans (Ex.new (fresh_back g2.s hp)))) (.cons (r2.mono (Ex.new (fresh_back g2.s hp))) .nil)))⟩
theorem svx_ifRet {rest : List Stmt} (hc : ETX X dd n dF en c true) (hr : EVX X W dd n dF en r d) : SVX X W dd n dF en (.If c [.Return (some r) pos2] [] pos :: rest) (.rt d) := by
  obtain ⟨t, a1, a2⟩ := hc
  obtain ⟨t', a3, a4⟩ := hr
  refine ⟨_, pss_cons (ps_if a1 (pss_one (ps_ret a3)) pss_nil) pss_never, fun B0 H0 B H σ S hx D q => ?_⟩
  exact a2 _ _ B H σ S hx _ fun B' H' g => iteT (a4 _ _ B' H' σ (S.grow g) (hx.grow g) _ fun v B2 H2 g2 r2 => q v B2 H2 ((S.gr.trans g).trans g2) r2)
end
section
variable {X : Cx} {W : WX} {k i : Nat} {en e1 : List Sl} {x n fld : Str} {c : Value} {body suite : List Stmt} {b₀ : Stmt} {np pos pos' p1 p2 p3 : Pos} {C a : Addr} {d dF : Da} {oe : Obj} {pn : List (Addr × Obj)} {y : Str} {dd : Addr}
/-- the body raises C with a field; the suite returns -/
theorem sv_tryF (Bx : Bd X W k) (hs : X.stack = X.env :: X.outer) (hf : X.env.frame = some X.env.locals) (hN : X.N.idxOf? n = some i) (hi : X.N[i]? = some n) (hln : X.env.kindOf n = some .local) (hc : Names X x c)
    (hb : ∀ (W' : WX) (pn : List (Addr × Obj)) (xe : Value → Shared → Prop), Bd (X.tr pn xe) W' k → SVs (X.tr pn xe) W' en body (.rx e1 C (some (fld, dF)))) (he : PySem.W.exmOne X.K (.ref C) c = some true)
    (hsu : ∀ (a : Addr) (oe : Obj) (dd : Addr) (pn : List (Addr × Obj)), Zc (.ref C) (some dd) oe → (∃ vs, oe.data = .fields vs) → SVX (X.suite a ((a, oe) :: pn)) (fun _ _ _ _ => False) dd fld dF (e1.set i (.rf (.ref a))) (b₀ :: suite) (.rt d)) :
    SV X W en (.Try body [.ExceptHandler (some (.Name x np)) (some n) (b₀ :: suite) pos'] [] [] pos) (.rt d) :=
  ⟨_, ps_tryU hs hf Bx.nd hi hln hc, fun B0 H0 B H σ S D q pn xe tk ow => by
    obtain ⟨t, h1, h2⟩ := hb _ pn xe (bd_tr Bx tk ow)
    refine ⟨t, h1, h2 B0 H0 B H σ S D fun B' H' σ' dd S' xf => ⟨true, he, fun _ a ha oe pn2 hz hv => ?_, fun z => by cases z⟩⟩
    obtain ⟨da, v, rfl, hda, rv⟩ := xf
    obtain ⟨t', h3, h4⟩ := hsu a oe da pn2 hz hv
    exact ⟨t', h3, h4 B0 H0 B' H' _ (S'.setRf (.ref a) i) ⟨v, hda, rv⟩ _ q⟩⟩
/-- e.fld in the suite -/
theorem evx_fld (T : ExI X.prog X.w X.K X.mg X.base x C fld) (hz : Zc (.ref C) (some dd) oe) (hf : ∃ vs, oe.data = .fields vs) (hv : Vis X.env.scope y) (h : en[i]? = some (.rf (.ref a))) (hN2 : X.N[i]? = some y) (hd : (y == ("__debug__" : Str)) = false) (hcd : (y == ("__classdict__" : Str)) = false)
    (hb : attributeBase (.Name y p1) fld X.env (eval (.Name y p1) X.env) = eval (.Name y p1) X.env) : EVX (X.suite a ((a, oe) :: pn)) W dd fld dF en (.Attribute (.Name y p1) fld pos) dF := by
  refine ⟨_, pe_xf T.xf T.no hz hf (pe_var hN2 hv hd hcd) hb, fun B0 H0 B H σ S hx Q q => ?_⟩
  obtain ⟨v, h1, h2⟩ := hx
  refine ex_rf h B0 H0 B H σ S _ ⟨rfl, rfl, dd, _, v, rfl, h1, ?_, q v B H (Gr.refl S.eb) h2⟩
  simp [List.lookup]
/-- isinstance(e, c) in the suite, e with its own dict -/
def rIsD (K : PySem.W.Frag) (D a dd : Addr) : List V → Hp → VK → Prop := fun xs H Q => ∃ (c : V) (cv : Value) (b : Bool) (fs : List (Str × V)), xs = [.ref a, c] ∧ (∀ u, RelV c u → u = cv) ∧ PySem.W.kitOne K (.ref D) cv = some b ∧ H dd = some (.xd fs) ∧ Q (.bl b) H
theorem call_isD (T : ExI X.prog X.w X.K X.mg X.base x C fld) (hz : Zc (.ref C) (some dd) oe) (hf : ∃ vs, oe.data = .fields vs) : CallR (X.suite a ((a, oe) :: pn)) (.builtin "isinstance") (rIsD X.K C a dd) := by
  intro pins s σ H xs us Q I r h
  obtain ⟨c, cv, b, fs, rfl, hcv, e, hd, q⟩ := h
  cases r with
  | cons rx rr =>
    cases rr with
    | cons rt rr =>
      cases rr
      cases rx
      have ec := hcv _ rt
      subst ec
      obtain ⟨hget, _⟩ := I.pin (a, oe) (List.mem_append.mpr (.inl List.mem_cons_self))
      obtain ⟨vs, hv⟩ := hf
      have hx : ObjOk X.prog X.w H s.heap dd (.xd fs) := I.hok dd _ hd
      obtain ⟨mA, hns, _⟩ := hx
      obtain ⟨od, ho, _⟩ := lookIn_ns hns
      have J : PySem.W.InstAt s.heap a oe C (some od) := ⟨hget, hz.1, by unfold PySem.W.notCls; rw [hv] <;> rfl, by rw [hz.2]; exact ho⟩
      have hcl : (PySem.W.clsIn X.K C).isSome = true := by
        obtain ⟨cd, hc, _⟩ := PySem.W.any_some T.xf.hdC
        rw [hc]; rfl
      exact PySem.W.kia_one (PySem.W.kitx_exc hcl T.xf.ga T.xf.gg T.xf.exC T.ha T.hn T.ht T.hm) I.kIn J e (fun z => nomatch z) fun tk => ⟨.bl b, H, I.kept (t' := tk) fun _ _ z => z, rfl, q⟩
theorem etx_is {cx : Expr} {cv : V} {cu : Value} {b : Bool} (T : ExI X.prog X.w X.K X.mg X.base x C fld) (hz : Zc (.ref C) (some dd) oe) (hf : ∃ vs, oe.data = .fields vs) (hm : X.mg "isinstance" = none)
    (hv : Vis X.env.scope y) (h : en[i]? = some (.rf (.ref a))) (hN2 : X.N[i]? = some y) (hd : (y == ("__debug__" : Str)) = false) (hcd : (y == ("__classdict__" : Str)) = false)
    (hc : PE (X.suite a ((a, oe) :: pn)) cx (tC cv)) (hcu : ∀ u, RelV cv u → u = cu) (hk : PySem.W.kitOne X.K (.ref C) cu = some b) (hg : Gl (X.suite a ((a, oe) :: pn)) "isinstance")
    (h1 : starEach [.Name y p1, cx] X.env = (false, eval (.Name y p1) X.env) :: starEach [cx] X.env) (h2 : starEach [cx] X.env = (false, eval cx X.env) :: starEach [] X.env) (hpl : (backTo p3 (starEach [cx] X.env)).any (·.1) = false)
    (hq : ∀ whole, isTrue (.Call (.Name "isinstance" p2) [.Name y p1, cx] [] p3) X.env whole = (do let v ← whole; standAt (Expr.Call (.Name "isinstance" p2) [.Name y p1, cx] [] p3).pos; holding [v] (truthy v))) :
    ETX (X.suite a ((a, oe) :: pn)) dd fld dF en (.Call (.Name "isinstance" p2) [.Name y p1, cx] [] p3) b := by
  have hvar : PE (X.suite a ((a, oe) :: pn)) (.Name y p1) (tVar i) := pe_var hN2 hv hd hcd
  refine ⟨_, pt_val (pe_callB (call_isD T hz hf) hg hm (by decide +kernel) (pa_cons hvar (pa_cons hc pa_nil h2) h1) (by decide) (by decide) h1 hpl) hq, fun B0 H0 B H σ S hx Q q => ?_⟩
  obtain ⟨v, e1, e2⟩ := hx
  exact ex_rf h B0 H0 B H σ S _ ⟨cv, cu, b, _, rfl, hcu, hk, e1, b, rfl, q B H (Gr.refl S.eb)⟩
end
end Sky
namespace Sky
open PySem L2 Evl PySem.Spec PyProof.Rows
/-! ### an own error's __init__ with one field -/
section
variable {P : Program} {w : World} {K : PySem.W.Frag} {mg : Str → Option Value} {base : Heap} {x qual : Str} {st : Stmt} {f : Addr} {fd : FuncData} {C : Addr} {fld a0 a1 : Str}
/-! ### C(k = v, ..) that may raise -/
def spIR (K : PySem.W.Frag) (C : Addr) (n : Nat) (R : List Da → XI → Prop) : Sp := fun vs H Q E => vs.length = n ∧ ∃ p dx ws B ds o, vs = .ref p :: ws ∧ H p = some (.ins C dx []) ∧ B p = none ∧ Ex B H ∧ DrA K B ws ds ∧ R ds o ∧
  match o with
  | .ok fs => ∀ B' H' us, Gr B (del H p) B' H' → B' p = none → H' p = some (.ins C dx us) → DrF K B' us fs → Q .non H'
  | .err D f => ∀ dd B' H', Gr B (del H p) B' H' → XF K B' H' dd f → E (.ref D) dd H'
variable {N ps : List Str} {k : Nat} {dvs : List V} {kws : List (Str × V)}
theorem fn_iR (F : FunDS K x qual st dvs kws f fd) {s0 : Str} {pr : List Str} (hps : ps = s0 :: pr) (S : FnScope N ps (defScope st)) (R : List Da → XI → Prop)
    (hb : ∀ (cdv : Value) (A : Around) (outer : List Env) (s : Shared) (H : Hp) (E : XK) (p dx : Addr) (ds : List Da) (o : XI), Bd (XB P w K mg base N qual st f cdv A outer s H E) (WD E) k → ds.length = pr.length → R ds o →
      ∃ ou, LeadI p C dx ou o ∧ SVs (XB P w K mg base N qual st f cdv A outer s H E) (WD E) (.ob p C dx [] :: (ds.map .da ++ List.replicate (N.length - (ds.length + 1)) .no)) (defBody st) ou) : FnOk P w K mg base (L2.CX P w) (k + 1) f fd ps (spIR K C ps.length R) := by
  refine F.ok (CX := L2.CX P w) S (fun vs H Q E h => h.1) fun cdv A outer s H vs Q E hr h => ?_
  obtain ⟨hl, p, dx, ws, B, ds, o, rfl, hp, hBp, eB, hA, hf, ko⟩ := h
  have hlen : ds.length = pr.length := by
    rw [hps] at hl
    have := hA.length
    simp only [List.length_cons] at hl
    omega
  obtain ⟨ou, ld, t, h1, h2⟩ := hb cdv A outer s H E p dx ds o (bd_of S hr) hlen hf
  refine ⟨t, h1, h2 B (del H p) B H _ ⟨⟨Ex.refl _, del_ex, eB, fun _ _ hb => hb⟩, ?_, fun i j q es1 es2 q1 => ?_⟩ _ ?_⟩
  · have e : L2.start N (.ref p :: ws) = some (V.ref p) :: (ws.map some ++ List.replicate (N.length - (ws.length + 1)) none) := rfl
    rw [e, hA.length]
    exact .cons (.ob hBp del_same hp .nil) (paired_app (slots_sl hA) paired_rep)
  · cases i with
    | zero => cases q1
    | succ i =>
      have m := List.mem_of_getElem? (show (ds.map Sl.da ++ List.replicate (N.length - (ds.length + 1)) .no)[i]? = _ from q1)
      rcases List.mem_append.mp m with m | m
      · obtain ⟨d, _, e⟩ := List.mem_map.mp m
        cases e
      · cases (List.eq_of_mem_replicate m)
  · cases ld with
    | rx en C f => exact fun B' H' σ' dd S' x' => ko dd B' H' S'.gr x'
    | nx en fs h =>
      intro B' H' σ' S'
      obtain ⟨us, e1, b, f0, e2, t2⟩ := S'.obAt h
      exact ko B' H' us S'.gr b e2 t2
end
def tMakeKS (C : Addr) (m : Nat) (sp : Sp) (gV : List V → List V → List V) (E : L2.St → XK) (tk : TA) : TE := fun σ H Q => tk σ H fun zs H2 => zs.length = m ∧ ∀ x dx, H2 x = none → H2 dx = none → dx ≠ x →
  sp (gV [.ref x] zs) (upd (upd H2 dx (.own x)) x (.ins C dx [])) (fun v H3 => v = .non ∧ Q (.ref x) H3) (E σ)
section
variable {X : Cx} {W : WX} {CX : CXT} {k j n : Nat} {f C : Addr} {fd : FuncData} {ps ks : List Str} {sp : Sp} {E : L2.St → XK} {x : Str} {p pos : Pos} {e : Expr} {es : List Expr} {kws : List Keyword} {tk : TA} {g : List Value → List Value → List Value} {gV : List V → List V → List V} {en : List Sl} {zs : List Da} {R : List Da → XI → Prop} {gD : List Da → List Da} {oi : XI} {fs : List (Str × Da)}
theorem run_makeKS {pins : List (Addr × Obj)} {σ : L2.St} {H : Hp} {s : Shared} {Q : VK} {us ws : List Value} {vs zs : List V} {E : XK} (M : Mk X.K C f) (F : FnOk X.prog X.w X.K X.mg X.base CX k f fd ps sp) (hr : Room (k + 1) X.A) (hb : KBn X.K fd ps (n + 1) ks g gV) (hx : PassesAt CX X σ E)
    (I : Inv X pins σ H s) (r : Vals vs us) (rz : Vals zs ws) (l1 : vs.length = n) (l2 : zs.length = ks.length)
    (h : ∀ x dx, H x = none → H dx = none → dx ≠ x → sp (gV (.ref x :: vs) zs) (upd (upd H dx (.own x)) x (.ins C dx [])) (fun v H2 => v = .non ∧ Q (.ref x) H2) E) :
    wpAny (model X.prog X.w) X.A (call (.ref C) us (ks.zip ws)) (EP X pins σ Q) X.xe s := by
  have hq := h (s.heap.objs.size + 1) s.heap.objs.size (I.hok.fresh (Nat.le_succ _)) (I.hok.fresh (Nat.le_refl _)) (Nat.ne_of_lt (Nat.lt_succ_self _))
  have I2 := Inv.made (C := C) I
  have r1 : Vals (V.ref (s.heap.objs.size + 1) :: vs) (Value.ref (s.heap.objs.size + 1) :: us) := .cons rfl r
  have r2 := hb.rel r1 rz
  have n1 : (Value.ref (s.heap.objs.size + 1) :: us).length = n + 1 := by
    rw [List.length_cons, ← r.length, l1]
  refine wpAny_call (make_map (f := f) I.kIn M.makes M.init (beq_iff_eq.mp M.fn) (codeAny_mono (F.run _ X.stack _ _ ⟨Value.ref (s.heap.objs.size + 1) :: us, ks.zip ws⟩ (g (Value.ref (s.heap.objs.size + 1) :: us) ws) _ _ E (hr.make C us (ks.zip ws))
    (I2.env0.make C us (ks.zip ws)) (hb.to _ (Value.ref (s.heap.objs.size + 1) :: us) ws I2.kIn n1 (rz.length.symm.trans l2)) r2 hq) fun r s' hq' => ?_))
  cases r with
  | error e => exact hx pins _ _ e s' I2 hq'
  | ok fl =>
    cases fl with
    | ret u =>
      obtain ⟨v, H', I3, rv, ev, q3⟩ := I2.after hq'
      subst ev
      exact ⟨rv, ⟨V.ref (s.heap.objs.size + 1), H', I3, rfl, q3⟩⟩
    | next => exact False.elim hq'
    | brk => exact False.elim hq'
    | cont => exact False.elim hq'
theorem pe_makeKS (M : Mk X.K C f) (F : FnOk X.prog X.w X.K X.mg X.base CX k f fd ps sp) (hr : Room (k + 1) X.A) (hg : Gl X x) (hm : X.mg x = some (.ref C)) (hb : KBn X.K fd ps 1 ks g gV) (hx : ∀ σ, PassesAt CX X σ (E σ)) (hkw : PK X kws tk)
    (hall : (backToKw pos (keywordEach kws X.env)).all (·.1.isSome) = true) (hks : (backToKw pos (keywordEach kws X.env)).filterMap (·.1) = ks) (hdb : (x == ("__debug__" : Str)) = false)
    (hpl : ((backTo pos (starEach [] X.env)).any (·.1) || (backToKw pos (keywordEach kws X.env)).any (·.1.isNone)) = false) :
    PE X (.Call (.Name x p) [] kws pos) (tMakeKS C ks.length sp gV E tk) := by
  refine ⟨fun pins s σ H Q I h => ?_⟩
  refine wpAny_Call_Name_kw (ld_glob I hg hm ?_ hdb)
  refine PySem.W.callWith_KW0 (h₀ := X.base) I.ok.mod.kin M.kp hall ?_ hpl
  refine thn (hkw.run pos pins s σ H _ I h) fun ws s2 ⟨zs, H2, I2, rz, l2, q2⟩ => ⟨I2.kIn, ?_⟩
  rw [hks]
  exact run_makeKS (us := []) (vs := []) M F hr hb (hx σ) I2 .nil rz rfl l2 q2
def XOI (C : Addr) : XI → XO
  | .ok fs => .ok (.ins C fs)
  | .err D f => .err D f
theorem ex_makeR (hk : EA X.K tk en zs) (hgd : ∀ B r vs, DrA X.K B vs zs → vs.length = ks.length → (gV [r] vs).length = n ∧ ∃ ws, gV [r] vs = r :: ws ∧ DrA X.K B ws (gD zs)) (l2 : zs.length = ks.length) (hf : R (gD zs) oi) :
    EX X.K W (tMakeKS C ks.length (spIR X.K C n R) gV (WE W) tk) en (XOI C oi) := fun _ _ B H σ S Q ko =>
  hk _ _ B H σ S _ fun vs B1 H1 g1 r1 => ⟨r1.length.trans l2, fun o dx ho hd hne => by
    obtain ⟨h1, ws, e1, h2⟩ := hgd B1 (.ref o) vs r1 (r1.length.trans l2)
    have eH : Ex H1 (upd (upd H1 dx (.own o)) o (.ins C dx [])) := fun a u e => by
      rw [upd_ne (ne_of_none e ho), upd_ne (ne_of_none e hd)]; exact e
    have eD : Ex H1 (del (upd (upd H1 dx (.own o)) o (.ins C dx [])) o) := fun a u e => by
      rw [del_ne (ne_of_none e ho)]; exact eH a u e
    have up : ∀ {B' H' : Hp}, Gr B1 (del (upd (upd H1 dx (.own o)) o (.ins C dx [])) o) B' H' → Gr B1 H1 B' H' := fun {B' H'} g => ⟨g.b, eD.trans g.h, g.s, fun q hq hb => g.n q (fun z => by
      cases e : H1 q with
      | none => exact hq e
      | some u => rw [eD q u e] at z; cases z) hb⟩
    refine ⟨h1, o, dx, ws, B1, gD zs, oi, e1, upd_same, fresh_back g1.s ho, g1.s.trans eH, h2, hf, ?_⟩
    cases oi with
    | ok fs => exact fun B' H' us g hb hh t => ⟨rfl, ko _ _ _ (g1.trans ((up g).freeze g1.s ho hh)) (.ins upd_same (t.mono (Ex.new hb)))⟩
    | err D f => exact fun dd B' H' g xf => ko dd B' H' (g1.trans (up g)) xf⟩
structure MakR (P : Program) (w : World) (K : PySem.W.Frag) (mg : Str → Option Value) (base : Heap) (x : Str) (C : Addr) (j : Nat) (ks : List Str) (gD : List Da → List Da) (R : List Da → XI → Prop) : Prop where
  ex : ∃ (f : Addr) (fd : FuncData) (ps : List Str) (g : List Value → List Value → List Value) (gV : List V → List V → List V), FnOk P w K mg base (L2.CX P w) j f fd ps (spIR K C ps.length R) ∧ Mk K C f ∧ mg x = some (.ref C) ∧ KBn K fd ps 1 ks g gV ∧
    ∀ B r vs zs, DrA K B vs zs → vs.length = ks.length → (gV [r] vs).length = ps.length ∧ ∃ ws, gV [r] vs = r :: ws ∧ DrA K B ws (gD zs)
theorem ev_makeR (cl : MakR X.prog X.w X.K X.mg X.base x C j ks gD R) (Bx : Bd X W k) (hj : j + 1 ≤ k) (hk : EVK X W en kws zs) (hf : R (gD zs) oi) (l2 : zs.length = ks.length) (hg : Gl X x)
    (hall : (backToKw pos (keywordEach kws X.env)).all (·.1.isSome) = true) (hks : (backToKw pos (keywordEach kws X.env)).filterMap (·.1) = ks) (hdb : (x == ("__debug__" : Str)) = false)
    (hpl : ((backTo pos (starEach [] X.env)).any (·.1) || (backToKw pos (keywordEach kws X.env)).any (·.1.isNone)) = false) : EV X W en (.Call (.Name x p) [] kws pos) (XOI C oi) := by
  obtain ⟨f, fd, ps, g, gV, F, M, hm, hb, hgd⟩ := cl.ex
  obtain ⟨tk, h3, h4⟩ := hk
  exact ⟨_, pe_makeKS M F (Bx.rm.mono hj) hg hm hb (fun σ => passAt Bx.tk σ) h3 hall hks hdb hpl, ex_makeR h4 (fun B r vs r1 q1 => hgd B r vs zs r1 q1) l2 hf⟩
end
end Sky
namespace Sky
open PySem L2 Evl PySem.Spec PyProof.Rows
/-! ### methods by relations -/
structure MthR (P : Program) (w : World) (K : PySem.W.Frag) (mg : Str → Option Value) (base : Heap) (C : Addr) (m : Str) (j : Nat) (ps : List Str) (R : List Da → XO → Prop) : Prop where
  ex : ∃ f fd, FnOk P w K mg base (L2.CX P w) j f fd ps (spR K ps.length R) ∧ Meth K C m f ∧ Binds K fd ps []
section
variable {K : PySem.W.Frag} {W : WX} {en : List Sl} {te ta tb : TE} {d : Da} {C dx : Addr} {fs : List (Str × Da)} {ds : List Da} {i : Nat} {R : List Da → XO → Prop}
theorem ex_methR {m : Str} {n : Nat} {t : TA} (ha : EX K W ta en (.ok (.ins C fs))) (hm : fs.lookup m = none) (ht : EA K t en ds) (hf : R (.ins C fs :: (ds ++ [])) (.ok d)) (hl : (Da.ins C fs :: (ds ++ [])).length = n) : EX K W (tMeth C m (spR K n R) [] E0 ta t) en (.ok d) := fun _ _ B H σ S Q k =>
  ha _ _ B H σ S _ fun x B1 H1 g r => by
    have r0 := r
    cases r with
    | @ins a _ dx' vs _ h t' =>
      refine ⟨a, dx', vs, rfl, g.s _ _ h, t'.lookN hm, ht _ _ B1 H1 σ (S.grow g) _ fun ws B2 H2 g2 r2 => ?_⟩
      refine ⟨by rw [← hl]; simp [r2.length], B2, _, .ok d, g2.s, .cons (r0.mono g2.b) (r2.append .nil), hf, ?_⟩
      exact fun v B3 H3 g3 r3 => k v B3 H3 ((g.trans g2).trans g3) r3
theorem ex_methOR {m : Str} {n : Nat} {t : TA} {z : Int} {p : Addr} (ho : en[i]? = some (.ob p C dx fs)) (hm : fs.lookup m = none) (ht : EA K t en ds) (hf : R (.ins C fs :: (ds ++ [])) (.ok (.int z))) (hl : (Da.ins C fs :: (ds ++ [])).length = n) : EX K W (tMeth C m (spR K n R) [] E0 (tVar i) t) en (.ok (.int z)) := fun _ _ B H σ S Q k => by
  obtain ⟨vs, e1, b, f0, e2, t'⟩ := S.obAt ho
  refine ⟨_, e1, p, dx, vs, rfl, e2, t'.lookN hm, ht _ _ B H σ S _ fun ws B2 H2 g2 r2 => ?_⟩
  obtain ⟨vs', e1', b', f0', e2', t2⟩ := (S.grow g2).obAt ho
  have eB : Ex B2 (upd B2 p (.ins C dx vs')) := Ex.new b'
  refine ⟨by rw [← hl]; simp [r2.length], upd B2 p (.ins C dx vs'), _, .ok (.int z), fun a o e => ?_, .cons (.ins upd_same (t2.mono eB)) ((r2.mono eB).append .nil), hf, fun v B3 H3 g3 r3 => ?_⟩
  · by_cases q : a = p
    · subst q; rw [upd_same] at e; rw [e2']; exact e
    · rw [upd_ne q] at e; exact g2.s a o e
  · cases r3
    exact k _ B2 H3 (g2.trans ⟨Ex.refl _, g3.h, eB.trans (g3.b.trans g3.s), fun _ _ hb => hb⟩) (.int z)
end
section
variable {X : Cx} {W : WX} {k j n : Nat} {f C : Addr} {fd : FuncData} {ps ks : List Str} {x : Str} {p pos : Pos} {en : List Sl} {zs : List Da} {fs : List (Str × Da)} {o e : Expr} {es : List Expr} {m : Str} {apos : Pos} {ds : List Da} {d : Da} {R : List Da → XO → Prop} {i : Nat} {z : Int} {dx pa : Addr} {y : Str} {np : Pos}
theorem ev_methR {pl : Sem Bool} (cl : MthR X.prog X.w X.K X.mg X.base C m j ps R) (Bx : Bd X W k) (hj : j ≤ k) (c : Cls X.K C) (ho : EV X W en o (.ok (.ins C fs))) (ha : EVA X W en (e :: es) ds) (hf : R (.ins C fs :: (ds ++ [])) (.ok d)) (hm : fs.lookup m = none) (hl : (Da.ins C fs :: (ds ++ [])).length = ps.length)
    (hst : starEach (e :: es) X.env = (false, eval e X.env) :: starEach es X.env) (hpl : (backTo pos (starEach es X.env)).any (·.1) = false)
    (ht : eval (.Call (.Attribute o m apos) (e :: es) [] pos) X.env = (do
      let ov ← eval o X.env
      standAt apos.atName
      let (f, first) ← holding [ov] (getMethod ov m pl)
      callWith pos f first (backTo pos (starEach (e :: es) X.env)) (backToKw pos (keywordEach [] X.env)))) : EV X W en (.Call (.Attribute o m apos) (e :: es) [] pos) (.ok d) := by
  obtain ⟨f, fd, F, hM, hb⟩ := cl.ex
  obtain ⟨te, h1, h2⟩ := ho
  obtain ⟨t, h3, h4⟩ := ha
  exact ⟨_, pe_meth h1 c hM F (Bx.rm.mono hj) hb .nil passL h3 hst hpl ht, ex_methR h2 hm h4 hf hl⟩
theorem ev_methR0 {pl : Sem Bool} (cl : MthR X.prog X.w X.K X.mg X.base C m j ps R) (Bx : Bd X W k) (hj : j ≤ k) (c : Cls X.K C) (ho : EV X W en o (.ok (.ins C fs))) (hf : R [.ins C fs] (.ok d)) (hm : fs.lookup m = none) (hl : [Da.ins C fs].length = ps.length)
    (ht : eval (.Call (.Attribute o m apos) [] [] pos) X.env = (do
      let ov ← eval o X.env
      standAt apos.atName
      let (f, first) ← holding [ov] (getMethod ov m pl)
      callWith pos f first (backTo pos (starEach [] X.env)) (backToKw pos (keywordEach [] X.env)))) : EV X W en (.Call (.Attribute o m apos) [] [] pos) (.ok d) := by
  obtain ⟨f, fd, F, hM, hb⟩ := cl.ex
  obtain ⟨te, h1, h2⟩ := ho
  exact ⟨_, pe_meth0 h1 c hM F (Bx.rm.mono hj) hb .nil passL ht, ex_methR h2 hm ea_nil hf hl⟩
theorem ev_methOR {pl : Sem Bool} (cl : MthR X.prog X.w X.K X.mg X.base C m j ps R) (Bx : Bd X W k) (hj : j ≤ k) (c : Cls X.K C) (hN : X.N.idxOf? y = some i) (hv : Vis X.env.scope y) (ho : en[i]? = some (.ob pa C dx fs)) (hN2 : X.N[i]? = some y) (hd : (y == ("__debug__" : Str)) = false) (hcd : (y == ("__classdict__" : Str)) = false)
    (ha : EVA X W en (e :: es) ds) (hf : R (.ins C fs :: (ds ++ [])) (.ok (.int z))) (hm : fs.lookup m = none) (hl : (Da.ins C fs :: (ds ++ [])).length = ps.length)
    (hst : starEach (e :: es) X.env = (false, eval e X.env) :: starEach es X.env) (hpl : (backTo pos (starEach es X.env)).any (·.1) = false)
    (ht : eval (.Call (.Attribute (.Name y np) m apos) (e :: es) [] pos) X.env = (do
      let ov ← eval (.Name y np) X.env
      standAt apos.atName
      let (f, first) ← holding [ov] (getMethod ov m pl)
      callWith pos f first (backTo pos (starEach (e :: es) X.env)) (backToKw pos (keywordEach [] X.env)))) : EV X W en (.Call (.Attribute (.Name y np) m apos) (e :: es) [] pos) (.ok (.int z)) := by
  obtain ⟨f, fd, F, hM, hb⟩ := cl.ex
  obtain ⟨t, h3, h4⟩ := ha
  exact ⟨_, pe_meth (pe_var hN2 hv hd hcd) c hM F (Bx.rm.mono hj) hb .nil passL h3 hst hpl ht, ex_methOR ho hm h4 hf hl⟩
theorem EV.env {e1 e2 : List Sl} {o' : XO} (h : EV X W e1 e o') (q : e2 = e1) : EV X W e2 e o' := q ▸ h
theorem EVT.env {e1 e2 : List Sl} {u : Bool} (h : EVT X W e1 e u) (q : e2 = e1) : EVT X W e2 e u := q ▸ h
/-- list(xs) -/
theorem evl_lsOf {a : Expr} (ha : EVA X W en [a] [.lst ds]) (hg : Gl X "list") (hm : X.mg "list" = none) (he : starEach [a] X.env = (false, eval a X.env) :: starEach [] X.env) (hpl : (backTo pos (starEach [] X.env)).any (·.1) = false) : EVL X W en (.Call (.Name "list" p) [a] [] pos) ds := by
  obtain ⟨t, h1, h2⟩ := ha
  refine ⟨_, pe_callTy call_list_of hg hm (by decide +kernel) h1 (by decide) (by decide) he hpl, fun _ _ B H σ S Q k => h2 _ _ B H σ S _ fun vs B1 H1 g r => ?_⟩
  cases r with
  | cons r1 rr =>
    cases rr
    cases r1 with
    | @lst a vs _ hq t =>
      exact ⟨a, vs, rfl, Or.inl (ex_l g.s hq), fun q hn => k q vs B1 _ (g.trans (Gr.newO g.s hn)) (g.back hn) (fresh_back g.s hn) upd_same t⟩
end
/-! ### what zones' defs tell -/
def isListD (d : Da) (lo hi : Int) : Option Bool :=
  match d with
  | .lst xs => some (decide (lo ≤ (xs.length : Int)) && decide ((xs.length : Int) ≤ hi))
  | .ty _ => none | .cls _ => none | .ins _ _ => none | _ => some false
def fIsList : List Da → Option XO
  | [d, .int lo, .int hi] => (isListD d lo hi).map fun b => .ok (.bl b)
  | _ => none
theorem islist_some {d : Da} {lo hi : Int} {b : Bool} (h : isListD d lo hi = some b) : fIsList ([d, .int lo, .int hi] ++ []) = some (.ok (.bl b)) := by
  show (isListD d lo hi).map _ = _
  rw [h]
  rfl
theorem islist_lws {f : Nat → Int} {n lo hi : Int} {k : Nat} (h1 : lo ≤ (k : Int)) (h2 : (k : Int) ≤ hi) : fIsList ([.lst (lws f n k), .int lo, .int hi] ++ []) = some (.ok (.bl true)) := islist_some (by
  show some (decide (lo ≤ ((lws f n k).length : Int)) && decide (((lws f n k).length : Int) ≤ hi)) = some true
  rw [lws_len, decide_eq_true h1, decide_eq_true h2]
  rfl)
def RAreB (ds : List Da) (o : XO) : Prop := ∃ k n b s a M, Zn k n b s a M ∧ ds = [.lst (lws b n k), lw (b k) n] ∧ o = .ok (.bl true)
def RAreS (ds : List Da) (o : XO) : Prop := ∃ k n b s a M, Zn k n b s a M ∧ ds = [.lst (lws s n k), .int (k : Nat)] ∧ o = .ok (.bl true)
def znD (k : Nat) (n : Int) (b s : Nat → Int) (a : Int) : List Da := [lw (b k) n, .lst (lws b n k), .lst (lws s n k), lw a n]
def RFirstZ (ds : List Da) (o : XO) : Prop := ∃ k n b s a M, Zn k n b s a M ∧ ds = znD k n b s a ∧ o = .ok .non
def RZone (CZ : Addr) (ds : List Da) (o : XO) : Prop := ∃ fs m n b x, ds = [.ins CZ fs, lw x n] ∧ fs.lookup ("_borders" : Str) = some (.lst (lws b n (m + 1))) ∧ m < 12 ∧ 0 < n ∧ Bn n ∧ Bn x ∧ (∀ i, i ≤ m → Bn (b i)) ∧ o = .ok (.int (cnt (fun i => !decide (x < b (i + 1))) m : Nat))
def znFs (k : Nat) (n : Int) (b s : Nat → Int) (S u : Int) (τ : Nat → Int) : List (Str × Da) :=
  [("_ring", lw (b k) n), ("_borders", .lst (lws b n k)), ("_steps", .lst (lws s n k)), ("_scale", .int S), ("_start", .int u), ("_takes", .lst (nms τ (k + 1)))]
def RInitZ (ds : List Da) (o : XI) : Prop := ∃ k n b s a M, Zn k n b s a M ∧ ds = znD k n b s a ∧ o = .ok (znFs k n b s (znS b s k a M) (znU b s k a M) (znT b s k a M))
/-- the place at phase v, in zone z, over n * S -/
def zX (S : Int) (b s τ : Nat → Int) (z : Nat) (v : Int) : Int := b z * S + (v - τ z) * s z
def phs (u S : Int) (T : Int) (r : Int) : Int := (u + r * S) % T
def rds (u S : Int) (T : Int) (r : Int) : Int := (u + r * S) / T
def RGone (CZ : Addr) (ds : List Da) (o : XO) : Prop := ∃ k n S u b s τ r z, Zm k n S u b s τ ∧ r.natAbs < 2 ^ 60 ∧ Zo τ k z (phs u S (τ k) r) ∧ ds = [.ins CZ (znFs k n b s S u τ), .int r] ∧ o = .ok (.tup [.int (rds u S (τ k) r), lw (zX S b s τ z (phs u S (τ k) r)) (n * S)])
def RValZ (CZ : Addr) (ds : List Da) (o : XO) : Prop := ∃ k n S u b s τ r z, Zm k n S u b s τ ∧ r.natAbs < 2 ^ 60 ∧ Zo τ k z (phs u S (τ k) r) ∧ ds = [.ins CZ (znFs k n b s S u τ), .int r] ∧ o = .ok (lw (zX S b s τ z (phs u S (τ k) r)) (n * S))
def RFarZ (CZ : Addr) (ds : List Da) (o : XO) : Prop := ∃ k n S u b s τ r z, Zm k n S u b s τ ∧ r.natAbs < 2 ^ 40 ∧ Zo τ k z (phs u S (τ k) r) ∧ ds = [.ins CZ (znFs k n b s S u τ), .int r] ∧ o = .ok (lw (b k * rds u S (τ k) r * S + zX S b s τ z (phs u S (τ k) r)) (n * S))
def RRetZ (CZ : Addr) (ds : List Da) (o : XO) : Prop := ∃ k n S u b s τ, Zm k n S u b s τ ∧ ds = [.ins CZ (znFs k n b s S u τ)] ∧ o = .ok (lw (τ k) S)
theorem bn_pw {x : Int} {e : Nat} (h0 : -(2 ^ 99) < x) (h1 : x < 2 ^ 99) : Bn x := by
  unfold Bn
  omega
section
variable {k : Nat} {n S u : Int} {b s τ : Nat → Int}
theorem Zm.bn (Z : Zm k n S u b s τ) : Bn n ∧ Bn S ∧ (∀ i, i ≤ k → Bn (b i)) ∧ (∀ i, i < k → Bn (s i)) ∧ (∀ i, i ≤ k → Bn (τ i)) ∧ Bn (n * S) := by
  have n0 := Z.n0
  have nb := Z.nb
  have S0 := Z.S0
  have Sb := Z.Sb
  have rb := Z.rb
  refine ⟨by unfold Bn; omega, by unfold Bn; omega, fun i hi => ?_, fun i hi => ?_, fun i hi => ?_, ?_⟩
  · have := b_le Z.b0 Z.up hi
    unfold Bn; omega
  · have := Z.s0 i hi
    have := Z.sb i hi
    unfold Bn; omega
  · have := Z.tb hi
    unfold Bn; omega
  · have h1 : 0 < n * S := Int.mul_pos n0 S0
    have h2 : n * S < 2 ^ 24 * 2 ^ 66 := Int.lt_of_lt_of_le (Int.mul_lt_mul_of_pos_right nb S0) (Int.mul_le_mul_of_nonneg_left (Int.le_of_lt Sb) (by decide))
    unfold Bn
    omega
theorem Zm.zX_bd (Z : Zm k n S u b s τ) {z : Nat} {v : Int} (h : Zo τ k z v) : b z * S ≤ zX S b s τ z v ∧ zX S b s τ z v < b (z + 1) * S ∧ 0 ≤ (v - τ z) * s z := by
  have s0 := Z.s0 z h.zk
  have e := Z.eq z h.zk
  have l0 : 0 ≤ (v - τ z) * s z := Int.mul_nonneg (by have := h.lo; omega) (by omega)
  have l1 : (v - τ z) * s z < (τ (z + 1) - τ z) * s z := Int.mul_lt_mul_of_pos_right (by have := h.hi; omega) s0
  rw [e, Int.mul_sub, Int.mul_comm S (b (z + 1)), Int.mul_comm S (b z)] at l1
  unfold zX
  omega
theorem Zm.zX_bn (Z : Zm k n S u b s τ) {z : Nat} {v : Int} (h : Zo τ k z v) : 0 ≤ zX S b s τ z v ∧ zX S b s τ z v < b k * S ∧ Bn (zX S b s τ z v) ∧ Bn ((v - τ z) * s z) := by
  have q := Z.zX_bd h
  have b0 := b_le Z.b0 Z.up (Nat.le_of_lt h.zk)
  have b1 := b_le Z.b0 Z.up (show z + 1 ≤ k from h.zk)
  have S0 := Z.S0
  have Sb := Z.Sb
  have rb := Z.rb
  have l0 : 0 ≤ b z * S := Int.mul_nonneg b0.1 (by omega)
  have l1 : b (z + 1) * S ≤ b k * S := Int.mul_le_mul_of_nonneg_right b1.2 (by omega)
  have l2 : b k * S ≤ b k * 2 ^ 66 := Int.mul_le_mul_of_nonneg_left (by omega) (by omega)
  have l3 : b k * 2 ^ 66 < 2 ^ 24 * 2 ^ 66 := Int.mul_lt_mul_of_pos_right rb (by decide)
  have e : zX S b s τ z v = b z * S + (v - τ z) * s z := rfl
  unfold Bn
  omega
/-- how many rounds -/
theorem Zm.rounds (Z : Zm k n S u b s τ) (r : Int) : (rds u S (τ k) r).natAbs ≤ r.natAbs * 2 ^ 24 + 1 := by
  have t0 : 0 < τ k := by have := Z.u0; have := Z.u1; omega
  have key : ∀ {i : Nat}, i ≤ k → S * b i ≤ τ i * 2 ^ 24 := by
    intro i
    induction i with
    | zero => intro _; rw [Z.b0, Z.t0]; omega
    | succ i ih =>
      intro h
      have ih := ih (by omega)
      have e := Z.eq i (by omega)
      have sb := Z.sb i (by omega)
      have r := Z.ris i (by omega)
      have l : (τ (i + 1) - τ i) * s i ≤ (τ (i + 1) - τ i) * 2 ^ 24 := Int.mul_le_mul_of_nonneg_left (Int.le_of_lt sb) (by omega)
      rw [e, Int.mul_sub, Int.sub_mul] at l
      omega
  have kk := key (Nat.le_refl k)
  have b1 : 1 ≤ b k := by
    have := Z.up.lt0 Z.k0
    rw [Z.b0] at this
    exact this
  have S1 : S ≤ τ k * 2 ^ 24 := Int.le_trans (by have := Int.mul_le_mul_of_nonneg_left b1 (Int.le_of_lt Z.S0); omega) kk
  have d0 := Int.emod_nonneg (u + r * S) (show τ k ≠ 0 by omega)
  have d1 := Int.emod_lt_of_pos (u + r * S) t0
  have dd := Int.mul_ediv_add_emod (u + r * S) (τ k)
  have u0 := Z.u0
  have u1 := Z.u1
  unfold rds
  generalize (u + r * S) / τ k = q at *
  generalize (u + r * S) % τ k = v at *
  generalize hT : τ k = T at *
  rcases Int.le_total 0 r with h | h
  · have l : r * S ≤ r * (T * 2 ^ 24) := Int.mul_le_mul_of_nonneg_left S1 h
    have l0 : 0 ≤ r * S := Int.mul_nonneg h (Int.le_of_lt Z.S0)
    have e1 : r * (T * 2 ^ 24) = T * (r * 2 ^ 24) := by grind
    have q1 : T * q < T * (r * 2 ^ 24 + 1) := by rw [Int.mul_add]; omega
    have q2 := Int.lt_of_mul_lt_mul_left q1 (by omega)
    have q3 : T * (-1) < T * q := by omega
    have q4 := Int.lt_of_mul_lt_mul_left q3 (by omega)
    omega
  · have l : -r * S ≤ -r * (T * 2 ^ 24) := Int.mul_le_mul_of_nonneg_left S1 (by omega)
    have l0 : 0 ≤ -r * S := Int.mul_nonneg (by omega) (Int.le_of_lt Z.S0)
    have e0 : -r * S = -(r * S) := Int.neg_mul _ _
    have e1 : -r * (T * 2 ^ 24) = -(T * (r * 2 ^ 24)) := by grind
    have q1 : T * (r * 2 ^ 24 - 1) < T * q := by rw [Int.mul_sub]; omega
    have q2 := Int.lt_of_mul_lt_mul_left q1 (by omega)
    have q3 : T * q < T * 1 := by omega
    have q4 := Int.lt_of_mul_lt_mul_left q3 (by omega)
    omega
end
end Sky
namespace Sky
open PySem L2 Evl PySem.Spec PyProof.Rows
/-! ### loops over a range that are left; a range that begins anywhere; break -/
/-- what a turn's end makes of the loop -/
inductive Lv : Out → Out → Prop
  | rt (d : Da) : Lv (.rt d) (.rt d)
  | rx (e : List Sl) (C : Addr) (f : Option (Str × Da)) : Lv (.rx e C f) (.rx e C f)
  | bk (e : List Sl) : Lv (.bk e) (.nx e)
section
variable {K : PySem.W.Frag} {W : WX} {en : List Sl} {tx : TA} {tbd : TS} {n m j : Nat} {lo : Int} {o o' : Out}
theorem st_forRB (F : Nat → List Sl) (h : EA K tx en [.int (n : Int)]) (hn : n ≤ 100000) (h0 : F 0 = en) (hm : m < n)
    (ht : ∀ i : Nat, i < m → ST K W tbd ((F i).set j (.da (.int (i : Int)))) (.nx (F (i + 1)))) (hx : ST K W tbd ((F m).set j (.da (.int (m : Int)))) o) (ho : Lv o o') : ST K W (tFor (iRng1 tx) (gName j) tbd) en o' := fun B0 H0 B H σ S D k =>
  h _ _ B H σ S _ fun vs B1 H1 g r => by
    cases r with
    | cons r r2 =>
      cases r2
      cases r
      have S1 := S.grow g
      refine ⟨n, rfl, by omega, by omega, for_range (lo := 0) (n := (n : Int).toNat) (fun i σ' H' => i ≤ m ∧ ∃ B', Sd K B1 H0 B' H' σ' (F i)) ⟨Nat.zero_le _, B1, by rw [h0]; exact S1.rebase⟩ (fun i σ' H' hi ⟨him, B', S'⟩ => ?_) (fun σ' H' ⟨him, B', S'⟩ => ?_)⟩
      · have e0 : (0 : Int) + (i : Int) = (i : Int) := Int.zero_add _
        rw [e0]
        rcases Nat.lt_or_ge i m with hlt | hge
        · exact ht i hlt B1 H0 B' H' _ (S'.set (.int _) j) _ fun B2 H2 σ2 S2 => ⟨hlt, B2, S2⟩
        · have e : i = m := by omega
          subst e
          refine hx B1 H0 B' H' _ (S'.set (.int _) j) _ ?_
          cases ho with
          | rt d => exact fun v B2 H2 g2 r2 => k v B2 H2 (S1.gr.base g2) r2
          | rx e C f => exact fun B2 H2 σ2 dd S2 x2 => k B2 H2 σ2 dd (S2.base S1.gr) x2
          | bk e => exact fun B2 H2 σ2 S2 => k B2 H2 σ2 (S2.base S1.gr)
      · omega
theorem st_forRI (F : Nat → List Sl) (h : EA K tx en [.int lo, .int (lo + (n : Int))]) (hn : n ≤ 100000) (hlo : -100000 ≤ lo ∧ lo ≤ 100000) (h0 : F 0 = en)
    (ht : ∀ i : Nat, i < n → ST K W tbd ((F i).set j (.da (.int (lo + (i : Int))))) (.nx (F (i + 1)))) : ST K W (tFor (iRng2 tx) (gName j) tbd) en (.nx (F n)) := fun B0 H0 B H σ S D k =>
  h _ _ B H σ S _ fun vs B1 H1 g r => by
    cases r with
    | cons r r2 => cases r2 with
      | cons r2 r3 =>
        cases r3; cases r; cases r2
        have S1 := S.grow g
        have e : (lo + (n : Int) - lo).toNat = n := by omega
        refine ⟨lo, lo + (n : Int), rfl, ⟨by omega, by omega, by omega, by omega⟩, for_range (lo := lo) (n := (lo + (n : Int) - lo).toNat) (fun i σ' H' => ∃ B', Sd K B1 H0 B' H' σ' (F i)) ⟨B1, by rw [h0]; exact S1.rebase⟩ (fun i σ' H' hi' ⟨B', S'⟩ => ?_) (fun σ' H' ⟨B', S'⟩ => ?_)⟩
        · exact ht i (by omega) B1 H0 B' H' _ (S'.set (.int _) j) _ fun B2 H2 σ2 S2 => ⟨B2, S2⟩
        · rw [e] at S'
          exact k B' H' σ' (S'.base S1.gr)
theorem st_forRIB (F : Nat → List Sl) (h : EA K tx en [.int lo, .int (lo + (n : Int))]) (hn : n ≤ 100000) (hlo : -100000 ≤ lo ∧ lo ≤ 100000) (h0 : F 0 = en) (hm : m < n)
    (ht : ∀ i : Nat, i < m → ST K W tbd ((F i).set j (.da (.int (lo + (i : Int))))) (.nx (F (i + 1)))) (hx : ST K W tbd ((F m).set j (.da (.int (lo + (m : Int))))) o) (ho : Lv o o') : ST K W (tFor (iRng2 tx) (gName j) tbd) en o' := fun B0 H0 B H σ S D k =>
  h _ _ B H σ S _ fun vs B1 H1 g r => by
    cases r with
    | cons r r2 => cases r2 with
      | cons r2 r3 =>
        cases r3; cases r; cases r2
        have S1 := S.grow g
        refine ⟨lo, lo + (n : Int), rfl, ⟨by omega, by omega, by omega, by omega⟩, for_range (lo := lo) (n := (lo + (n : Int) - lo).toNat) (fun i σ' H' => i ≤ m ∧ ∃ B', Sd K B1 H0 B' H' σ' (F i)) ⟨Nat.zero_le _, B1, by rw [h0]; exact S1.rebase⟩ (fun i σ' H' hi ⟨him, B', S'⟩ => ?_) (fun σ' H' ⟨him, B', S'⟩ => ?_)⟩
        · rcases Nat.lt_or_ge i m with hlt | hge
          · exact ht i hlt B1 H0 B' H' _ (S'.set (.int _) j) _ fun B2 H2 σ2 S2 => ⟨hlt, B2, S2⟩
          · have e : i = m := by omega
            subst e
            refine hx B1 H0 B' H' _ (S'.set (.int _) j) _ ?_
            cases ho with
            | rt d => exact fun v B2 H2 g2 r2 => k v B2 H2 (S1.gr.base g2) r2
            | rx e C f => exact fun B2 H2 σ2 dd S2 x2 => k B2 H2 σ2 dd (S2.base S1.gr) x2
            | bk e => exact fun B2 H2 σ2 S2 => k B2 H2 σ2 (S2.base S1.gr)
        · omega
end
section
variable {X : Cx} {W : WX} {k n m j : Nat} {lo : Int} {en : List Sl} {a b : Expr} {x : Str} {p q1 q2 pos : Pos} {ss : List Stmt} {o o' : Out}
theorem sv_forRB (Bx : Bd X W k) (F : Nat → List Sl) (hN : X.N.idxOf? x = some j) (hN2 : X.N[j]? = some x) (hx : Loc X.env.scope x) (hf : X.fn x = true ∨ X.env.scope.names.lookup x = some .local) (hr : X.mg "range" = none) (hi : EVA X W en [a] [.int (n : Int)]) (hn : n ≤ 100000) (h0 : F 0 = en)
    (hg : Gl X "range") (hst : starEach [a] X.env = [(false, eval a X.env)]) (hm : m < n)
    (ht : ∀ i : Nat, i < m → SVs X W ((F i).set j (.da (.int (i : Int)))) ss (.nx (F (i + 1)))) (hx2 : SVs X W ((F m).set j (.da (.int (m : Int)))) ss o) (ho : Lv o o') : SV X W en (.For (.Name x p) (.Call (.Name "range" q1) [a] [] q2) ss [] pos) o' := by
  obtain ⟨t, h1, h2⟩ := hi
  exact ⟨_, ps_for Bx.own Bx.calm (pi_range1 hg hr h1 hst) (pg_name Bx.nd hN2 hx hf) pss_U, st_forRB F h2 hn h0 hm (fun i hi => (ht i hi).U) hx2.U ho⟩
theorem sv_forRI (Bx : Bd X W k) (F : Nat → List Sl) (hN : X.N.idxOf? x = some j) (hN2 : X.N[j]? = some x) (hx : Loc X.env.scope x) (hf : X.fn x = true ∨ X.env.scope.names.lookup x = some .local) (hr : X.mg "range" = none) (hi : EVA X W en [a, b] [.int lo, .int (lo + (n : Int))]) (hn : n ≤ 100000) (hlo : -100000 ≤ lo ∧ lo ≤ 100000) (h0 : F 0 = en)
    (hg : Gl X "range") (hst : starEach [a, b] X.env = [(false, eval a X.env), (false, eval b X.env)]) (hst2 : starEach [b] X.env = [(false, eval b X.env)])
    (ht : ∀ i : Nat, i < n → SVs X W ((F i).set j (.da (.int (lo + (i : Int))))) ss (.nx (F (i + 1)))) : SV X W en (.For (.Name x p) (.Call (.Name "range" q1) [a, b] [] q2) ss [] pos) (.nx (F n)) := by
  obtain ⟨t, h1, h2⟩ := hi
  exact ⟨_, ps_for Bx.own Bx.calm (pi_range2 hg hr h1 hst hst2) (pg_name Bx.nd hN2 hx hf) pss_U, st_forRI F h2 hn hlo h0 fun i hi => (ht i hi).U⟩
theorem sv_forRIB (Bx : Bd X W k) (F : Nat → List Sl) (hN : X.N.idxOf? x = some j) (hN2 : X.N[j]? = some x) (hx : Loc X.env.scope x) (hf : X.fn x = true ∨ X.env.scope.names.lookup x = some .local) (hr : X.mg "range" = none) (hi : EVA X W en [a, b] [.int lo, .int (lo + (n : Int))]) (hn : n ≤ 100000) (hlo : -100000 ≤ lo ∧ lo ≤ 100000) (h0 : F 0 = en)
    (hg : Gl X "range") (hst : starEach [a, b] X.env = [(false, eval a X.env), (false, eval b X.env)]) (hst2 : starEach [b] X.env = [(false, eval b X.env)]) (hm : m < n)
    (ht : ∀ i : Nat, i < m → SVs X W ((F i).set j (.da (.int (lo + (i : Int))))) ss (.nx (F (i + 1)))) (hx2 : SVs X W ((F m).set j (.da (.int (lo + (m : Int))))) ss o) (ho : Lv o o') : SV X W en (.For (.Name x p) (.Call (.Name "range" q1) [a, b] [] q2) ss [] pos) o' := by
  obtain ⟨t, h1, h2⟩ := hi
  exact ⟨_, ps_for Bx.own Bx.calm (pi_range2 hg hr h1 hst hst2) (pg_name Bx.nd hN2 hx hf) pss_U, st_forRIB F h2 hn hlo h0 hm (fun i hi => (ht i hi).U) hx2.U ho⟩
theorem sv_break : SV X W en (.Break pos) (.bk en) := ⟨_, ps_break, fun _ _ _ _ _ S D k => k _ _ _ S⟩
end
/-- the first one, or none -/
theorem first_or (n : Nat) (P : Nat → Prop) : (∃ m, m < n ∧ P m ∧ ∀ i, i < m → ¬ P i) ∨ ∀ i, i < n → ¬ P i := by
  induction n with
  | zero => exact .inr fun i hi => by omega
  | succ n ih =>
    rcases ih with ⟨m, h1, h2, h3⟩ | h
    · exact .inl ⟨m, by omega, h2, h3⟩
    · by_cases q : P n
      · exact .inl ⟨n, by omega, q, h⟩
      · refine .inr fun i hi => ?_
        rcases Nat.lt_or_ge i n with c | c
        · exact h i c
        · have : i = n := by omega
          rw [this]; exact q
/-- keywords over a def without defaults -/
theorem kbn_plain {K : PySem.W.Frag} {x qual : Str} {st : Stmt} {f : Addr} {fd : FuncData} {ps : List Str} (F : FunDS K x qual st [] [] f fd) (n : Nat) (ks : List Str) (g : {α : Type} → List α → List α → List α)
    (hrel : ∀ {vs zs : List V} {us ws : List Value}, Vals vs us → Vals zs ws → Vals (g vs zs) (g us ws))
    (h : ∀ (kV doc pm : Value) (an : Option Addr) (cdv ct : Value) (us ws : List Value), us.length = n → ws.length = ks.length → bindArgs (PySem.W.fnOf x qual (defArgs st) (defBody st) (defScope st) .none kV doc pm an cdv ct) ⟨us, ks.zip ws⟩ = pure (ps.zip (g us ws))) :
    KBn K fd ps n ks (fun us ws => g us ws) (fun vs zs => g vs zs) := by
  obtain ⟨oc, od, dV, kV, doc, pm, an, cdv, ct, osl, rfl, lk, hcd, hD, hK⟩ := F.ex
  rcases hD with ⟨_, rfl⟩ | ⟨e, _⟩
  · exact ⟨fun s us ws X l1 l2 => .of_eq (h kV doc pm an cdv ct us ws l1 l2), fun r1 r2 => hrel r1 r2⟩
  · exact absurd rfl e
end Sky
namespace Sky
open PySem L2 Evl PySem.Spec PyProof.Rows
/-! ### drawn zones -/
structure Dz (ns : List Int) : Prop where
  len : 24 ≤ ns.length
  lo : ∀ i, 0 ≤ qf ns i
  hi : ∀ i, qf ns i < 1009
theorem digs_dz (c : Int) {m : Nat} (h : 24 ≤ m) : Dz (digs c m) := by
  have D := digs_dl c (show 8 ≤ m by omega)
  exact ⟨by rw [digs_len]; exact h, D.lo, D.hi⟩
theorem dz_at {ns : List Int} (h : Dz ns) {i : Nat} (hi : i < 24) : atI (ns.map Da.int) (i : Int) = some (.int (qf ns i)) := by
  refine at_nat ?_
  have := h.len
  rw [List.getElem?_map, List.getElem?_eq_getElem (by omega)]
  unfold qf
  rw [List.getD_eq_getElem?_getD, List.getElem?_eq_getElem (by omega)]
  rfl
def dzK (q : Nat → Int) : Nat := if q 23 % 6 = 0 then (6 + q 0 % 7).toNat else (1 + q 0 % 5).toNat
def dzWb (q : Nat → Int) (i : Nat) : Int := ([1, 1, 60, 7] : List Int).getD (q (6 + i) % 4).toNat 0
def dzPb (q : Nat → Int) (i : Nat) : Int := ([1, 2, 60, 3] : List Int).getD (q ((16 + i) % 24) % 4).toNat 0
def dzW (q : Nat → Int) (i : Nat) : Int := 1 + q (1 + i) % 60
def dzP (q : Nat → Int) (i : Nat) : Int := 1 + q ((11 + i) % 24) % 40
def dzE (q : Nat → Int) : Nat → Int
  | 0 => 0
  | i + 1 => dzE q i + dzW q i * (420 / dzWb q i)
def dzB (q : Nat → Int) (i : Nat) : Int := 12 * dzE q i
def dzS (q : Nat → Int) (i : Nat) : Int := dzP q i * (5040 / dzPb q i)
def dzA (q : Nat → Int) : Int := if q 22 % 4 = 0 then dzB q (q 23 % (dzK q : Int)).toNat else dzE q (dzK q) * (q 21 % 12)
def dzM : Int := 5342931457063200 * 5040
theorem four {x : Int} : x % 4 = 0 ∨ x % 4 = 1 ∨ x % 4 = 2 ∨ x % 4 = 3 := by omega
section
variable {q : Nat → Int}
theorem dzK_bd : 1 ≤ dzK q ∧ dzK q ≤ 12 := by
  unfold dzK
  split <;> omega
theorem dzWb_c (i : Nat) : (dzWb q i = 1 ∨ dzWb q i = 60 ∨ dzWb q i = 7) := by
  unfold dzWb
  rcases four (x := q (6 + i)) with e | e | e | e <;> rw [e] <;> simp
theorem dzPb_c (i : Nat) : (dzPb q i = 1 ∨ dzPb q i = 2 ∨ dzPb q i = 60 ∨ dzPb q i = 3) := by
  unfold dzPb
  rcases four (x := q ((16 + i) % 24)) with e | e | e | e <;> rw [e] <;> simp
theorem dzW_bd (i : Nat) : 1 ≤ dzW q i ∧ dzW q i ≤ 60 := by unfold dzW; omega
theorem dzP_bd (i : Nat) : 1 ≤ dzP q i ∧ dzP q i ≤ 40 := by unfold dzP; omega
theorem dzE_up (i : Nat) : dzE q i < dzE q (i + 1) ∧ dzE q (i + 1) ≤ dzE q i + 25200 := by
  have w := dzW_bd (q := q) i
  show dzE q i < dzE q i + dzW q i * (420 / dzWb q i) ∧ dzE q i + dzW q i * (420 / dzWb q i) ≤ _
  rcases dzWb_c (q := q) i with e | e | e <;> rw [e]
  · have : (420 : Int) / 1 = 420 := by decide
    rw [this]; omega
  · have : (420 : Int) / 60 = 7 := by decide
    rw [this]; omega
  · have : (420 : Int) / 7 = 60 := by decide
    rw [this]; omega
theorem dzE_bd : ∀ i : Nat, 0 ≤ dzE q i ∧ dzE q i ≤ 25200 * (i : Int)
  | 0 => ⟨Int.le_refl _, Int.le_refl _⟩
  | i + 1 => by
    have := dzE_bd i
    have := dzE_up (q := q) i
    omega
theorem dzS_bd (i : Nat) : 0 < dzS q i ∧ dzS q i ≤ 201600 := by
  have w := dzP_bd (q := q) i
  unfold dzS
  rcases dzPb_c (q := q) i with e | e | e | e <;> rw [e]
  · have : (5040 : Int) / 1 = 5040 := by decide
    rw [this]; omega
  · have : (5040 : Int) / 2 = 2520 := by decide
    rw [this]; omega
  · have : (5040 : Int) / 60 = 84 := by decide
    rw [this]; omega
  · have : (5040 : Int) / 3 = 1680 := by decide
    rw [this]; omega
theorem lc40 : ∀ p : Fin 41, p.val ≠ 0 → 5342931457063200 % p.val = 0 := by decide
theorem dzS_dvd (i : Nat) : dzS q i ∣ dzM := by
  have w := dzP_bd (q := q) i
  have h1 : dzP q i ∣ 5342931457063200 := by
    have h := lc40 ⟨(dzP q i).toNat, by omega⟩ (by show (dzP q i).toNat ≠ 0; omega)
    obtain ⟨c, hc⟩ := Nat.dvd_of_mod_eq_zero h
    refine ⟨(c : Int), ?_⟩
    have hc : 5342931457063200 = (dzP q i).toNat * c := hc
    have : ((5342931457063200 : Nat) : Int) = (((dzP q i).toNat * c : Nat) : Int) := congrArg _ hc
    rw [Int.natCast_mul, Int.toNat_of_nonneg (by omega)] at this
    exact this
  have h2 : 5040 / dzPb q i ∣ 5040 := by
    rcases dzPb_c (q := q) i with e | e | e | e <;> rw [e] <;> decide
  exact Int.mul_dvd_mul h1 h2
theorem dz_zn (hq : ∀ i, 0 ≤ q i) : Zn (dzK q) 5040 (dzB q) (dzS q) (dzA q) dzM := by
  have k := dzK_bd (q := q)
  have up : Ris (dzB q) (dzK q) := fun i hi => by
    have := dzE_up (q := q) i
    unfold dzB
    omega
  have b0 : dzB q 0 = 0 := rfl
  have bk := dzE_bd (q := q) (dzK q)
  have hk := b_le b0 up (Nat.le_refl (dzK q))
  have e1 : dzB q (dzK q) = 12 * dzE q (dzK q) := rfl
  have kp := up.lt0 k.1
  have ha : 0 ≤ dzA q ∧ dzA q < dzB q (dzK q) := by
    unfold dzA
    split
    · have m0 := Int.emod_nonneg (q 23) (show (dzK q : Int) ≠ 0 by omega)
      have m1 := Int.emod_lt_of_pos (q 23) (show 0 < (dzK q : Int) by omega)
      have lt : (q 23 % (dzK q : Int)).toNat < dzK q := by omega
      exact ⟨(b_le b0 up (Nat.le_of_lt lt)).1, Int.lt_of_lt_of_le (up _ lt) (up.le lt (Nat.le_refl _))⟩
    · have m0 := Int.emod_nonneg (q 21) (show (12 : Int) ≠ 0 by decide)
      have m1 := Int.emod_lt_of_pos (q 21) (show (0 : Int) < 12 by decide)
      have l0 := Int.mul_nonneg bk.1 m0
      have l1 : dzE q (dzK q) * (q 21 % 12) ≤ dzE q (dzK q) * 11 := Int.mul_le_mul_of_nonneg_left (by omega) bk.1
      omega
  exact ⟨by decide, by decide, k.1, k.2, b0, up, by omega, fun i _ => (dzS_bd i).1, fun i _ => by have := (dzS_bd (q := q) i).2; omega, fun i _ => dzS_dvd i, by decide, by decide, ha.1, ha.2⟩
end
/-- a rule of zones: ring, borders, steps, place -/
def ruleZ (k : Nat) (n : Int) (b s : Nat → Int) (a : Int) : Da := .tup [lw (b k) n, .lst (lws b n k), .lst (lws s n k), lw a n]
def RDrawnZ (ds : List Da) (o : XO) : Prop := ∃ ns, Dz ns ∧ ds = [.lst (ns.map .int)] ∧ o = .ok (ruleZ (dzK (qf ns)) 5040 (dzB (qf ns)) (dzS (qf ns)) (dzA (qf ns)))
/-! ### one row on, by the law's own walk -/
structure Zs where
  z : Nat
  v : Int
  c : Int
  r : Int
def zStop (τ : Nat → Int) (s : Zs) : Prop := s.c < τ (s.z + 1) - s.v
def zNx (k : Nat) (τ : Nat → Int) (s : Zs) : Zs := if s.z + 1 = k then ⟨0, 0, s.c - (τ k - s.v), s.r + 1⟩ else ⟨s.z + 1, τ (s.z + 1), s.c - (τ (s.z + 1) - s.v), s.r⟩
def zIt (k : Nat) (τ : Nat → Int) (s : Zs) : Nat → Zs
  | 0 => s
  | i + 1 => zNx k τ (zIt k τ s i)
structure Zi (k : Nat) (τ : Nat → Int) (S T : Int) (s : Zs) : Prop where
  zo : Zo τ k s.z s.v
  c0 : 0 ≤ s.c
  c1 : s.c ≤ S
  r0 : 0 ≤ s.r
  su : s.v + s.c + s.r * τ k = T
section
variable {k : Nat} {n S u T : Int} {b s τ : Nat → Int} {st : Zs}
theorem Zi.next (Z : Zm k n S u b s τ) (I : Zi k τ S T st) (h : ¬ zStop τ st) : Zi k τ S T (zNx k τ st) := by
  have rs := Z.ris
  have hz := I.zo.zk
  have hi := I.zo.hi
  have c1 := I.c1
  have r0 := I.r0
  have su := I.su
  have h' : τ (st.z + 1) - st.v ≤ st.c := Int.not_lt.mp h
  unfold zNx
  split
  · rename_i e
    rw [e] at hi h'
    have := rs.lt0 Z.k0
    refine ⟨⟨Z.k0, by rw [Z.t0]; exact Int.le_refl _, by have := rs 0 Z.k0; rw [Z.t0] at this; exact this⟩, by show 0 ≤ st.c - (τ k - st.v); omega, by show st.c - (τ k - st.v) ≤ S; omega, by show 0 ≤ st.r + 1; omega, ?_⟩
    show 0 + (st.c - (τ k - st.v)) + (st.r + 1) * τ k = T
    rw [Int.add_mul]
    omega
  · rename_i e
    exact ⟨⟨by show st.z + 1 < k; omega, Int.le_refl _, rs (st.z + 1) (by omega)⟩, by show 0 ≤ st.c - (τ (st.z + 1) - st.v); omega, by show st.c - (τ (st.z + 1) - st.v) ≤ S; omega, r0, by show τ (st.z + 1) + (st.c - (τ (st.z + 1) - st.v)) + st.r * τ k = T; omega⟩
theorem Zi.iter (Z : Zm k n S u b s τ) (I : Zi k τ S T st) : ∀ {i : Nat}, (∀ j, j < i → ¬ zStop τ (zIt k τ st j)) → Zi k τ S T (zIt k τ st i)
  | 0, _ => I
  | i + 1, h => (Zi.iter Z I (i := i) fun j hj => h j (by omega)).next Z (h i (by omega))
/-- where the walk ends -/
theorem Zi.fin (Z : Zm k n S u b s τ) (I : Zi k τ S T st) (h : zStop τ st) : Zo τ k st.z (st.v + st.c) ∧ T % τ k = st.v + st.c ∧ T / τ k = st.r := by
  have rs := Z.ris
  have zo := I.zo
  have h' : st.c < τ (st.z + 1) - st.v := h
  have lo := zo.lo
  have c0 := I.c0
  have l := rs.le (show st.z + 1 ≤ k from zo.zk) (Nat.le_refl k)
  have t0 := (Z.tle (Nat.le_of_lt zo.zk)).1
  have e : T = st.v + st.c + τ k * st.r := by rw [← I.su, Int.mul_comm (τ k)]
  refine ⟨⟨zo.zk, by omega, by omega⟩, ?_, ?_⟩
  · rw [e, Int.add_mul_emod_self_left, Int.emod_eq_of_lt (by omega) (by omega)]
  · rw [e, Int.add_mul_ediv_left _ _ (by omega), Int.ediv_eq_zero_of_lt (by omega) (by omega)]
    omega
end
def zBeg (S : Int) (z : Nat) (v : Int) : Zs := ⟨z, v, S, 0⟩
/-- what the walk tells -/
inductive Wkd (k : Nat) (n S : Int) (b s τ : Nat → Int) (z : Nat) (v : Int) : Da → Prop
  | got (m : Nat) (hm : m < 400) (h : ∀ i, i < m → ¬ zStop τ (zIt k τ (zBeg S z v) i)) (hs : zStop τ (zIt k τ (zBeg S z v) m)) : Wkd k n S b s τ z v (.tup [lw (zX S b s τ (zIt k τ (zBeg S z v) m).z ((zIt k τ (zBeg S z v) m).v + (zIt k τ (zBeg S z v) m).c)) (n * S), .int (zIt k τ (zBeg S z v) m).r])
  | non (h : ∀ i, i < 400 → ¬ zStop τ (zIt k τ (zBeg S z v) i)) : Wkd k n S b s τ z v (.tup [.non, .non])
def ROnZ (ds : List Da) (o : XO) : Prop := ∃ k n S u b s τ a z v d, Zm k n S u b s τ ∧ Zo τ k z v ∧ ds = [ruleZ k n b s a, lw (zX S b s τ z v) (n * S)] ∧ Wkd k n S b s τ z v d ∧ o = .ok d
section
variable {k : Nat} {n S u : Int} {b s τ : Nat → Int} {z : Nat} {v : Int} {d : Da}
theorem wkd_ex : ∃ d, Wkd k n S b s τ z v d := by
  rcases first_or 400 (fun i => zStop τ (zIt k τ (zBeg S z v) i)) with ⟨m, h1, h2, h3⟩ | h
  · exact ⟨_, .got m h1 h3 h2⟩
  · exact ⟨_, .non h⟩
theorem zi_beg (Z : Zm k n S u b s τ) (zo : Zo τ k z v) : Zi k τ S (v + S) (zBeg S z v) := ⟨zo, Int.le_of_lt Z.S0, Int.le_refl _, Int.le_refl _, by show v + S + 0 * τ k = v + S; omega⟩
/-- told: the place at the phase one row on, and the rounds; or nothing -/
theorem wkd_is (Z : Zm k n S u b s τ) (zo : Zo τ k z v) (W : Wkd k n S b s τ z v d) : d = .tup [.non, .non] ∨ ∃ y, Zo τ k y ((v + S) % τ k) ∧ d = .tup [lw (zX S b s τ y ((v + S) % τ k)) (n * S), .int ((v + S) / τ k)] := by
  cases W with
  | non h => exact .inl rfl
  | got m hm h hs =>
    have I := (zi_beg Z zo).iter Z h
    obtain ⟨a, e, f⟩ := I.fin Z hs
    refine .inr ⟨(zIt k τ (zBeg S z v) m).z, ?_, ?_⟩
    · rw [e]; exact a
    · rw [e, f]
theorem Wkd.noneH (W : Wkd k n S b s τ z v d) (e : d = .tup [.non, .non]) : ∀ i, i < 400 → ¬ zStop τ (zIt k τ (zBeg S z v) i) := by
  cases W with
  | non h => exact h
  | got m hm h hs =>
    injection e with e
    injection e with e1 e2
    exact nomatch e1
theorem Wkd.someH {x : Da} {r : Int} (W : Wkd k n S b s τ z v d) (e : d = .tup [x, .int r]) : ∃ m, m < 400 ∧ zStop τ (zIt k τ (zBeg S z v) m) := by
  cases W with
  | non h =>
    injection e with e
    injection e with e1 e2
    injection e2 with e2 e3
    exact nomatch e2
  | got m hm h hs => exact ⟨m, hm, hs⟩
theorem wkd_two {x : Da} {r : Int} (V : Wkd k n S b s τ z v (.tup [.non, .non])) (W : Wkd k n S b s τ z v (.tup [x, .int r])) : False := by
  obtain ⟨m, hm, hs⟩ := W.someH rfl
  exact V.noneH rfl m hm hs
end
/-! bounds of what lies far -/
section
variable {k : Nat} {n S u : Int} {b s τ : Nat → Int}
theorem Zm.ring_le (Z : Zm k n S u b s τ) : S * b k ≤ τ k * 2 ^ 24 := by
  have key : ∀ {i : Nat}, i ≤ k → S * b i ≤ τ i * 2 ^ 24 := by
    intro i
    induction i with
    | zero => intro _; rw [Z.b0, Z.t0]; omega
    | succ i ih =>
      intro h
      have ih := ih (by omega)
      have e := Z.eq i (by omega)
      have sb := Z.sb i (by omega)
      have r := Z.ris i (by omega)
      have l : (τ (i + 1) - τ i) * s i ≤ (τ (i + 1) - τ i) * 2 ^ 24 := Int.mul_le_mul_of_nonneg_left (Int.le_of_lt sb) (by omega)
      rw [e, Int.mul_sub, Int.sub_mul] at l
      omega
  exact key (Nat.le_refl k)
theorem Zm.ring_le18 (Z : Zm k n S u b s τ) : S * b k ≤ τ k * 2 ^ 18 := by
  have key : ∀ {i : Nat}, i ≤ k → S * b i ≤ τ i * 2 ^ 18 := by
    intro i
    induction i with
    | zero => intro _; rw [Z.b0, Z.t0]; omega
    | succ i ih =>
      intro h
      have ih := ih (by omega)
      have e := Z.eq i (by omega)
      have sb := Z.sB i (by omega)
      have r := Z.ris i (by omega)
      have l : (τ (i + 1) - τ i) * s i ≤ (τ (i + 1) - τ i) * 2 ^ 18 := Int.mul_le_mul_of_nonneg_left (Int.le_of_lt sb) (by omega)
      rw [e, Int.mul_sub, Int.sub_mul] at l
      omega
  exact key (Nat.le_refl k)
/-- bounds at any row -/
theorem Zm.far_any (Z : Zm k n S u b s τ) {r N : Int} (hr : -N ≤ r ∧ r ≤ N) : -(S * b k + N * S * 2 ^ 18) ≤ b k * rds u S (τ k) r * S ∧ b k * rds u S (τ k) r * S ≤ S * b k + N * S * 2 ^ 18 := by
  have t0 : 0 < τ k := by have := Z.u0; have := Z.u1; omega
  have kk := Z.ring_le18
  have bk := b_le Z.b0 Z.up (Nat.le_refl k)
  have S0 := Z.S0
  have d0 := Int.emod_nonneg (u + r * S) (show τ k ≠ 0 by omega)
  have d1 := Int.emod_lt_of_pos (u + r * S) t0
  have dd := Int.mul_ediv_add_emod (u + r * S) (τ k)
  have u0 := Z.u0
  have u1 := Z.u1
  unfold rds
  generalize (u + r * S) / τ k = q at *
  generalize (u + r * S) % τ k = v at *
  generalize hT : τ k = T at *
  have B0 : 0 ≤ S * b k := Int.mul_nonneg (by omega) bk.1
  have e : b k * q * S = q * (S * b k) := by grind
  rw [e]
  have rS0 : r * S ≤ N * S := Int.mul_le_mul_of_nonneg_right hr.2 (by omega)
  have rS1 : -N * S ≤ r * S := Int.mul_le_mul_of_nonneg_right hr.1 (by omega)
  rw [Int.neg_mul] at rS1
  have NS : 0 ≤ N * S := Int.mul_nonneg (by omega) (by omega)
  rcases Int.lt_or_le 0 q with h | h
  · have l1 : (q - 1) * (S * b k) ≤ (q - 1) * (T * 2 ^ 18) := Int.mul_le_mul_of_nonneg_left kk (by omega)
    have l2 : (q - 1) * (T * 2 ^ 18) = (T * q - T) * 2 ^ 18 := by grind
    have l3 : (q - 1) * (S * b k) = q * (S * b k) - S * b k := by rw [Int.sub_mul]; omega
    have l4 : 0 ≤ q * (S * b k) := Int.mul_nonneg (by omega) B0
    omega
  · rcases Int.lt_or_le q 0 with g | g
    · have m1 : (-q - 1) * (S * b k) ≤ (-q - 1) * (T * 2 ^ 18) := Int.mul_le_mul_of_nonneg_left kk (by omega)
      have m2 : (-q - 1) * (T * 2 ^ 18) = (-(T * q) - T) * 2 ^ 18 := by grind
      have m3 : (-q - 1) * (S * b k) = -(q * (S * b k)) - S * b k := by grind
      have l3 : (-q) * (S * b k) = -(q * (S * b k)) := by rw [Int.neg_mul]
      have l4 : 0 ≤ (-q) * (S * b k) := Int.mul_nonneg (by omega) B0
      omega
    · have : q = 0 := by omega
      rw [this, Int.zero_mul]
      omega
/-- in bits: rows below 2 ** 39 -/
theorem Zm.far_big (Z : Zm k n S u b s τ) {r : Int} (hr : -(2 ^ 39) ≤ r ∧ r ≤ 2 ^ 39) : -(2 ^ 123) < b k * rds u S (τ k) r * S ∧ b k * rds u S (τ k) r * S < 2 ^ 123 := by
  have h := Z.far_any (N := 2 ^ 39) hr
  have S0 := Z.S0
  have SB := Z.SB
  have rB := Z.rB
  have bk := b_le Z.b0 Z.up (Nat.le_refl k)
  have l1 : S * b k ≤ S * 2 ^ 22 := Int.mul_le_mul_of_nonneg_left (Int.le_of_lt rB) (by omega)
  omega
theorem Zm.far_bd (Z : Zm k n S u b s τ) {r : Int} (hr : -64 ≤ r ∧ r ≤ 64) : -(2 ^ 98) < b k * rds u S (τ k) r * S ∧ b k * rds u S (τ k) r * S < 2 ^ 98 := by
  have t0 : 0 < τ k := by have := Z.u0; have := Z.u1; omega
  have kk := Z.ring_le
  have bk := b_le Z.b0 Z.up (Nat.le_refl k)
  have rb := Z.rb
  have S0 := Z.S0
  have Sb := Z.Sb
  have d0 := Int.emod_nonneg (u + r * S) (show τ k ≠ 0 by omega)
  have d1 := Int.emod_lt_of_pos (u + r * S) t0
  have dd := Int.mul_ediv_add_emod (u + r * S) (τ k)
  have u0 := Z.u0
  have u1 := Z.u1
  unfold rds
  generalize (u + r * S) / τ k = q at *
  generalize (u + r * S) % τ k = v at *
  generalize hT : τ k = T at *
  have B0 : 0 ≤ S * b k := Int.mul_nonneg (by omega) bk.1
  have B1 : S * b k ≤ S * 2 ^ 24 := Int.mul_le_mul_of_nonneg_left (Int.le_of_lt rb) (by omega)
  have e : b k * q * S = q * (S * b k) := by grind
  rw [e]
  have rS0 : r * S ≤ 64 * S := Int.mul_le_mul_of_nonneg_right hr.2 (by omega)
  have rS1 : -64 * S ≤ r * S := Int.mul_le_mul_of_nonneg_right hr.1 (by omega)
  rcases Int.lt_or_le 0 q with h | h
  · have l1 : (q - 1) * (S * b k) ≤ (q - 1) * (T * 2 ^ 24) := Int.mul_le_mul_of_nonneg_left kk (by omega)
    have l2 : (q - 1) * (T * 2 ^ 24) = (T * q - T) * 2 ^ 24 := by grind
    have l3 : (q - 1) * (S * b k) = q * (S * b k) - S * b k := by rw [Int.sub_mul]; omega
    have l4 : 0 ≤ q * (S * b k) := Int.mul_nonneg (by omega) B0
    omega
  · have l1 : (-q) * (S * b k) ≤ (-q) * (T * 2 ^ 24) := Int.mul_le_mul_of_nonneg_left kk (by omega)
    have l2 : (-q) * (T * 2 ^ 24) = -(T * q) * 2 ^ 24 := by grind
    have l3 : (-q) * (S * b k) = -(q * (S * b k)) := by rw [Int.neg_mul]
    have l4 : 0 ≤ (-q) * (S * b k) := Int.mul_nonneg (by omega) B0
    have tb := (Z.tb (Nat.le_refl k)).2
    rw [hT] at tb
    rcases Int.lt_or_le q 0 with g | g
    · have m1 : (-q - 1) * (S * b k) ≤ (-q - 1) * (T * 2 ^ 24) := Int.mul_le_mul_of_nonneg_left kk (by omega)
      have m2 : (-q - 1) * (T * 2 ^ 24) = (-(T * q) - T) * 2 ^ 24 := by grind
      have m3 : (-q - 1) * (S * b k) = -(q * (S * b k)) - S * b k := by grind
      omega
    · have : q = 0 := by omega
      rw [this, Int.zero_mul]
      omega
end
end Sky
namespace Sky
open PySem L2 Evl PySem.Spec PyProof.Rows
/-! ### one row on, in numbers -/
def oneOn (l h t x : Int) (r : Bool) : Int × Bool :=
  if (if x = l then true else if x = h then false else r) = true then (if x + t < h then (x + t, true) else (2 * h - (x + t), false)) else (if l < x - t then (x - t, false) else (2 * l - (x - t), true))
/-- how far round: x and r at p -/
structure At (l h p x : Int) (r : Bool) : Prop where
  p0 : 0 ≤ p
  p1 : p < 2 * (h - l)
  x : x = l + (if 2 * (h - l) - p < p then 2 * (h - l) - p else p)
  r : p ≠ 0 → p ≠ h - l → r = decide (p < h - l)
def on (S t p : Int) : Int := (p + t) % (2 * S)
theorem on_cases {S t p : Int} (h0 : 0 ≤ p) (h1 : p < 2 * S) (t0 : 0 < t) (t1 : t ≤ S) : (p + t < 2 * S ∧ on S t p = p + t) ∨ (2 * S ≤ p + t ∧ on S t p = p + t - 2 * S) := by
  unfold on
  rcases Int.lt_or_le (p + t) (2 * S) with q | q
  · exact .inl ⟨q, Int.emod_eq_of_lt (by omega) q⟩
  · refine .inr ⟨q, ?_⟩
    have : p + t = (p + t - 2 * S) + 2 * S := by omega
    rw [this, Int.add_emod_right, Int.emod_eq_of_lt (by omega) (by omega)]
    omega
theorem at_on {l h t p x : Int} {r : Bool} (H : At l h p x r) (t0 : 0 < t) (t1 : t ≤ h - l) : At l h (on (h - l) t p) (oneOn l h t x r).1 (oneOn l h t x r).2 := by
  obtain ⟨p0, p1, hx, hr⟩ := H
  have o := on_cases p0 p1 t0 t1
  unfold oneOn
  rcases Int.lt_or_le p (h - l) with q | q
  · have ex : x = l + p := by rw [hx, if_neg (by omega)]
    have er : (if x = l then true else if x = h then false else r) = true := by
      by_cases c : x = l
      · rw [if_pos c]
      · rw [if_neg c, if_neg (by omega), hr (by omega) (by omega), decide_eq_true q]
    rw [if_pos er]
    rcases o with ⟨o1, o2⟩ | ⟨o1, o2⟩
    · rw [o2]
      by_cases c : x + t < h
      · rw [if_pos c]
        exact ⟨by omega, by omega, by rw [if_neg (by omega)]; show x + t = _; omega, fun _ _ => (decide_eq_true (by omega)).symm⟩
      · rw [if_neg c]
        refine ⟨by omega, by omega, ?_, fun _ _ => (decide_eq_false (by omega)).symm⟩
        show 2 * h - (x + t) = _
        split <;> omega
    · omega
  · have ex : x = l + (2 * (h - l) - p) := by rw [hx]; split <;> omega
    have er : ¬ (if x = l then true else if x = h then false else r) = true := by
      rw [if_neg (by omega)]
      by_cases c : x = h
      · rw [if_pos c]; decide
      · rw [if_neg c, hr (by omega) (by omega), decide_eq_false (by omega)]; decide
    rw [if_neg er]
    rcases o with ⟨o1, o2⟩ | ⟨o1, o2⟩
    · rw [o2, if_pos (by omega)]
      refine ⟨by omega, by omega, ?_, fun _ _ => (decide_eq_false (by omega)).symm⟩
      show x - t = _
      rw [if_pos (by omega)]
      omega
    · rw [o2, if_neg (by omega)]
      refine ⟨by omega, by omega, ?_, fun _ _ => (decide_eq_true (by omega)).symm⟩
      show 2 * l - (x - t) = _
      rw [if_neg (by omega)]
      omega
/-- the way as the law reads it -/
theorem at_goes {l h p x : Int} {r : Bool} (H : At l h p x r) (lh : l < h) : (!decide (x = h) && (r || decide (x = l))) = decide (p < h - l) := by
  obtain ⟨p0, p1, hx, hr⟩ := H
  rcases Int.lt_or_le p (h - l) with q | q
  · have ex : x = l + p := by rw [hx, if_neg (by omega)]
    rw [decide_eq_true q, decide_eq_false (show ¬ x = h by omega)]
    by_cases c : p = 0
    · rw [decide_eq_true (show x = l by omega), Bool.or_true]; rfl
    · rw [hr c (by omega), decide_eq_true q]; rfl
  · have ex : x = l + (2 * (h - l) - p) := by rw [hx]; split <;> omega
    rw [decide_eq_false (show ¬ p < h - l by omega)]
    by_cases c : p = h - l
    · rw [decide_eq_true (show x = h by omega)]; rfl
    · rw [hr (by omega) c, decide_eq_false (show ¬ p < h - l by omega), decide_eq_false (show ¬ x = l by omega), Bool.or_false, Bool.and_false]
theorem at_inj {l h p q x y : Int} {r s : Bool} (H : At l h p x r) (G : At l h q y s) (e : x = y) (f : decide (p < h - l) = decide (q < h - l)) : p = q := by
  have a := H.x
  have b := G.x
  have a0 := H.p0
  have a1 := H.p1
  have b0 := G.p0
  have b1 := G.p1
  rcases Int.lt_or_le p (h - l) with c | c
  · rw [decide_eq_true c] at f
    have d := of_decide_eq_true f.symm
    rw [if_neg (by omega)] at a b
    omega
  · rw [decide_eq_false (by omega)] at f
    have d := of_decide_eq_false f.symm
    have a' : x = l + (2 * (h - l) - p) := by rw [a]; split <;> omega
    have b' : y = l + (2 * (h - l) - q) := by rw [b]; split <;> omega
    omega
theorem at_x {l h p x : Int} {r : Bool} (H : At l h p x r) : l ≤ x ∧ x ≤ h := by
  have a := H.x
  have a0 := H.p0
  have a1 := H.p1
  rw [a]
  split <;> omega
/-- where a line begins -/
def beg (l h a : Int) (u : Bool) : Int := (if u = true then a - l else 2 * (h - l) - (a - l)) % (2 * (h - l))
theorem at_beg {l h a : Int} {u : Bool} (lh : l < h) (la : l ≤ a) (ah : a ≤ h) : At l h (beg l h a u) a u := by
  unfold beg
  cases u with
  | true =>
    show At l h ((a - l) % (2 * (h - l))) a true
    rw [Int.emod_eq_of_lt (by omega) (by omega)]
    refine ⟨by omega, by omega, by rw [if_neg (by omega)]; omega, fun _ _ => (decide_eq_true (by omega)).symm⟩
  | false =>
    show At l h ((2 * (h - l) - (a - l)) % (2 * (h - l))) a false
    by_cases c : a = l
    · have : 2 * (h - l) - (a - l) = 2 * (h - l) := by omega
      rw [this, Int.emod_self]
      exact ⟨by omega, by omega, by rw [if_neg (by omega)]; omega, fun z => absurd rfl z⟩
    · rw [Int.emod_eq_of_lt (by omega) (by omega)]
      refine ⟨by omega, by omega, ?_, fun _ _ => (decide_eq_false (by omega)).symm⟩
      split <;> omega
/-- so many rows on -/
def onN (S t p : Int) (i : Nat) : Int := (p + t * i) % (2 * S)
theorem onN_zero {S t p : Int} (h0 : 0 ≤ p) (h1 : p < 2 * S) : onN S t p 0 = p := by
  unfold onN
  show (p + t * 0) % (2 * S) = p
  rw [Int.mul_zero, Int.add_zero, Int.emod_eq_of_lt h0 h1]
theorem onN_succ {S t p : Int} (i : Nat) : onN S t p (i + 1) = on S t (onN S t p i) := by
  unfold onN on
  rw [Int.emod_add_emod]
  congr 1
  have : ((i + 1 : Nat) : Int) = (i : Int) + 1 := by omega
  rw [this, Int.mul_add]
  omega
def itr (l h t : Int) (s : Int × Bool) : Nat → Int × Bool
  | 0 => s
  | i + 1 => oneOn l h t (itr l h t s i).1 (itr l h t s i).2
theorem at_itr {l h t a : Int} {u : Bool} (lh : l < h) (la : l ≤ a) (ah : a ≤ h) (t0 : 0 < t) (t1 : t ≤ h - l) : ∀ i, At l h (onN (h - l) t (beg l h a u) i) (itr l h t (a, u) i).1 (itr l h t (a, u) i).2
  | 0 => by
    have H := at_beg (u := u) lh la ah
    rw [onN_zero H.p0 H.p1]
    exact H
  | i + 1 => by
    rw [onN_succ]
    exact at_on (at_itr lh la ah t0 t1 i) t0 t1
/-- how many rows behind which it is so again -/
def perR (S t : Int) : Int := 2 * S / ((Nat.gcd t.natAbs (2 * S).natAbs : Nat) : Int)
def perQ (S t : Int) : Int := t / ((Nat.gcd t.natAbs (2 * S).natAbs : Nat) : Int)
theorem per_gen {M t : Int} (s0 : 0 < M) (t0 : 0 < t) : 0 < M / ((Nat.gcd t.natAbs M.natAbs : Nat) : Int) ∧ 0 < t / ((Nat.gcd t.natAbs M.natAbs : Nat) : Int) ∧ M * (t / ((Nat.gcd t.natAbs M.natAbs : Nat) : Int)) = t * (M / ((Nat.gcd t.natAbs M.natAbs : Nat) : Int)) ∧ ∀ i : Nat, (M ∣ t * i ↔ M / ((Nat.gcd t.natAbs M.natAbs : Nat) : Int) ∣ (i : Int)) := by
  have gp : 0 < Nat.gcd t.natAbs M.natAbs := Nat.gcd_pos_of_pos_left _ (by omega)
  have d1 : ((Nat.gcd t.natAbs M.natAbs : Nat) : Int) ∣ t := Int.ofNat_dvd_left.mpr (Nat.gcd_dvd_left _ _)
  have d2 : ((Nat.gcd t.natAbs M.natAbs : Nat) : Int) ∣ M := Int.ofNat_dvd_left.mpr (Nat.gcd_dvd_right _ _)
  obtain ⟨a, ha⟩ := d1
  obtain ⟨b, hb⟩ := d2
  have gcd1 : Nat.gcd a.natAbs b.natAbs = 1 := by
    have e1 : t.natAbs = Nat.gcd t.natAbs M.natAbs * a.natAbs := by
      have := congrArg Int.natAbs ha
      rwa [Int.natAbs_mul, Int.natAbs_natCast] at this
    have e2 : M.natAbs = Nat.gcd t.natAbs M.natAbs * b.natAbs := by
      have := congrArg Int.natAbs hb
      rwa [Int.natAbs_mul, Int.natAbs_natCast] at this
    have e3 : Nat.gcd (Nat.gcd t.natAbs M.natAbs * a.natAbs) (Nat.gcd t.natAbs M.natAbs * b.natAbs) = Nat.gcd t.natAbs M.natAbs * Nat.gcd a.natAbs b.natAbs := Nat.gcd_mul_left _ _ _
    rw [← e1, ← e2] at e3
    exact Nat.eq_of_mul_eq_mul_left gp (by rw [Nat.mul_one]; exact e3.symm)
  generalize hg : ((Nat.gcd t.natAbs M.natAbs : Nat) : Int) = g at *
  have g0 : 0 < g := by omega
  have ea : t / g = a := by rw [ha, Int.mul_ediv_cancel_left _ (by omega)]
  have eb : M / g = b := by rw [hb, Int.mul_ediv_cancel_left _ (by omega)]
  have a0 : 0 < a := by
    rw [ha] at t0
    exact Int.pos_of_mul_pos_right t0 g0 |> fun z => z
  have b0 : 0 < b := by
    have : 0 < M := by omega
    rw [hb] at this
    exact Int.pos_of_mul_pos_right this g0 |> fun z => z
  rw [ea, eb]
  refine ⟨b0, a0, ?_, fun i => ?_⟩
  · rw [hb, ha]; grind
  · constructor
    · rintro ⟨c, hc⟩
      have hh : g * (a * i) = g * (b * c) := by rw [hb, ha] at hc; grind
      have h2 := Int.eq_of_mul_eq_mul_left (show g ≠ 0 by omega) hh
      have : b.natAbs ∣ a.natAbs * i := by
        refine ⟨c.natAbs, ?_⟩
        have := congrArg Int.natAbs h2
        rwa [Int.natAbs_mul, Int.natAbs_mul, Int.natAbs_natCast] at this
      have : b.natAbs ∣ i := Nat.Coprime.dvd_of_dvd_mul_left (Nat.Coprime.symm gcd1) this
      exact Int.natAbs_dvd_natAbs.mp (by rw [Int.natAbs_natCast]; exact this)
    · rintro ⟨c, hc⟩
      exact ⟨a * c, by rw [hb, ha, hc]; grind⟩
theorem per_facts {S t : Int} (s0 : 0 < S) (t0 : 0 < t) : 0 < perR S t ∧ 0 < perQ S t ∧ 2 * S * perQ S t = t * perR S t ∧ ∀ i : Nat, (2 * S ∣ t * i ↔ perR S t ∣ (i : Int)) := per_gen (by omega) t0
theorem onN_back {S t p : Int} (h0 : 0 ≤ p) (h1 : p < 2 * S) (i : Nat) : onN S t p i = p ↔ 2 * S ∣ t * i := by
  unfold onN
  constructor
  · intro e
    have d : (2 * S) ∣ (p + t * i) - p := Int.dvd_self_sub_of_emod_eq e
    have e3 : p + t * i - p = t * i := by omega
    rwa [e3] at d
  · rintro ⟨c, hc⟩
    rw [hc, Int.add_mul_emod_self_left, Int.emod_eq_of_lt h0 h1]
end Sky
namespace Sky
open PySem L2 Evl PySem.Spec PyProof.Rows
def RUnit (ds : List Da) (o : XO) : Prop := ∃ ns, Dl ns ∧ ds = [.lst (ns.map .int)] ∧ o = .ok (lw (uTop (qf ns)) (uBot (qf ns)))
def ruleD (l h t a n : Int) (u : Bool) : Da := .tup [lw l n, lw h n, lw t n, lw a n, .bl u]
def RDrawn (ds : List Da) (o : XO) : Prop := ∃ ns, Dl ns ∧ ds = [.lst (ns.map .int)] ∧ o = .ok (ruleD (dl (qf ns)) (dh (qf ns)) (dt (qf ns)) (da (qf ns)) (dn (qf ns)) (du (qf ns)))
def ROne (ds : List Da) (o : XO) : Prop := ∃ l h t a n x u r, Ln l h t a n ∧ l ≤ x ∧ x ≤ h ∧ ds = [ruleD l h t a n u, lw x n, .bl r] ∧ o = .ok (.tup [lw (oneOn l h t x r).1 n, .bl (oneOn l h t x r).2])
theorem lw_int (x : Int) : .tup [.int x, .int 1] = lw x 1 := (lw_one x).symm
end Sky
namespace Sky
open PySem L2 Evl PySem.Spec PyProof.Rows
theorem deq_bl (r s : Bool) : deq (.bl r) (.bl s) = decide (r = s) := by cases r <;> cases s <;> rfl
theorem deq_pair (x y : Da) (r s : Bool) : deq (.tup [x, .bl r]) (.tup [y, .bl s]) = (deq x y && (deq (.bl r) (.bl s) && true)) := rfl
theorem deq_way {x y n : Int} (h : n ≠ 0) (r s : Bool) : deq (.tup [lw x n, .bl r]) (.tup [lw y n, .bl s]) = (decide (x = y) && decide (r = s)) := by
  rw [deq_pair, deq_lw h, deq_bl, Bool.and_true]
theorem cmp_way (x n : Int) (r : Bool) : Cmp (.tup [lw x n, .bl r]) := ⟨rfl, rfl⟩
def wayUp (h l x : Int) (r : Bool) : Bool := !decide (x = h) && (r || decide (x = l))
def RWalked (ds : List Da) (o : XO) : Prop := ∃ l h t a n u, Ln l h t a n ∧ ds = [ruleD l h t a n u] ∧ o = .ok (if perR (h - l) t ≤ 400 then .int (perR (h - l) t) else .non)
theorem at_same {l h p x y : Int} {r s : Bool} (H : At l h p x r) (G : At l h p y s) : x = y := H.x.trans G.x.symm
theorem way_back {l h t a n : Int} (u : Bool) (LN : Ln l h t a n) (i : Nat) : (decide ((itr l h t (a, u) i).1 = a) && decide (wayUp h l (itr l h t (a, u) i).1 (itr l h t (a, u) i).2 = wayUp h l a u)) = decide (perR (h - l) t ∣ (i : Int)) := by
  obtain ⟨n0, l0, lh, t0, th, la, ah, hb, nb⟩ := LN
  have H0 := at_beg (u := u) lh la ah
  have Hi := at_itr (u := u) lh la ah t0 th i
  have g0 := at_goes H0 lh
  have gi := at_goes Hi lh
  have bk := (onN_back (S := h - l) (t := t) H0.p0 H0.p1 i).trans ((per_facts (S := h - l) (by omega) t0).2.2.2 i)
  unfold wayUp
  rw [g0, gi]
  by_cases q : perR (h - l) t ∣ (i : Int)
  · have e := bk.mpr q
    rw [e] at Hi ⊢
    rw [decide_eq_true q, decide_eq_true (at_same Hi H0), decide_eq_true rfl]
    rfl
  · rw [decide_eq_false q]
    by_cases q1 : (itr l h t (a, u) i).1 = a
    · by_cases q2 : decide (onN (h - l) t (beg l h a u) i < h - l) = decide (beg l h a u < h - l)
      · exact absurd (bk.mp (at_inj Hi H0 q1 q2)) q
      · rw [decide_eq_false q2, Bool.and_false]
    · rw [decide_eq_false q1, Bool.false_and]
theorem itr_in {l h t a n : Int} (u : Bool) (LN : Ln l h t a n) (i : Nat) : l ≤ (itr l h t (a, u) i).1 ∧ (itr l h t (a, u) i).1 ≤ h := at_x (at_itr (u := u) LN.lh LN.la LN.ah LN.t0 LN.th i)
theorem per_scale {S T k : Int} (k0 : 0 < k) : perR (S * k) (T * k) = perR S T ∧ perQ (S * k) (T * k) = perQ S T := by
  unfold perR perQ
  have e : 2 * (S * k) = 2 * S * k := by grind
  have g : (Nat.gcd (T * k).natAbs (2 * S * k).natAbs : Nat) = Nat.gcd T.natAbs (2 * S).natAbs * k.natAbs := by
    rw [Int.natAbs_mul, Int.natAbs_mul, Nat.gcd_mul_right]
  have hk : ((k.natAbs : Nat) : Int) = k := Int.natAbs_of_nonneg (by omega)
  rw [e, g, Int.natCast_mul, hk]
  exact ⟨Int.mul_ediv_mul_of_pos_left _ _ k0, Int.mul_ediv_mul_of_pos_left _ _ k0⟩
theorem per_le {S T : Int} (s0 : 0 < S) (t0 : 0 < T) : perR S T ≤ 2 * S ∧ perQ S T ≤ T := by
  unfold perR perQ
  exact ⟨Int.ediv_le_self _ (by omega), Int.ediv_le_self _ (by omega)⟩
theorem pl_ints : ∀ ns : List Int, plA (ns.map .int) = true
  | [] => rfl
  | _ :: r => pl_ints r
theorem lay_ints : ∀ ns : List Int, PyData.canLayAll0 (pyA (ns.map .int)) = true
  | [] => rfl
  | _ :: r => lay_ints r
theorem dep_ints : ∀ ns : List Int, PyData.depthAll (pyA (ns.map .int)) ≤ 1
  | [] => Nat.zero_le _
  | _ :: r => Nat.max_le.mpr ⟨Nat.zero_le _, dep_ints r⟩
theorem cmp_ints (ns : List Int) : Cmp (.lst (ns.map .int)) := by
  refine ⟨pl_ints ns, ?_⟩
  unfold SeqAt.shaped
  rw [Bool.and_eq_true_iff]
  refine ⟨lay_ints ns, decide_eq_true ?_⟩
  have := dep_ints ns
  show PyData.depthAll (pyA (ns.map .int)) + 1 ≤ 64
  omega
theorem cut_head (ns : List Int) (n : Nat) : Sky.cutD (ns.map Da.int) none (some (n : Int)) = .map .int (ns.take n) := by
  have e : Sky.cutD (ns.map Da.int) none (some (n : Int)) = ((ns.map Da.int).drop 0).take (min n (ns.map Da.int).length - 0) := by
    unfold Sky.cutD
    congr 1
  rw [e, List.drop_zero, Nat.sub_zero, List.map_take]
  by_cases hh : n ≤ (ns.map Da.int).length
  · rw [Nat.min_eq_left hh]
  · rw [Nat.min_eq_right (by omega), List.take_of_length_le (Nat.le_refl _), List.take_of_length_le (by omega)]
open Classical in
noncomputable def fLaw : List Da → Option XO
  | [.lst ds] => if ∃ ns : List Int, ds = ns.map .int ∧ ns.length ≤ 63 then some (.ok (.bl true)) else none
  | _ => none
theorem fLaw_inv {ds : List Da} {o : XO} (h : fLaw ds = some o) : ∃ ns : List Int, ds = [.lst (ns.map .int)] ∧ o = .ok (.bl true) := by
  unfold fLaw at h
  split at h
  · split at h
    · rename_i hh
      obtain ⟨ns, e, _⟩ := hh
      exact ⟨ns, by rw [e], (Option.some.inj h).symm⟩
    · cases h
  · cases h
theorem fLaw_ok {ns : List Int} (h : ns.length ≤ 63) : fLaw [.lst (ns.map .int)] = some (.ok (.bl true)) := if_pos ⟨ns, rfl, h⟩
end Sky
namespace Sky
open PySem L2 Evl PySem.Spec PyProof.Rows
def znO (CZ : Addr) (k : Nat) (n : Int) (b s : Nat → Int) (a M : Int) : Da := .ins CZ (znFs k n b s (znS b s k a M) (znU b s k a M) (znT b s k a M))
def RMadeZ (CZ : Addr) (ds : List Da) (o : XO) : Prop := ∃ k n b s a M, Zn k n b s a M ∧ ds = [ruleZ k n b s a] ∧ o = .ok (znO CZ k n b s a M)
def RBackZ (CZ : Addr) (ds : List Da) (o : XO) : Prop := ∃ k n S u b s τ a, Zm k n S u b s τ ∧ ds = [.ins CZ (znFs k n b s S u τ), ruleZ k n b s a] ∧ o = .ok (.bl true)
section
variable {k : Nat} {n S u T r : Int} {b s τ : Nat → Int}
theorem phs_next : (phs u S T r + S) % T = phs u S T (r + 1) := by
  unfold phs
  rw [Int.emod_add_emod]
  congr 1
  rw [Int.add_mul]
  omega
theorem rds_next (hT : T ≠ 0) : rds u S T r + (phs u S T r + S) / T = rds u S T (r + 1) := by
  unfold phs rds
  have e : u + (r + 1) * S = (u + r * S) % T + S + T * ((u + r * S) / T) := by
    have := Int.mul_ediv_add_emod (u + r * S) T
    rw [Int.add_mul]
    omega
  rw [e, Int.add_mul_ediv_left _ _ hT]
  omega
theorem phs_back {m c : Int} (h : m * S = T * c) : phs u S T (r + m) = phs u S T r := by
  unfold phs
  rw [Int.add_mul, h, ← Int.add_assoc, Int.add_mul_emod_self_left]
theorem Zm.tk (Z : Zm k n S u b s τ) : 0 < τ k := by have := Z.u0; have := Z.u1; omega
theorem Zm.phs_bd (Z : Zm k n S u b s τ) (r : Int) : ∃ z, Zo τ k z (phs u S (τ k) r) := by
  have t0 := Z.tk
  exact zo_ex (by rw [Z.t0]; exact Int.emod_nonneg _ (by omega)) (Int.emod_lt_of_pos _ t0)
theorem Zm.beg (Z : Zm k n S u b s τ) : phs u S (τ k) 0 = u ∧ rds u S (τ k) 0 = 0 := by
  have u0 := Z.u0
  have u1 := Z.u1
  unfold phs rds
  rw [Int.zero_mul, Int.add_zero]
  exact ⟨Int.emod_eq_of_lt u0 u1, Int.ediv_eq_zero_of_lt u0 u1⟩
theorem Zm.far_bn (Z : Zm k n S u b s τ) {r : Int} (hr : -64 ≤ r ∧ r ≤ 64) {z : Nat} (zo : Zo τ k z (phs u S (τ k) r)) : -(2 ^ 98) < b k * rds u S (τ k) r * S + zX S b s τ z (phs u S (τ k) r) ∧ b k * rds u S (τ k) r * S + zX S b s τ z (phs u S (τ k) r) < 2 ^ 98 + 2 ^ 90 := by
  have h := Z.far_bd hr
  have x := Z.zX_bn zo
  have bk := b_le Z.b0 Z.up (Nat.le_refl k)
  have rb := Z.rb
  have S0 := Z.S0
  have Sb := Z.Sb
  have l2 : b k * S ≤ b k * 2 ^ 66 := Int.mul_le_mul_of_nonneg_left (by omega) (by omega)
  omega
theorem lwsS (h : 0 < n) (hS : 0 < S) (f : Nat → Int) : lws f n k = lws (fun i => f i * S) (n * S) k := by
  unfold lws
  refine List.map_congr_left fun i _ => ?_
  have nS := Int.mul_pos h hS
  exact lw_same (by omega) (by omega) (by grind)
theorem Zm.bS (Z : Zm k n S u b s τ) {j : Nat} (hj : j ≤ k) : Bn (b j * S) := by
  have h := b_le Z.b0 Z.up hj
  have rb := Z.rb
  have S0 := Z.S0
  have Sb := Z.Sb
  have l1 : b j * S ≤ b j * 2 ^ 66 := Int.mul_le_mul_of_nonneg_left (Int.le_of_lt Sb) h.1
  have l0 : 0 ≤ b j * S := Int.mul_nonneg h.1 (by omega)
  unfold Bn
  omega
theorem Zm.risS (Z : Zm k n S u b s τ) : Ris (fun j => b j * S) k := fun j hj => Int.mul_lt_mul_of_pos_right (Z.up j hj) Z.S0
theorem Zm.zoS (Z : Zm k n S u b s τ) {z : Nat} {v : Int} (zo : Zo τ k z v) : Zo (fun j => b j * S) k z (zX S b s τ z v) := ⟨zo.zk, (Z.zX_bd zo).1, (Z.zX_bd zo).2.1⟩
end
end Sky
namespace Sky
open PySem L2 Evl PySem.Spec PyProof.Rows
/-! ### when zones come again -/
section
variable {k : Nat} {n S u : Int} {b s τ : Nat → Int}
theorem Zm.zX_inj (Z : Zm k n S u b s τ) {z y : Nat} {v w : Int} (h : Zo τ k z v) (g : Zo τ k y w) (e : zX S b s τ z v = zX S b s τ y w) : v = w := by
  have a := Z.zX_bd h
  have c := Z.zX_bd g
  have R := Z.risS
  have zy : z = y := by
    rcases Nat.lt_trichotomy z y with q | q | q
    · have := R.le (show z + 1 ≤ y by omega) (Nat.le_of_lt g.zk)
      have : b (z + 1) * S ≤ b y * S := this
      omega
    · exact q
    · have := R.le (show y + 1 ≤ z by omega) (Nat.le_of_lt h.zk)
      have : b (y + 1) * S ≤ b z * S := this
      omega
  subst zy
  have s0 := Z.s0 z h.zk
  unfold zX at e
  have e2 : (v - τ z) * s z = (w - τ z) * s z := by omega
  have := Int.eq_of_mul_eq_mul_right (by omega) e2
  omega
theorem tp_div {a c : Int} (ha : 0 < a) (hc : 0 < c) : tp a c = a / ((Nat.gcd c.natAbs a.natAbs : Nat) : Int) ∧ bt a c = c / ((Nat.gcd c.natAbs a.natAbs : Nat) : Int) := by
  have e : gz a c = ((Nat.gcd c.natAbs a.natAbs : Nat) : Int) := by
    unfold gz
    rw [if_neg (by omega), Nat.gcd_comm]
  unfold tp bt
  rw [e]
  exact ⟨Int.fdiv_eq_ediv_of_nonneg _ (Int.natCast_nonneg _), Int.fdiv_eq_ediv_of_nonneg _ (Int.natCast_nonneg _)⟩
/-- R rows, Q rounds; phase u again just at multiples of R -/
theorem Zm.ret (Z : Zm k n S u b s τ) : 0 < tp (τ k) S ∧ 0 < bt (τ k) S ∧ tp (τ k) S * S = τ k * bt (τ k) S ∧ ∀ j : Nat, phs u S (τ k) (j : Int) = u ↔ tp (τ k) S ∣ (j : Int) := by
  have t0 := Z.tk
  have S0 := Z.S0
  have u0 := Z.u0
  have u1 := Z.u1
  obtain ⟨p1, p2, p3, p4⟩ := per_gen (M := τ k) (t := S) t0 S0
  obtain ⟨e1, e2⟩ := tp_div t0 S0
  rw [e1, e2]
  refine ⟨p1, p2, by rw [p3]; grind, fun j => ?_⟩
  rw [← p4 j]
  unfold phs
  constructor
  · intro e
    have d : τ k ∣ (u + (j : Int) * S) - u := Int.dvd_self_sub_of_emod_eq e
    have e3 : u + (j : Int) * S - u = S * (j : Int) := by grind
    rwa [e3] at d
  · rintro ⟨c, hc⟩
    have : u + (j : Int) * S = u + τ k * c := by rw [Int.mul_comm (j : Int) S, hc]
    rw [this, Int.add_mul_emod_self_left, Int.emod_eq_of_lt u0 u1]
theorem rds_mul {T S u m c : Int} (hT : T ≠ 0) (h : m * S = T * c) (r : Int) : rds u S T (r + m) = rds u S T r + c := by
  unfold rds
  rw [Int.add_mul, h, ← Int.add_assoc, Int.add_mul_ediv_left _ _ hT]
/-- the first place again is met in row r: what the walk of the law tells -/
inductive Wk2 (k : Nat) (n S u : Int) (b s τ : Nat → Int) (zf : Nat → Nat) : Da → Prop
  | non (m : Nat) (hm : m < 200) (h : Wkd k n S b s τ (zf m) (phs u S (τ k) (m : Int)) (.tup [.non, .non])) (h2 : ∀ i, i < m → ¬ Wkd k n S b s τ (zf i) (phs u S (τ k) (i : Int)) (.tup [.non, .non]) ∧ phs u S (τ k) ((i + 1 : Nat) : Int) ≠ u) : Wk2 k n S u b s τ zf .non
  | got (m : Nat) (hm : m < 200) (h : ¬ Wkd k n S b s τ (zf m) (phs u S (τ k) (m : Int)) (.tup [.non, .non])) (h1 : phs u S (τ k) ((m + 1 : Nat) : Int) = u) (h2 : ∀ i, i < m → ¬ Wkd k n S b s τ (zf i) (phs u S (τ k) (i : Int)) (.tup [.non, .non]) ∧ phs u S (τ k) ((i + 1 : Nat) : Int) ≠ u) : Wk2 k n S u b s τ zf (.tup [.int (1 + (m : Int)), .int (rds u S (τ k) ((m + 1 : Nat) : Int))])
  | far (h2 : ∀ i, i < 200 → ¬ Wkd k n S b s τ (zf i) (phs u S (τ k) (i : Int)) (.tup [.non, .non]) ∧ phs u S (τ k) ((i + 1 : Nat) : Int) ≠ u) : Wk2 k n S u b s τ zf (.tup [])
variable {zf : Nat → Nat}
theorem wk2_ex : ∃ d, Wk2 k n S u b s τ zf d := by
  rcases first_or 200 (fun i => ¬ (¬ Wkd k n S b s τ (zf i) (phs u S (τ k) (i : Int)) (.tup [.non, .non]) ∧ phs u S (τ k) ((i + 1 : Nat) : Int) ≠ u)) with ⟨m, hm, h1, h2⟩ | h
  · have g2 : ∀ i, i < m → ¬ Wkd k n S b s τ (zf i) (phs u S (τ k) (i : Int)) (.tup [.non, .non]) ∧ phs u S (τ k) ((i + 1 : Nat) : Int) ≠ u := fun i hi => Classical.byContradiction fun q => h2 i hi q
    by_cases w : Wkd k n S b s τ (zf m) (phs u S (τ k) (m : Int)) (.tup [.non, .non])
    · exact ⟨_, .non m hm w g2⟩
    · exact ⟨_, .got m hm w (Classical.byContradiction fun q => h1 ⟨w, q⟩) g2⟩
  · exact ⟨_, .far fun i hi => Classical.byContradiction fun q => h i hi q⟩
/-- what is told is right -/
theorem wk2_is (Z : Zm k n S u b s τ) {d : Da} (W : Wk2 k n S u b s τ zf d) : d = .non ∨ (d = .tup [.int (tp (τ k) S), .int (bt (τ k) S)]) ∨ (d = .tup [] ∧ 201 ≤ tp (τ k) S) := by
  obtain ⟨r0, q0, rq, rj⟩ := Z.ret
  have tn : τ k ≠ 0 := by have := Z.tk; omega
  have e0 : ((tp (τ k) S).toNat : Int) = tp (τ k) S := Int.toNat_of_nonneg (by omega)
  have hR : phs u S (τ k) ((tp (τ k) S).toNat : Int) = u := (rj _).mpr (by rw [e0]; exact Int.dvd_refl _)
  cases W with
  | non m hm h h2 => exact .inl rfl
  | far h2 =>
    refine .inr (.inr ⟨rfl, ?_⟩)
    rcases Int.lt_or_le 200 (tp (τ k) S) with q | q
    · omega
    · have := (h2 ((tp (τ k) S).toNat - 1) (by omega)).2
      have e : (tp (τ k) S).toNat - 1 + 1 = (tp (τ k) S).toNat := by omega
      rw [e] at this
      exact absurd hR this
  | got m hm h h1 h2 =>
    right
    left
    have d := (rj (m + 1)).mp h1
    have l := Int.le_of_dvd (by omega) d
    have eR : tp (τ k) S = ((m + 1 : Nat) : Int) := by
      rcases Nat.lt_or_ge ((tp (τ k) S).toNat - 1) m with q | q
      · have := (h2 _ q).2
        have e : (tp (τ k) S).toNat - 1 + 1 = (tp (τ k) S).toNat := by omega
        rw [e] at this
        exact absurd hR this
      · omega
    have eQ : rds u S (τ k) ((m + 1 : Nat) : Int) = bt (τ k) S := by
      have := rds_mul (u := u) tn rq 0
      rw [Z.beg.2, Int.zero_add, Int.zero_add, eR] at this
      exact this
    have e1 : 1 + (m : Int) = tp (τ k) S := by rw [eR]; omega
    rw [e1, eQ]
def RWalkZ (ds : List Da) (o : XO) : Prop := ∃ k n S u b s τ a zf zu d, Zm k n S u b s τ ∧ (∀ j : Nat, Zo τ k (zf j) (phs u S (τ k) (j : Int))) ∧ Zo τ k zu u ∧ (u - τ zu) * s zu = S * (a - b zu) ∧ ds = [ruleZ k n b s a] ∧ Wk2 k n S u b s τ zf d ∧ o = .ok d
end
end Sky
namespace Sky
open PySem L2 Evl PySem.Spec PyProof.Rows
/-! ### sums; how many of equal steps round a ring come to a stretch -/
def sumN (f : Nat → Int) : Nat → Int
  | 0 => 0
  | n + 1 => sumN f n + f n
theorem sumN_congr {f g : Nat → Int} : ∀ {n : Nat}, (∀ i, i < n → f i = g i) → sumN f n = sumN g n
  | 0, _ => rfl
  | n + 1, h => by rw [sumN, sumN, sumN_congr fun i hi => h i (by omega), h n (by omega)]
theorem sumN_sub (f g : Nat → Int) : ∀ n, sumN (fun i => f i - g i) n = sumN f n - sumN g n
  | 0 => rfl
  | n + 1 => by rw [sumN, sumN, sumN, sumN_sub f g n]; omega
theorem sumN_const (c : Int) : ∀ n : Nat, sumN (fun _ => c) n = n * c
  | 0 => by rw [sumN]; omega
  | n + 1 => by
    rw [sumN, sumN_const c n]
    have e : ((n + 1 : Nat) : Int) = (n : Int) + 1 := by omega
    rw [e, Int.add_mul, Int.one_mul]
theorem sumN_le {f g : Nat → Int} : ∀ {n : Nat}, (∀ i, i < n → f i ≤ g i) → sumN f n ≤ sumN g n
  | 0, _ => Int.le_refl _
  | n + 1, h => by
    rw [sumN, sumN]
    have := sumN_le (n := n) (fun i hi => h i (Nat.lt_succ_of_lt hi))
    have := h n (by omega)
    omega
theorem sumN_shift (g : Nat → Int) : ∀ n, sumN (fun i => g (i + 1)) n = sumN g n - g 0 + g n
  | 0 => by show (0 : Int) = 0 - g 0 + g 0; omega
  | n + 1 => by rw [sumN, sumN, sumN_shift g n]; omega
theorem sumN_per {h : Nat → Int} {n : Nat} {C : Int} (hp : ∀ i, h (i + n) = h i + C) : ∀ m : Nat, sumN (fun i => h (i + m)) n = sumN h n + m * C
  | 0 => by
    show sumN h n = sumN h n + ((0 : Nat) : Int) * C
    omega
  | m + 1 => by
    have e1 : sumN (fun i => h (i + (m + 1))) n = sumN (fun i => (fun j => h (j + m)) (i + 1)) n := sumN_congr fun i _ => by
      show h (i + (m + 1)) = h (i + 1 + m)
      congr 1; omega
    have e0 : sumN (fun i => (fun j => h (j + m)) (i + 1)) n = sumN (fun j => h (j + m)) n - h (0 + m) + h (n + m) := sumN_shift (fun j => h (j + m)) n
    rw [e1, e0, sumN_per hp m]
    have e2 := hp m
    show sumN h n + m * C - h (0 + m) + h (n + m) = _
    rw [Nat.zero_add, Nat.add_comm n m, e2]
    have e : ((m + 1 : Nat) : Int) = (m : Int) + 1 := by omega
    rw [e, Int.add_mul, Int.one_mul]; omega
theorem bez : ∀ a b : Nat, ∃ x y : Int, x * a + y * b = (Nat.gcd a b : Nat) := fun a b => by
  induction a, b using Nat.gcd.induction with
  | H0 n => exact ⟨0, 1, by rw [Nat.gcd_zero_left]; omega⟩
  | H1 m n hm ih =>
    obtain ⟨x, y, h⟩ := ih
    refine ⟨y - x * ((n / m : Nat) : Int), x, ?_⟩
    rw [Nat.gcd_rec m n, ← h]
    have d := Nat.div_add_mod n m
    have e : (n : Int) = (m : Int) * ((n / m : Nat) : Int) + ((n % m : Nat) : Int) := by
      have := congrArg (fun z : Nat => (z : Int)) d
      simp only [Int.natCast_add, Int.natCast_mul] at this
      omega
    rw [e]
    grind
/-- floors summed -/
def flS (S T : Int) (n : Nat) (y : Int) : Int := sumN (fun r => (y + (r : Int) * S) / T) n
section
variable {S T g C : Int} {n : Nat}
theorem flS_mono (hT : 0 < T) {y z : Int} (h : y ≤ z) : flS S T n y ≤ flS S T n z := sumN_le fun i _ => Int.ediv_le_ediv hT (by omega)
theorem flS_step (hT : 0 < T) (hC : (n : Int) * S = C * T) (hg : (n : Int) * g = T) (hm : ∃ m : Nat, ∃ w : Int, (m : Int) * S = g + w * T) (y : Int) : flS S T n (y + g) = flS S T n y + 1 := by
  obtain ⟨m, w, hm⟩ := hm
  have e1 : flS S T n (y + g) = sumN (fun r => (fun i : Nat => (y + (i : Int) * S) / T) (r + m) - w) n := sumN_congr fun i _ => by
    show (y + g + (i : Int) * S) / T = (y + ((i + m : Nat) : Int) * S) / T - w
    have e2 : y + ((i + m : Nat) : Int) * S = (y + g + (i : Int) * S) + T * w := by
      rw [Int.natCast_add, Int.add_mul, hm, Int.mul_comm w T]; omega
    rw [e2, Int.add_mul_ediv_left _ _ (by omega)]; omega
  rw [e1, sumN_sub, sumN_const]
  have hp : ∀ i : Nat, (fun i : Nat => (y + (i : Int) * S) / T) (i + n) = (fun i : Nat => (y + (i : Int) * S) / T) i + C := fun i => by
    show (y + ((i + n : Nat) : Int) * S) / T = (y + (i : Int) * S) / T + C
    have e2 : y + ((i + n : Nat) : Int) * S = (y + (i : Int) * S) + T * C := by
      rw [Int.natCast_add, Int.add_mul, hC, Int.mul_comm C T]; omega
    rw [e2, Int.add_mul_ediv_left _ _ (by omega)]
  have e4 : sumN (fun r => (fun i : Nat => (y + (i : Int) * S) / T) (r + m)) n = flS S T n y + m * C := sumN_per (h := fun i : Nat => (y + (i : Int) * S) / T) (n := n) (C := C) hp m
  rw [e4]
  have e3 : (m * C - n * w) * T = 1 * T := by
    have : (m * C - n * w) * T = m * (C * T) - n * (w * T) := by grind
    rw [this, ← hC]
    have : (m : Int) * (n * S) - n * (w * T) = n * (m * S - w * T) := by grind
    rw [this, hm]
    have : g + w * T - w * T = g := by omega
    rw [this, hg]; omega
  have := Int.eq_of_mul_eq_mul_right (show T ≠ 0 by omega) e3
  omega
theorem flS_steps (hT : 0 < T) (hC : (n : Int) * S = C * T) (hg : (n : Int) * g = T) (hm : ∃ m : Nat, ∃ w : Int, (m : Int) * S = g + w * T) (y : Int) : ∀ q : Nat, flS S T n (y + q * g) = flS S T n y + q
  | 0 => by
    have e : y + ((0 : Nat) : Int) * g = y := by omega
    rw [e]; omega
  | q + 1 => by
    have e : y + ((q + 1 : Nat) : Int) * g = (y + q * g) + g := by
      have : ((q + 1 : Nat) : Int) = (q : Int) + 1 := by omega
      rw [this, Int.add_mul, Int.one_mul]; omega
    rw [e, flS_step hT hC hg hm, flS_steps hT hC hg hm y q]; omega
theorem flS_len (hT : 0 < T) (hC : (n : Int) * S = C * T) (hg : (n : Int) * g = T) (hg0 : 0 < g) (hm : ∃ m : Nat, ∃ w : Int, (m : Int) * S = g + w * T) (y : Int) {L : Int} (hL : 0 ≤ L) : flS S T n (y + L) - flS S T n y = L / g ∨ flS S T n (y + L) - flS S T n y = -((-L) / g) := by
  have q0 := Int.ediv_nonneg hL (Int.le_of_lt hg0)
  have d := Int.mul_ediv_add_emod L g
  have m0 := Int.emod_nonneg L (show g ≠ 0 by omega)
  have m1 := Int.emod_lt_of_pos L hg0
  obtain ⟨q, hq⟩ : ∃ q : Nat, L / g = q := ⟨(L / g).toNat, by omega⟩
  have f0 := flS_steps hT hC hg hm y q
  have f1 := flS_steps hT hC hg hm y (q + 1)
  have ec : (q : Int) * g = g * (L / g) := by rw [hq, Int.mul_comm]
  have ec1 : ((q + 1 : Nat) : Int) * g = g * (L / g) + g := by
    have : ((q + 1 : Nat) : Int) = (q : Int) + 1 := by omega
    rw [this, Int.add_mul, Int.one_mul, ec]
  rw [ec] at f0
  rw [ec1] at f1
  by_cases hr : L % g = 0
  · left
    have : y + L = y + g * (L / g) := by omega
    rw [this, f0, hq]; omega
  · have a1 := flS_mono (S := S) (n := n) hT (show y + g * (L / g) ≤ y + L by omega)
    have a2 := flS_mono (S := S) (n := n) hT (show y + L ≤ y + (g * (L / g) + g) by omega)
    have e : (-L) / g = -(L / g) - 1 := by
      have h1 : -L = (g - L % g) + g * (-(L / g) - 1) := by
        have : g * (-(L / g) - 1) = -(g * (L / g)) - g := by grind
        omega
      rw [h1, Int.add_mul_ediv_left _ _ (by omega), Int.ediv_eq_zero_of_lt (by omega) (by omega)]; omega
    rw [e, hq]
    omega
/-- on a stretch or not -/
theorem fl_ind (hT : 0 < T) {a b x : Int} (h0 : 0 ≤ a) (h1 : a ≤ b) (h2 : b ≤ T) : (x - a) / T - (x - b) / T = if a ≤ x % T ∧ x % T < b then 1 else 0 := by
  have d := Int.mul_ediv_add_emod x T
  have m0 := Int.emod_nonneg x (show T ≠ 0 by omega)
  have m1 := Int.emod_lt_of_pos x hT
  have key : ∀ c : Int, 0 ≤ c → c ≤ T → (x - c) / T = x / T + (if c ≤ x % T then 0 else -1) := fun c c0 c1 => by
    have e : x - c = (x % T - c) + T * (x / T) := by omega
    rw [e, Int.add_mul_ediv_left _ _ (by omega)]
    by_cases q : c ≤ x % T
    · rw [if_pos q, Int.ediv_eq_zero_of_lt (by omega) (by omega)]; omega
    · rw [if_neg q]
      have e2 : x % T - c = (x % T - c + T) + T * (-1) := by omega
      rw [e2, Int.add_mul_ediv_left _ _ (by omega), Int.ediv_eq_zero_of_lt (by omega) (by omega)]; omega
  rw [key a h0 (by omega), key b (by omega) h2]
  by_cases q1 : a ≤ x % T
  · by_cases q2 : b ≤ x % T
    · rw [if_pos q1, if_pos q2, if_neg (by omega)]; omega
    · rw [if_pos q1, if_neg q2, if_pos (by omega)]; omega
  · rw [if_neg q1, if_neg (show ¬ b ≤ x % T by omega), if_neg (by omega)]; omega
theorem gcd_step (hS : 0 < S) (hT : 0 < T) : ∃ m : Nat, ∃ w : Int, (m : Int) * S = ((Nat.gcd S.natAbs T.natAbs : Nat) : Int) + w * T := by
  obtain ⟨x, y, h⟩ := bez S.natAbs T.natAbs
  have e1 : ((S.natAbs : Nat) : Int) = S := by omega
  have e2 : ((T.natAbs : Nat) : Int) = T := by omega
  rw [e1, e2] at h
  have m0 := Int.emod_nonneg x (show T ≠ 0 by omega)
  have d := Int.mul_ediv_add_emod x T
  refine ⟨(x % T).toNat, -y - (x / T) * S, ?_⟩
  rw [Int.toNat_of_nonneg m0, ← h]
  have : x % T = x - T * (x / T) := by omega
  rw [this]
  grind
end
end Sky
namespace Sky
open PySem L2 Evl PySem.Spec PyProof.Rows
/-! ### how many rows a place stays in a zone; how many of a return lie in it -/
theorem cnt_sum (f : Nat → Int) (z : Int) : ∀ n : Nat, ((((List.range n).map f).count z : Nat) : Int) = sumN (fun i => if f i = z then 1 else 0) n
  | 0 => rfl
  | n + 1 => by
    rw [List.range_succ, List.map_append, List.count_append, sumN, ← cnt_sum f z n, Int.natCast_add]
    congr 1
    show ((([f n] : List Int).count z : Nat) : Int) = _
    by_cases h : f n = z
    · rw [if_pos h, h]; simp
    · rw [if_neg h, List.count_eq_zero.mpr (by simp; exact fun e => h e.symm)]; rfl
theorem fdiv_same {a b c d : Int} (hb : 0 < b) (hd : 0 < d) (h : a * d = c * b) : a / b = c / d := by
  have e1 : a * d / (b * d) = a / b := Int.mul_ediv_mul_of_pos_left _ _ hd
  have e2 : c * b / (d * b) = c / d := Int.mul_ediv_mul_of_pos_left _ _ hb
  rw [← e1, ← e2, h, Int.mul_comm b d]
/-- rounded down or up -/
def Rou (c x n : Int) : Prop := c = x / n ∨ c = -((-x) / n)
theorem Rou.same {c a b x n : Int} (hb : 0 < b) (hd : 0 < n) (h : a * n = x * b) (R : Rou c x n) : Rou c a b := by
  unfold Rou
  rw [fdiv_same hb hd h, fdiv_same (a := -a) (c := -x) hb hd (by rw [Int.neg_mul, h, Int.neg_mul])]
  exact R
section
variable {k : Nat} {n S u : Int} {b s τ : Nat → Int}
theorem Zm.zone_cnt (Z : Zm k n S u b s τ) {beg : Int} {zf : Nat → Nat} (hz : ∀ i : Nat, Zo τ k (zf i) (phs u S (τ k) (beg + i))) {N : Nat} (hN : (N : Int) = tp (τ k) S) {z : Nat} (zk : z < k) : Rou ((((List.range N).map fun i => ((zf i : Nat) : Int)).count (z : Int) : Nat) : Int) ((τ (z + 1) - τ z) * bt (τ k) S) S := by
  have t0 := Z.tk
  have S0 := Z.S0
  have R := Z.ris
  obtain ⟨e1, e2⟩ := tp_div t0 S0
  obtain ⟨g, hg⟩ : ∃ g : Int, g = ((Nat.gcd S.natAbs (τ k).natAbs : Nat) : Int) := ⟨_, rfl⟩
  have g0 : 0 < g := by
    have : 0 < Nat.gcd S.natAbs (τ k).natAbs := Nat.gcd_pos_of_pos_left _ (by omega)
    omega
  have d1 : g ∣ S := by rw [hg]; exact Int.ofNat_dvd_left.mpr (Nat.gcd_dvd_left _ _)
  have d2 : g ∣ τ k := by rw [hg]; exact Int.ofNat_dvd_left.mpr (Nat.gcd_dvd_right _ _)
  rw [← hg] at e1 e2
  have m1 : (N : Int) * g = τ k := by rw [hN, e1]; exact Int.ediv_mul_cancel d2
  have m2 : bt (τ k) S * g = S := by rw [e2]; exact Int.ediv_mul_cancel d1
  have q0 : 0 < bt (τ k) S := bt_pos _ (by omega)
  generalize bt (τ k) S = Q at *
  have m3 : (N : Int) * S = Q * τ k := by rw [← m2, ← m1]; grind
  have hm := gcd_step S0 t0
  rw [← hg] at hm
  have tz := R.le (show z ≤ z + 1 by omega) zk
  have tz0 : 0 ≤ τ z := by rw [← Z.t0]; exact R.le (Nat.zero_le _) (Nat.le_of_lt zk)
  have tz1 : τ (z + 1) ≤ τ k := R.le zk (Nat.le_refl _)
  have main := flS_len t0 m3 m1 g0 hm (u + beg * S - τ (z + 1)) (L := τ (z + 1) - τ z) (by omega)
  have ec : ((((List.range N).map fun i => ((zf i : Nat) : Int)).count (z : Int) : Nat) : Int) = flS S (τ k) N (u + beg * S - τ (z + 1) + (τ (z + 1) - τ z)) - flS S (τ k) N (u + beg * S - τ (z + 1)) := by
    unfold flS
    rw [cnt_sum, ← sumN_sub]
    refine sumN_congr fun i _ => ?_
    have e3 : u + beg * S - τ (z + 1) + (τ (z + 1) - τ z) + (i : Int) * S = (u + (beg + i) * S) - τ z := by rw [Int.add_mul]; omega
    have e4 : u + beg * S - τ (z + 1) + (i : Int) * S = (u + (beg + i) * S) - τ (z + 1) := by rw [Int.add_mul]; omega
    show _ = (u + beg * S - τ (z + 1) + (τ (z + 1) - τ z) + (i : Int) * S) / τ k - (u + beg * S - τ (z + 1) + (i : Int) * S) / τ k
    rw [e3, e4, fl_ind t0 tz0 tz tz1]
    have H := hz i
    unfold phs at H
    by_cases q : zf i = z
    · rw [if_pos (by rw [q]), if_pos]
      rw [← q]; exact ⟨H.lo, H.hi⟩
    · rw [if_neg (by omega), if_neg]
      rintro ⟨a1, a2⟩
      exact q (H.uniq R ⟨zk, a1, a2⟩)
  refine Rou.same (x := τ (z + 1) - τ z) (n := g) S0 g0 (by rw [← m2]; grind) ?_
  unfold Rou
  rw [ec]
  exact main
/-! stays -/
structure Run (f : Nat → Int) (n : Nat) (z sz : Int) : Prop where
  ex : ∃ i m : Nat, sz = m ∧ 1 ≤ m ∧ i + 1 + m < n ∧ f i ≠ z ∧ f (i + 1 + m) ≠ z ∧ ∀ j : Nat, j < m → f (i + 1 + j) = z
theorem Zm.stay (Z : Zm k n S u b s τ) {beg : Int} {zf : Nat → Nat} (hz : ∀ i : Nat, Zo τ k (zf i) (phs u S (τ k) (beg + i))) (k2 : 2 ≤ k) (hL : ∀ i, i < k → S ≤ τ (i + 1) - τ i) {N : Nat} {z : Nat} {sz : Int} (R : Run (fun i => ((zf i : Nat) : Int)) N (z : Int) sz) : Rou sz (τ (z + 1) - τ z) S := by
  obtain ⟨i, m, rfl, m1, _, h0, h1, hin⟩ := R
  have t0 := Z.tk
  have S0 := Z.S0
  have RI := Z.ris
  have nx : ∀ j : Nat, phs u S (τ k) (beg + ((j + 1 : Nat) : Int)) = (phs u S (τ k) (beg + j) + S) % τ k := fun j => by
    rw [phs_next]; congr 1; omega
  have zk : z < k := by
    have := (hz (i + 1 + 0)).zk
    have := hin 0 (by omega)
    omega
  have bd : ∀ j : Nat, 0 ≤ phs u S (τ k) (beg + j) ∧ phs u S (τ k) (beg + j) < τ k := fun j => ⟨Int.emod_nonneg _ (by omega), Int.emod_lt_of_pos _ t0⟩
  have zn : ∀ j : Nat, j < m → zf (i + 1 + j) = z := fun j hj => by have := hin j hj; omega
  have hL0 : S ≤ τ 1 := by
    have h : S ≤ τ (0 + 1) - τ 0 := hL 0 (by omega)
    have e : τ (0 + 1) = τ 1 := rfl
    rw [Z.t0, e] at h
    omega
  have hSk : S ≤ τ k := by
    have := RI.le (show 1 ≤ k by omega) (Nat.le_refl _)
    omega
  -- the next row, if it stays
  have step : ∀ j : Nat, j < m → phs u S (τ k) (beg + ((i + 1 + j : Nat) : Int)) + S < τ (z + 1) ∨ (phs u S (τ k) (beg + ((i + 1 + j : Nat) : Int)) + S ≥ τ (z + 1) ∧ zf (i + 1 + j + 1) ≠ z) := fun j hj => by
    have H := hz (i + 1 + j)
    rw [zn j hj] at H
    have H2 := hz (i + 1 + j + 1)
    rw [nx] at H2
    have b1 := bd (i + 1 + j)
    generalize phs u S (τ k) (beg + ((i + 1 + j : Nat) : Int)) = p at *
    rcases Int.lt_or_le (p + S) (τ (z + 1)) with c | c
    · exact .inl c
    · refine .inr ⟨c, fun e => ?_⟩
      rw [e] at H2
      have a1 := H2.lo
      have a2 := H2.hi
      rcases Int.lt_or_le (p + S) (τ k) with q | q
      · rw [Int.emod_eq_of_lt (by omega) q] at a2; omega
      · have e2 : (p + S) % τ k = p + S - τ k := by
          rw [← Int.sub_emod_right, Int.emod_eq_of_lt (by omega) (by omega)]
        rw [e2] at a1 a2
        have z0 : z = 0 := by
          apply Decidable.byContradiction
          intro hne
          have := RI.le (show 1 ≤ z by omega) (Nat.le_of_lt zk)
          omega
        subst z0
        have := hL (k - 1) (by omega)
        have e3 : k - 1 + 1 = k := by omega
        rw [e3] at this
        have := RI.le (show 1 ≤ k - 1 by omega) (by omega)
        have b2 : p < τ 1 := H.hi
        omega
  have first : phs u S (τ k) (beg + ((i + 1 + 0 : Nat) : Int)) < τ z + S := by
    apply Decidable.byContradiction
    intro hn
    have H := hz (i + 1 + 0)
    rw [zn 0 (by omega)] at H
    have e := nx i
    have b1 := bd i
    have zi := hz i
    have tz0 : 0 ≤ τ z := by rw [← Z.t0]; exact RI.le (Nat.zero_le _) (Nat.le_of_lt zk)
    have tzk : τ (z + 1) ≤ τ k := RI.le zk (Nat.le_refl _)
    have H' : Zo τ k z ((phs u S (τ k) (beg + (i : Int)) + S) % τ k) := by rw [← e]; exact H
    have hn' : ¬ (phs u S (τ k) (beg + (i : Int)) + S) % τ k < τ z + S := by rw [← e]; exact hn
    generalize phs u S (τ k) (beg + (i : Int)) = p at *
    have a1 := H'.lo
    have a2 := H'.hi
    have hp : (p + S) % τ k = p + S := by
      rcases Int.lt_or_le (p + S) (τ k) with q | q
      · exact Int.emod_eq_of_lt (by omega) q
      · exfalso
        have e2 : (p + S) % τ k = p + S - τ k := by
          rw [← Int.sub_emod_right, Int.emod_eq_of_lt (by omega) (by omega)]
        omega
    have : zf i = z := zi.uniq RI ⟨zk, by omega, by omega⟩
    exact h0 (by show ((zf i : Nat) : Int) = z; rw [this])
  -- all rows of the stay
  have all : ∀ j : Nat, j < m → phs u S (τ k) (beg + ((i + 1 + j : Nat) : Int)) = phs u S (τ k) (beg + ((i + 1 + 0 : Nat) : Int)) + j * S := fun j => by
    induction j with
    | zero => intro _; omega
    | succ j ih =>
      intro hj
      have ih := ih (by omega)
      have b1 := bd (i + 1 + j)
      rcases step j (by omega) with c | ⟨_, c⟩
      · have tzk : τ (z + 1) ≤ τ k := RI.le zk (Nat.le_refl _)
        have e := nx (i + 1 + j)
        rw [Int.emod_eq_of_lt (by omega) (by omega)] at e
        have e2 : i + 1 + (j + 1) = i + 1 + j + 1 := by omega
        rw [e2, e, ih]
        have : ((j + 1 : Nat) : Int) = (j : Int) + 1 := by omega
        rw [this, Int.add_mul, Int.one_mul]; omega
      · exact absurd (zn (j + 1) hj) (by rw [show i + 1 + (j + 1) = i + 1 + j + 1 by omega]; exact c)
  have a1 := all (m - 1) (by omega)
  have zl := hz (i + 1 + (m - 1))
  rw [zn (m - 1) (by omega)] at zl
  have lst := step (m - 1) (by omega)
  have ex : phs u S (τ k) (beg + ((i + 1 + (m - 1) : Nat) : Int)) + S ≥ τ (z + 1) := by
    rcases lst with c | ⟨c, _⟩
    · exfalso
      have tzk : τ (z + 1) ≤ τ k := RI.le zk (Nat.le_refl _)
      have b1 := bd (i + 1 + (m - 1))
      have e := nx (i + 1 + (m - 1))
      rw [Int.emod_eq_of_lt (by omega) (by omega)] at e
      have H2 := hz (i + 1 + (m - 1) + 1)
      rw [e] at H2
      have : zf (i + 1 + (m - 1) + 1) = z := H2.uniq RI ⟨zk, by have := zl.lo; omega, c⟩
      have e2 : i + 1 + (m - 1) + 1 = i + 1 + m := by omega
      rw [e2] at this
      exact h1 (by show ((zf (i + 1 + m) : Nat) : Int) = z; rw [this])
    · exact c
  have lo := (hz (i + 1 + 0)).lo
  rw [zn 0 (by omega)] at lo
  have hi := zl.hi
  rw [a1] at ex hi
  generalize phs u S (τ k) (beg + ((i + 1 + 0 : Nat) : Int)) = v at *
  have em : ((m - 1 : Nat) : Int) * S = m * S - S := by
    have : ((m - 1 : Nat) : Int) = (m : Int) - 1 := by omega
    rw [this, Int.sub_mul, Int.one_mul]
  rw [em] at ex hi
  obtain ⟨L, hLd⟩ : ∃ L, L = τ (z + 1) - τ z := ⟨_, rfl⟩
  rw [← hLd]
  unfold Rou
  have hmS : ((m : Int) + 1) * S = m * S + S := by rw [Int.add_mul, Int.one_mul]
  rcases Int.lt_or_le L (m * S) with c | c
  · right
    have e : -L = (m * S - L) + S * (-(m : Int)) := by have : S * (-(m : Int)) = -(m * S) := by grind
                                                       omega
    rw [e, Int.add_mul_ediv_left _ _ (by omega), Int.ediv_eq_zero_of_lt (by omega) (by omega)]; omega
  · left
    have e : L = (L - m * S) + S * (m : Int) := by have : S * (m : Int) = m * S := Int.mul_comm _ _
                                                   omega
    rw [e, Int.add_mul_ediv_left _ _ (by omega), Int.ediv_eq_zero_of_lt (by omega) (by omega)]; omega
end
end Sky
namespace Sky
open PySem L2 Evl PySem.Spec PyProof.Rows
/-! ### sum, count, in, of whole numbers; a loop over pairs -/
theorem dra_intsI {K : PySem.W.Frag} {B : Hp} : ∀ {vs : List V} {ns : List Int}, DrA K B vs (ns.map .int) → vs = ns.map V.int
  | [], [], _ => rfl
  | v :: vs, n :: ns, .cons h t => by
    cases h
    rw [dra_intsI t]; rfl
theorem rc_sum {K : PySem.W.Frag} {ns : List Int} : RC K (rSum K) [.lst (ns.map .int)] (.int ns.sum) := fun B H vs e hA Q k => by
  cases hA with
  | cons h1 t =>
    cases t
    cases h1 with
    | @lst a vs _ h t =>
      obtain rfl := dra_intsI t
      exact ⟨a, ns, rfl, ex_l e h, k _ B H (Gr.refl e) (.int _)⟩
theorem in_ints (c : Int) (ns : List Int) : inV (.int c) (ns.map V.int) = decide (c ∈ ns) := by
  unfold inV
  induction ns with
  | nil => rfl
  | cons n ns ih =>
    rw [List.map_cons, List.any_cons, ih]
    show ((n == c) || decide (c ∈ ns)) = _
    by_cases h : n = c
    · subst h; simp
    · have : (n == c) = false := beq_eq_false_iff_ne.mpr h
      rw [this, Bool.false_or]
      exact decide_eq_decide.mpr ⟨fun z => List.mem_cons_of_mem _ z, fun z => (List.mem_cons.mp z).resolve_left fun e => h e.symm⟩
section
variable {X : Cx} {W : WX} {k n m : Nat} {en : List Sl} {a b e : Expr} {x y : Str} {p p1 p2 tp pos apos : Pos} {q : Nat} {ns : List Int} {c : Int} {ds : List Da} {j1 j2 : Nat} {ss : List Stmt} {fa fb : Nat → Da}
theorem ev_sum (Bx : Bd X W k) (ha : EVA X W en [a] [.lst (ns.map .int)]) (hg : Gl X "sum") (hm : X.mg "sum" = none) (he : starEach [a] X.env = (false, eval a X.env) :: starEach [] X.env) (hpl : (backTo pos (starEach [] X.env)).any (·.1) = false) : EV X W en (.Call (.Name "sum" p) [a] [] pos) (.ok (.int ns.sum)) :=
  ev_cb (cr_sum Bx.calm) ha rc_sum hg hm (by decide +kernel) (by decide) (by decide) he hpl
theorem ev_inI (ha : EV X W en a (.ok (.int c))) (hb : EV X W en b (.ok (.lst (ns.map .int)))) (hm : behindInMarks .In b = false) : EV X W en (.Compare a [.In] [b] pos) (.ok (.bl (decide (c ∈ ns)))) := ev_cmp op_in_seq ha hb (fun B H x y e r1 r2 Q k => by
  cases r1
  cases r2 with
  | @lst a vs _ h t =>
    obtain rfl := dra_intsI t
    refine ⟨a, ns.map V.int, rfl, Or.inl (ex_l e h), rfl, by rw [List.all_map]; exact List.all_eq_true.mpr fun _ _ => rfl, ?_⟩
    rw [if_neg Bool.false_ne_true, in_ints]
    exact k _ B H (Gr.refl e) (.bl _)) hm
theorem ev_count (ha : EV X W en a (.ok (.lst (ns.map .int)))) (hb : EV X W en e (.ok (.int c))) (hbase : attributeBase a "count" X.env (eval a X.env) = eval a X.env)
    (hfew : ((backTo pos (starEach [e] X.env)).all (fun x => !x.1) && (backToKw pos (keywordEach [] X.env)).all (fun x => x.1.isSome) && decide ([e].length + ([] : List Keyword).length + (if ([] : List Keyword).isEmpty then 0 else 1) < 30)) = true)
    (hline : (apos.endLine == pos.line) = true) (hs : starEach [e] X.env = (false, eval e X.env) :: starEach [] X.env) (hpl : (backTo pos (starEach [] X.env)).any (·.1) = false) : EV X W en (.Call (.Attribute a "count" apos) [e] [] pos) (.ok (.int (ns.count c : Nat))) := by
  obtain ⟨te, h1, h2⟩ := ha
  obtain ⟨tr, h3, h4⟩ := hb
  refine ⟨_, pe_bm PySem.F.plainAttrs_list PySem.F.slot_list_count PySem.F.type_list_count mt_lcount h1 (pa_cons h3 pa_nil hs) hbase hfew hline hs hpl, fun B0 H0 B H σ S Q k => h2 _ _ B H σ S _ fun v B1 H1 g1 r1 => ?_⟩
  cases r1 with
  | @lst a vs _ h t =>
    obtain rfl := dra_intsI t
    refine ⟨Or.inl ⟨rfl, _, ex_l g1.s h⟩, h4 _ _ B1 H1 σ (S.grow g1) _ fun w B2 H2 g2 r2 => ?_⟩
    cases r2
    exact ⟨a, ns, c, rfl, rfl, ex_l (g2.b.trans g2.s) h, k _ B2 H2 (g1.trans g2) (.int _)⟩
/-- for x, y in pairs -/
theorem sv_forLP {it : Expr} (Bx : Bd X W k) (F : Nat → List Sl) (hi : EV X W en it (.ok (.lst ds))) (hd : ∀ i, i < ds.length → ds[i]? = some (.tup [fa i, fb i])) (h0 : F 0 = en) (hq : ∀ v, foldedSetIterable it X.env v = pure v) (hgn : GN X [.Name x p1, .Name y p2] [j1, j2])
    (hn : (assignEach [.Name x p1, .Name y p2] X.env).length = 2) (hst : (assignEach [.Name x p1, .Name y p2] X.env).findIdx? (·.1) = none)
    (ht : ∀ i, i < ds.length → SVs X W (((F i).set j1 (.da (fa i))).set j2 (.da (fb i))) ss (.nx (F (i + 1)))) : SV X W en (.For (.Tuple [.Name x p1, .Name y p2] q tp) it ss [] pos) (.nx (F ds.length)) := by
  obtain ⟨t, h1, h2⟩ := hi
  refine ⟨_, ps_for Bx.own Bx.calm (pi_list h1) (pg_tup Bx.calm hgn hn hst) pss_U hq, fun B0 H0 B H σ S D k => h2 _ _ B H σ S _ fun v B1 H1 g r => ?_⟩
  cases r with
  | @lst a vs _ hq t =>
    have S1 := S.grow g
    refine ⟨a, rfl, ⟨vs, ex_l g.s hq⟩, for_list (fun i σ' H' => ∃ B', Sd X.K B1 H0 B' H' σ' (F i)) ⟨B1, by rw [h0]; exact S1.rebase⟩ (fun i σ' H' _ ⟨B', S'⟩ => ex_l (S'.gr.b.trans S'.gr.s) hq) (fun i x σ' H' hx ⟨B', S'⟩ => ?_) (fun σ' H' ⟨B', S'⟩ => ?_)⟩
    · have hi : i < ds.length := by
        have := (List.getElem?_eq_some_iff.mp hx).1
        rwa [t.length] at this
      obtain ⟨x', hx', rx⟩ := t.get (hd i hi)
      rw [hx] at hx'
      cases hx'
      cases rx with
      | @tup pt ws _ hq2 t2 =>
        cases t2 with
        | cons ra t2 =>
          cases t2 with
          | cons rb t2 =>
            cases t2
            have gg := S'.gr.b
            exact ⟨pt, _, rfl, ex_t (gg.trans S'.gr.s) hq2, rfl, gn_set (is := [j1, j2]) (ds := [fa i, fb i]) S' (.cons (ra.mono gg) (.cons (rb.mono gg) .nil)) rfl fun σ2 S3 => (ht i hi).U B1 H0 _ _ _ S3 _ fun B3 H3 σ3 S3 => ⟨B3, S3⟩⟩
    · rw [t.length] at S'
      exact k B' H' σ' (S'.base S1.gr)
end
section
variable {X : Cx} {W : WX} {k n m l : Nat} {en e1 : List Sl} {a b c : Expr} {x y z : Str} {px py pz pt pt2 pos : Pos} {kt k2 : Nat} {d1 d2 d3 : Da}
/-- a, b, c = x, y, z -/
theorem sv_par3 (Bx : Bd X W k) (ha : EVA X W en [a, b, c] [d1, d2, d3]) (hn : X.N.idxOf? x = some n) (hm : X.N.idxOf? y = some m) (hl : X.N.idxOf? z = some l) (hi : X.N[n]? = some x) (hj : X.N[m]? = some y) (hk : X.N[l]? = some z) (hij : n ≠ m) (hil : n ≠ l) (hjl : m ≠ l)
    (hx : X.env.scope.names.lookup x = some .local) (hy : X.env.scope.names.lookup y = some .local) (hz : X.env.scope.names.lookup z = some .local) (hw : swappedStores [.Tuple [.Name x px, .Name y py, .Name z pz] kt pt] (.Tuple [a, b, c] k2 pt2) X.env = pure (some [x, y, z]))
    (hs : swapsWithSole [.Tuple [.Name x px, .Name y py, .Name z pz] kt pt] (.Tuple [a, b, c] k2 pt2) pos.line X.env = pure false) (hq : ((en.set n (.da d1)).set m (.da d2)).set l (.da d3) = e1) :
    SV X W en (.Assign [.Tuple [.Name x px, .Name y py, .Name z pz] kt pt] (.Tuple [a, b, c] k2 pt2) pos) (.nx e1) := by
  subst hq
  obtain ⟨t, h1, h2⟩ := ha
  refine ⟨_, ps_par3 Bx.calm Bx.nd hi hj hk hij hil hjl hx hy hz h1 hw hs, fun B0 H0 B H σ S D q => h2 _ _ B H σ S _ fun vs B' H' g r => ?_⟩
  cases r with
  | cons r1 r2 =>
    cases r2 with
    | cons r2 r3 =>
      cases r3 with
      | cons r3 r4 =>
        cases r4
        exact ⟨_, _, _, rfl, q B' H' _ ((((S.grow g).set r1 n).set r2 m).set r3 l)⟩
end
end Sky
namespace Sky
open PySem L2 Evl PySem.Spec PyProof.Rows
/-! ### what the law of stays tells -/
structure SSt where
  F : List (Int × Int)
  h : Int
  sz : Int
  w : Bool
def SSt.nx (s : SSt) (x : Int) : SSt := if x = s.h then ⟨s.F, s.h, s.sz + 1, s.w⟩ else ⟨if s.w = true then s.F ++ [(s.h, s.sz)] else s.F, x, 1, true⟩
def stN (f : Nat → Int) : Nat → SSt
  | 0 => ⟨[], f 0, 0, false⟩
  | i + 1 => (stN f i).nx (f i)
theorem Run.mono {f : Nat → Int} {n m : Nat} {z sz : Int} (h : n ≤ m) (R : Run f n z sz) : Run f m z sz := by
  obtain ⟨i, q, e, h1, h2, h3⟩ := R
  exact ⟨i, q, e, h1, by omega, h3⟩
structure StI (f : Nat → Int) (i : Nat) (s : SSt) : Prop where
  ex : ∃ a m : Nat, i = a + m ∧ s.sz = m ∧ (∀ j, j < m → f (a + j) = s.h) ∧ (s.w = true → ∃ a', a = a' + 1 ∧ f a' ≠ s.h) ∧ (i = 0 → s.h = f 0) ∧ (0 < i → 0 < m)
  runs : ∀ p, p ∈ s.F → Run f i p.1 p.2
  len : s.F.length ≤ i
theorem stN_I (f : Nat → Int) : ∀ i, StI f i (stN f i)
  | 0 => ⟨⟨0, 0, rfl, rfl, fun j hj => by omega, fun z => Bool.noConfusion (z : false = true), fun _ => rfl, fun z => by omega⟩, fun p hp => absurd hp (List.not_mem_nil (a := p)), Nat.le_refl _⟩
  | i + 1 => by
    obtain ⟨⟨a, m, e, es, hin, hw, h0, hm⟩, runs, len⟩ := stN_I f i
    show StI f (i + 1) ((stN f i).nx (f i))
    generalize stN f i = s at *
    obtain ⟨F, h, sz, w⟩ := s
    simp only at es hin hw h0 runs len
    unfold SSt.nx
    simp only []
    by_cases c : f i = h
    · rw [if_pos c]
      refine ⟨⟨a, m + 1, by omega, ?_, fun j hj => ?_, hw, fun z => by omega, fun _ => by omega⟩, fun p hp => (runs p hp).mono (by omega), by show F.length ≤ _; omega⟩
      · show sz + 1 = ((m + 1 : Nat) : Int)
        omega
      · rcases Nat.lt_or_ge j m with q | q
        · exact hin j q
        · have : j = m := by omega
          subst this
          rw [← e]; exact c
    · rw [if_neg c]
      have i0 : 0 < i := by
        rcases Nat.eq_zero_or_pos i with z | z
        · exact absurd (by rw [h0 z, z]) c
        · exact z
      have m0 := hm i0
      have hl : f (i - 1) = h := by
        have := hin (m - 1) (by omega)
        rwa [show a + (m - 1) = i - 1 by omega] at this
      refine ⟨⟨i, 1, rfl, rfl, fun j hj => ?_, fun _ => ⟨i - 1, by omega, by rw [hl]; exact fun z => c z.symm⟩, fun z => by omega, fun _ => by omega⟩, fun p hp => ?_, ?_⟩
      · have : j = 0 := by omega
        subst this; rfl
      · have hp : p ∈ (if w = true then F ++ [(h, sz)] else F) := hp
        by_cases hwt : w = true
        · rw [if_pos hwt] at hp
          rcases List.mem_append.mp hp with q | q
          · exact (runs p q).mono (by omega)
          · rw [List.mem_singleton] at q
            subst q
            obtain ⟨a', ea, hne⟩ := hw hwt
            refine ⟨a', m, es, m0, by omega, hne, ?_, fun j hj => ?_⟩
            · rw [show a' + 1 + m = i by omega]; exact c
            · rw [← ea]; exact hin j hj
        · rw [if_neg hwt] at hp
          exact (runs p hp).mono (by omega)
      · show (if w = true then F ++ [(h, sz)] else F).length ≤ _
        split
        · rw [List.length_append, List.length_singleton]; omega
        · omega
def stP (p : Int × Int) : Da := .tup [.int p.1, .int p.2]
def RStays (ds : List Da) (o : XO) : Prop := ∃ f n, 1 ≤ n ∧ n ≤ 1000 ∧ ds = [.lst (nms f n)] ∧ o = .ok (.lst ((stN f n).F.map stP))
def RWithin (ds : List Da) (o : XO) : Prop := ∃ c x n : Int, 0 < n ∧ Bn x ∧ Bn n ∧ ds = [.int c, lw x n] ∧ o = .ok (.bl (decide (c ∈ [tp x n / bt x n, 0 - (0 - tp x n) / bt x n])))
theorem within_rou {c x n : Int} (h : 0 < n) : c ∈ [tp x n / bt x n, 0 - (0 - tp x n) / bt x n] ↔ Rou c x n := by
  have b0 := bt_pos x (show n ≠ 0 by omega)
  have cr := lw_cross x (show n ≠ 0 by omega)
  have e1 : tp x n / bt x n = x / n := fdiv_same b0 h cr
  have e2 : (-(tp x n)) / bt x n = (-x) / n := fdiv_same b0 h (by rw [Int.neg_mul, cr, Int.neg_mul])
  rw [e1, Int.zero_sub, Int.zero_sub, e2]
  unfold Rou
  simp
/-! drawn rings -/
structure Dg (ns : List Int) : Prop where
  len : 20 ≤ ns.length
  lo : ∀ i, 0 ≤ qf ns i
  hi : ∀ i, qf ns i < 1009
theorem digs_dg (c : Int) : Dg (digs c 20) := by
  have D := digs_dl c (show 8 ≤ 20 by decide)
  exact ⟨by rw [digs_len]; exact Nat.le_refl _, D.lo, D.hi⟩
theorem dg_at {ns : List Int} (h : Dg ns) {i : Nat} (hi : i < 20) : atI (ns.map Da.int) (i : Int) = some (.int (qf ns i)) := by
  refine at_nat ?_
  have := h.len
  rw [List.getElem?_map, List.getElem?_eq_getElem (by omega)]
  unfold qf
  rw [List.getD_eq_getElem?_getD, List.getElem?_eq_getElem (by omega)]
  rfl
def rgK (q : Nat → Int) : Nat := (1 + q 0 % 4).toNat
def rgW (q : Nat → Int) (i : Nat) : Int := 1 + q (1 + i) % 40
def rgP (q : Nat → Int) (i : Nat) : Int := 1 + q (6 + i) % 12
def rgPb (q : Nat → Int) (i : Nat) : Int := ([1, 2, 3] : List Int).getD (q (11 + i) % 3).toNat 0
def rgE (q : Nat → Int) : Nat → Int
  | 0 => 0
  | i + 1 => rgE q i + rgW q i
def rgB (q : Nat → Int) (i : Nat) : Int := 6 * rgE q i
def rgS (q : Nat → Int) (i : Nat) : Int := rgP q i * (6 / rgPb q i)
def rgA (q : Nat → Int) : Int := q 16 % rgE q (rgK q)
def rgM : Int := 27720 * 6
section
variable {q : Nat → Int}
theorem rgK_bd : 1 ≤ rgK q ∧ rgK q ≤ 4 := by unfold rgK; omega
theorem rgK_i : ((rgK q : Nat) : Int) = 1 + q 0 % 4 := by unfold rgK; omega
theorem rgPb_c (i : Nat) : rgPb q i = 1 ∨ rgPb q i = 2 ∨ rgPb q i = 3 := by
  unfold rgPb
  have : q (11 + i) % 3 = 0 ∨ q (11 + i) % 3 = 1 ∨ q (11 + i) % 3 = 2 := by omega
  rcases this with e | e | e <;> rw [e] <;> simp
theorem rgW_bd (i : Nat) : 1 ≤ rgW q i ∧ rgW q i ≤ 40 := by unfold rgW; omega
theorem rgP_bd (i : Nat) : 1 ≤ rgP q i ∧ rgP q i ≤ 12 := by unfold rgP; omega
theorem rgE_bd : ∀ i : Nat, (i : Int) ≤ rgE q i ∧ rgE q i ≤ 40 * (i : Int)
  | 0 => ⟨Int.le_refl _, Int.le_refl _⟩
  | i + 1 => by
    have := rgE_bd i
    have := rgW_bd (q := q) i
    have e : rgE q (i + 1) = rgE q i + rgW q i := rfl
    omega
theorem rgS_bd (i : Nat) : 0 < rgS q i ∧ rgS q i ≤ 72 := by
  have p := rgP_bd (q := q) i
  unfold rgS
  rcases rgPb_c (q := q) i with e | e | e <;> rw [e]
  · have : (6 : Int) / 1 = 6 := by decide
    rw [this]; omega
  · have : (6 : Int) / 2 = 3 := by decide
    rw [this]; omega
  · have : (6 : Int) / 3 = 2 := by decide
    rw [this]; omega
theorem lc12 : ∀ p : Fin 13, p.val ≠ 0 → 27720 % p.val = 0 := by decide
theorem rgS_dvd (i : Nat) : rgS q i ∣ rgM := by
  have p := rgP_bd (q := q) i
  unfold rgS rgM
  have h1 : rgP q i ∣ 27720 := by
    have := lc12 ⟨(rgP q i).toNat, by omega⟩ (by show (rgP q i).toNat ≠ 0; omega)
    have := Nat.dvd_of_mod_eq_zero this
    obtain ⟨d, hd⟩ := this
    refine ⟨d, ?_⟩
    have e := congrArg (fun z : Nat => (z : Int)) hd
    simp only [Int.natCast_mul] at e
    rw [Int.toNat_of_nonneg (by omega)] at e
    exact e
  have h2 : 6 / rgPb q i ∣ 6 := by
    rcases rgPb_c (q := q) i with e | e | e <;> rw [e] <;> decide
  exact Int.mul_dvd_mul h1 h2
theorem rg_up : Ris (rgB q) (rgK q) := fun i hi => by
  have := rgW_bd (q := q) i
  have e : rgE q (i + 1) = rgE q i + rgW q i := rfl
  unfold rgB
  omega
theorem rg_zn (hq : ∀ i, 0 ≤ q i) : Zn (rgK q) 6 (rgB q) (rgS q) (6 * rgA q) rgM := by
  have k := rgK_bd (q := q)
  have bk := rgE_bd (q := q) (rgK q)
  have m0 := Int.emod_nonneg (q 16) (show rgE q (rgK q) ≠ 0 by omega)
  have m1 := Int.emod_lt_of_pos (q 16) (show 0 < rgE q (rgK q) by omega)
  have e1 : rgB q (rgK q) = 6 * rgE q (rgK q) := rfl
  have e2 : rgA q = q 16 % rgE q (rgK q) := rfl
  exact ⟨by decide, by decide, k.1, by omega, rfl, rg_up, by omega, fun i _ => (rgS_bd i).1, fun i _ => by have := (rgS_bd (q := q) i).2; omega, fun i _ => rgS_dvd i, by decide, by decide, by omega, by omega⟩
theorem rg_sum : ∀ i, (((List.range i).map (rgW q)).sum) = rgE q i
  | 0 => rfl
  | i + 1 => by
    rw [List.range_succ, List.map_append, List.sum_append, rg_sum i]
    show rgE q i + (rgW q i + 0) = rgE q i + rgW q i
    omega
end
def RRing (ds : List Da) (o : XO) : Prop := ∃ ns, Dg ns ∧ ds = [.lst (ns.map .int)] ∧ o = .ok (.tup [.lst (nms (rgW (qf ns)) (rgK (qf ns))), .lst (lws (rgS (qf ns)) 6 (rgK (qf ns))), .int (rgA (qf ns))])
def RRightZ (CZ : Addr) (ds : List Da) (o : XO) : Prop := ∃ k n S u b s τ w beg, Zm k n S u b s τ ∧ (∀ i, i < k → b (i + 1) - b i = n * w i) ∧ (∀ i, i < k → 0 < w i ∧ w i ≤ 1000) ∧ tp (τ k) S < 301 ∧ -1000000 ≤ beg ∧ beg ≤ 1000000 ∧ ds = [.ins CZ (znFs k n b s S u τ), .lst (nms w k), .lst (lws s n k), .int beg] ∧ o = .ok (.bl true)
/-- the tuple told the other way round -/
theorem lw_turned {x n : Int} (hx : 0 < x) (hn : 0 < n) : Da.tup [.int (bt x n), .int (tp x n)] = lw n x := by
  have h1 := tp_pos hn hx
  have h2 := bt_pos x (show n ≠ 0 by omega)
  have w := lw_isW x (show n ≠ 0 by omega)
  have w2 : isW (bt x n) (tp x n) = true := by
    unfold isW at w ⊢
    rw [Bool.and_eq_true_iff] at w ⊢
    exact ⟨decide_eq_true h1, decide_eq_true (by rw [Nat.gcd_comm]; exact of_decide_eq_true w.2)⟩
  rw [← lw_self w2]
  exact (lw_same (by omega) (by omega) (by have := lw_cross x (show n ≠ 0 by omega); rw [Int.mul_comm n, this, Int.mul_comm]))
theorem outs_rng (gf : Nat → Da) (n : Nat) : outs (fun _ => true) gf n = (List.range n).map gf := outs_all (by rw [List.length_map, List.length_range]) fun i hi => by rw [List.getElem?_map, List.getElem?_range hi]; rfl
theorem nms_map (f : Nat → Int) (n : Nat) : nms f n = ((List.range n).map f).map Da.int := by unfold nms; rw [List.map_map]; rfl
theorem LcB.toS {X : Cx} {en : List Sl} {it elt : Expr} {scope : Scope} {out : List Da} {tg : Expr} {ifs : List Expr} {own : List (Str × Nat)} {out2 : List Da} (L : LcB X en tg it elt ifs scope own out) (e : out = out2) : LcB X en tg it elt ifs scope own out2 := e ▸ L
theorem nms_head {f : Nat → Int} {m n : Nat} (h : m ≤ n) : Sky.cutD (nms f n) none (some (m : Int)) = nms f m := by
  have l : (nms f n).length = n := nms_len
  have e : Sky.cutD (nms f n) none (some (m : Int)) = ((nms f n).drop 0).take (min m (nms f n).length - 0) := by
    unfold Sky.cutD
    congr 1
  rw [e, List.drop_zero, Nat.sub_zero, l, Nat.min_eq_left h]
  unfold nms
  rw [← List.map_take, List.take_range, Nat.min_eq_left h]
theorem nms_from {f : Nat → Int} {m n : Nat} : Sky.cutD (nms f (m + n)) (some (m : Int)) none = nms (fun i => f (m + i)) n := by
  have l : (nms f (m + n)).length = m + n := nms_len
  have e1 : HT.sIx (nms f (m + n)).length 0 (some (m : Int)) = m := by
    rw [HT.sIx_nat, l, Nat.min_eq_left (by omega)]
  have e2 : HT.sIx (nms f (m + n)).length (nms f (m + n)).length none = (nms f (m + n)).length := rfl
  unfold Sky.cutD
  rw [e1, e2, l]
  unfold nms
  refine List.ext_getElem? fun i => ?_
  rw [List.getElem?_take, List.getElem?_drop, List.getElem?_map, List.getElem?_map]
  by_cases h : i < n
  · rw [if_pos (by omega), List.getElem?_range (by omega), List.getElem?_range h]; rfl
  · rw [if_neg (by omega), List.getElem?_eq_none (by rw [List.length_range]; omega)]; rfl
/-- worths of many bottoms -/
def wps (w s : Nat → Int) (n : Int) (k : Nat) : List Da := (List.range k).map fun i => lw (w i * n) (s i)
theorem wps_at {w s : Nat → Int} {n : Int} {k i : Nat} (h : i < k) : atI (wps w s n k) (i : Int) = some (lw (w i * n) (s i)) := at_nat (by unfold wps; rw [List.getElem?_map, List.getElem?_range h]; rfl)
theorem wps_len {w s : Nat → Int} {n : Int} {k : Nat} : (wps w s n k).length = k := by unfold wps; rw [List.length_map, List.length_range]
theorem wps_getD {w s : Nat → Int} {n : Int} {k i : Nat} (h : i < k) : (wps w s n k).getD i .non = lw (w i * n) (s i) := by unfold wps; rw [List.getD_eq_getElem?_getD, List.getElem?_map, List.getElem?_range h]; rfl
theorem cnt_le (p : Nat → Bool) (m : Nat) : ∀ d, Sky.cnt p m ≤ Sky.cnt p (m + d)
  | 0 => Nat.le_refl _
  | d + 1 => by
    have := cnt_le p m d
    show _ ≤ Sky.cnt p (m + d) + _
    omega
theorem deq_emp (xs : List Da) (h : xs = [] ∨ ∃ i r, xs = .int i :: r) : deq (.lst xs) (.lst []) = decide (xs = []) := by
  rcases h with rfl | ⟨i, r, rfl⟩
  · rfl
  · rfl
theorem tp_lt {x n : Int} (h : 0 < n) : tp x n < bt x n ↔ x < n := by
  have cr := lw_cross x (show n ≠ 0 by omega)
  have b0 := bt_pos x (show n ≠ 0 by omega)
  constructor
  · intro q
    have := Int.mul_lt_mul_of_pos_right q h
    rw [cr, Int.mul_comm (bt x n) n] at this
    exact Int.lt_of_mul_lt_mul_right this (Int.le_of_lt b0)
  · intro q
    have := Int.mul_lt_mul_of_pos_right q b0
    rw [← cr, Int.mul_comm n] at this
    exact Int.lt_of_mul_lt_mul_right this (Int.le_of_lt h)
end Sky
namespace T01
open PySem L2 Evl PySem.Spec PyProof.Rows Sky
def top (i : Nat) : Stmt := PySem.Challenge.pw_tabletsky_k18_whole_stays_in_zones.main.body.getD i (.Pass ⟨0, 0, 0, 0⟩)
local macro_rules | `(tactic| walk_at "vis") => `(tactic| first
  | exact Or.inl rfl
  | exact Or.inr (Or.inl rfl)
  | exact Or.inr (Or.inr rfl)
  | exact Or.inr rfl)
local macro_rules | `(tactic| walk_at "ev") => `(tactic| first
  | exact ev_int
  | exact ev_bl
  | exact ev_non
  | exact ev_str
  | (apply ev_name; (· rfl); (· walk_at "vis"); (· rfl); (· rfl); (· decide); (· decide))
  | walk_at "evT"
  | walk_at "evC"
  | (apply ev_add; (· walk_at "ev"); (· walk_at "ev"))
  | (apply ev_sub; (· walk_at "ev"); (· walk_at "ev"))
  | (apply ev_mul; (· walk_at "ev"); (· walk_at "ev"); (· walk_at "side"))
  | (apply ev_mod; (· walk_at "ev"); (· walk_at "ev"); (· walk_at "side"))
  | (apply ev_fdivZ; (· walk_at "ev"); (· walk_at "ev"); (· walk_at "sideZ"))
  | (apply ev_fdiv; (· walk_at "ev"); (· walk_at "ev"); (· walk_at "side"))
  | (apply ev_pow; (· walk_at "ev"); (· walk_at "ev"); (· walk_at "side"))
  | (apply ev_neg; (· walk_at "ev"))
  | (apply ev_lt; (· walk_at "ev"); (· walk_at "ev"))
  | (apply ev_le; (· walk_at "ev"); (· walk_at "ev"))
  | (apply ev_gt; (· walk_at "ev"); (· walk_at "ev"))
  | (apply ev_ge; (· walk_at "ev"); (· walk_at "ev"))
  | (apply ev_eq; (· assumption); (· walk_at "ev"); (· walk_at "ev"); (· walk_at "cmp"); (· walk_at "cmp"))
  | (apply ev_ne; (· assumption); (· walk_at "ev"); (· walk_at "ev"); (· walk_at "cmp"); (· walk_at "cmp"))
  | (apply ev_isN; (· walk_at "ev"); (· exact ev_non))
  | (apply ev_notN; (· walk_at "ev"); (· exact ev_non))
  | (apply ev_not; (· walk_at "ev"))
  | (apply ev_one; (· walk_at "ev"))
  | (apply ev_and; (· walk_at "ev"); (· intro _; walk_at "ev"))
  | (apply ev_or; (· walk_at "ev"); (· intro _; walk_at "ev"))
  | (apply ev_tup; (· walk_at "eva"); (· exact Nat.le_of_ble_eq_true rfl))
  | (apply ev_lst; (· walk_at "eva"); (· exact Nat.le_of_ble_eq_true rfl))
  | (apply ev_ixT; (· walk_at "ev"); (· walk_at "ev"); (· exact fun _ _ => rfl); (· walk_at "side"))
  | (apply ev_ixL; (· walk_at "ev"); (· walk_at "ev"); (· exact fun _ _ => rfl); (· walk_at "side"))
  | (apply ev_sl; (· walk_at "ev"); (· walk_at "evo"); (· walk_at "evo"))
  | (apply ev_slT; (· walk_at "ev"); (· walk_at "evo"); (· walk_at "evo"); (· first | decide | exact fun h => nomatch (show (3 : Nat) = 5 from h.2)))
  | (apply ev_ixO; (· rfl); (· walk_at "vis"); (· rfl); (· rfl); (· decide); (· decide); (· walk_at "ev"); (· exact fun _ _ => rfl); (· walk_at "side")))
local macro_rules | `(tactic| walk_at "eva") => `(tactic| first
  | exact eva_nil
  | (apply eva_cons; (· walk_at "ev"); (· walk_at "eva"); (· rfl)))
local macro_rules | `(tactic| walk_at "cmp") => `(tactic| first
  | with_reducible assumption
  | exact cmp_lw
  | exact ⟨rfl, rfl⟩)
local macro_rules | `(tactic| walk_at "side") => `(tactic| first
  | with_reducible assumption
  | rfl
  | decide
  | omega
  | exact ⟨by decide, by decide⟩
  | exact ⟨by decide, by decide, by decide⟩)
local macro_rules | `(tactic| walk_at "sideZ") => `(tactic| first
  | assumption
  | exact gz_div (by assumption) (by assumption) _)
local macro_rules | `(tactic| walk_at "evT") => `(tactic| first
  | (apply ev_ty (n := "int"); (· rfl); (· assumption); (· decide +kernel); (· decide); (· decide))
  | (apply ev_ty (n := "bool"); (· rfl); (· assumption); (· decide +kernel); (· decide); (· decide))
  | (apply ev_ty (n := "tuple"); (· rfl); (· assumption); (· decide +kernel); (· decide); (· decide)))
local macro_rules | `(tactic| walk_at "evC") => `(tactic| first
  | (apply ev_isi; (· assumption); (· walk_at "ev"); (· walk_at "ev"); (· rfl); (· decide +kernel); (· rfl); (· rfl); (· rfl); (· rfl))
  | (apply ev_cb (x := "len") call_len; (· walk_at "eva"); (· (apply rc_len; walk_at "side")); (· rfl); (· assumption); (· decide +kernel); (· decide); (· decide); (· rfl); (· rfl))
  | (apply ev_cb (x := "abs") call_abs; (· walk_at "eva"); (· exact rc_abs); (· rfl); (· assumption); (· decide +kernel); (· decide); (· decide); (· rfl); (· rfl))
  | (apply ev_ct (x := "int") call_int1; (· walk_at "eva"); (· first | exact rc_intB | exact rc_intI); (· rfl); (· assumption); (· decide +kernel); (· decide); (· decide); (· rfl); (· rfl))
  | (apply ev_fldO; (· assumption); (· assumption); (· rfl); (· walk_at "vis"); (· rfl); (· rfl); (· decide); (· decide); (· walk_at "side"); (· rfl))
  | (apply ev_fld; (· assumption); (· assumption); (· walk_at "ev"); (· walk_at "side"); (· rfl))
  | (apply ev_methO; (· assumption); (· assumption); (· decide); (· assumption); (· rfl); (· walk_at "vis"); (· rfl); (· rfl); (· decide); (· decide); (· walk_at "eva"); (· walk_at "fs"); (· rfl); (· rfl); (· rfl); (· rfl); (· rfl))
  | (apply ev_meth; (· assumption); (· assumption); (· decide); (· assumption); (· walk_at "ev"); (· walk_at "eva"); (· walk_at "fs"); (· first | with_reducible assumption | rfl); (· rfl); (· rfl); (· rfl); (· rfl))
  | (apply ev_meth0; (· assumption); (· assumption); (· decide); (· assumption); (· walk_at "ev"); (· walk_at "fs"); (· first | with_reducible assumption | rfl); (· rfl); (· rfl))
  | (apply ev_cf (x := "lcm") cr_lcm4; (· walk_at "eva"); (· apply rc_lcm4; assumption); (· rfl); (· assumption); (· decide); (· rfl); (· rfl))
  | (apply ev_cb (x := "min") (call_min2 (Bd.calm (by assumption))); (· walk_at "eva"); (· exact rc_min2); (· rfl); (· assumption); (· decide +kernel); (· decide); (· decide); (· rfl); (· rfl))
  | (apply ev_cf (x := "gcd") cr_gcd; (· walk_at "eva"); (· exact rc_gcd); (· rfl); (· assumption); (· decide); (· rfl); (· rfl))
  | (apply ev_calK (gD := fun ds es => ds ++ es); (· assumption); (· assumption); (· decide); (· walk_at "eva"); (· walk_at "evk"); (· walk_at "fs"); (· rfl); (· rfl); (· rfl); (· rfl); (· rfl); (· decide); (· rfl); (· rfl))
  | (apply ev_calK0 (gD := fun _ es => es.reverse); (· assumption); (· assumption); (· decide); (· walk_at "evk"); (· walk_at "fs"); (· rfl); (· rfl); (· rfl); (· rfl); (· decide); (· rfl))
  | (apply ev_cal (dds := [_]); (· assumption); (· assumption); (· decide); (· walk_at "eva"); (· walk_at "fs"); (· rfl); (· rfl); (· decide); (· rfl); (· rfl))
  | (apply ev_calR; (· assumption); (· assumption); (· decide); (· walk_at "eva"); (· walk_at "fs"); (· rfl); (· rfl); (· decide); (· rfl); (· rfl))
  | (apply ev_cal (dds := []); (· assumption); (· assumption); (· decide); (· walk_at "eva"); (· walk_at "fs"); (· rfl); (· rfl); (· decide); (· rfl); (· rfl)))
local macro_rules | `(tactic| walk_at "evk") => `(tactic| first
  | exact evk_nil
  | (apply evk_cons; (· walk_at "ev"); (· walk_at "evk")))
local macro_rules | `(tactic| walk_at "fs") => `(tactic| first
  | with_reducible assumption
  | rfl)
local macro_rules | `(tactic| walk_at "nrm") => `(tactic| first
  | (simp only [slots, setAll, List.map_cons, List.map_nil, List.length_cons, List.length_nil, List.replicate, List.cons_append, List.nil_append, List.set_cons_succ, List.set_cons_zero, List.set_nil, Nat.reduceAdd, Nat.reduceSub]; done)
  | (simp only [slots, setAll, List.map_cons, List.map_nil, List.length_cons, List.length_nil, List.replicate, List.cons_append, List.nil_append, List.set_cons_succ, List.set_cons_zero, List.set_nil, Nat.reduceAdd, Nat.reduceSub]; rfl)
  | rfl)
local macro_rules | `(tactic| walk_at "evt") => `(tactic| first
  | (apply evt_not; (· walk_at "evt"))
  | (apply evt_w; (· walk_at "evw"))
  | (apply evt_lt; (· walk_at "ev"); (· walk_at "ev"))
  | (apply evt_le; (· walk_at "ev"); (· walk_at "ev"))
  | (apply evt_gt; (· walk_at "ev"); (· walk_at "ev"))
  | (apply evt_ge; (· walk_at "ev"); (· walk_at "ev"))
  | (apply evt_eq; (· assumption); (· walk_at "ev"); (· walk_at "ev"); (· walk_at "cmp"); (· walk_at "cmp"))
  | (apply evt_ne; (· assumption); (· walk_at "ev"); (· walk_at "ev"); (· walk_at "cmp"); (· walk_at "cmp"))
  | (apply evt_isN; (· walk_at "ev"); (· exact ev_non))
  | (apply evt_notN; (· walk_at "ev"); (· exact ev_non))
  | (apply evt_val; (· walk_at "ev"); (· intro _; rfl)))
local macro_rules | `(tactic| walk_at "evw") => `(tactic| first
  | (apply evw_and1; (· walk_at "evt"))
  | (apply evw_or1; (· walk_at "evt"))
  | (apply evw_and; (· walk_at "evt"); (· intro _; walk_at "evw"))
  | (apply evw_or; (· walk_at "evt"); (· intro _; walk_at "evw")))
local macro_rules | `(tactic| walk_at "set") => `(tactic| first
  | (apply sv_set; (· assumption); (· walk_at "ev"); (· rfl); (· rfl); (· walk_at "vis"); (· exact Or.inl rfl); (· rfl); (· walk_at "nrm")))
local macro_rules | `(tactic| walk_at "gn") => `(tactic| first
  | exact gn_nil
  | (apply gn_cons; (· exact Bd.nd (by assumption)); (· rfl); (· rfl); (· walk_at "vis"); (· exact Or.inl rfl); (· walk_at "gn"); (· rfl)))
local macro_rules | `(tactic| walk_at "unT") => `(tactic| first
  | (apply sv_unT; (· assumption); (· walk_at "ev"); (· walk_at "gn"); (· rfl); (· rfl); (· rfl); (· rfl); (· rfl); (· rfl); (· walk_at "nrm")))
local macro_rules | `(tactic| walk_at "unL") => `(tactic| first
  | (apply sv_unL; (· assumption); (· walk_at "ev"); (· walk_at "gn"); (· rfl); (· rfl); (· rfl); (· rfl); (· rfl); (· rfl); (· walk_at "nrm")))
local macro_rules | `(tactic| walk_at "par") => `(tactic| first
  | (apply sv_par; (· assumption); (· walk_at "eva"); (· rfl); (· rfl); (· rfl); (· rfl); (· decide); (· rfl); (· rfl); (· rfl); (· rfl); (· walk_at "nrm")))
local macro_rules | `(tactic| walk_at "app") => `(tactic| first
  | (apply sv_app; (· rfl); (· walk_at "vis"); (· rfl); (· rfl); (· decide); (· decide); (· walk_at "ev"); (· walk_at "side"); (· exact fun h => pe_bm PySem.F.plainAttrs_list PySem.F.slot_list_append PySem.F.type_list_append mt_append (pv _) (pa_cons h pa_nil)); (· rfl); (· walk_at "nrm")))
local macro_rules | `(tactic| walk_at "fld") => `(tactic| first
  | (apply sv_fldO; (· assumption); (· assumption); (· rfl); (· walk_at "vis"); (· rfl); (· rfl); (· decide); (· decide); (· rfl); (· exact Nat.le_of_ble_eq_true rfl); (· walk_at "ev"); (· rfl); (· walk_at "nrm")))
local macro_rules | `(tactic| walk_at "setL") => `(tactic| first
  | (apply sv_setL; (· assumption); (· walk_at "evl"); (· rfl); (· rfl); (· walk_at "vis"); (· exact Or.inl rfl); (· rfl); (· walk_at "nrm")))
local macro_rules | `(tactic| walk_at "evl") => `(tactic| first
  | (apply evl_lst; (· walk_at "eva"); (· exact Nat.le_of_ble_eq_true rfl))
  | (apply evl_sl; (· walk_at "ev"); (· walk_at "evo"); (· walk_at "evo")))
local macro_rules | `(tactic| walk_at "evo") => `(tactic| first
  | exact evo_none
  | (apply evo_some; (· walk_at "ev")))
section
variable {P : Program} {w : World} {K : PySem.W.Frag} {mg : Str → Option Value} {base : Heap} {f : Addr} {fd : FuncData} {CW CL : Addr}
local macro_rules | `(tactic| walk_at "evT") => `(tactic| (apply ev_ty (n := "list"); (· rfl); (· assumption); (· decide +kernel); (· decide); (· decide)))
local macro_rules | `(tactic| walk_at "evC") => `(tactic| first
  | (apply ev_slT; (· walk_at "ev"); (· walk_at "evo"); (· walk_at "evo"); (· exact fun h => nomatch (show (3 : Nat) = 4 from h.2)))
  | (apply ev_methR; (· assumption); (· assumption); (· decide); (· assumption); (· walk_at "ev"); (· walk_at "eva"); (· walk_at "fs"); (· first | with_reducible assumption | rfl); (· rfl); (· rfl); (· rfl); (· rfl))
  | (apply ev_methR0; (· assumption); (· assumption); (· decide); (· assumption); (· walk_at "ev"); (· walk_at "fs"); (· first | with_reducible assumption | rfl); (· rfl); (· rfl)))
theorem sc_is_whole : FnScope ["thing"] ["thing"] (defScope (top 10)) := ⟨rfl, rfl, rfl, by decide +kernel, rfl, by decide +kernel, by decide +kernel⟩
theorem ok_is_whole (m1 : mg "isinstance" = none) (m2 : mg "int" = none) (m3 : mg "bool" = none) (F : Fun K "is_whole" "is_whole" (top 10) f fd) : FnOk P w K mg base (L2.CX P w) 1 f fd ["thing"] (spD K 1 fIsWhole) := by
  refine fn_d F sc_is_whole _ fun cdv A outer s H E ds o Bx hl hf => ?_
  match ds, hl with
  | [d], _ =>
  cases d with
  | ty n => cases hf
  | cls n => cases hf
  | ins n _ => cases hf
  | int i =>
    cases hf
    exact ⟨_, .rt _, svs_one (sv_ret (ev_andT (EV.is (by walk_at "ev") (by decide +kernel)) (EV.is (by walk_at "ev") (by decide +kernel))))⟩
  | bl i =>
    cases hf
    exact ⟨_, .rt _, svs_one (sv_ret (ev_andT (EV.is (by walk_at "ev") (by decide +kernel)) (EV.is (by walk_at "ev") (by decide +kernel))))⟩
  | _ =>
    cases hf
    exact ⟨_, .rt _, svs_one (sv_ret (ev_andF (EV.is (by walk_at "ev") (by decide +kernel))))⟩
theorem sc_worth : FnScope ["top", "bottom", "shared"] ["top", "bottom"] (defScope (top 11)) := ⟨rfl, rfl, rfl, by decide +kernel, rfl, by decide +kernel, by decide +kernel⟩
theorem ok_worth (m1 : mg "gcd" = some (.builtin "math.gcd")) (c1 : Cal P w K mg base "is_whole" 1 ["thing"] [] fIsWhole) (xW : ExF K mg "NoWorth" CW) (F : FunDS K "worth" "worth" (top 11) [.int 1] [] f fd) : FnOk P w K mg base (L2.CX P w) 2 f fd ["top", "bottom"] (spD K 2 (fWorth CW)) := by
  refine fn_dD F sc_worth _ fun cdv A outer s H E ds o Bx hl hf => ?_
  match ds, hl with
  | [d1, d2], _ =>
  cases q1 : isWholeD d1 with
  | none => simp only [fWorth, q1] at hf; cases hf
  | some b1 =>
  cases q2 : isWholeD d2 with
  | none => simp only [fWorth, q1, q2] at hf; cases b1 <;> cases hf
  | some b2 =>
  have w1 := whole_some q1
  have w2 := whole_some q2
  cases b1 with
  | false =>
    simp only [fWorth, q1, q2] at hf
    cases hf
    exact ⟨_, .rx (slots _ _) _ _, svs_stop (sv_ifT (evt_w (evw_orT (EVT.is (by walk_at "evt") (by rfl)))) (svs_one (sv_raise Bx xW (by rfl) (by decide)))) (fun _ z => by cases z)⟩
  | true =>
  cases b2 with
  | false =>
    simp only [fWorth, q1, q2] at hf
    cases hf
    exact ⟨_, .rx (slots _ _) _ _, svs_stop (sv_ifT (evt_w (evw_orF (EVT.is (by walk_at "evt") (by rfl)) (evw_orT (EVT.is (by walk_at "evt") (by rfl))))) (svs_one (sv_raise Bx xW (by rfl) (by decide)))) (fun _ z => by cases z)⟩
  | true =>
  obtain ⟨a, rfl⟩ := whole_int q1
  obtain ⟨b, rfl⟩ := whole_int q2
  simp only [fWorth, q1, q2] at hf
  by_cases hb : b = 0
  · rw [if_pos hb] at hf
    cases hf
    exact ⟨_, .rx (slots _ _) _ _, svs_stop (sv_ifT (evt_w (evw_orF (EVT.is (by walk_at "evt") (by rfl)) (evw_orF (EVT.is (by walk_at "evt") (by rfl)) (evw_or1 (EVT.is (by walk_at "evt") (by rw [hb]; rfl)))))) (svs_one (sv_raise Bx xW (by rfl) (by decide)))) (fun _ z => by cases z)⟩
  · rw [if_neg hb] at hf
    by_cases hs : Small b
    · rw [if_pos hs] at hf
      cases hf
      refine ⟨_, .rt _, svs_cons (sv_ifF (evt_w (evw_orF (EVT.is (by walk_at "evt") (by rfl)) (evw_orF (EVT.is (by walk_at "evt") (by rfl)) (evw_or1 (EVT.is (by walk_at "evt") ?_))))) svs_nil) (svs_cons (e1 := [.da (.int a), .da (.int b), .da (.int ((Nat.gcd a.natAbs b.natAbs : Nat) : Int))]) (by walk_at "set") (svs_cons (e1 := [.da (.int a), .da (.int b), .da (.int (gz a b))]) ?_ (svs_one (sv_ret ?_))))⟩
      · show (b == 0) = false
        simpa using hb
      · by_cases hn : b < 0
        · have e : gz a b = -((Nat.gcd a.natAbs b.natAbs : Nat) : Int) := if_pos hn
          rw [e]
          exact sv_ifT (EVT.is (by walk_at "evt") (by simpa using hn)) (svs_one (by walk_at "set"))
        · have e : gz a b = ((Nat.gcd a.natAbs b.natAbs : Nat) : Int) := if_neg hn
          rw [e]
          exact sv_ifF (EVT.is (by walk_at "evt") (by simpa using hn)) svs_nil
      · unfold lw
        walk_at "ev"
    · rw [if_neg hs] at hf
      cases hf
theorem sc_is_tuple : FnScope ["thing", "many"] ["thing", "many"] (defScope (top 8)) := ⟨rfl, rfl, rfl, by decide +kernel, rfl, by decide +kernel, by decide +kernel⟩
theorem ok_is_tuple (m1 : mg "isinstance" = none) (m2 : mg "tuple" = none) (m3 : mg "len" = none) (F : Fun K "is_tuple" "is_tuple" (top 8) f fd) : FnOk P w K mg base (L2.CX P w) 1 f fd ["thing", "many"] (spD K 2 fIsTuple) := by
  refine fn_d F sc_is_tuple _ fun cdv A outer s H E ds o Bx hl hf => ?_
  match ds, hl with
  | [d, e], _ =>
  cases e with
  | int m =>
    cases d with
    | ty n => cases hf
    | cls n => cases hf
    | ins n _ => cases hf
    | tup ds =>
      cases hf
      exact ⟨_, .rt _, svs_one (sv_ret (ev_andT (EV.is (by walk_at "ev") (by decide +kernel)) (ev_one (EV.is (by walk_at "ev") (by rfl)))))⟩
    | _ =>
      cases hf
      exact ⟨_, .rt _, svs_one (sv_ret (ev_andF (EV.is (by walk_at "ev") (by decide +kernel))))⟩
  | _ => cases d <;> cases hf
theorem sc_is_worth : FnScope ["thing", "top", "bottom"] ["thing"] (defScope (top 12)) := ⟨rfl, rfl, rfl, by decide +kernel, rfl, by decide +kernel, by decide +kernel⟩
theorem ok_is_worth (m4 : mg "gcd" = some (.builtin "math.gcd")) (c1 : Cal P w K mg base "is_whole" 1 ["thing"] [] fIsWhole) (c2 : Cal P w K mg base "is_tuple" 1 ["thing", "many"] [] fIsTuple) (F : Fun K "is_worth" "is_worth" (top 12) f fd) : FnOk P w K mg base (L2.CX P w) 2 f fd ["thing"] (spD K 1 fIsWorth) := by
  refine fn_d F sc_is_worth _ fun cdv A outer s H E ds o Bx hl hf => ?_
  match ds, hl with
  | [d], _ =>
  have no : isTupD d 2 = some false → isWorthD d = some false → ∃ ou, Leads ou o ∧ SVs (XB P w K mg base ["thing", "top", "bottom"] "is_worth" (top 12) f cdv A outer s H E) (WD E) (slots ["thing", "top", "bottom"] [d]) (defBody (top 12)) ou := fun q q2 => by
    have t1 := tuple_some q
    have hf2 : (isWorthD d).map (fun b => XO.ok (.bl b)) = some o := hf
    rw [q2] at hf2
    cases hf2
    exact ⟨_, .rt _, svs_stop (sv_ifT (EVT.is (u := !false) (by walk_at "evt") rfl) (svs_one (sv_ret ev_bl))) (fun _ z => by cases z)⟩
  cases d with
  | ty n => cases hf
  | cls n => cases hf
  | ins n _ => cases hf
  | tup ds =>
    match ds, hf with
    | [], hf => exact no rfl rfl
    | [_], hf => exact no rfl rfl
    | _ :: _ :: _ :: r, hf =>
      exact no (congrArg some (decide_eq_false (by simp only [List.length_cons]; omega))) rfl
    | [a, b], hf =>
      have t1 : fIsTuple ([.tup [a, b], .int 2] ++ []) = some (.ok (.bl true)) := rfl
      have hf2 : (isWorthD (.tup [a, b])).map (fun b => XO.ok (.bl b)) = some o := hf
      cases q : isWorthD (.tup [a, b]) with
      | none => rw [q] at hf2; cases hf2
      | some r =>
      rw [q] at hf2
      cases hf2
      refine ⟨_, .rt _, svs_cons (e1 := [.da (.tup [a, b]), .no, .no]) (sv_ifF (EVT.is (u := !true) (by walk_at "evt") rfl) svs_nil) (svs_cons (e1 := [.da (.tup [a, b]), .da a, .da b]) ?_ (svs_one (sv_ret ?_)))⟩
      · walk_at "unT"
      · cases q1 : isWholeD a with
        | none => simp only [isWorthD, q1] at q; cases q
        | some u =>
        cases q2 : isWholeD b with
        | none => simp only [isWorthD, q1, q2] at q; cases u <;> cases q
        | some v =>
        have w1 := whole_some q1
        have w2 := whole_some q2
        cases u with
        | false =>
          simp only [isWorthD, q1, q2] at q
          cases q
          exact ev_andF (by walk_at "ev")
        | true =>
        refine ev_andT (by walk_at "ev") ?_
        cases v with
        | false =>
          simp only [isWorthD, q1, q2] at q
          cases q
          exact ev_andF (by walk_at "ev")
        | true =>
        refine ev_andT (by walk_at "ev") ?_
        obtain ⟨i, rfl⟩ := whole_int q1
        obtain ⟨j, rfl⟩ := whole_int q2
        rw [isWorthD_int] at q
        cases q
        unfold isW
        by_cases h0 : 0 < j
        · rw [decide_eq_true h0, Bool.true_and]
          refine ev_andT (EV.is (by walk_at "ev") (decide_eq_true h0)) (ev_one (EV.is (by walk_at "ev") ?_))
          rw [deq_int]
          by_cases h1 : Nat.gcd i.natAbs j.natAbs = 1
          · rw [decide_eq_true h1, h1]
            rfl
          · rw [decide_eq_false h1, beq_eq_false_iff_ne]
            omega
        · rw [decide_eq_false h0, Bool.false_and]
          exact ev_andF (EV.is (by walk_at "ev") (decide_eq_false h0))
  | _ => exact no rfl rfl
theorem sc__refuse_others : FnScope ["one", "other"] ["one", "other"] (defScope (top 13)) := ⟨rfl, rfl, rfl, by decide +kernel, rfl, by decide +kernel, by decide +kernel⟩
theorem ok_refuse (c1 : Cal P w K mg base "is_worth" 2 ["thing"] [] fIsWorth) (xW : ExF K mg "NoWorth" CW) (F : Fun K "_refuse_others" "_refuse_others" (top 13) f fd) : FnOk P w K mg base (L2.CX P w) 3 f fd ["one", "other"] (spD K 2 (fRefuse CW)) := by
  refine fn_d F sc__refuse_others _ fun cdv A outer s H E ds o Bx hl hf => ?_
  match ds, hl with
  | [d1, d2], _ =>
  cases q1 : isWorthD d1 with
  | none => simp only [fRefuse, q1] at hf; cases hf
  | some b1 =>
  have w1 := worth_some q1
  cases b1 with
  | false =>
    simp only [fRefuse, q1] at hf
    cases hf
    exact ⟨_, .rx (slots _ _) _ _, svs_one (sv_ifT (evt_w (evw_orT (EVT.is (by walk_at "evt") (by rfl)))) (svs_one (sv_raise Bx xW (by rfl) (by decide))))⟩
  | true =>
  cases q2 : isWorthD d2 with
  | none => simp only [fRefuse, q1, q2] at hf; cases hf
  | some b2 =>
  have w2 := worth_some q2
  cases b2 with
  | false =>
    simp only [fRefuse, q1, q2] at hf
    cases hf
    exact ⟨_, .rx (slots _ _) _ _, svs_one (sv_ifT (evt_w (evw_orF (EVT.is (by walk_at "evt") (by rfl)) (evw_or1 (EVT.is (by walk_at "evt") (by rfl))))) (svs_one (sv_raise Bx xW (by rfl) (by decide))))⟩
  | true =>
    simp only [fRefuse, q1, q2] at hf
    cases hf
    exact ⟨_, .nx (slots _ _), svs_one (sv_ifF (evt_w (evw_orF (EVT.is (by walk_at "evt") (by rfl)) (evw_or1 (EVT.is (by walk_at "evt") (by rfl))))) svs_nil)⟩
theorem sc_plus : FnScope ["one", "other"] ["one", "other"] (defScope (top 15)) := ⟨rfl, rfl, rfl, by decide +kernel, rfl, by decide +kernel, by decide +kernel⟩
theorem ok_plus (c1 : Cal P w K mg base "_refuse_others" 3 ["one", "other"] [] (fRefuse CW)) (c2 : Cal P w K mg base "worth" 2 ["top", "bottom"] [] (fWorth CW)) (F : Fun K "plus" "plus" (top 15) f fd) : FnOk P w K mg base (L2.CX P w) 4 f fd ["one", "other"] (spD K 2 (fTwo gPlus)) := by
  refine fn_d F sc_plus _ fun cdv A outer s H E ds o Bx hl hf => ?_
  obtain ⟨a, b, c, d, rfl, T, hg⟩ := fTwo_inv hf
  have T' := T
  obtain ⟨t1, t2, t3, t4, t5, t6⟩ := T'
  have p1 := isW_pos t1
  have p2 := isW_pos t2
  have r1 := refuse_ok (C := CW) t1 t2
  have m1 := bn_mul t3 t6
  have m2 := bn_mul t5 t4
  have m3 := bn_mul t4 t6
  have h0 := mul_ne p1 p2
  have h1 : Small (b * d) := small_prod t4 t6
  have w1 := fWorth_ok (C := CW) (a := a * d + c * b) h0 h1
  cases hg
  exact ⟨_, .rt _, svs_cons (sv_expr (by walk_at "ev") (by rfl)) (svs_one (sv_ret (by walk_at "ev")))⟩
theorem sc_minus : FnScope ["one", "other"] ["one", "other"] (defScope (top 16)) := ⟨rfl, rfl, rfl, by decide +kernel, rfl, by decide +kernel, by decide +kernel⟩
theorem ok_minus (c1 : Cal P w K mg base "_refuse_others" 3 ["one", "other"] [] (fRefuse CW)) (c2 : Cal P w K mg base "worth" 2 ["top", "bottom"] [] (fWorth CW)) (F : Fun K "minus" "minus" (top 16) f fd) : FnOk P w K mg base (L2.CX P w) 4 f fd ["one", "other"] (spD K 2 (fTwo gMinus)) := by
  refine fn_d F sc_minus _ fun cdv A outer s H E ds o Bx hl hf => ?_
  obtain ⟨a, b, c, d, rfl, T, hg⟩ := fTwo_inv hf
  have T' := T
  obtain ⟨t1, t2, t3, t4, t5, t6⟩ := T'
  have p1 := isW_pos t1
  have p2 := isW_pos t2
  have r1 := refuse_ok (C := CW) t1 t2
  have m1 := bn_mul t3 t6
  have m2 := bn_mul t5 t4
  have m3 := bn_mul t4 t6
  have h0 := mul_ne p1 p2
  have h1 : Small (b * d) := small_prod t4 t6
  have w1 := fWorth_ok (C := CW) (a := a * d - c * b) h0 h1
  cases hg
  exact ⟨_, .rt _, svs_cons (sv_expr (by walk_at "ev") (by rfl)) (svs_one (sv_ret (by walk_at "ev")))⟩
theorem sc_times : FnScope ["one", "other"] ["one", "other"] (defScope (top 17)) := ⟨rfl, rfl, rfl, by decide +kernel, rfl, by decide +kernel, by decide +kernel⟩
theorem ok_times (c1 : Cal P w K mg base "_refuse_others" 3 ["one", "other"] [] (fRefuse CW)) (c2 : Cal P w K mg base "worth" 2 ["top", "bottom"] [] (fWorth CW)) (F : Fun K "times" "times" (top 17) f fd) : FnOk P w K mg base (L2.CX P w) 4 f fd ["one", "other"] (spD K 2 (fTwo gTimes)) := by
  refine fn_d F sc_times _ fun cdv A outer s H E ds o Bx hl hf => ?_
  obtain ⟨a, b, c, d, rfl, T, hg⟩ := fTwo_inv hf
  have T' := T
  obtain ⟨t1, t2, t3, t4, t5, t6⟩ := T'
  have p1 := isW_pos t1
  have p2 := isW_pos t2
  have r1 := refuse_ok (C := CW) t1 t2
  have m1 := bn_mul t3 t5
  have m3 := bn_mul t4 t6
  have h0 := mul_ne p1 p2
  have h1 : Small (b * d) := small_prod t4 t6
  have w1 := fWorth_ok (C := CW) (a := a * c) h0 h1
  cases hg
  exact ⟨_, .rt _, svs_cons (sv_expr (by walk_at "ev") (by rfl)) (svs_one (sv_ret (by walk_at "ev")))⟩
theorem sc_over : FnScope ["one", "other"] ["one", "other"] (defScope (top 18)) := ⟨rfl, rfl, rfl, by decide +kernel, rfl, by decide +kernel, by decide +kernel⟩
theorem ok_over (c1 : Cal P w K mg base "_refuse_others" 3 ["one", "other"] [] (fRefuse CW)) (c2 : Cal P w K mg base "worth" 2 ["top", "bottom"] [] (fWorth CW)) (F : Fun K "over" "over" (top 18) f fd) : FnOk P w K mg base (L2.CX P w) 4 f fd ["one", "other"] (spD K 2 (fTwo (gOver CW))) := by
  refine fn_d F sc_over _ fun cdv A outer s H E ds o Bx hl hf => ?_
  obtain ⟨a, b, c, d, rfl, T, hg⟩ := fTwo_inv hf
  have T' := T
  obtain ⟨t1, t2, t3, t4, t5, t6⟩ := T'
  have p1 := isW_pos t1
  have p2 := isW_pos t2
  have r1 := refuse_ok (C := CW) t1 t2
  have m1 := bn_mul t3 t6
  have m3 := bn_mul t4 t5
  unfold gOver at hg
  by_cases hb : b * c = 0
  · rw [if_pos hb] at hg
    cases hg
    have w1 := fWorth_no (C := CW) (a := a * d) hb
    exact ⟨_, .rx _ _ _, svs_cons (sv_expr (by walk_at "ev") (by rfl)) (svs_one (sv_retX (by walk_at "ev")))⟩
  · rw [if_neg hb] at hg
    have w1 := fWorth_ok (C := CW) (a := a * d) hb (small_prod t4 t5)
    cases hg
    exact ⟨_, .rt _, svs_cons (sv_expr (by walk_at "ev") (by rfl)) (svs_one (sv_ret (by walk_at "ev")))⟩
theorem sc_is_less : FnScope ["one", "other"] ["one", "other"] (defScope (top 19)) := ⟨rfl, rfl, rfl, by decide +kernel, rfl, by decide +kernel, by decide +kernel⟩
theorem ok_is_less (c1 : Cal P w K mg base "_refuse_others" 3 ["one", "other"] [] (fRefuse CW)) (c2 : Cal P w K mg base "worth" 2 ["top", "bottom"] [] (fWorth CW)) (F : Fun K "is_less" "is_less" (top 19) f fd) : FnOk P w K mg base (L2.CX P w) 4 f fd ["one", "other"] (spD K 2 (fTwo gLess)) := by
  refine fn_d F sc_is_less _ fun cdv A outer s H E ds o Bx hl hf => ?_
  obtain ⟨a, b, c, d, rfl, T, hg⟩ := fTwo_inv hf
  have T' := T
  obtain ⟨t1, t2, t3, t4, t5, t6⟩ := T'
  have p1 := isW_pos t1
  have p2 := isW_pos t2
  have r1 := refuse_ok (C := CW) t1 t2
  have m1 := bn_mul t3 t6
  have m2 := bn_mul t5 t4
  cases hg
  exact ⟨_, .rt _, svs_cons (sv_expr (by walk_at "ev") (by rfl)) (svs_one (sv_ret (by walk_at "ev")))⟩
theorem sc_above : FnScope ["thing"] ["thing"] (defScope (top 14)) := ⟨rfl, rfl, rfl, by decide +kernel, rfl, by decide +kernel, by decide +kernel⟩
theorem ok_above (cI : Cal P w K mg base "is_worth" 2 ["thing"] [] fIsWorth) (F : Fun K "is_above_nought" "is_above_nought" (top 14) f fd) : FnOk P w K mg base (L2.CX P w) 3 f fd ["thing"] (spD K 1 fAbove) := by
  refine fn_d F sc_above _ fun cdv A outer s H E ds o Bx hl hf => ?_
  obtain ⟨d, rfl, ⟨q, rfl⟩ | ⟨a, b, rfl, q, rfl⟩⟩ := fAbove_inv hf
  · have t := worth_some q
    exact ⟨_, .rt _, svs_one (sv_ret (ev_andF (by walk_at "ev")))⟩
  · have t := worth_int q
    exact ⟨_, .rt _, svs_one (sv_ret (ev_andT (by walk_at "ev") (ev_one (EV.is (by walk_at "ev") rfl))))⟩
theorem sc_digits : FnScope ["_law_cell_here", "_law_many", "_law_row", "_law_rest", "_law_number", "_law_k"] ["_law_cell_here", "_law_many"] (defScope (top 29)) := ⟨rfl, rfl, rfl, by decide +kernel, rfl, by decide +kernel, by decide +kernel⟩
theorem ok_digits (m1 : mg "range" = none) (F : Fun K "_law_digits" "_law_digits" (top 29) f fd) : FnOk P w K mg base (L2.CX P w) 1 f fd ["_law_cell_here", "_law_many"] (spD K 2 fDigits) := by
  refine fn_d F sc_digits _ fun cdv A outer s H E ds o Bx hl hf => ?_
  obtain ⟨c, n, rfl, hn, rfl⟩ := fDigits_inv hf
  refine ⟨_, .rt _, svs_cons (e1 := [.da (.int c), .da (.int n), .own [], .no, .no, .no]) (by walk_at "setL") (svs_cons (e1 := [.da (.int c), .da (.int n), .own [], .da (.int 0), .no, .no]) (by walk_at "set") (svs_cons (e1 := [.da (.int c), .da (.int n), .own [], .da (.int (restD c 0)), .no, .no]) ?_ (svs_cons (e1 := [.da (.int c), .da (.int n), .own [], .da (.int (restD c 0)), .da (.int (numD c 0)), .no]) (by walk_at "set") (svs_cons (e1 := [.da (.int c), .da (.int n), .own ((digs c n).map .int), .da (.int (restD c n)), .da (.int (numD c n)), .no]) ?_ (svs_freeze (n := 2) rfl (svs_one (sv_ret (by walk_at "ev"))))))))⟩
  · by_cases h : 10 ^ 18 ≤ c
    · have e : restD c 0 = c := if_pos h
      rw [e]
      exact sv_ifT (EVT.is (by walk_at "evt") (by simpa using h)) (svs_one (by walk_at "set"))
    · have e : restD c 0 = 0 := if_neg h
      rw [e]
      exact sv_ifF (EVT.is (by walk_at "evt") (by simpa using h)) svs_nil
  · apply sv_forR Bx (fun i => [.da (.int c), .da (.int n), .own ((digs c i).map .int), .da (.int (restD c i)), .da (.int (numD c i)), .no]) (m := n)
    · rfl
    · rfl
    · walk_at "vis"
    · exact Or.inl rfl
    · exact m1
    · walk_at "eva"
    · omega
    · rfl
    · rfl
    · rfl
    · intro i hi
      have nb := numD_bd c i
      have l1 : ((digs c i).map Da.int).length < 100000 := by rw [List.length_map, digs_len]; omega
      have x1 : CMulW (numD c i) 48271 := cm64 (by omega) (by decide)
      have x2 : CMulW 30103 (i : Int) := cm64 (by decide) (by omega)
      have y0 : 0 ≤ (numD c i * 48271 + 30103 * (i : Int) + 11) % 2147483647 := Int.emod_nonneg _ (by decide)
      have y1 : (numD c i * 48271 + 30103 * (i : Int) + 11) % 2147483647 < 2147483647 := Int.emod_lt_of_pos _ (by decide)
      have x3 : CMulW ((numD c i * 48271 + 30103 * (i : Int) + 11) % 2147483647) (((numD c i * 48271 + 30103 * (i : Int) + 11) % 2147483647) / 1009 + 69621) := cm64 (by omega) (by omega)
      refine svs_weak (svs_cons (by walk_at "set") (svs_cons (e1 := [.da (.int c), .da (.int n), .own ((digs c i).map .int), .da (.int (restD c i)), .da (.int (numD c (i + 1))), .da (.int i)]) (by walk_at "set") (svs_one (ou := .nx [.da (.int c), .da (.int n), .own ((digs c (i + 1)).map .int), .da (.int (restD c (i + 1))), .da (.int (numD c (i + 1))), .da (.int i)]) ?_))) (.eq (.eq (.eq (.eq (.eq (.no .nil))))))
      rw [digs_succ, List.map_append]
      by_cases h : 0 < restD c i
      · have e1 : restD c (i + 1) = restD c i / 1009 := if_pos h
        have e2 : digD c i = restD c i % 1009 := if_pos h
        rw [e1, e2]
        refine sv_ifT (EVT.is (by walk_at "evt") (decide_eq_true h)) (svs_cons (e1 := [.da (.int c), .da (.int n), .own ((digs c i).map .int ++ [.int (restD c i % 1009)]), .da (.int (restD c i)), .da (.int (numD c (i + 1))), .da (.int i)]) (by walk_at "app") (svs_one (by walk_at "set")))
      · have e1 : restD c (i + 1) = restD c i := if_neg h
        have e2 : digD c i = numD c (i + 1) / 7 % 1009 := if_neg h
        rw [e1, e2]
        exact sv_ifF (EVT.is (by walk_at "evt") (decide_eq_false h)) (svs_one (by walk_at "app"))
theorem sc_low : FnScope ["_law_upper", "_law_lower", "_law_one", "_law_other"] ["_law_upper", "_law_lower"] (defScope (top 30)) := ⟨rfl, rfl, rfl, by decide +kernel, rfl, by decide +kernel, by decide +kernel⟩
theorem ok_low (m1 : mg "abs" = none) (F : Fun K "_law_low" "_law_low" (top 30) f fd) : FnOk P w K mg base (L2.CX P w) 1 f fd ["_law_upper", "_law_lower"] (spD K 2 fLow) := by
  refine fn_d F sc_low _ fun cdv A outer s H E ds o Bx hl hf => ?_
  obtain ⟨a, b, rfl, hb, hs, rfl⟩ := fLow_inv hf
  refine ⟨_, .rt _, svs_cons (e1 := [.da (.int a), .da (.int b), .da (.int (a.natAbs : Int)), .da (.int (b.natAbs : Int))]) (by walk_at "par") ?_⟩
  apply svs_whileP Bx (fun p : Nat × Nat => [.da (.int a), .da (.int b), .da (.int (p.1 : Int)), .da (.int (p.2 : Int))]) (fun p => decide (0 < p.2)) (fun p => p.2) (fun p => Nat.gcd p.1 p.2 = Nat.gcd a.natAbs b.natAbs) (a.natAbs, b.natAbs) rfl rfl
  · rintro ⟨x, y⟩ hp hy
    have hy' : 0 < y := of_decide_eq_true hy
    have hy2 : (0 : Int) < (y : Int) := by omega
    refine ⟨EVT.is (by walk_at "evt") (decide_eq_true hy2), (y, x % y), ?_, Nat.mod_lt _ hy', svs_one (by walk_at "par")⟩
    show Nat.gcd y (x % y) = _
    rw [← hp]
    show Nat.gcd y (x % y) = Nat.gcd x y
    rw [Nat.gcd_comm x y, Nat.gcd_rec y x, Nat.gcd_comm]
  · rintro ⟨x, y⟩ hp hy
    have hy' : ¬ 0 < y := of_decide_eq_false hy
    exact EVT.is (by walk_at "evt") (decide_eq_false (by omega))
  · rintro ⟨x, y⟩ hp hy
    have hy' : ¬ 0 < y := of_decide_eq_false hy
    have y0 : y = 0 := by omega
    subst y0
    have hx : x = Nat.gcd a.natAbs b.natAbs := by
      have q : Nat.gcd x 0 = Nat.gcd a.natAbs b.natAbs := hp
      rwa [Nat.gcd_zero_right] at q
    subst hx
    refine svs_cons (e1 := [.da (.int a), .da (.int b), .da (.int (gz a b)), .da (.int ((0 : Nat) : Int))]) ?_ (svs_one (sv_ret ?_))
    · by_cases hn : b < 0
      · have e : gz a b = 0 - ((Nat.gcd a.natAbs b.natAbs : Nat) : Int) := by unfold gz; rw [if_pos hn]; omega
        rw [e]
        exact sv_ifT (EVT.is (by walk_at "evt") (decide_eq_true hn)) (svs_one (by walk_at "set"))
      · have e : gz a b = ((Nat.gcd a.natAbs b.natAbs : Nat) : Int) := if_neg hn
        rw [e]
        exact sv_ifF (EVT.is (by walk_at "evt") (decide_eq_false hn)) svs_nil
    · unfold lw
      walk_at "ev"
theorem sc__law_by : FnScope ["_law_one", "_law_other"] ["_law_one", "_law_other"] (defScope (top 33)) := ⟨rfl, rfl, rfl, by decide +kernel, rfl, by decide +kernel, by decide +kernel⟩
theorem ok__law_by (c1 : Cal P w K mg base "_law_low" 1 ["_law_upper", "_law_lower"] [] fLow) (F : Fun K "_law_by" "_law_by" (top 33) f fd) : FnOk P w K mg base (L2.CX P w) 2 f fd ["_law_one", "_law_other"] (spD K 2 (fTwoL gTimes)) := by
  refine fn_d F sc__law_by _ fun cdv A outer s H E ds o Bx hl hf => ?_
  obtain ⟨a, b, c, d, rfl, T, hg⟩ := fTwoL_inv hf
  obtain ⟨p1, p2, t3, t4, t5, t6⟩ := T
  have m1 := bn_mul t3 t5
  have m3 := bn_mul t4 t6
  have w1 := fLow_ok (a := a * c) (Int.mul_ne_zero p1 p2) (small_prod t4 t6)
  cases hg
  exact ⟨_, .rt _, svs_one (sv_ret (by walk_at "ev"))⟩

theorem sc_is_list : FnScope ["thing", "least", "most"] ["thing", "least", "most"] (defScope (top 7)) := ⟨rfl, rfl, rfl, by decide +kernel, rfl, by decide +kernel, by decide +kernel⟩
theorem ok_is_list (m1 : mg "isinstance" = none) (m2 : mg "list" = none) (m3 : mg "len" = none) (F : Fun K "is_list" "is_list" (top 7) f fd) : FnOk P w K mg base (L2.CX P w) 1 f fd ["thing", "least", "most"] (spD K 3 fIsList) := by
  refine fn_d F sc_is_list _ fun cdv A outer s H E ds o Bx hl hf => ?_
  match ds, hl with
  | [d, e1, e2], _ =>
  cases e1 with
  | int lo =>
    cases e2 with
    | int hi =>
      cases d with
      | ty n => cases hf
      | cls n => cases hf
      | ins n _ => cases hf
      | lst xs =>
        cases hf
        exact ⟨_, .rt _, svs_one (sv_ret (ev_andT (EV.is (by walk_at "ev") (by decide +kernel)) (ev_one (ev_le2 (by walk_at "ev") (by walk_at "ev") (by walk_at "ev") (by with_unfolding_all rfl)))))⟩
      | _ =>
        cases hf
        exact ⟨_, .rt _, svs_one (sv_ret (ev_andF (EV.is (by walk_at "ev") (by decide +kernel))))⟩
    | _ => cases d <;> cases hf
  | _ => cases d <;> cases e2 <;> cases hf

theorem sc_areb : FnScope ["thing", "ring", "ends", "border", "end"] ["thing", "ring"] (defScope (top 23)) := ⟨rfl, rfl, rfl, by decide +kernel, rfl, by decide +kernel, by decide +kernel⟩
theorem ok_areb {vN : V} {wN : Value} {t12 : Tok} (g12 : mg "MOST_ZONES" = some (.int 12 t12)) (gN : mg "NOUGHT" = some wN) (rN : RelV vN wN) (dN : ∀ B, Dr K B vN (.tup [.int 0, .int 1])) (mA : mg "all" = none) (mZ : mg "zip" = none)
    (cL : Cal P w K mg base "is_list" 1 ["thing", "least", "most"] [] fIsList) (cI : Cal P w K mg base "is_worth" 2 ["thing"] [] fIsWorth) (cS : Cal P w K mg base "is_less" 4 ["one", "other"] [] (fTwo gLess)) (F : Fun K "are_borders" "are_borders" (top 23) f fd) : FnOk P w K mg base (L2.CX P w) 5 f fd ["thing", "ring"] (spR K 2 RAreB) := by
  refine fn_r F sc_areb _ fun cdv A outer s H E ds o Bx hl hf => ?_
  obtain ⟨k, n, b, s', a, M, ZN, rfl, rfl⟩ := hf
  have n0 := ZN.n0
  have nn : n ≠ 0 := by omega
  have Zm := ZN.made.1
  have bN := Zm.bn
  have gl : ∀ {en : List Sl} {p : Pos}, EV (XB P w K mg base ["thing", "ring", "ends", "border", "end"] "are_borders" (top 23) f cdv A outer s H E) (WD E) en (.Name "MOST_ZONES" p) (.ok (.int 12)) := fun {en p} => ev_glob (v := .int 12) (by rfl) g12 ⟨_, rfl⟩ (by decide) (fun _ => .int _)
  have gn : ∀ {en : List Sl} {p : Pos}, EV (XB P w K mg base ["thing", "ring", "ends", "border", "end"] "are_borders" (top 23) f cdv A outer s H E) (WD E) en (.Name "NOUGHT" p) (.ok (.tup [.int 0, .int 1])) := fun {en p} => ev_glob (by rfl) gN rN (by decide) dN
  have k1 : fIsList ([.lst (lws b n k), .int 1, .int 12] ++ []) = some (.ok (.bl true)) := islist_lws (by have := ZN.k0; omega) (by have := ZN.k1; omega)
  have a1 : outs (fun _ => true) (fun _ => Da.bl true) k = (List.replicate k true).map .bl := outs_all (by rw [List.length_map, List.length_replicate]) (fun i hi => by rw [List.getElem?_map, List.getElem?_replicate, if_pos hi]; rfl)
  have a2 : (List.replicate k true).all id = true := by rw [List.all_eq_true]; intro x hx; rw [List.eq_of_mem_replicate hx]; rfl
  obtain ⟨m, rfl⟩ : ∃ m, k = m + 1 := ⟨k - 1, by have := ZN.k0; omega⟩
  have e0 : atI (lws b n (m + 1)) 0 = some (.tup [.int 0, .int 1]) := by
    have := lws_at (f := b) (n := n) (show 0 < m + 1 by omega)
    rw [ZN.b0, lw_zero nn] at this
    exact this
  have eT : cutD (lws b n (m + 1)) (some 1) none ++ [lw (b (m + 1)) n] = lws (fun i => b (i + 1)) n (m + 1) := by rw [lws_tail, lws_succ]
  have eTl : (cutD (lws b n (m + 1)) (some 1) none).length + [lw (b (m + 1)) n].length ≤ 100000 := by
    have := congrArg List.length eT
    rw [List.length_append, lws_len] at this
    have := ZN.k1
    omega
  have hk : m + 1 ≤ 12 := ZN.k1
  have lz : (lws b n (m + 1)).length = m + 1 := lws_len
  refine ⟨_, .rt _, svs_cons (sv_ifF (evt_w (u := false || false) (evw_orF (EVT.is (evt_not (evt_val (ev_cal cL Bx (by decide) (eva_cons (by walk_at "ev") (eva_cons ev_int (eva_cons gl eva_nil rfl) rfl) rfl) k1 rfl (by rfl) (by decide) rfl rfl) (fun _ => rfl))) rfl) (evw_or1 (EVT.is (u := !true) (evt_not (evt_val (ev_cb (cr_all Bx.calm) (eva_cons (evl_lcB Bx (lcb_list (x := "border") (j := 3) (ds := lws b n (m + 1)) (gf := fun _ => Da.bl true) (W := WD E) (by walk_at "ev") (by rw [lz]; omega) (blkOk_by (N := ["thing", "ring", "ends", "border", "end"]) (sc := defScope (top 23)) (by decide +kernel)) (fun s H C cl fp => pg_name Bx.nd (by rfl) (Or.inl rfl)) (fun s H C cl fp i hi _ => ?_)) (fun _ => rfl)).ev eva_nil rfl) ?_ (by rfl) mA (by decide +kernel) (by decide) (by decide) rfl rfl) (fun _ => rfl))) rfl)))) svs_nil) (svs_cons (e1 := [.da (.lst (lws b n (m + 1))), .da (lw (b (m + 1)) n), .da (.lst (lws (fun i => b (i + 1)) n (m + 1))), .no, .no]) ?_ (svs_one (sv_ret (ev_andT (EV.is (ev_eq Bx (ev_ixL (by walk_at "ev") ev_int (fun _ _ => rfl) e0) gn ⟨rfl, rfl⟩ ⟨rfl, rfl⟩) (deq_self ⟨rfl, rfl⟩)) (ev_one (ev_cb (cr_all Bx.calm) (eva_cons (evl_lcB Bx (lcb_zip (x := "border") (x2 := "end") (j := 3) (j2 := 4) (gf := fun _ => Da.bl true) (W := WD E) (by decide) (eva_cons (by walk_at "ev") (eva_cons (by walk_at "ev") eva_nil rfl) rfl) (by rw [lws_len, lws_len]) (by rw [lz]; omega) mZ (by rfl) rfl rfl (blkOk_by (N := ["thing", "ring", "ends", "border", "end"]) (sc := defScope (top 23)) (by decide +kernel)) (fun s H C cl fp => pg_tup Bx.calm (gn_cons Bx.nd rfl rfl (by walk_at "vis") (by first | exact Or.inl rfl | exact Or.inr rfl) (gn_cons Bx.nd rfl rfl (by walk_at "vis") (by first | exact Or.inl rfl | exact Or.inr rfl) gn_nil rfl) rfl) rfl rfl) (fun s H C cl fp i hi _ => ?_)) (fun _ => rfl)).ev eva_nil rfl) ?_ (by rfl) mA (by decide +kernel) (by decide) (by decide) rfl rfl))))))⟩
  · rw [lz] at hi
    have k2 : fIsWorth ([lw (b i) n] ++ []) = some (.ok (.bl true)) := isw_lw nn
    exact EV.env (e1 := [.da (.lst (lws b n (m + 1))), .da (lw (b (m + 1)) n), .no, .da (lw (b i) n), .no]) (ev_cal cI (bd_blk Bx Bx.nd) (by decide) (by walk_at "eva") k2 rfl (by rfl) (by decide) rfl rfl) (by show [_, _, _, Sl.da (List.getD _ _ _), _] = _; rw [lws_getD hi])
  · rw [lz, a1]
    have := rc_all (K := K) (bs := List.replicate (m + 1) true)
    rw [a2] at this
    exact this
  · exact sv_set Bx (EV.to (evl_cat (by walk_at "ev") (by walk_at "ev") eTl).ev (congrArg Da.lst eT)) rfl rfl (by walk_at "vis") (Or.inl rfl) rfl (by walk_at "nrm")
  · rw [lz] at hi
    have k3 : fTwo gLess ([lw (b i) n, lw (b (i + 1)) n] ++ []) = some (.ok (.bl true)) := by
      rw [less_lw n0 (bN.2.2.1 i (by omega)) (bN.2.2.1 (i + 1) (by omega)) bN.1, decide_eq_true (ZN.up i hi)]
    exact EV.env (e1 := [.da (.lst (lws b n (m + 1))), .da (lw (b (m + 1)) n), .da (.lst (lws (fun i => b (i + 1)) n (m + 1))), .da (lw (b i) n), .da (lw (b (i + 1)) n)]) (ev_cal cS (bd_blk Bx Bx.nd) (by decide) (by walk_at "eva") k3 rfl (by rfl) (by decide) rfl rfl) (by show [_, _, _, Sl.da (List.getD _ _ _), Sl.da (List.getD _ _ _)] = _; rw [lws_getD hi, lws_getD hi])
  · rw [lz, a1]
    have := rc_all (K := K) (bs := List.replicate (m + 1) true)
    rw [a2] at this
    exact this

theorem sc_ares : FnScope ["thing", "many", "step"] ["thing", "many"] (defScope (top 24)) := ⟨rfl, rfl, rfl, by decide +kernel, rfl, by decide +kernel, by decide +kernel⟩
theorem ok_ares (mA : mg "all" = none) (cL : Cal P w K mg base "is_list" 1 ["thing", "least", "most"] [] fIsList) (cA : Cal P w K mg base "is_above_nought" 3 ["thing"] [] fAbove) (F : Fun K "_are_steps" "_are_steps" (top 24) f fd) : FnOk P w K mg base (L2.CX P w) 4 f fd ["thing", "many"] (spR K 2 RAreS) := by
  refine fn_r F sc_ares _ fun cdv A outer s H E ds o Bx hl hf => ?_
  obtain ⟨k, n, b, s', a, M, ZN, rfl, rfl⟩ := hf
  have n0 := ZN.n0
  have k1 : fIsList ([.lst (lws s' n k), .int (k : Nat), .int (k : Nat)] ++ []) = some (.ok (.bl true)) := islist_lws (Int.le_refl _) (Int.le_refl _)
  have a1 : outs (fun _ => true) (fun _ => Da.bl true) k = (List.replicate k true).map .bl := outs_all (by rw [List.length_map, List.length_replicate]) (fun i hi => by rw [List.getElem?_map, List.getElem?_replicate, if_pos hi]; rfl)
  have a2 : (List.replicate k true).all id = true := by rw [List.all_eq_true]; intro x hx; rw [List.eq_of_mem_replicate hx]; rfl
  have hk : k ≤ 12 := ZN.k1
  have lz : (lws s' n k).length = k := lws_len
  refine ⟨_, .rt _, svs_one (sv_ret (ev_andT (by walk_at "ev") (ev_one (ev_cb (cr_all Bx.calm) (eva_cons (evl_lcB Bx (lcb_list (x := "step") (j := 2) (ds := lws s' n k) (gf := fun _ => Da.bl true) (W := WD E) (by walk_at "ev") (by rw [lz]; omega) (blkOk_by (N := ["thing", "many", "step"]) (sc := defScope (top 24)) (by decide +kernel)) (fun s H C cl fp => pg_name Bx.nd (by rfl) (Or.inl rfl)) (fun s H C cl fp i hi _ => ?_)) (fun _ => rfl)).ev eva_nil rfl) ?_ (by rfl) mA (by decide +kernel) (by decide) (by decide) rfl rfl))))⟩
  · rw [lz] at hi
    have k2 : fAbove ([lw (s' i) n] ++ []) = some (.ok (.bl true)) := by rw [above_lw n0, decide_eq_true (ZN.s0 i hi)]
    exact EV.env (e1 := [.da (.lst (lws s' n k)), .da (.int (k : Nat)), .da (lw (s' i) n)]) (ev_cal cA (bd_blk Bx Bx.nd) (by decide) (by walk_at "eva") k2 rfl (by rfl) (by decide) rfl rfl) (by show [_, _, Sl.da (List.getD _ _ _)] = _; rw [lws_getD hi])
  · rw [lz, a1]
    have := rc_all (K := K) (bs := List.replicate k true)
    rw [a2] at this
    exact this

theorem sc_firstZ : FnScope ["ring", "borders", "steps", "at"] ["ring", "borders", "steps", "at"] (defScope (top 25)) := ⟨rfl, rfl, rfl, by decide +kernel, rfl, by decide +kernel, by decide +kernel⟩
theorem ok_firstZ {vN : V} {wN : Value} (gN : mg "NOUGHT" = some wN) (rN : RelV vN wN) (dN : ∀ B, Dr K B vN (.tup [.int 0, .int 1])) (mL : mg "len" = none) (cA : Cal P w K mg base "is_above_nought" 3 ["thing"] [] fAbove) (cB : CalR P w K mg base "are_borders" 5 ["thing", "ring"] RAreB) (cT : CalR P w K mg base "_are_steps" 4 ["thing", "many"] RAreS) (cI : Cal P w K mg base "is_worth" 2 ["thing"] [] fIsWorth) (cS : Cal P w K mg base "is_less" 4 ["one", "other"] [] (fTwo gLess)) (F : Fun K "_first_wrong" "_first_wrong" (top 25) f fd) : FnOk P w K mg base (L2.CX P w) 6 f fd ["ring", "borders", "steps", "at"] (spR K 4 RFirstZ) := by
  refine fn_r F sc_firstZ _ fun cdv A outer s H E ds o Bx hl hf => ?_
  obtain ⟨k, n, b, s', a, M, ZN, rfl, rfl⟩ := hf
  have n0 := ZN.n0
  have nn : n ≠ 0 := by omega
  have bN := ZN.made.1.bn
  have a0 := ZN.a0
  have a1 := ZN.a1
  have rb := ZN.rb
  have ba : Bn a := by unfold Bn; omega
  have gn : ∀ {en : List Sl} {p : Pos}, EV (XB P w K mg base ["ring", "borders", "steps", "at"] "_first_wrong" (top 25) f cdv A outer s H E) (WD E) en (.Name "NOUGHT" p) (.ok (lw 0 n)) := fun {en p} => by
    rw [lw_zero nn]
    exact ev_glob (by rfl) gN rN (by decide) dN
  have k1 : fAbove ([lw (b k) n] ++ []) = some (.ok (.bl true)) := by rw [above_lw n0, decide_eq_true (by omega)]
  have k2 : RAreB [.lst (lws b n k), lw (b k) n] (.ok (.bl true)) := ⟨k, n, b, s', a, M, ZN, rfl, rfl⟩
  have k3 : RAreS [.lst (lws s' n k), .int (k : Nat)] (.ok (.bl true)) := ⟨k, n, b, s', a, M, ZN, rfl, rfl⟩
  have k4 : fIsWorth ([lw a n] ++ []) = some (.ok (.bl true)) := isw_lw nn
  have k5 : fTwo gLess ([lw a n, lw 0 n] ++ []) = some (.ok (.bl false)) := by rw [less_lw n0 ba (by decide) bN.1, decide_eq_false (by omega)]
  have k6 : fTwo gLess ([lw a n, lw (b k) n] ++ []) = some (.ok (.bl true)) := by rw [less_lw n0 ba (bN.2.2.1 k (Nat.le_refl _)) bN.1, decide_eq_true a1]
  have kl : lenD (.lst (lws b n k)) = some k := congrArg some lws_len
  refine ⟨_, .rt _, svs_cons (sv_ifF (EVT.is (by walk_at "evt") (by rfl)) svs_nil) (svs_cons (sv_ifF (EVT.is (by walk_at "evt") (by rfl)) svs_nil) (svs_cons (sv_ifF (EVT.is (by walk_at "evt") (by rfl)) svs_nil) (svs_cons (sv_ifF (evt_w (u := false) (evw_orF (EVT.is (by walk_at "evt") (by rfl)) (evw_orF (EVT.is (evt_val (ev_cal cS Bx (by decide) (eva_cons (by walk_at "ev") (eva_cons gn eva_nil rfl) rfl) k5 rfl (by rfl) (by decide) rfl rfl) (fun _ => rfl)) (by rfl)) (evw_or1 (EVT.is (by walk_at "evt") (by rfl)))))) svs_nil) (svs_one (sv_ret ev_non)))))⟩

theorem sc_unitsZ : FnScope ["self", "rows"] ["self", "rows"] (defScope (inClass (top 26) 1)) := ⟨rfl, rfl, rfl, by decide +kernel, rfl, by decide +kernel, by decide +kernel⟩
theorem ok_unitsZ (c : Cls K CL) (n1 : NoAttr K CL "_scale") (F : Fun K "_units" "Zones._units" (inClass (top 26) 1) f fd) : FnOk P w K mg base (L2.CX P w) 1 f fd ["self", "rows"] (spD K 2 (fUnits CL)) := by
  refine fn_d F sc_unitsZ _ fun cdv A outer s H E ds o Bx hl hf => ?_
  obtain ⟨fs, a, b, rfl, h1, h2, h3, h4, h5, h6, rfl⟩ := fUnits_inv hf
  have d1 := div_bn (m := gi "_scale" fs) h1 h2
  have x1 := units_mul h1 h3 h5 h6 d1
  exact ⟨_, .rt _, svs_one (sv_ret (by walk_at "ev"))⟩

theorem sc_zone : FnScope ["self", "thing", "border"] ["self", "thing"] (defScope (inClass (top 26) 5)) := ⟨rfl, rfl, rfl, by decide +kernel, rfl, by decide +kernel, by decide +kernel⟩
theorem ok_zone (mL : mg "len" = none) (c : Cls K CL) (n1 : NoAttr K CL "_borders") (cS : Cal P w K mg base "is_less" 4 ["one", "other"] [] (fTwo gLess)) (F : Fun K "zone_of" "Zones.zone_of" (inClass (top 26) 5) f fd) : FnOk P w K mg base (L2.CX P w) 5 f fd ["self", "thing"] (spR K 2 (RZone CL)) := by
  refine fn_r F sc_zone _ fun cdv A outer s H E ds o Bx hl hf => ?_
  obtain ⟨fs, m, n, b, x, rfl, hb, hm, n0, hn, hx, hbn, rfl⟩ := hf
  have lz : (lws (fun i => b (i + 1)) n m).length = m := lws_len
  refine ⟨_, .rt _, svs_one (sv_ret (EV.to (ev_cb (x := "len") call_len (eva_cons (evl_lcB Bx (lcb_listIf (x := "border") (j := 2) (ds := lws (fun i => b (i + 1)) n m) (pp := fun i => !decide (x < b (i + 1))) (gf := fun i => (lws (fun i => b (i + 1)) n m).getD i .non) (W := WD E) (EV.to (by walk_at "ev") (congrArg Da.lst lws_tail)) (by rw [lz]; omega) (blkOk_by (N := ["self", "thing", "border"]) (sc := defScope (inClass (top 26) 5)) (by decide +kernel)) (fun s H C cl fp => pg_name Bx.nd (by rfl) (Or.inl rfl)) (fun s H C cl fp i hi => ?_) (fun s H C cl fp i hi _ => by walk_at "ev")) (fun _ => rfl)).ev eva_nil rfl) (rc_len rfl) (by rfl) mL (by decide +kernel) (by decide) (by decide) rfl rfl) ?_))⟩
  · rw [lz] at hi
    have k1 := less_lw n0 hx (hbn (i + 1) (by omega)) hn
    exact EVT.env (e1 := [.da (.ins CL fs), .da (lw x n), .da (lw (b (i + 1)) n)]) (evt_not (evt_val (ev_cal cS (bd_blk Bx Bx.nd) (by decide) (by walk_at "eva") k1 rfl (by rfl) (by decide) rfl rfl) (fun _ => rfl))) (by show [_, _, Sl.da (List.getD _ _ _)] = _; rw [lws_getD hi])
  · rw [outs_cnt, lz]

theorem sc_initZ : FnScope ["self", "ring", "borders", "steps", "at", "why", "takes", "border", "end", "step", "zone", "start", "rows"] ["self", "ring", "borders", "steps", "at"] (defScope (inClass (top 26) 0)) := ⟨rfl, rfl, rfl, by decide +kernel, rfl, by decide +kernel, by decide +kernel⟩
theorem ok_initZ {vN : V} {wN : Value} (gN : mg "NOUGHT" = some wN) (rN : RelV vN wN) (dN : ∀ B, Dr K B vN (.tup [.int 0, .int 1])) (mZ : mg "zip" = none) (mLi : mg "list" = none) (mLc : mg "lcm" = some (.builtin "math.lcm")) (c : Cls K CL) (n1 : NoAttr K CL "_ring") (n2 : NoAttr K CL "_borders") (n3 : NoAttr K CL "_steps") (n4 : NoAttr K CL "_scale") (n5 : NoAttr K CL "_start") (n6 : NoAttr K CL "_takes")
    (cF : CalR P w K mg base "_first_wrong" 6 ["ring", "borders", "steps", "at"] RFirstZ) (cP : Cal P w K mg base "plus" 4 ["one", "other"] [] (fTwo gPlus)) (cM : Cal P w K mg base "minus" 4 ["one", "other"] [] (fTwo gMinus)) (cO : Cal P w K mg base "over" 4 ["one", "other"] [] (fTwo (gOver CW))) (cU : Mth P w K mg base CL "_units" 1 ["self", "rows"] (fUnits CL)) (cZ : MthR P w K mg base CL "zone_of" 5 ["self", "thing"] (RZone CL)) {dvs : List V} {kws : List (Str × V)}
    (F : FunDS K "__init__" "Zones.__init__" (inClass (top 26) 0) dvs kws f fd) : FnOk P w K mg base (L2.CX P w) 7 f fd ["self", "ring", "borders", "steps", "at"] (spIR K CL 5 RInitZ) := by
  refine fn_iR F (s0 := "self") (pr := ["ring", "borders", "steps", "at"]) rfl sc_initZ _ fun cdv A outer s H E p dx ds o Bx hl hf => ?_
  obtain ⟨k, n, b, s', a, M, ZN, rfl, rfl⟩ := hf
  obtain ⟨m, rfl⟩ : ∃ m, k = m + 1 := ⟨k - 1, by have := ZN.k0; omega⟩
  have n0 := ZN.n0
  have nn : n ≠ 0 := by omega
  have m0 := ZN.m0
  have mn : M ≠ 0 := by omega
  have mb := ZN.mb
  have bM : Bn M := by unfold Bn; omega
  have a0 := ZN.a0
  have a1 := ZN.a1
  have rb := ZN.rb
  have hk : m + 1 ≤ 12 := ZN.k1
  have ba : Bn a := by unfold Bn; omega
  have bN := ZN.made.1.bn
  have zo := ZN.zone
  have bT : ∀ {i}, i ≤ m + 1 → Bn (zT b s' M i) := fun {i} hi => by
    have q := ZN.zTle hi
    have l := b_le ZN.b0 ZN.up hi
    have l1 : b i * M ≤ b i * 2 ^ 66 := Int.mul_le_mul_of_nonneg_left (Int.le_of_lt mb) l.1
    unfold Bn
    omega
  have z0 : RFirstZ [lw (b (m + 1)) n, .lst (lws b n (m + 1)), .lst (lws s' n (m + 1)), lw a n] (.ok .non) := ⟨m + 1, n, b, s', a, M, ZN, rfl, rfl⟩
  have kd : ∀ {i}, i < m + 1 → ∀ {x : Int}, Bn x → Bn (x * (M / s' i)) → fTwo (gOver CW) ([lw x n, lw (s' i) n] ++ []) = some (.ok (lw (x * (M / s' i)) M)) := fun {i} hi {x} hx hy => by
    rw [over_lw n0 (ZN.s0 i hi) hx (bN.2.2.2.1 i hi) bN.1]
    exact congrArg some (congrArg XO.ok (lw_same (by have := ZN.s0 i hi; omega) mn (by have := ZN.zT_eq hi x; grind)))
  have bx : ∀ {i}, i < m + 1 → ∀ {x : Int}, 0 ≤ x → x ≤ b (m + 1) → Bn (x * (M / s' i)) := fun {i} hi {x} h1 h2 => by
    have ms := ZN.msp hi
    have l0 : 0 ≤ x * (M / s' i) := Int.mul_nonneg h1 (by omega)
    have l1 : x * (M / s' i) ≤ x * M := Int.mul_le_mul_of_nonneg_left ms.2 h1
    have l2 : x * M ≤ x * 2 ^ 66 := Int.mul_le_mul_of_nonneg_left (by omega) h1
    unfold Bn
    omega
  have NN : XB P w K mg base ["self", "ring", "borders", "steps", "at", "why", "takes", "border", "end", "step", "zone", "start", "rows"] "Zones.__init__" (inClass (top 26) 0) f cdv A outer s H E = XB P w K mg base ["self", "ring", "borders", "steps", "at", "why", "takes", "border", "end", "step", "zone", "start", "rows"] "Zones.__init__" (inClass (top 26) 0) f cdv A outer s H E := rfl
  have eT : cutD (lws b n (m + 1)) (some 1) none ++ [lw (b (m + 1)) n] = lws (fun i => b (i + 1)) n (m + 1) := by rw [lws_tail, lws_succ]
  have eTl : (cutD (lws b n (m + 1)) (some 1) none).length + [lw (b (m + 1)) n].length ≤ 100000 := by
    have := congrArg List.length eT
    rw [List.length_append, lws_len] at this
    omega
  -- the fields
  have zN12 : zN b (m + 1) a < m + 1 := zo.zk
  have k5 : RZone CL [.ins CL [("_ring", lw (b (m + 1)) n), ("_borders", .lst (lws b n (m + 1))), ("_steps", .lst (lws s' n (m + 1)))], lw a n] (.ok (.int (zN b (m + 1) a : Nat))) := ⟨_, m, n, b, a, rfl, rfl, by omega, n0, bN.1, ba, fun i hi => bN.2.2.1 i (by omega), rfl⟩
  have k6 := lws_at (f := b) (n := n) zN12
  have k7 := lws_at (f := s') (n := n) zN12
  have k8 := lws_at (f := zT b s' M) (n := M) (show zN b (m + 1) a < m + 1 + 1 by omega)
  have bz := b_le ZN.b0 ZN.up (Nat.le_of_lt zN12)
  have lo := zo.lo
  have k9 : fTwo gMinus ([lw a n, lw (b (zN b (m + 1) a)) n] ++ []) = some (.ok (lw (a - b (zN b (m + 1) a)) n)) := minus_lw n0 ba (bN.2.2.1 _ (Nat.le_of_lt zN12)) bN.1
  have k10 := kd zN12 (x := a - b (zN b (m + 1) a)) (by unfold Bn; omega) (bx zN12 (by omega) (by omega))
  have k11 : fTwo gPlus ([lw (zT b s' M (zN b (m + 1) a)) M, lw ((a - b (zN b (m + 1) a)) * (M / s' (zN b (m + 1) a))) M] ++ []) = some (.ok (lw (zU b s' M (zN b (m + 1) a) a) M)) := plus_lw m0 (bT (by omega)) (bx zN12 (by omega) (by omega)) bM
  have kS : ∀ i, 0 < zS b s' M (zU b s' M (zN b (m + 1) a) a) i ∧ zS b s' M (zU b s' M (zN b (m + 1) a) a) i ∣ M := fun i => ⟨(ZN.zSd _ i).1, (ZN.zSd _ i).2.1⟩
  have bS : ∀ i, Bn (zS b s' M (zU b s' M (zN b (m + 1) a) a) i) := fun i => by
    have h := kS i
    have := Int.le_of_dvd m0 h.2
    unfold Bn
    omega
  have bU : Bn (zU b s' M (zN b (m + 1) a) a) := by
    have q := ZN.zUle
    have q1 := ZN.zTle (i := zN b (m + 1) a) (by omega)
    have q2 := ZN.zTle (i := zN b (m + 1) a + 1) (by omega)
    have l := b_le ZN.b0 ZN.up (show zN b (m + 1) a + 1 ≤ m + 1 by omega)
    have l1 : b (zN b (m + 1) a + 1) * M ≤ b (zN b (m + 1) a + 1) * 2 ^ 66 := Int.mul_le_mul_of_nonneg_left (Int.le_of_lt mb) l.1
    unfold Bn
    omega
  have un : ∀ {x : Int} {fs : List (Str × Da)}, Bn x → fs.lookup ("_scale" : Str) = some (Da.int (znS b s' (m + 1) a M)) → fUnits CL (.ins CL fs :: ([lw x M] ++ [])) = some (.ok (.int (lnU x M (znS b s' (m + 1) a M)))) := fun {x fs} hx hs => fUnits_ok (bt_pos x mn) (bt_bn mn bM) (tp_bn mn hx) hs (Int.le_of_lt (kS _).1) (by
    have h := kS (m + 1 + 1)
    have := Int.le_of_dvd m0 h.2
    show zS b s' M (zU b s' M (zN b (m + 1) a) a) (m + 1 + 1) < 2 ^ 100
    omega)
  have u1 : fUnits CL (.ins CL [("_ring", lw (b (m + 1)) n), ("_borders", .lst (lws b n (m + 1))), ("_steps", .lst (lws s' n (m + 1))), ("_scale", .int (znS b s' (m + 1) a M))] :: ([lw (zU b s' M (zN b (m + 1) a) a) M] ++ [])) = some (.ok (.int (znU b s' (m + 1) a M))) := un bU rfl
  have u2 : ∀ {i}, i ≤ m + 1 → fUnits CL (.ins CL [("_ring", lw (b (m + 1)) n), ("_borders", .lst (lws b n (m + 1))), ("_steps", .lst (lws s' n (m + 1))), ("_scale", .int (znS b s' (m + 1) a M)), ("_start", .int (znU b s' (m + 1) a M))] :: ([lw (zT b s' M i) M] ++ [])) = some (.ok (.int (znT b s' (m + 1) a M i))) := fun {i} hi => un (bT hi) rfl
  have lzT : (lws (zT b s' M) M (m + 1 + 1)).length = m + 1 + 1 := lws_len
  have oT : outs (fun _ => true) (fun i => Da.int (znT b s' (m + 1) a M i)) (m + 1 + 1) = nms (znT b s' (m + 1) a M) (m + 1 + 1) := outs_all nms_len (fun i hi => nms_get hi)
  refine ⟨_, .nx [.ob p CL dx (znFs (m + 1) n b s' (znS b s' (m + 1) a M) (znU b s' (m + 1) a M) (znT b s' (m + 1) a M)), .da (lw (b (m + 1)) n), .da (.lst (lws b n (m + 1))), .da (.lst (lws s' n (m + 1))), .da (lw a n), .da .non, .da (.lst (lws (zT b s' M) M (m + 1 + 1))), .no, .no, .no, .da (.int (zN b (m + 1) a : Nat)), .da (lw (zU b s' M (zN b (m + 1) a) a) M), .no] _ rfl, svs_cons (e1 := [.ob p CL dx [], .da (lw (b (m + 1)) n), .da (.lst (lws b n (m + 1))), .da (.lst (lws s' n (m + 1))), .da (lw a n), .da .non, .no, .no, .no, .no, .no, .no, .no]) (by walk_at "set") (svs_cons (sv_ifF (EVT.is (by walk_at "evt") (by rfl)) svs_nil)
    (svs_cons (e1 := [.ob p CL dx [("_ring", lw (b (m + 1)) n)], .da (lw (b (m + 1)) n), .da (.lst (lws b n (m + 1))), .da (.lst (lws s' n (m + 1))), .da (lw a n), .da .non, .no, .no, .no, .no, .no, .no, .no]) (by walk_at "fld")
    (svs_cons (e1 := [.ob p CL dx [("_ring", lw (b (m + 1)) n), ("_borders", .lst (lws b n (m + 1)))], .da (lw (b (m + 1)) n), .da (.lst (lws b n (m + 1))), .da (.lst (lws s' n (m + 1))), .da (lw a n), .da .non, .no, .no, .no, .no, .no, .no, .no]) ?_
    (svs_cons (e1 := [.ob p CL dx [("_ring", lw (b (m + 1)) n), ("_borders", .lst (lws b n (m + 1))), ("_steps", .lst (lws s' n (m + 1)))], .da (lw (b (m + 1)) n), .da (.lst (lws b n (m + 1))), .da (.lst (lws s' n (m + 1))), .da (lw a n), .da .non, .no, .no, .no, .no, .no, .no, .no]) ?_
    (svs_cons (e1 := [.ob p CL dx [("_ring", lw (b (m + 1)) n), ("_borders", .lst (lws b n (m + 1))), ("_steps", .lst (lws s' n (m + 1)))], .da (lw (b (m + 1)) n), .da (.lst (lws b n (m + 1))), .da (.lst (lws s' n (m + 1))), .da (lw a n), .da .non, .own (lws (zT b s' M) M 1), .no, .no, .no, .no, .no, .no]) ?_
    (svs_cons (e1 := [.ob p CL dx [("_ring", lw (b (m + 1)) n), ("_borders", .lst (lws b n (m + 1))), ("_steps", .lst (lws s' n (m + 1)))], .da (lw (b (m + 1)) n), .da (.lst (lws b n (m + 1))), .da (.lst (lws s' n (m + 1))), .da (lw a n), .da .non, .own (lws (zT b s' M) M (m + 1 + 1)), .no, .no, .no, .no, .no, .no]) ?_
    (svs_cons (e1 := [.ob p CL dx [("_ring", lw (b (m + 1)) n), ("_borders", .lst (lws b n (m + 1))), ("_steps", .lst (lws s' n (m + 1)))], .da (lw (b (m + 1)) n), .da (.lst (lws b n (m + 1))), .da (.lst (lws s' n (m + 1))), .da (lw a n), .da .non, .own (lws (zT b s' M) M (m + 1 + 1)), .no, .no, .no, .da (.int (zN b (m + 1) a : Nat)), .no, .no]) ?_
    (svs_cons (e1 := [.ob p CL dx [("_ring", lw (b (m + 1)) n), ("_borders", .lst (lws b n (m + 1))), ("_steps", .lst (lws s' n (m + 1)))], .da (lw (b (m + 1)) n), .da (.lst (lws b n (m + 1))), .da (.lst (lws s' n (m + 1))), .da (lw a n), .da .non, .own (lws (zT b s' M) M (m + 1 + 1)), .no, .no, .no, .da (.int (zN b (m + 1) a : Nat)), .da (lw (zU b s' M (zN b (m + 1) a) a) M), .no]) (by walk_at "set")
    (svs_cons (e1 := [.ob p CL dx [("_ring", lw (b (m + 1)) n), ("_borders", .lst (lws b n (m + 1))), ("_steps", .lst (lws s' n (m + 1))), ("_scale", .int (zS b s' M (zU b s' M (zN b (m + 1) a) a) 0))], .da (lw (b (m + 1)) n), .da (.lst (lws b n (m + 1))), .da (.lst (lws s' n (m + 1))), .da (lw a n), .da .non, .own (lws (zT b s' M) M (m + 1 + 1)), .no, .no, .no, .da (.int (zN b (m + 1) a : Nat)), .da (lw (zU b s' M (zN b (m + 1) a) a) M), .no]) ?_
    (svs_freeze (n := 6) rfl
    (svs_cons (e1 := [.ob p CL dx [("_ring", lw (b (m + 1)) n), ("_borders", .lst (lws b n (m + 1))), ("_steps", .lst (lws s' n (m + 1))), ("_scale", .int (znS b s' (m + 1) a M))], .da (lw (b (m + 1)) n), .da (.lst (lws b n (m + 1))), .da (.lst (lws s' n (m + 1))), .da (lw a n), .da .non, .da (.lst (lws (zT b s' M) M (m + 1 + 1))), .no, .no, .no, .da (.int (zN b (m + 1) a : Nat)), .da (lw (zU b s' M (zN b (m + 1) a) a) M), .no]) ?_
    (svs_cons (e1 := [.ob p CL dx [("_ring", lw (b (m + 1)) n), ("_borders", .lst (lws b n (m + 1))), ("_steps", .lst (lws s' n (m + 1))), ("_scale", .int (znS b s' (m + 1) a M)), ("_start", .int (znU b s' (m + 1) a M))], .da (lw (b (m + 1)) n), .da (.lst (lws b n (m + 1))), .da (.lst (lws s' n (m + 1))), .da (lw a n), .da .non, .da (.lst (lws (zT b s' M) M (m + 1 + 1))), .no, .no, .no, .da (.int (zN b (m + 1) a : Nat)), .da (lw (zU b s' M (zN b (m + 1) a) a) M), .no]) (by walk_at "fld")
    (svs_one ?_)))))))))))))⟩
  · apply sv_fldO (d := .lst (lws b n (m + 1))); (· assumption); (· assumption); (· rfl); (· walk_at "vis"); (· rfl); (· rfl); (· decide); (· decide); (· rfl); (· exact Nat.le_of_ble_eq_true rfl); (· exact (evl_lsOf (by walk_at "eva") (by rfl) mLi rfl rfl).ev); (· rfl); (· walk_at "nrm")
  · apply sv_fldO (d := .lst (lws s' n (m + 1))); (· assumption); (· assumption); (· rfl); (· walk_at "vis"); (· rfl); (· rfl); (· decide); (· decide); (· rfl); (· exact Nat.le_of_ble_eq_true rfl); (· exact (evl_lsOf (by walk_at "eva") (by rfl) mLi rfl rfl).ev); (· rfl); (· walk_at "nrm")
  · apply sv_setL; (· assumption); (· exact evl_lst (eva_cons (ev_glob (d := lw (zT b s' M 0) M) (by rfl) gN rN (by decide) (fun B => by show Dr K B vN (lw 0 M); rw [lw_zero mn]; exact dN B)) eva_nil rfl) (Nat.le_of_ble_eq_true rfl)); (· rfl); (· rfl); (· walk_at "vis"); (· exact Or.inl rfl); (· rfl); (· walk_at "nrm")
  · have hlen : (lws b n (m + 1)).length = m + 1 := lws_len
    refine (congrArg (fun z => SV _ _ _ _ (.nx z)) ?_).mp (sv_forZ3 (j1 := 7) (j2 := 8) (j3 := 9) Bx (fun i => [.ob p CL dx [("_ring", lw (b (m + 1)) n), ("_borders", .lst (lws b n (m + 1))), ("_steps", .lst (lws s' n (m + 1)))], .da (lw (b (m + 1)) n), .da (.lst (lws b n (m + 1))), .da (.lst (lws s' n (m + 1))), .da (lw a n), .da .non, .own (lws (zT b s' M) M (i + 1)), .no, .no, .no, .no, .no, .no]) mZ (by rfl) (eva_cons (by walk_at "ev") (eva_cons (EV.to (evl_cat (by walk_at "ev") (by walk_at "ev") eTl).ev (congrArg Da.lst eT)) (eva_cons (by walk_at "ev") eva_nil rfl) rfl) rfl) (by rw [lws_len, lws_len]) (by rw [lws_len, lws_len]) rfl (gn_cons Bx.nd rfl rfl (by walk_at "vis") (by first | exact Or.inl rfl | exact Or.inr rfl) (gn_cons Bx.nd rfl rfl (by walk_at "vis") (by first | exact Or.inl rfl | exact Or.inr rfl) (gn_cons Bx.nd rfl rfl (by walk_at "vis") (by first | exact Or.inl rfl | exact Or.inr rfl) gn_nil rfl) rfl) rfl) rfl rfl rfl rfl (fun i d1 d2 d3 h1 h2 h3 => ?_))
    · rw [hlen]
    · have hi : i < m + 1 := by have := (List.getElem?_eq_some_iff.mp h1).1; rw [lws_len] at this; exact this
      rw [lws_get hi] at h1 h2 h3
      cases h1
      cases h2
      cases h3
      have up := ZN.up i hi
      have bi := b_le ZN.b0 ZN.up (Nat.le_of_lt hi)
      have bi1 := b_le ZN.b0 ZN.up (show i + 1 ≤ m + 1 by omega)
      have q1 : fTwo gMinus ([lw (b (i + 1)) n, lw (b i) n] ++ []) = some (.ok (lw (b (i + 1) - b i) n)) := minus_lw n0 (bN.2.2.1 _ hi) (bN.2.2.1 _ (Nat.le_of_lt hi)) bN.1
      have q2 := kd hi (x := b (i + 1) - b i) (by unfold Bn; omega) (bx hi (by omega) (by omega))
      have q3 : fTwo gPlus ([lw (zT b s' M i) M, lw ((b (i + 1) - b i) * (M / s' i)) M] ++ []) = some (.ok (lw (zT b s' M (i + 1)) M)) := plus_lw m0 (bT (by omega)) (bx hi (by omega) (by omega)) bM
      have q4 := lws_lastI (f := zT b s' M) (n := M) (k := i)
      have q5 : (lws (zT b s' M) M (i + 1)).length < 100000 := by rw [lws_len]; omega
      rw [lws_succ (k := i + 1)]
      refine svs_weak (e1 := [.ob p CL dx [("_ring", lw (b (m + 1)) n), ("_borders", .lst (lws b n (m + 1))), ("_steps", .lst (lws s' n (m + 1)))], .da (lw (b (m + 1)) n), .da (.lst (lws b n (m + 1))), .da (.lst (lws s' n (m + 1))), .da (lw a n), .da .non, .own (lws (zT b s' M) M (i + 1) ++ [lw (zT b s' M (i + 1)) M]), .da (lw (b i) n), .da (lw (b (i + 1)) n), .da (lw (s' i) n), .no, .no, .no]) (svs_one (by walk_at "app")) (.eq (.eq (.eq (.eq (.eq (.eq (.eq (.no (.no (.no (Wk.refl _)))))))))))
  · apply sv_set; (· assumption); (· apply ev_methOR cZ; (· assumption); (· decide); (· assumption); (· rfl); (· walk_at "vis"); (· rfl); (· rfl); (· decide); (· decide); (· walk_at "eva"); (· exact k5); (· rfl); (· rfl); (· rfl); (· rfl); (· rfl)); (· rfl); (· rfl); (· walk_at "vis"); (· exact Or.inl rfl); (· rfl); (· walk_at "nrm")
  · have q6 : atI [Da.int (tp (zU b s' M (zN b (m + 1) a) a) M), .int (bt (zU b s' M (zN b (m + 1) a) a) M)] 1 = some (.int (bt (zU b s' M (zN b (m + 1) a) a) M)) := rfl
    rw [lw_is]
    walk_at "fld"
  · refine (congrArg (fun z => SV _ _ _ _ (.nx z)) ?_).mp (sv_forL (n := 12) Bx (fun i => [.ob p CL dx [("_ring", lw (b (m + 1)) n), ("_borders", .lst (lws b n (m + 1))), ("_steps", .lst (lws s' n (m + 1))), ("_scale", .int (zS b s' M (zU b s' M (zN b (m + 1) a) a) i))], .da (lw (b (m + 1)) n), .da (.lst (lws b n (m + 1))), .da (.lst (lws s' n (m + 1))), .da (lw a n), .da .non, .da (.lst (lws (zT b s' M) M (m + 1 + 1))), .no, .no, .no, .da (.int (zN b (m + 1) a : Nat)), .da (lw (zU b s' M (zN b (m + 1) a) a) M), .no]) rfl rfl (by walk_at "vis") (Or.inl rfl) (by walk_at "ev") rfl (fun _ => rfl) (fun i d h1 => ?_))
    · rw [lzT]
      rfl
    · have hi : i < m + 1 + 1 := by have := (List.getElem?_eq_some_iff.mp h1).1; rw [lzT] at this; exact this
      rw [lws_get hi] at h1
      cases h1
      rw [lw_is]
      have q7 : (zS b s' M (zU b s' M (zN b (m + 1) a) a) i).natAbs < 2 ^ 100 ∧ (bt (zT b s' M i) M).natAbs < 2 ^ 100 := ⟨by have h := kS i; have := Int.le_of_dvd m0 h.2; omega, by have h := bt_le (zT b s' M i) mn; omega⟩
      have q8 : atI [Da.int (tp (zT b s' M i) M), .int (bt (zT b s' M i) M)] 1 = some (.int (bt (zT b s' M i) M)) := rfl
      refine svs_weak (e1 := [.ob p CL dx [("_ring", lw (b (m + 1)) n), ("_borders", .lst (lws b n (m + 1))), ("_steps", .lst (lws s' n (m + 1))), ("_scale", .int (zS b s' M (zU b s' M (zN b (m + 1) a) a) (i + 1)))], .da (lw (b (m + 1)) n), .da (.lst (lws b n (m + 1))), .da (.lst (lws s' n (m + 1))), .da (lw a n), .da .non, .da (.lst (lws (zT b s' M) M (m + 1 + 1))), .no, .no, .no, .da (.int (zN b (m + 1) a : Nat)), .da (lw (zU b s' M (zN b (m + 1) a) a) M), .da (lw (zT b s' M i) M)]) (svs_one ?_) (.eq (.eq (.eq (.eq (.eq (.eq (.eq (.eq (.eq (.eq (.eq (.eq (.no .nil)))))))))))))
      apply sv_fldO (d := .int (lcm2 (zS b s' M (zU b s' M (zN b (m + 1) a) a) i) (bt (zT b s' M i) M))); (· assumption); (· assumption); (· rfl); (· walk_at "vis"); (· rfl); (· rfl); (· decide); (· decide); (· rfl); (· exact Nat.le_of_ble_eq_true rfl); (· apply ev_cf (x := "lcm") cr_lcm2; (· walk_at "eva"); (· exact rc_lcm2 q7); (· rfl); (· assumption); (· decide); (· rfl); (· rfl)); (· rfl); (· walk_at "nrm")
  · apply sv_fldO (d := .lst (nms (znT b s' (m + 1) a M) (m + 1 + 1))); (· assumption); (· assumption); (· rfl); (· walk_at "vis"); (· rfl); (· rfl); (· decide); (· decide); (· rfl); (· exact Nat.le_of_ble_eq_true rfl); (· refine EV.to (evl_lcB Bx (lcb_list (x := "rows") (j := 12) (ds := lws (zT b s' M) M (m + 1 + 1)) (gf := fun i => Da.int (znT b s' (m + 1) a M i)) (W := WD E) (by walk_at "ev") (by rw [lzT]; omega) (blkOk_by (N := ["self", "ring", "borders", "steps", "at", "why", "takes", "border", "end", "step", "zone", "start", "rows"]) (sc := defScope (inClass (top 26) 0)) (by decide +kernel)) (fun s H C cl fp => pg_name Bx.nd (by rfl) (Or.inl rfl)) (fun s H C cl fp i hi _ => ?_)) (fun _ => rfl)).ev (congrArg Da.lst (by rw [lzT]; exact oT)); (· rw [lzT] at hi; refine EV.env (e1 := [.ob p CL dx [("_ring", lw (b (m + 1)) n), ("_borders", .lst (lws b n (m + 1))), ("_steps", .lst (lws s' n (m + 1))), ("_scale", .int (znS b s' (m + 1) a M)), ("_start", .int (znU b s' (m + 1) a M))], .da (lw (b (m + 1)) n), .da (.lst (lws b n (m + 1))), .da (.lst (lws s' n (m + 1))), .da (lw a n), .da .non, .da (.lst (lws (zT b s' M) M (m + 1 + 1))), .no, .no, .no, .da (.int (zN b (m + 1) a : Nat)), .da (lw (zU b s' M (zN b (m + 1) a) a) M), .da (lw (zT b s' M i) M)]) ?_ (by show [_, _, _, _, _, _, _, _, _, _, _, _, Sl.da (List.getD _ _ _)] = _; rw [lws_getD hi]); apply ev_methO cU; (· exact bd_blk Bx Bx.nd); (· decide); (· assumption); (· rfl); (· walk_at "vis"); (· rfl); (· rfl); (· decide); (· decide); (· walk_at "eva"); (· exact u2 (by omega)); (· rfl); (· rfl); (· rfl); (· rfl); (· rfl))); (· rfl); (· walk_at "nrm")

theorem sc_gone : FnScope ["self", "row", "rounds", "left", "zone", "behind", "begin"] ["self", "row"] (defScope (inClass (top 26) 2)) := ⟨rfl, rfl, rfl, by decide +kernel, rfl, by decide +kernel, by decide +kernel⟩
theorem ok_gone (mL : mg "len" = none) (mD : mg "divmod" = none) (c : Cls K CL) (n1 : NoAttr K CL "_ring") (n2 : NoAttr K CL "_borders") (n3 : NoAttr K CL "_steps") (n4 : NoAttr K CL "_scale") (n5 : NoAttr K CL "_start") (n6 : NoAttr K CL "_takes")
    (cP : Cal P w K mg base "plus" 4 ["one", "other"] [] (fTwo gPlus)) (cT : Cal P w K mg base "times" 4 ["one", "other"] [] (fTwo gTimes)) (cW : Cal P w K mg base "worth" 2 ["top", "bottom"] [] (fWorth CW)) (F : Fun K "_gone" "Zones._gone" (inClass (top 26) 2) f fd) : FnOk P w K mg base (L2.CX P w) 5 f fd ["self", "row"] (spR K 2 (RGone CL)) := by
  refine fn_r F sc_gone _ fun cdv A outer s H E ds o Bx hl hf => ?_
  obtain ⟨k, n, S, u, b, s', τ, r, z, Z, hr, zo, rfl, rfl⟩ := hf
  obtain ⟨m, rfl⟩ : ∃ m, k = m + 1 := ⟨k - 1, by have := Z.k0; omega⟩
  have n0 := Z.n0
  have S0 := Z.S0
  have Sb := Z.Sb
  have hk := Z.k1
  have bN := Z.bn
  have rs := Z.ris
  have T0 : 0 < τ (m + 1) := by have := Z.u0; have := Z.u1; omega
  have tb := Z.tb (Nat.le_refl (m + 1))
  have v0 : 0 ≤ phs u S (τ (m + 1)) r := Int.emod_nonneg _ (by omega)
  have v1 : phs u S (τ (m + 1)) r < τ (m + 1) := Int.emod_lt_of_pos _ T0
  have x1 : CMulW r S := wide_mul hr (show S.natAbs < 2 ^ 66 by omega) (by decide) (by decide) (by decide)
  have d1 : CDivP (u + r * S) (τ (m + 1)) := divp_bn T0 (by
    have h1 : (r * S).natAbs < 2 ^ 126 := wide_lt hr (show S.natAbs < 2 ^ 66 by omega)
    have u0 := Z.u0
    have u1 := Z.u1
    omega)
  have lz : (nms (fun i => τ (i + 1)) m).length = m := nms_len
  have c2 := zo.cnt2 rs
  have zk := zo.zk
  have t1 := nms_at (f := τ) (k := m + 1 + 1) (show z < m + 1 + 1 by omega)
  have tl := nms_lastI (f := τ) (k := m + 1)
  have b1 := lws_at (f := b) (n := n) zk
  have s1 := lws_at (f := s') (n := n) zk
  have xb := Z.zX_bn zo
  have tz := (Z.tb (Nat.le_of_lt zk))
  have lo := zo.lo
  have w1 : fWorth CW ([.int (phs u S (τ (m + 1)) r - τ z), .int S] ++ []) = some (.ok (lw (phs u S (τ (m + 1)) r - τ z) S)) := fWorth_ok (by omega) (by unfold Small; omega)
  have w2 : fTwo gTimes ([lw (phs u S (τ (m + 1)) r - τ z) S, lw (s' z) n] ++ []) = some (.ok (lw ((phs u S (τ (m + 1)) r - τ z) * s' z) (S * n))) := times_lw S0 n0 (by unfold Bn; omega) bN.2.1 (bN.2.2.2.1 z zk) bN.1
  have nS : 0 < n * S := Int.mul_pos n0 S0
  have w3 : fTwo gPlus ([lw (b z) n, lw ((phs u S (τ (m + 1)) r - τ z) * s' z) (S * n)] ++ []) = some (.ok (lw (zX S b s' τ z (phs u S (τ (m + 1)) r)) (n * S))) := by
    have e : lw (b z) n = lw (b z * S) (n * S) := lw_same (by omega) (by omega) (by grind)
    rw [e, Int.mul_comm S n]
    have q0 := (Z.zX_bd zo).2.2
    have q1 := xb.2.2.1
    have q2 := xb.1
    have e2 : zX S b s' τ z (phs u S (τ (m + 1)) r) = b z * S + (phs u S (τ (m + 1)) r - τ z) * s' z := rfl
    have q3 := b_le Z.b0 Z.up (Nat.le_of_lt zk)
    have q4 : 0 ≤ b z * S := Int.mul_nonneg q3.1 (by omega)
    exact plus_lw nS (by unfold Bn at q1 ⊢; omega) xb.2.2.2 bN.2.2.2.2.2
  refine ⟨_, .rt _, svs_cons (e1 := [.da (.ins CL (znFs (m + 1) n b s' S u τ)), .da (.int r), .da (.int (rds u S (τ (m + 1)) r)), .da (.int (phs u S (τ (m + 1)) r)), .no, .no, .no]) ?_ (svs_cons (e1 := [.da (.ins CL (znFs (m + 1) n b s' S u τ)), .da (.int r), .da (.int (rds u S (τ (m + 1)) r)), .da (.int (phs u S (τ (m + 1)) r)), .da (.int (z : Nat)), .no, .no]) ?_ (svs_cons (e1 := [.da (.ins CL (znFs (m + 1) n b s' S u τ)), .da (.int r), .da (.int (rds u S (τ (m + 1)) r)), .da (.int (phs u S (τ (m + 1)) r)), .da (.int (z : Nat)), .da (lw (phs u S (τ (m + 1)) r - τ z) S), .no]) ?_ (svs_one (sv_ret ?_))))⟩
  · apply sv_unT (ds := [.int ((u + r * S) / τ (m + 1)), .int ((u + r * S) % τ (m + 1))]); (· assumption); (· apply ev_cb (x := "divmod") call_divmodW; (· walk_at "eva"); (· exact rc_divmod d1); (· rfl); (· assumption); (· decide +kernel); (· decide); (· decide); (· rfl); (· rfl)); (· walk_at "gn"); (· rfl); (· rfl); (· rfl); (· rfl); (· rfl); (· rfl); (· rfl)
  · refine sv_set Bx (EV.to (ev_cb (x := "len") call_len (eva_cons (evl_lcB Bx (lcb_listIf (x := "begin") (j := 6) (ds := nms (fun i => τ (i + 1)) m) (pp := fun i => decide (τ (i + 1) ≤ phs u S (τ (m + 1)) r)) (gf := fun i => (nms (fun i => τ (i + 1)) m).getD i .non) (W := WD E) (EV.to (by walk_at "ev") (congrArg Da.lst nms_mid)) (by rw [lz]; omega) (blkOk_by (N := ["self", "row", "rounds", "left", "zone", "behind", "begin"]) (sc := defScope (inClass (top 26) 2)) (by decide +kernel)) (fun s H C cl fp => pg_name Bx.nd (by rfl) (Or.inl rfl)) (fun s H C cl fp i hi => ?_) (fun s H C cl fp i hi _ => by walk_at "ev")) (fun _ => rfl)).ev eva_nil rfl) (rc_len rfl) (by rfl) mL (by decide +kernel) (by decide) (by decide) rfl rfl) ?_) rfl rfl (by walk_at "vis") (Or.inl rfl) rfl (by walk_at "nrm")
    · rw [lz] at hi
      exact EVT.env (e1 := [.da (.ins CL (znFs (m + 1) n b s' S u τ)), .da (.int r), .da (.int (rds u S (τ (m + 1)) r)), .da (.int (phs u S (τ (m + 1)) r)), .no, .no, .da (.int (τ (i + 1)))]) (by walk_at "evt") (by show [_, _, _, _, _, _, Sl.da (List.getD _ _ _)] = _; rw [nms_getD hi])
    · rw [outs_cnt, lz]
      exact congrArg (fun z : Nat => Da.int (z : Int)) c2
  · walk_at "set"
  · walk_at "ev"

theorem sc_valueZ : FnScope ["self", "row", "_", "place"] ["self", "row"] (defScope (inClass (top 26) 3)) := ⟨rfl, rfl, rfl, by decide +kernel, rfl, by decide +kernel, by decide +kernel⟩
theorem ok_valueZ (c : Cls K CL) (cG : MthR P w K mg base CL "_gone" 5 ["self", "row"] (RGone CL)) (F : Fun K "value" "Zones.value" (inClass (top 26) 3) f fd) : FnOk P w K mg base (L2.CX P w) 6 f fd ["self", "row"] (spR K 2 (RValZ CL)) := by
  refine fn_r F sc_valueZ _ fun cdv A outer s H E ds o Bx hl hf => ?_
  obtain ⟨k, n, S, u, b, s', τ, r, z, Z, hr, zo, rfl, rfl⟩ := hf
  have g0 : RGone CL (.ins CL (znFs k n b s' S u τ) :: ([.int r] ++ [])) (.ok (.tup [.int (rds u S (τ k) r), lw (zX S b s' τ z (phs u S (τ k) r)) (n * S)])) := ⟨k, n, S, u, b, s', τ, r, z, Z, hr, zo, rfl, rfl⟩
  exact ⟨_, .rt _, svs_cons (e1 := [.da (.ins CL (znFs k n b s' S u τ)), .da (.int r), .da (.int (rds u S (τ k) r)), .da (lw (zX S b s' τ z (phs u S (τ k) r)) (n * S))]) (by walk_at "unT") (svs_one (sv_ret (by walk_at "ev")))⟩

theorem sc_retZ : FnScope ["self"] ["self"] (defScope (inClass (top 26) 6)) := ⟨rfl, rfl, rfl, by decide +kernel, rfl, by decide +kernel, by decide +kernel⟩
theorem ok_retZ (c : Cls K CL) (n4 : NoAttr K CL "_scale") (n6 : NoAttr K CL "_takes") (cW : Cal P w K mg base "worth" 2 ["top", "bottom"] [] (fWorth CW)) (F : Fun K "returns" "Zones.returns" (inClass (top 26) 6) f fd) : FnOk P w K mg base (L2.CX P w) 3 f fd ["self"] (spR K 1 (RRetZ CL)) := by
  refine fn_r F sc_retZ _ fun cdv A outer s H E ds o Bx hl hf => ?_
  obtain ⟨k, n, S, u, b, s', τ, Z, rfl, rfl⟩ := hf
  have tl := nms_lastI (f := τ) (k := k)
  have S0 := Z.S0
  have Sb := Z.Sb
  have w1 : fWorth CW ([.int (τ k), .int S] ++ []) = some (.ok (lw (τ k) S)) := fWorth_ok (by omega) (by unfold Small; omega)
  exact ⟨_, .rt _, svs_one (sv_ret (by walk_at "ev"))⟩
def forB (st : Stmt) : List Stmt := match st with
  | .For _ _ b _ _ => b
  | _ => []
def wN : List Str := ["_law_rule", "_law_lowest_one", "_law_greatest", "_law_pace", "_law_place", "_law_rises_on", "_law_first", "_law_here", "_law_way", "_law_row"]

theorem sc_ring : FnScope ["_law_digits_here", "_law_many", "_law_widths", "_law_paces", "_law_k"] ["_law_digits_here"] (defScope (top 35)) := ⟨rfl, rfl, rfl, by decide +kernel, rfl, by decide +kernel, by decide +kernel⟩
theorem ok_ring (mR : mg "range" = none) (mS : mg "sum" = none) (lL : Cal P w K mg base "_law_low" 1 ["_law_upper", "_law_lower"] [] fLow) (F : Fun K "_law_ring" "_law_ring" (top 35) f fd) : FnOk P w K mg base (L2.CX P w) 2 f fd ["_law_digits_here"] (spR K 1 RRing) := by
  refine fn_r F sc_ring _ fun cdv A outer s H E ds o Bx hl hf => ?_
  obtain ⟨ns, G, rfl, rfl⟩ := hf
  have kb := rgK_bd (q := qf ns)
  have a0 : atI (ns.map Da.int) 0 = some (.int (qf ns 0)) := dg_at G (i := 0) (by decide)
  have a16 : atI (ns.map Da.int) 16 = some (.int (qf ns 16)) := dg_at G (i := 16) (by decide)
  refine ⟨_, .rt _, svs_cons (e1 := [.da (.lst (ns.map .int)), .da (.int (1 + qf ns 0 % 4)), .no, .no, .no]) (by walk_at "set") ?_⟩
  rw [← rgK_i]
  refine svs_cons (e1 := [.da (.lst (ns.map .int)), .da (.int (rgK (qf ns) : Nat)), .own (nms (rgW (qf ns)) (rgK (qf ns))), .no, .no]) ?_ (svs_freeze (n := 2) rfl ?_)
  · refine sv_setLc (n := 2) Bx (LcB.toS (lcb_range (x := "_law_k") (j := 4) (n := rgK (qf ns)) (gf := fun i => .int (rgW (qf ns) i)) (W := WD E) (by walk_at "eva") (by omega) mR (by rfl) rfl (blkOk_by (N := ["_law_digits_here", "_law_many", "_law_widths", "_law_paces", "_law_k"]) (sc := defScope (top 35)) (by decide +kernel)) (fun s H C cl fp => pg_name Bx.nd (by rfl) (Or.inl rfl)) (fun s H C cl fp i hi _ => ?_)) (outs_rng _ _)) (fun _ => rfl) rfl rfl (by rfl) (by rfl)
    have b1 : atI (ns.map Da.int) (1 + (i : Int)) = some (.int (qf ns (1 + i))) := by
      have := dg_at G (i := 1 + i) (by omega)
      rwa [Int.natCast_add] at this
    exact EV.env (e1 := [.da (.lst (ns.map .int)), .da (.int (rgK (qf ns) : Nat)), .no, .no, .da (.int (i : Int))]) (by walk_at "ev") (by rfl)
  show SVs _ _ [.da (.lst (ns.map .int)), .da (.int (rgK (qf ns) : Nat)), .da (.lst (nms (rgW (qf ns)) (rgK (qf ns)))), .no, .no] _ _
  refine svs_cons (e1 := [.da (.lst (ns.map .int)), .da (.int (rgK (qf ns) : Nat)), .da (.lst (nms (rgW (qf ns)) (rgK (qf ns)))), .own (lws (rgS (qf ns)) 6 (rgK (qf ns))), .no]) ?_ (svs_freeze (n := 3) rfl ?_)
  · refine sv_setLc (n := 3) Bx (LcB.toS (lcb_range (x := "_law_k") (j := 4) (n := rgK (qf ns)) (gf := fun i => lw (rgS (qf ns) i) 6) (W := WD E) (by walk_at "eva") (by omega) mR (by rfl) rfl (blkOk_by (N := ["_law_digits_here", "_law_many", "_law_widths", "_law_paces", "_law_k"]) (sc := defScope (top 35)) (by decide +kernel)) (fun s H C cl fp => pg_name Bx.nd (by rfl) (Or.inl rfl)) (fun s H C cl fp i hi _ => ?_)) (outs_rng _ _)) (fun _ => rfl) rfl rfl (by rfl) (by rfl)
    have b2 : atI (ns.map Da.int) (6 + (i : Int)) = some (.int (qf ns (6 + i))) := by
      have := dg_at G (i := 6 + i) (by omega)
      rwa [Int.natCast_add] at this
    have b3 : atI (ns.map Da.int) (11 + (i : Int)) = some (.int (qf ns (11 + i))) := by
      have := dg_at G (i := 11 + i) (by omega)
      rwa [Int.natCast_add] at this
    have b4 : atI [Da.int 1, .int 2, .int 3] (qf ns (11 + i) % 3) = some (.int (rgPb (qf ns) i)) := at_ints (ns := [1, 2, 3]) (Int.emod_nonneg _ (by decide)) (Int.emod_lt_of_pos _ (by decide))
    have pc := rgPb_c (q := qf ns) i
    have pb := rgP_bd (q := qf ns) i
    have k1 : fLow ([.int (1 + qf ns (6 + i) % 12), .int (rgPb (qf ns) i)] ++ []) = some (.ok (lw (rgS (qf ns) i) 6)) := by
      have nz : rgPb (qf ns) i ≠ 0 := by omega
      rw [fLow_ok nz (by unfold Small; omega)]
      refine congrArg some (congrArg XO.ok (lw_same nz (by decide) ?_))
      show rgP (qf ns) i * 6 = rgS (qf ns) i * rgPb (qf ns) i
      unfold rgS
      rcases pc with e | e | e <;> rw [e]
      · have : (6 : Int) / 1 = 6 := by decide
        rw [this]; omega
      · have : (6 : Int) / 2 = 3 := by decide
        rw [this]; omega
      · have : (6 : Int) / 3 = 2 := by decide
        rw [this]; omega
    exact EV.env (e1 := [.da (.lst (ns.map .int)), .da (.int (rgK (qf ns) : Nat)), .da (.lst (nms (rgW (qf ns)) (rgK (qf ns)))), .no, .da (.int (i : Int))]) (ev_cal lL (bd_blk Bx Bx.nd) (by decide) (by walk_at "eva") k1 rfl (by rfl) (by decide) rfl rfl) (by rfl)
  show SVs _ _ [.da (.lst (ns.map .int)), .da (.int (rgK (qf ns) : Nat)), .da (.lst (nms (rgW (qf ns)) (rgK (qf ns)))), .da (.lst (lws (rgS (qf ns)) 6 (rgK (qf ns)))), .no] _ _
  have E0 := rgE_bd (q := qf ns) (rgK (qf ns))
  have sm := rg_sum (q := qf ns) (rgK (qf ns))
  exact svs_one (sv_ret (ev_tup (eva_cons (by walk_at "ev") (eva_cons (by walk_at "ev") (eva_cons (EV.to (ev_mod (by walk_at "ev") (ev_sum (ns := (List.range (rgK (qf ns))).map (rgW (qf ns))) Bx (eva_cons (EV.to (by walk_at "ev") (congrArg Da.lst (nms_map _ _))) eva_nil rfl) (by rfl) mS rfl rfl) (by rw [sm]; omega)) (by rw [sm]; rfl)) eva_nil rfl) rfl) rfl) (Nat.le_of_ble_eq_true rfl)))

theorem sc_stays : FnScope ["_law_zones", "_law_found", "_law_here", "_law_size", "_law_whole", "_law_zone"] ["_law_zones"] (defScope (top 36)) := ⟨rfl, rfl, rfl, by decide +kernel, rfl, by decide +kernel, by decide +kernel⟩
theorem ok_stays (F : Fun K "_law_stays" "_law_stays" (top 36) f fd) : FnOk P w K mg base (L2.CX P w) 1 f fd ["_law_zones"] (spR K 1 RStays) := by
  refine fn_r F sc_stays _ fun cdv A outer s H E ds o Bx hl hf => ?_
  obtain ⟨g, n, n1, n2, rfl, rfl⟩ := hf
  have a0 : atI (nms g n) 0 = some (.int (g 0)) := nms_at (f := g) (i := 0) (by omega)
  refine ⟨_, .rt _, svs_cons (e1 := [.da (.lst (nms g n)), .own [], .no, .no, .no, .no]) (by walk_at "setL") (svs_cons (e1 := [.da (.lst (nms g n)), .own [], .da (.int (g 0)), .no, .no, .no]) (by walk_at "set") (svs_cons (e1 := [.da (.lst (nms g n)), .own [], .da (.int (g 0)), .da (.int 0), .no, .no]) (by walk_at "set") (svs_cons (e1 := [.da (.lst (nms g n)), .own ([]), .da (.int (g 0)), .da (.int 0), .da (.bl false), .no]) (by walk_at "set") (svs_cons (e1 := [.da (.lst (nms g n)), .own ((stN g n).F.map stP), .da (.int (stN g n).h), .da (.int (stN g n).sz), .da (.bl (stN g n).w), .no]) ?_ ?_))))⟩
  · have ln : (nms g n).length = n := nms_len
    have goal : ∀ e2 : List Sl, e2 = [.da (.lst (nms g n)), .own ((stN g n).F.map stP), .da (.int (stN g n).h), .da (.int (stN g n).sz), .da (.bl (stN g n).w), .no] → e2 = (fun i : Nat => ([.da (.lst (nms g n)), .own ((stN g i).F.map stP), .da (.int (stN g i).h), .da (.int (stN g i).sz), .da (.bl (stN g i).w), .no] : List Sl)) (nms g n).length := fun e2 h => by rw [h, ln]
    rw [goal _ rfl]
    refine sv_forL Bx (fun i => [.da (.lst (nms g n)), .own ((stN g i).F.map stP), .da (.int (stN g i).h), .da (.int (stN g i).sz), .da (.bl (stN g i).w), .no]) rfl rfl (by walk_at "vis") (Or.inl rfl) (by walk_at "ev") rfl (fun _ => rfl) (fun i d hd => ?_)
    have hi : i < n := by
      have := (List.getElem?_eq_some_iff.mp hd).1
      omega
    have hd := hd.symm.trans (nms_get hi)
    obtain rfl := Option.some.inj hd
    have nx : stN g (i + 1) = (stN g i).nx (g i) := rfl
    have sl : (stN g i).F.length ≤ i := (stN_I g i).len
    show SVs _ _ (List.set [.da (.lst (nms g n)), .own ((stN g i).F.map stP), .da (.int (stN g i).h), .da (.int (stN g i).sz), .da (.bl (stN g i).w), .no] 5 (.da (.int (g i)))) _ (.nx [.da (.lst (nms g n)), .own ((stN g (i + 1)).F.map stP), .da (.int (stN g (i + 1)).h), .da (.int (stN g (i + 1)).sz), .da (.bl (stN g (i + 1)).w), .no])
    rw [nx]
    generalize stN g i = st at *
    obtain ⟨FF, h, sz, w⟩ := st
    have sl : FF.length ≤ i := sl
    unfold SSt.nx
    show SVs _ _ [.da (.lst (nms g n)), .own (FF.map stP), .da (.int h), .da (.int sz), .da (.bl w), .da (.int (g i))] _ _
    by_cases c : g i = h
    · rw [if_pos c]
      exact svs_weak (e1 := [.da (.lst (nms g n)), .own (FF.map stP), .da (.int h), .da (.int (sz + 1)), .da (.bl w), .da (.int (g i))]) (svs_one (sv_ifT (EVT.is (by walk_at "evt") (by rw [deq_int]; exact beq_iff_eq.mpr c)) (svs_one (by walk_at "set")))) (.eq (.eq (.eq (.eq (.eq (.no .nil))))))
    · rw [if_neg c]
      refine svs_weak (e1 := [.da (.lst (nms g n)), .own ((if w = true then FF ++ [(h, sz)] else FF).map stP), .da (.int (g i)), .da (.int 1), .da (.bl true), .da (.int (g i))]) (svs_one (sv_ifF (EVT.is (by walk_at "evt") (by rw [deq_int]; exact beq_eq_false_iff_ne.mpr c)) (svs_cons (e1 := [.da (.lst (nms g n)), .own ((if w = true then FF ++ [(h, sz)] else FF).map stP), .da (.int h), .da (.int sz), .da (.bl w), .da (.int (g i))]) ?_ (svs_one (by apply sv_par3; (· assumption); (· walk_at "eva"); (· rfl); (· rfl); (· rfl); (· rfl); (· rfl); (· rfl); (· decide); (· decide); (· decide); (· rfl); (· rfl); (· rfl); (· rfl); (· rfl); (· walk_at "nrm")))))) (.eq (.eq (.eq (.eq (.eq (.no .nil))))))
      cases w with
      | true =>
        have e : ((if true = true then FF ++ [(h, sz)] else FF).map stP) = FF.map stP ++ [.tup [.int h, .int sz]] := by rw [if_pos rfl, List.map_append]; rfl
        have lf : (FF.map stP).length < 100000 := by rw [List.length_map]; omega
        rw [e]
        exact sv_ifT (by walk_at "evt") (svs_one (by walk_at "app"))
      | false =>
        exact sv_ifF (by walk_at "evt") svs_nil
  · exact svs_freeze (n := 1) rfl (svs_one (sv_ret (by walk_at "ev")))

theorem sc_within : FnScope ["_law_size", "_law_part"] ["_law_size", "_law_part"] (defScope (top 37)) := ⟨rfl, rfl, rfl, by decide +kernel, rfl, by decide +kernel, by decide +kernel⟩
theorem ok_within (F : Fun K "_law_within" "_law_within" (top 37) f fd) : FnOk P w K mg base (L2.CX P w) 1 f fd ["_law_size", "_law_part"] (spR K 2 RWithin) := by
  refine fn_r F sc_within _ fun cdv A outer s H E ds o Bx hl hf => ?_
  obtain ⟨c, x, n, n0, hx, hn, rfl, rfl⟩ := hf
  have b0 := bt_pos x (show n ≠ 0 by omega)
  have bB := bt_bn (x := x) (show n ≠ 0 by omega) hn
  have tB := tp_bn (x := x) (show n ≠ 0 by omega) hx
  have d1 : CDivW (tp x n) (bt x n) := wide_div b0 bB (by decide) (by decide)
  have d2 : CDivW (0 - tp x n) (bt x n) := wide_div b0 bB (by decide) (by decide)
  have e0 : atI [Da.int (tp x n), .int (bt x n)] 0 = some (.int (tp x n)) := rfl
  have e1 : atI [Da.int (tp x n), .int (bt x n)] 1 = some (.int (bt x n)) := rfl
  have ew : lw x n = .tup [.int (tp x n), .int (bt x n)] := rfl
  rw [ew]
  exact ⟨_, .rt _, svs_one (sv_ret (ev_inI (ns := [tp x n / bt x n, 0 - (0 - tp x n) / bt x n]) (by walk_at "ev") (EV.to (d2 := .lst ([tp x n / bt x n, 0 - (0 - tp x n) / bt x n].map .int)) (by walk_at "ev") rfl) rfl))⟩

theorem sc_right : FnScope ["_law_made", "_law_widths", "_law_paces", "_law_begin", "_law_often", "_law_rounds", "_law_k", "_law_zones", "_law_parts", "_law_zone", "_law_size", "_law_due", "_law_part"] ["_law_made", "_law_widths", "_law_paces", "_law_begin"] (defScope (top 38)) := ⟨rfl, rfl, rfl, by decide +kernel, rfl, by decide +kernel, by decide +kernel⟩
theorem ok_right (mR : mg "range" = none) (mL : mg "len" = none) (c0 : Cls K CL) (cZ : MthR P w K mg base CL "zone_of" 5 ["self", "thing"] (RZone CL)) (cV : MthR P w K mg base CL "value" 6 ["self", "row"] (RValZ CL)) (cRt : MthR P w K mg base CL "returns" 3 ["self"] (RRetZ CL))
    (lB : Cal P w K mg base "_law_by" 2 ["_law_one", "_law_other"] [] (fTwoL gTimes)) (lSt : CalR P w K mg base "_law_stays" 1 ["_law_zones"] RStays) (lWi : CalR P w K mg base "_law_within" 1 ["_law_size", "_law_part"] RWithin)
    (F : Fun K "_law_right" "_law_right" (top 38) f fd) : FnOk P w K mg base (L2.CX P w) 7 f fd ["_law_made", "_law_widths", "_law_paces", "_law_begin"] (spR K 4 (RRightZ CL)) := by
  refine fn_r F sc_right _ fun cdv A outer s H E ds o Bx hl hf => ?_
  obtain ⟨k, n, S, u, b, s', τ, w', beg, Z, hw, hwb, hR, hb0, hb1, rfl, rfl⟩ := hf
  have n0 := Z.n0
  have nB := Z.nb
  have S0 := Z.S0
  have nS : 0 < n * S := Int.mul_pos n0 S0
  have bN := Z.bn
  have k0 := Z.k0
  have k1 := Z.k1
  have RI := Z.ris
  obtain ⟨R0, Q0, RQ, _⟩ := Z.ret
  have rt0 : RRetZ CL [.ins CL (znFs k n b s' S u τ)] (.ok (.tup [.int (tp (τ k) S), .int (bt (τ k) S)])) := ⟨k, n, S, u, b, s', τ, Z, rfl, rfl⟩
  obtain ⟨N, hN⟩ : ∃ N : Nat, (N : Int) = tp (τ k) S := ⟨(tp (τ k) S).toNat, by omega⟩
  obtain ⟨zf, hz⟩ := Classical.axiomOfChoice fun j : Nat => Z.phs_bd (beg + (j : Int))
  have ct := fun z (zk : z < k) => Z.zone_cnt hz hN (z := z) zk
  have Qb : Bn (bt (τ k) S) := bt_bn (by omega) bN.2.1
  have Q1 : bt (τ k) S ≤ 2 ^ 66 := by have := bt_le (τ k) (show S ≠ 0 by omega); have := Z.Sb; omega
  rw [← hN] at rt0 RQ hR R0
  have per : ∀ j : Nat, zf (N + j) = zf j := fun j => by
    have h1 := hz (N + j)
    have e : beg + ((N + j : Nat) : Int) = (beg + j) + N := by omega
    rw [e, phs_back RQ] at h1
    exact h1.uniq RI (hz j)
  generalize bt (τ k) S = Q at *
  clear hN
  obtain ⟨g, hg⟩ : ∃ g : Nat → Int, g = fun j : Nat => ((zf j : Nat) : Int) := ⟨_, rfl⟩
  have gz : ∀ j, g j = ((zf j : Nat) : Int) := fun j => by rw [hg]
  have pg : nms (fun i => g (N + i)) N = nms g N := by
    have : (fun i => g (N + i)) = g := funext fun i => by rw [gz, gz, per]
    rw [this]
  have val : ∀ j : Nat, j < N + N → RValZ CL (.ins CL (znFs k n b s' S u τ) :: ([.int (beg + (j : Int))] ++ [])) (.ok (lw (zX S b s' τ (zf j) (phs u S (τ k) (beg + (j : Int)))) (n * S))) := fun j hj => ⟨k, n, S, u, b, s', τ, _, zf j, Z, Nat.lt_of_le_of_lt (show (beg + (j : Int)).natAbs ≤ 2000000 by omega) (by decide), hz j, rfl, rfl⟩
  have zon : ∀ j : Nat, RZone CL (.ins CL (znFs k n b s' S u τ) :: ([lw (zX S b s' τ (zf j) (phs u S (τ k) (beg + (j : Int)))) (n * S)] ++ [])) (.ok (.int (g j))) := fun j => by
    have zo := hz j
    have xb := (Z.zX_bn zo).2.2.1
    have e := (Z.zoS zo).cnt1 Z.risS
    rw [gz]
    obtain ⟨m, rfl⟩ : ∃ m, k = m + 1 := ⟨k - 1, by omega⟩
    refine ⟨_, m, n * S, fun i => b i * S, _, rfl, ?_, by omega, nS, bN.2.2.2.2.2, xb, fun i hi => Z.bS (by omega), ?_⟩
    · show some (Da.lst (lws b n (m + 1))) = _
      rw [lwsS n0 S0]
    · exact congrArg (fun z : Nat => XO.ok (Da.int (z : Int))) e.symm
  have kw : lenD (.lst (nms w' k)) = some k := congrArg some nms_len
  have sb : ∀ i, i < k → 0 < s' i ∧ s' i < 2 ^ 24 := fun i hi => ⟨Z.s0 i hi, Z.sb i hi⟩
  have lq : ∀ i, i < k → (τ (i + 1) - τ i) * s' i = S * (n * w' i) := fun i hi => by rw [Z.eq i hi, hw i hi]
  have wn : ∀ i, i < k → 0 < w' i * n ∧ w' i * n ≤ 1000 * 2 ^ 24 := fun i hi => by
    have h1 := hwb i hi
    exact ⟨Int.mul_pos h1.1 n0, Int.mul_le_mul h1.2 (Int.le_of_lt nB) (Int.le_of_lt n0) (by decide)⟩
  have bw : ∀ i, i < k → Bn (w' i * n) := fun i hi => by have := wn i hi; unfold Bn; omega
  have bs : ∀ i, i < k → Bn (s' i) := fun i hi => by have := sb i hi; unfold Bn; omega
  have kB : ∀ i, i < k → fTwoL gTimes ([.tup [.int (w' i), .int 1], .tup [.int (bt (s' i) n), .int (tp (s' i) n)]] ++ []) = some (.ok (lw (w' i * n) (s' i))) := fun i hi => by
    have h1 := sb i hi
    rw [lw_turned h1.1 n0, lw_int, lby_lw (by decide) (by omega) (by have := hwb i hi; unfold Bn; omega) (by decide) bN.1 (bs i hi), Int.one_mul]
  have bwq : ∀ i, i < k → fTwoL gTimes ([lw (w' i * n) (s' i), .tup [.int Q, .int 1]] ++ []) = some (.ok (lw (w' i * n * Q) (s' i))) := fun i hi => by
    have h1 := sb i hi
    rw [lw_int, lby_lw (by omega) (by decide) (bw i hi) (bs i hi) Qb (by decide), Int.mul_one]
  have lz : (nms g (N + N)).length = N + N := nms_len
  refine ⟨_, .rt _, svs_cons (e1 := [.da (.ins CL (znFs k n b s' S u τ)), .da (.lst (nms w' k)), .da (.lst (lws s' n k)), .da (.int beg), .da (.int (N : Nat)), .da (.int Q), .no, .no, .no, .no, .no, .no, .no]) (by walk_at "unT") (svs_cons (e1 := [.da (.ins CL (znFs k n b s' S u τ)), .da (.lst (nms w' k)), .da (.lst (lws s' n k)), .da (.int beg), .da (.int (N : Nat)), .da (.int Q), .no, .own (nms g (N + N)), .no, .no, .no, .no, .no]) ?_ (svs_freeze (n := 7) rfl ?_))⟩
  · refine sv_setLc (n := 7) Bx (LcB.toS (lcb_range (x := "_law_k") (j := 6) (n := N + N) (gf := fun i => .int (g i)) (W := WD E) (eva_cons (EV.to (ev_mul (by walk_at "ev") (by walk_at "ev") (cm_small (by decide) (lt60 (by omega)))) (congrArg Da.int (by omega))) eva_nil rfl) (by omega) mR (by rfl) rfl (blkOk_by (N := ["_law_made", "_law_widths", "_law_paces", "_law_begin", "_law_often", "_law_rounds", "_law_k", "_law_zones", "_law_parts", "_law_zone", "_law_size", "_law_due", "_law_part"]) (sc := defScope (top 38)) (by decide +kernel)) (fun s H C cl fp => pg_name Bx.nd (by rfl) (Or.inl rfl)) (fun s H C cl fp i hi _ => ?_)) (outs_rng _ _)) (fun _ => rfl) rfl rfl (by rfl) (by rfl)
    have v1 := val i hi
    have v2 := zon i
    exact EV.env (e1 := [.da (.ins CL (znFs k n b s' S u τ)), .da (.lst (nms w' k)), .da (.lst (lws s' n k)), .da (.int beg), .da (.int (N : Nat)), .da (.int Q), .da (.int (i : Int)), .no, .no, .no, .no, .no, .no]) (ev_methR cZ (bd_blk Bx Bx.nd) (by decide) c0 (by walk_at "ev") (eva_cons (ev_methR cV (bd_blk Bx Bx.nd) (by decide) c0 (by walk_at "ev") (by walk_at "eva") v1 rfl rfl rfl rfl rfl) eva_nil rfl) v2 rfl rfl rfl rfl rfl) (by rfl)
  show SVs _ _ [.da (.ins CL (znFs k n b s' S u τ)), .da (.lst (nms w' k)), .da (.lst (lws s' n k)), .da (.int beg), .da (.int (N : Nat)), .da (.int Q), .no, .da (.lst (nms g (N + N))), .no, .no, .no, .no, .no] _ _
  refine svs_cons (e1 := [.da (.ins CL (znFs k n b s' S u τ)), .da (.lst (nms w' k)), .da (.lst (lws s' n k)), .da (.int beg), .da (.int (N : Nat)), .da (.int Q), .no, .da (.lst (nms g (N + N))), .own (wps w' s' n k), .no, .no, .no, .no]) ?_ (svs_freeze (n := 8) rfl ?_)
  · refine sv_setLc (n := 8) Bx (LcB.toS (lcb_range (x := "_law_k") (j := 6) (n := k) (gf := fun i => lw (w' i * n) (s' i)) (W := WD E) (by walk_at "eva") (by omega) mR (by rfl) rfl (blkOk_by (N := ["_law_made", "_law_widths", "_law_paces", "_law_begin", "_law_often", "_law_rounds", "_law_k", "_law_zones", "_law_parts", "_law_zone", "_law_size", "_law_due", "_law_part"]) (sc := defScope (top 38)) (by decide +kernel)) (fun s H C cl fp => pg_name Bx.nd (by rfl) (Or.inl rfl)) (fun s H C cl fp i hi _ => ?_)) (outs_rng _ _)) (fun _ => rfl) rfl rfl (by rfl) (by rfl)
    have wi : atI (nms w' k) (i : Int) = some (.int (w' i)) := nms_at hi
    have pi : atI (lws s' n k) (i : Int) = some (.tup [.int (tp (s' i) n), .int (bt (s' i) n)]) := lws_at hi
    have kb := kB i hi
    exact EV.env (e1 := [.da (.ins CL (znFs k n b s' S u τ)), .da (.lst (nms w' k)), .da (.lst (lws s' n k)), .da (.int beg), .da (.int (N : Nat)), .da (.int Q), .da (.int (i : Int)), .da (.lst (nms g (N + N))), .no, .no, .no, .no, .no]) (ev_cal lB (bd_blk Bx Bx.nd) (by decide) (by walk_at "eva") kb rfl (by rfl) (by decide) rfl rfl) (by rfl)
  show SVs _ _ [.da (.ins CL (znFs k n b s' S u τ)), .da (.lst (nms w' k)), .da (.lst (lws s' n k)), .da (.int beg), .da (.int (N : Nat)), .da (.int Q), .no, .da (.lst (nms g (N + N))), .da (.lst (wps w' s' n k)), .no, .no, .no, .no] _ _
  have kp : (wps w' s' n k).length = k := wps_len
  have on1 : ∀ (pp : Nat → Bool) (m : Nat), outs pp (fun _ => Da.int 1) m = (List.replicate (Sky.cnt pp m) (1 : Int)).map .int := fun pp m => by
    induction m with
    | zero => rfl
    | succ m ih =>
      rw [outs_succ, ih, Sky.cnt]
      cases pp m with
      | true => rw [if_pos rfl, if_pos rfl, List.replicate_succ', List.map_append]; rfl
      | false => rw [if_neg Bool.false_ne_true, if_neg Bool.false_ne_true, List.append_nil]; rfl
  obtain ⟨pp, hpp⟩ : ∃ pp : Nat → Bool, pp = fun i : Nat => decide (tp (w' i * n) (s' i) < bt (w' i * n) (s' i)) := ⟨_, rfl⟩
  have cA : Cmp (.lst ((List.replicate (Sky.cnt pp k) (1 : Int)).map .int)) := cmp_ints _
  have cE : Cmp (.lst []) := cmp_ints []
  refine svs_cons (e1 := [.da (.ins CL (znFs k n b s' S u τ)), .da (.lst (nms w' k)), .da (.lst (lws s' n k)), .da (.int beg), .da (.int (N : Nat)), .da (.int Q), .no, .da (.lst (nms g (N + N))), .da (.lst (wps w' s' n k)), .no, .no, .no, .no]) ?_ (svs_cons (e1 := [.da (.ins CL (znFs k n b s' S u τ)), .da (.lst (nms w' k)), .da (.lst (lws s' n k)), .da (.int beg), .da (.int (N : Nat)), .da (.int Q), .no, .da (.lst (nms g (N + N))), .da (.lst (wps w' s' n k)), .no, .no, .no, .no]) ?_ (svs_one (sv_ret ev_bl)))
  · have dE : deq (.lst ((List.replicate (Sky.cnt pp k) (1 : Int)).map .int)) (.lst []) = decide (List.replicate (Sky.cnt pp k) (1 : Int) = []) := eqv_ints (ys := [])
    by_cases hk : 1 < k ∧ Sky.cnt pp k = 0
    · obtain ⟨hk1, hk2⟩ := hk
      refine sv_ifT (EVT.is (evt_w (evw_and (by walk_at "evt") (fun _ => evw_and1 (evt_eq Bx (evl_lcB Bx (LcB.toS (lcb_listIf (x := "_law_part") (j := 12) (ds := wps w' s' n k) (pp := pp) (gf := fun _ => .int 1) (W := WD E) (by walk_at "ev") (by omega) (blkOk_by (N := ["_law_made", "_law_widths", "_law_paces", "_law_begin", "_law_often", "_law_rounds", "_law_k", "_law_zones", "_law_parts", "_law_zone", "_law_size", "_law_due", "_law_part"]) (sc := defScope (top 38)) (by decide +kernel)) (fun s H C cl fp => pg_name Bx.nd (by rfl) (Or.inl rfl)) (fun s H C cl fp i hi => EVT.env (e1 := [.da (.ins CL (znFs k n b s' S u τ)), .da (.lst (nms w' k)), .da (.lst (lws s' n k)), .da (.int beg), .da (.int (N : Nat)), .da (.int Q), .no, .da (.lst (nms g (N + N))), .da (.lst (wps w' s' n k)), .no, .no, .no, .da (.tup [.int (tp (w' i * n) (s' i)), .int (bt (w' i * n) (s' i))])]) (EVT.is (by walk_at "evt") (by rw [hpp])) (by show List.set _ 12 _ = _; rw [wps_getD (by rw [kp] at hi; exact hi)]; rfl)) (fun s H C cl fp i hi _ => ev_int)) (by rw [kp]; exact on1 pp k)) (fun _ => rfl)).ev (by walk_at "ev") cA cE)))) (by rw [dE, hk2, decide_eq_true (show (1 : Int) < ((k : Nat) : Int) by omega)]; rfl)) (svs_one ?_)
      have c0z : ∀ m, m ≤ k → Sky.cnt pp m = 0 := fun m hm => by
        have := cnt_le pp m (k - m)
        rw [show m + (k - m) = k by omega, hk2] at this
        omega
      have hL : ∀ i, i < k → S ≤ τ (i + 1) - τ i := fun i hi => by
        have h1 := c0z (i + 1) (by omega)
        rw [Sky.cnt] at h1
        have h2 : pp i = false := by
          cases hq : pp i with
          | true => rw [hq, if_pos rfl] at h1; omega
          | false => rfl
        rw [hpp] at h2
        have h3 : ¬ w' i * n < s' i := fun q => of_decide_eq_false h2 ((tp_lt (sb i hi).1).mpr q)
        have h4 := lq i hi
        have s0 := (sb i hi).1
        have h5 : S * s' i ≤ (τ (i + 1) - τ i) * s' i := by
          rw [h4]
          exact Int.mul_le_mul_of_nonneg_left (by rw [Int.mul_comm n]; omega) (Int.le_of_lt S0)
        exact Int.le_of_mul_le_mul_right h5 s0
      have zS : RStays [.lst (nms g (N + N))] (.ok (.lst ((stN g (N + N)).F.map stP))) := ⟨g, N + N, by omega, by omega, rfl, rfl⟩
      have runs := (stN_I g (N + N)).runs
      generalize (stN g (N + N)).F = FF at zS runs
      have lF : (FF.map stP).length = FF.length := List.length_map _
      refine sv_forLP (fa := fun i => .int (FF.getD i (0, 0)).1) (fb := fun i => .int (FF.getD i (0, 0)).2) (ds := FF.map stP) Bx (fun _ => [.da (.ins CL (znFs k n b s' S u τ)), .da (.lst (nms w' k)), .da (.lst (lws s' n k)), .da (.int beg), .da (.int (N : Nat)), .da (.int Q), .no, .da (.lst (nms g (N + N))), .da (.lst (wps w' s' n k)), .no, .no, .no, .no]) (ev_calR lSt Bx (by decide) (by walk_at "eva") zS rfl (by rfl) (by decide) rfl rfl) (fun i hi => ?_) rfl (fun _ => rfl) (by walk_at "gn") rfl rfl (fun i hi => ?_)
      · rw [lF] at hi
        rw [List.getElem?_map, List.getElem?_eq_getElem hi, List.getD_eq_getElem?_getD, List.getElem?_eq_getElem hi]
        rfl
      · rw [lF] at hi
        have hm : FF.getD i (0, 0) ∈ FF := by
          rw [List.getD_eq_getElem?_getD, List.getElem?_eq_getElem hi]
          exact List.getElem_mem hi
        have R := runs _ hm
        show SVs _ _ (List.set (List.set [.da (.ins CL (znFs k n b s' S u τ)), .da (.lst (nms w' k)), .da (.lst (lws s' n k)), .da (.int beg), .da (.int (N : Nat)), .da (.int Q), .no, .da (.lst (nms g (N + N))), .da (.lst (wps w' s' n k)), .no, .no, .no, .no] 9 (.da (.int (FF.getD i (0, 0)).1))) 10 (.da (.int (FF.getD i (0, 0)).2))) _ _
        generalize FF.getD i (0, 0) = pr at R hm
        obtain ⟨p1, p2⟩ := pr
        have R : Sky.Run g (N + N) p1 p2 := R
        show SVs _ _ [.da (.ins CL (znFs k n b s' S u τ)), .da (.lst (nms w' k)), .da (.lst (lws s' n k)), .da (.int beg), .da (.int (N : Nat)), .da (.int Q), .no, .da (.lst (nms g (N + N))), .da (.lst (wps w' s' n k)), .da (.int p1), .da (.int p2), .no, .no] _ _
        obtain ⟨z, zk, rfl⟩ : ∃ z : Nat, z < k ∧ p1 = (z : Int) := by
          obtain ⟨j, m, e, m1, _, _, _, hin⟩ := R
          have := hin 0 (by omega)
          rw [gz] at this
          exact ⟨zf (j + 1 + 0), (hz (j + 1 + 0)).zk, this.symm⟩
        have ro := Z.stay hz (by omega) hL (N := N + N) (z := z) (sz := p2) (by rw [← hg]; exact R)
        have s0 := (sb z zk).1
        have ro2 : Rou p2 (w' z * n) (s' z) := ro.same s0 S0 (by have := lq z zk; rw [this]; grind)
        have zW : RWithin [.int p2, lw (w' z * n) (s' z)] (.ok (.bl true)) := ⟨p2, w' z * n, s' z, s0, bw z zk, bs z zk, rfl, by rw [decide_eq_true ((within_rou s0).mpr ro2)]⟩
        have pz : atI (wps w' s' n k) (z : Int) = some (lw (w' z * n) (s' z)) := wps_at zk
        exact svs_weak (e1 := [.da (.ins CL (znFs k n b s' S u τ)), .da (.lst (nms w' k)), .da (.lst (lws s' n k)), .da (.int beg), .da (.int (N : Nat)), .da (.int Q), .no, .da (.lst (nms g (N + N))), .da (.lst (wps w' s' n k)), .da (.int (z : Int)), .da (.int p2), .no, .no]) (svs_one (sv_ifF (EVT.is (by walk_at "evt") (by rfl)) svs_nil)) (.eq (.eq (.eq (.eq (.eq (.eq (.eq (.eq (.eq (.no (.no (.no (.no .nil)))))))))))))
    · refine sv_ifF (EVT.is (evt_w (evw_and (by walk_at "evt") (fun _ => evw_and1 (evt_eq Bx (evl_lcB Bx (LcB.toS (lcb_listIf (x := "_law_part") (j := 12) (ds := wps w' s' n k) (pp := pp) (gf := fun _ => .int 1) (W := WD E) (by walk_at "ev") (by omega) (blkOk_by (N := ["_law_made", "_law_widths", "_law_paces", "_law_begin", "_law_often", "_law_rounds", "_law_k", "_law_zones", "_law_parts", "_law_zone", "_law_size", "_law_due", "_law_part"]) (sc := defScope (top 38)) (by decide +kernel)) (fun s H C cl fp => pg_name Bx.nd (by rfl) (Or.inl rfl)) (fun s H C cl fp i hi => EVT.env (e1 := [.da (.ins CL (znFs k n b s' S u τ)), .da (.lst (nms w' k)), .da (.lst (lws s' n k)), .da (.int beg), .da (.int (N : Nat)), .da (.int Q), .no, .da (.lst (nms g (N + N))), .da (.lst (wps w' s' n k)), .no, .no, .no, .da (.tup [.int (tp (w' i * n) (s' i)), .int (bt (w' i * n) (s' i))])]) (EVT.is (by walk_at "evt") (by rw [hpp])) (by show List.set _ 12 _ = _; rw [wps_getD (by rw [kp] at hi; exact hi)]; rfl)) (fun s H C cl fp i hi _ => ev_int)) (by rw [kp]; exact on1 pp k)) (fun _ => rfl)).ev (by walk_at "ev") cA cE)))) ?_) svs_nil
      rw [dE]
      by_cases h1 : 1 < k
      · have h2 : Sky.cnt pp k ≠ 0 := fun z => hk ⟨h1, z⟩
        have h3 : List.replicate (Sky.cnt pp k) (1 : Int) ≠ [] := fun z => h2 (by have := congrArg List.length z; rwa [List.length_replicate] at this)
        rw [decide_eq_false h3, Bool.and_false]
      · rw [decide_eq_false (show ¬ (1 : Int) < ((k : Nat) : Int) by omega), Bool.false_and]
  · refine sv_forR (m := k) Bx (fun _ => [.da (.ins CL (znFs k n b s' S u τ)), .da (.lst (nms w' k)), .da (.lst (lws s' n k)), .da (.int beg), .da (.int (N : Nat)), .da (.int Q), .no, .da (.lst (nms g (N + N))), .da (.lst (wps w' s' n k)), .no, .no, .no, .no]) rfl rfl (by walk_at "vis") (Or.inl rfl) mR (by walk_at "eva") (by omega) rfl (by rfl) rfl (fun i hi => ?_)
    have pz : atI (wps w' s' n k) (i : Int) = some (lw (w' i * n) (s' i)) := wps_at hi
    have kd := bwq i hi
    have s0 := (sb i hi).1
    have c1 := ct i hi
    rw [← hg] at c1
    have ro2 : Rou ((((List.range N).map g).count (i : Int) : Nat) : Int) (w' i * n * Q) (s' i) := c1.same s0 S0 (by have := lq i hi; grind)
    have bq : Bn (w' i * n * Q) := by
      have h1 := wn i hi
      have h2 : w' i * n * Q ≤ (1000 * 2 ^ 24) * 2 ^ 66 := Int.mul_le_mul h1.2 Q1 (by omega) (by decide)
      have h3 : 0 < w' i * n * Q := Int.mul_pos h1.1 Q0
      unfold Bn; omega
    have zC : RWithin [.int ((((List.range N).map g).count (i : Int) : Nat) : Int), lw (w' i * n * Q) (s' i)] (.ok (.bl true)) := ⟨_, w' i * n * Q, s' i, s0, bq, bs i hi, rfl, by rw [decide_eq_true ((within_rou s0).mpr ro2)]⟩
    exact svs_weak (e1 := [.da (.ins CL (znFs k n b s' S u τ)), .da (.lst (nms w' k)), .da (.lst (lws s' n k)), .da (.int beg), .da (.int (N : Nat)), .da (.int Q), .da (.int (i : Int)), .da (.lst (nms g (N + N))), .da (.lst (wps w' s' n k)), .no, .no, .da (lw (w' i * n * Q) (s' i)), .no]) (svs_cons (e1 := [.da (.ins CL (znFs k n b s' S u τ)), .da (.lst (nms w' k)), .da (.lst (lws s' n k)), .da (.int beg), .da (.int (N : Nat)), .da (.int Q), .da (.int (i : Int)), .da (.lst (nms g (N + N))), .da (.lst (wps w' s' n k)), .no, .no, .da (lw (w' i * n * Q) (s' i)), .no]) (by walk_at "set") (svs_one (sv_ifF (evt_w (evw_orF (EVT.is (evt_not (evt_val (ev_calR (ds := [.int ((((List.range N).map g).count (i : Int) : Nat) : Int), lw (w' i * n * Q) (s' i)]) lWi Bx (by decide) (eva_cons (ev_count (ns := (List.range N).map g) (EV.to (by walk_at "ev") (congrArg Da.lst ((nms_head (by omega)).trans (nms_map g N)))) (by walk_at "ev") rfl rfl rfl rfl rfl) (eva_cons (by walk_at "ev") eva_nil rfl) rfl) zC rfl (by rfl) (by decide) rfl rfl) (fun _ => rfl))) rfl) (evw_or1 (EVT.is (evt_ne Bx (ev_count (ns := (List.range N).map g) (EV.to (by walk_at "ev") (congrArg Da.lst (nms_from.trans (pg.trans (nms_map g N))))) (by walk_at "ev") rfl rfl rfl rfl rfl) (ev_count (ns := (List.range N).map g) (EV.to (by walk_at "ev") (congrArg Da.lst ((nms_head (by omega)).trans (nms_map g N)))) (by walk_at "ev") rfl rfl rfl rfl rfl) ⟨rfl, rfl⟩ ⟨rfl, rfl⟩) (by rw [deq_int, beq_self_eq_true]; rfl))))) svs_nil))) (.eq (.eq (.eq (.eq (.eq (.eq (.no (.eq (.eq (.no (.no (.no (.no .nil)))))))))))))

theorem sc_law : FnScope ["_law_script", "_law_cells", "_law_cell_here", "_law_digits_here", "_law_widths", "_law_paces", "_law_place", "_law_edges", "_law_made", "_law_k"] ["_law_script"] (defScope (top 39)) := ⟨rfl, rfl, rfl, by decide +kernel, rfl, by decide +kernel, by decide +kernel⟩
theorem ok_law (mL : mg "len" = none) (mR : mg "range" = none) (mS : mg "sum" = none) (c0 : Cls K CL) (cK : MakR P w K mg base "Zones" CL 7 ["ring", "borders", "steps", "at"] (fun ds => ds) RInitZ) (cRt : MthR P w K mg base CL "returns" 3 ["self"] (RRetZ CL))
    (lG : Cal P w K mg base "_law_digits" 1 ["_law_cell_here", "_law_many"] [] fDigits) (lRi : CalR P w K mg base "_law_ring" 2 ["_law_digits_here"] RRing) (lRt : CalR P w K mg base "_law_right" 7 ["_law_made", "_law_widths", "_law_paces", "_law_begin"] (RRightZ CL))
    (F : Fun K "law" "law" (top 39) f fd) : FnOk P w K mg base (L2.CX P w) 9 f fd ["_law_script"] (spD K 1 fLaw) := by
  refine fn_d F sc_law _ fun cdv A outer s H E ds o Bx hl hf => ?_
  obtain ⟨ns, rfl, rfl⟩ := fLaw_inv hf
  have c1 := cmp_ints (ns.take 2)
  have c2 := cmp_ints []
  have cut := cut_head ns 2
  obtain ⟨cs, hcs⟩ : ∃ cs : List Int, cs = if ns.take 2 = [] then [4, 19] else ns.take 2 := ⟨_, rfl⟩
  refine ⟨_, .rt _, svs_cons (e1 := [.da (.lst (ns.map .int)), .da (.lst ((ns.take 2).map .int)), .no, .no, .no, .no, .no, .no, .no, .no]) (by apply sv_set; (· assumption); (· exact EV.to (by walk_at "ev") (congrArg Da.lst cut)); (· rfl); (· rfl); (· walk_at "vis"); (· exact Or.inl rfl); (· rfl); (· rfl)) (svs_cons (e1 := [.da (.lst (ns.map .int)), .da (.lst (cs.map .int)), .no, .no, .no, .no, .no, .no, .no, .no]) ?_ (svs_cons (e1 := [.da (.lst (ns.map .int)), .da (.lst (cs.map .int)), .no, .no, .no, .no, .no, .no, .no, .no]) ?_ (svs_one (sv_ret ev_bl))))⟩
  · by_cases hn : ns.take 2 = []
    · rw [if_pos hn] at hcs
      refine sv_ifT (EVT.is (by walk_at "evt") ?_) (svs_one ?_)
      · rw [hn]; rfl
      · rw [hcs]; walk_at "set"
    · rw [if_neg hn] at hcs
      refine sv_ifF (EVT.is (by walk_at "evt") ?_) ?_
      · show PyData.eqvAll (pyA ((ns.take 2).map .int)) (pyA (([] : List Int).map .int)) = false
        rw [eqv_ints]
        exact decide_eq_false hn
      · rw [hcs]; exact svs_nil
  · clear hcs
    apply sv_forL Bx (fun _ => [.da (.lst (ns.map .int)), .da (.lst (cs.map .int)), .no, .no, .no, .no, .no, .no, .no, .no]) (ds := cs.map .int)
    · rfl
    · rfl
    · walk_at "vis"
    · exact Or.inl rfl
    · walk_at "ev"
    · rfl
    · intro _; rfl
    · intro i0 d0 hd0
      obtain ⟨c, rfl⟩ : ∃ c : Int, d0 = .int c := by
        rw [List.getElem?_map] at hd0
        cases hq : cs[i0]? with
        | none => rw [hq] at hd0; cases hd0
        | some c => rw [hq] at hd0; exact ⟨c, (Option.some.inj hd0).symm⟩
      have fd1 : fDigits ([.int c, .int 20] ++ []) = some (.ok (.lst ((digs c 20).map .int))) := fDigits_ok (n := 20) (by decide)
      have DG := digs_dg c
      have ZN := rg_zn (q := qf (digs c 20)) DG.lo
      have zG : RRing [.lst ((digs c 20).map .int)] (.ok (.tup [.lst (nms (rgW (qf (digs c 20))) (rgK (qf (digs c 20)))), .lst (lws (rgS (qf (digs c 20))) 6 (rgK (qf (digs c 20)))), .int (rgA (qf (digs c 20)))])) := ⟨digs c 20, DG, rfl, rfl⟩
      have a17 : atI ((digs c 20).map Da.int) 17 = some (.int (qf (digs c 20) 17)) := dg_at DG (i := 17) (by decide)
      have l17 := DG.lo 17
      have h17 := DG.hi 17
      have kb := rgK_bd (q := qf (digs c 20))
      have wb := fun i => rgW_bd (q := qf (digs c 20)) i
      have es : ∀ i, Da.tup [.int (((List.range i).map (rgW (qf (digs c 20)))).sum), .int 1] = lw (rgB (qf (digs c 20)) i) 6 := fun i => by
        rw [rg_sum, lw_int]
        exact lw_same (by decide) (by decide) (by unfold rgB; omega)
      have hw : ∀ i, rgB (qf (digs c 20)) (i + 1) - rgB (qf (digs c 20)) i = 6 * rgW (qf (digs c 20)) i := fun i => by
        have e : rgE (qf (digs c 20)) (i + 1) = rgE (qf (digs c 20)) i + rgW (qf (digs c 20)) i := rfl
        unfold rgB
        omega
      have ea : Da.tup [.int (rgA (qf (digs c 20))), .int 1] = lw (6 * rgA (qf (digs c 20))) 6 := by
        rw [lw_int]
        exact lw_same (by decide) (by decide) (by omega)
      generalize qf (digs c 20) 17 = q17 at *
      generalize rgK (qf (digs c 20)) = k at *
      generalize rgB (qf (digs c 20)) = b at *
      generalize rgS (qf (digs c 20)) = s0 at *
      generalize rgW (qf (digs c 20)) = w0 at *
      generalize rgA (qf (digs c 20)) = a0 at *
      have zK : RInitZ [lw (b k) 6, .lst (lws b 6 k), .lst (lws s0 6 k), lw (6 * a0) 6] (.ok (znFs k 6 b s0 (znS b s0 k (6 * a0) rgM) (znU b s0 k (6 * a0) rgM) (znT b s0 k (6 * a0) rgM))) := ⟨k, 6, b, s0, 6 * a0, rgM, ZN, rfl, rfl⟩
      obtain ⟨Z, _, _⟩ := ZN.made
      generalize znS b s0 k (6 * a0) rgM = S at Z zK
      generalize znU b s0 k (6 * a0) rgM = u at Z zK
      generalize znT b s0 k (6 * a0) rgM = τ at Z zK
      have rt0 : RRetZ CL [.ins CL (znFs k 6 b s0 S u τ)] (.ok (.tup [.int (tp (τ k) S), .int (bt (τ k) S)])) := ⟨k, 6, S, u, b, s0, τ, Z, rfl, rfl⟩
      have zR : tp (τ k) S < 301 → RRightZ CL [.ins CL (znFs k 6 b s0 S u τ), .lst (nms w0 k), .lst (lws s0 6 k), .int (q17 - 500)] (.ok (.bl true)) := fun h => ⟨k, 6, S, u, b, s0, τ, w0, q17 - 500, Z, fun i _ => hw i, fun i _ => by have := wb i; omega, h, by omega, by omega, rfl, rfl⟩
      have kw : lenD (.lst (nms w0 k)) = some k := congrArg some nms_len
      refine svs_weak (e1 := [.da (.lst (ns.map .int)), .da (.lst (cs.map .int)), .da (.int c), .da (.lst ((digs c 20).map .int)), .da (.lst (nms w0 k)), .da (.lst (lws s0 6 k)), .da (.int a0), .da (.lst (lws b 6 k)), .da (.ins CL (znFs k 6 b s0 S u τ)), .no]) (svs_cons (e1 := [.da (.lst (ns.map .int)), .da (.lst (cs.map .int)), .da (.int c), .da (.lst ((digs c 20).map .int)), .no, .no, .no, .no, .no, .no]) (by walk_at "set") (svs_cons (e1 := [.da (.lst (ns.map .int)), .da (.lst (cs.map .int)), .da (.int c), .da (.lst ((digs c 20).map .int)), .da (.lst (nms w0 k)), .da (.lst (lws s0 6 k)), .da (.int a0), .no, .no, .no]) (by walk_at "unT") (svs_cons (e1 := [.da (.lst (ns.map .int)), .da (.lst (cs.map .int)), .da (.int c), .da (.lst ((digs c 20).map .int)), .da (.lst (nms w0 k)), .da (.lst (lws s0 6 k)), .da (.int a0), .own (lws b 6 k), .no, .no]) ?_ (svs_freeze (n := 7) rfl ?_)))) (.eq (.eq (.no (.no (.no (.no (.no (.no (.no (.no .nil))))))))))
      · refine sv_setLc (n := 7) Bx (LcB.toS (lcb_range (x := "_law_k") (j := 9) (n := k) (gf := fun i => lw (b i) 6) (W := WD E) (by walk_at "eva") (by omega) mR (by rfl) rfl (blkOk_by (N := ["_law_script", "_law_cells", "_law_cell_here", "_law_digits_here", "_law_widths", "_law_paces", "_law_place", "_law_edges", "_law_made", "_law_k"]) (sc := defScope (top 39)) (by decide +kernel)) (fun s H C cl fp => pg_name Bx.nd (by rfl) (Or.inl rfl)) (fun s H C cl fp i hi _ => ?_)) (outs_rng _ _)) (fun _ => rfl) rfl rfl (by rfl) (by rfl)
        exact EV.env (e1 := [.da (.lst (ns.map .int)), .da (.lst (cs.map .int)), .da (.int c), .da (.lst ((digs c 20).map .int)), .da (.lst (nms w0 k)), .da (.lst (lws s0 6 k)), .da (.int a0), .no, .no, .da (.int (i : Int))]) (EV.to (ev_tup (eva_cons (ev_sum (ns := (List.range i).map w0) (bd_blk Bx Bx.nd) (eva_cons (EV.to (by walk_at "ev") (congrArg Da.lst ((nms_head (by omega)).trans (nms_map w0 i)))) eva_nil rfl) (by rfl) mS rfl rfl) (eva_cons ev_int eva_nil rfl) rfl) (Nat.le_of_ble_eq_true rfl)) (es i)) (by rfl)
      show SVs _ _ [.da (.lst (ns.map .int)), .da (.lst (cs.map .int)), .da (.int c), .da (.lst ((digs c 20).map .int)), .da (.lst (nms w0 k)), .da (.lst (lws s0 6 k)), .da (.int a0), .da (.lst (lws b 6 k)), .no, .no] _ _
      refine svs_cons (e1 := [.da (.lst (ns.map .int)), .da (.lst (cs.map .int)), .da (.int c), .da (.lst ((digs c 20).map .int)), .da (.lst (nms w0 k)), .da (.lst (lws s0 6 k)), .da (.int a0), .da (.lst (lws b 6 k)), .da (.ins CL (znFs k 6 b s0 S u τ)), .no]) ?_ (svs_one ?_)
      · exact sv_set (d := .ins CL (znFs k 6 b s0 S u τ)) Bx (ev_makeR (oi := .ok (znFs k 6 b s0 S u τ)) cK Bx (by decide) (evk_cons (EV.to (ev_tup (eva_cons (ev_sum (ns := (List.range k).map w0) Bx (eva_cons (EV.to (by walk_at "ev") (congrArg Da.lst (nms_map w0 k))) eva_nil rfl) (by rfl) mS rfl rfl) (eva_cons ev_int eva_nil rfl) rfl) (Nat.le_of_ble_eq_true rfl)) (es k)) (evk_cons (by walk_at "ev") (evk_cons (by walk_at "ev") (evk_cons (EV.to (by walk_at "ev") ea) evk_nil)))) zK rfl (by rfl) (by rfl) (by rfl) (by decide) (by rfl)) rfl rfl (by walk_at "vis") (Or.inl rfl) rfl (by walk_at "nrm")
      · exact sv_ifF (EVT.is (evt_w (evw_and (by walk_at "evt") (fun h => evw_and1 (evt_not (evt_val (ev_calR lRt Bx (by decide) (by walk_at "eva") (zR (of_decide_eq_true h)) rfl (by rfl) (by decide) rfl rfl) (fun _ => rfl)))))) (by rw [Bool.not_true, Bool.and_false])) svs_nil
end
end T01
namespace T01
open PySem L2 Evl PySem.Spec PyProof.Rows Sky
theorem vals_rev : ∀ {xs : List V} {us : List Value}, Vals xs us → Vals xs.reverse us.reverse
  | _, _, .nil => .nil
  | _, _, .cons h t => by
    rw [List.reverse_cons, List.reverse_cons]
    exact (vals_rev t).append (.cons h .nil)
theorem worth_binds2 {K : PySem.W.Frag} {f : Addr} {fd : FuncData} (F : FunDS K "worth" "worth" (top 11) [.int 1] [] f fd) : Binds K fd ["top", "bottom"] [] := by
  obtain ⟨its, kb⟩ := Sky.FunD.kb1 (ps := ["top", "bottom"]) F 2 [] (fun us _ _ => us) (by simp) (fun r1 _ _ => r1) (fun T kV doc pm an cdv ct us its ws h1 h2 h3 => match us, its, ws, h1, h2, h3 with | [_, _], [_], [], _, _, _ => ⟨_, rfl, rfl⟩)
  intro s us hk hl
  rw [List.append_nil] at hl ⊢
  exact kb.to s us [] hk hl rfl
theorem all_mk {P : Program} {w : World} {K : PySem.W.Frag} {h : Heap} {mg : Str → Option Value} {fa : Addr} (X : K.In h) (G : h.Ns mainGlobals mg) (hfa : mg "law" = some (.ref fa))
    {CW : Addr}
    {f0 : Addr} {od0 an0 : Option Addr} {sl0 : Array (Option Value)} {oc0 kV0 dc0 pm0 cd0 ct0 : Value}
    {f1 : Addr} {od1 an1 : Option Addr} {sl1 : Array (Option Value)} {oc1 kV1 dc1 pm1 cd1 ct1 : Value}
    {f2 : Addr} {od2 an2 : Option Addr} {sl2 : Array (Option Value)} {oc2 kV2 dc2 pm2 cd2 ct2 : Value}
    {T3 : Addr} {cT3 : Value} {dT3 : Option Addr} {tk3 : Tok} {nT3 : Nat} {sT3 : Array (Option Value)}
    {f3 : Addr} {od3 an3 : Option Addr} {sl3 : Array (Option Value)} {oc3 kV3 dc3 pm3 cd3 ct3 : Value}
    {f4 : Addr} {od4 an4 : Option Addr} {sl4 : Array (Option Value)} {oc4 kV4 dc4 pm4 cd4 ct4 : Value}
    {f5 : Addr} {od5 an5 : Option Addr} {sl5 : Array (Option Value)} {oc5 kV5 dc5 pm5 cd5 ct5 : Value}
    {f6 : Addr} {od6 an6 : Option Addr} {sl6 : Array (Option Value)} {oc6 kV6 dc6 pm6 cd6 ct6 : Value}
    {f7 : Addr} {od7 an7 : Option Addr} {sl7 : Array (Option Value)} {oc7 kV7 dc7 pm7 cd7 ct7 : Value}
    {f8 : Addr} {od8 an8 : Option Addr} {sl8 : Array (Option Value)} {oc8 kV8 dc8 pm8 cd8 ct8 : Value}
    {f9 : Addr} {od9 an9 : Option Addr} {sl9 : Array (Option Value)} {oc9 kV9 dc9 pm9 cd9 ct9 : Value}
    {f10 : Addr} {od10 an10 : Option Addr} {sl10 : Array (Option Value)} {oc10 kV10 dc10 pm10 cd10 ct10 : Value}
    {f11 : Addr} {od11 an11 : Option Addr} {sl11 : Array (Option Value)} {oc11 kV11 dc11 pm11 cd11 ct11 : Value}
    {f12 : Addr} {od12 an12 : Option Addr} {sl12 : Array (Option Value)} {oc12 kV12 dc12 pm12 cd12 ct12 : Value}
    {f13 : Addr} {od13 an13 : Option Addr} {sl13 : Array (Option Value)} {oc13 kV13 dc13 pm13 cd13 ct13 : Value}
    {f14 : Addr} {od14 an14 : Option Addr} {sl14 : Array (Option Value)} {oc14 kV14 dc14 pm14 cd14 ct14 : Value}
    {f15 : Addr} {od15 an15 : Option Addr} {sl15 : Array (Option Value)} {oc15 kV15 dc15 pm15 cd15 ct15 : Value}
    {f16 : Addr} {od16 an16 : Option Addr} {sl16 : Array (Option Value)} {oc16 kV16 dc16 pm16 cd16 ct16 : Value}
    {f17 : Addr} {od17 an17 : Option Addr} {sl17 : Array (Option Value)} {oc17 kV17 dc17 pm17 cd17 ct17 : Value}
    {f18 : Addr} {od18 an18 : Option Addr} {sl18 : Array (Option Value)} {oc18 kV18 dc18 pm18 cd18 ct18 : Value}
    {f19 : Addr} {od19 an19 : Option Addr} {sl19 : Array (Option Value)} {oc19 kV19 dc19 pm19 cd19 ct19 : Value}
    {f20 : Addr} {od20 an20 : Option Addr} {sl20 : Array (Option Value)} {oc20 kV20 dc20 pm20 cd20 ct20 : Value}
    {f21 : Addr} {od21 an21 : Option Addr} {sl21 : Array (Option Value)} {oc21 kV21 dc21 pm21 cd21 ct21 : Value}
    {f22 : Addr} {od22 an22 : Option Addr} {sl22 : Array (Option Value)} {oc22 kV22 dc22 pm22 cd22 ct22 : Value}
    {dN : Option Addr} {tN0 tN1 : Tok} {nN : Nat} {sN : Array (Option Value)}
    {CL TN : Addr} {t12 : Tok}
    {fm0 : Addr} {odm0 anm0 : Option Addr} {slm0 : Array (Option Value)} {ocm0 kVm0 dcm0 pmm0 cdm0 ctm0 : Value}
    {fm1 : Addr} {odm1 anm1 : Option Addr} {slm1 : Array (Option Value)} {ocm1 kVm1 dcm1 pmm1 cdm1 ctm1 : Value}
    {fm2 : Addr} {odm2 anm2 : Option Addr} {slm2 : Array (Option Value)} {ocm2 kVm2 dcm2 pmm2 cdm2 ctm2 : Value}
    {fm3 : Addr} {odm3 anm3 : Option Addr} {slm3 : Array (Option Value)} {ocm3 kVm3 dcm3 pmm3 cdm3 ctm3 : Value}
    {fm5 : Addr} {odm5 anm5 : Option Addr} {slm5 : Array (Option Value)} {ocm5 kVm5 dcm5 pmm5 cdm5 ctm5 : Value}
    {fm6 : Addr} {odm6 anm6 : Option Addr} {slm6 : Array (Option Value)} {ocm6 kVm6 dcm6 pmm6 cdm6 ctm6 : Value}
    (a0 : PySem.W.nsIn K mainGlobals "is_list" = some (some (.ref f0)))
    (l0 : K.lookup f0 = some ⟨oc0, od0, .func (PySem.W.fnOf "is_list" "is_list" (defArgs (top 7)) (defBody (top 7)) (defScope (top 7)) .none kV0 dc0 pm0 an0 cd0 ct0), sl0⟩)
    (c0 : PySem.W.codeIn K cd0 "is_list" = true)
    (k0 : PySem.W.keepIn K (.ref f0) = true)
    (a1 : PySem.W.nsIn K mainGlobals "is_tuple" = some (some (.ref f1)))
    (l1 : K.lookup f1 = some ⟨oc1, od1, .func (PySem.W.fnOf "is_tuple" "is_tuple" (defArgs (top 8)) (defBody (top 8)) (defScope (top 8)) .none kV1 dc1 pm1 an1 cd1 ct1), sl1⟩)
    (c1 : PySem.W.codeIn K cd1 "is_tuple" = true)
    (k1 : PySem.W.keepIn K (.ref f1) = true)
    (a2 : PySem.W.nsIn K mainGlobals "is_whole" = some (some (.ref f2)))
    (l2 : K.lookup f2 = some ⟨oc2, od2, .func (PySem.W.fnOf "is_whole" "is_whole" (defArgs (top 10)) (defBody (top 10)) (defScope (top 10)) .none kV2 dc2 pm2 an2 cd2 ct2), sl2⟩)
    (c2 : PySem.W.codeIn K cd2 "is_whole" = true)
    (k2 : PySem.W.keepIn K (.ref f2) = true)
    (a3 : PySem.W.nsIn K mainGlobals "worth" = some (some (.ref f3)))
    (l3 : K.lookup f3 = some ⟨oc3, od3, .func (PySem.W.fnOf "worth" "worth" (defArgs (top 11)) (defBody (top 11)) (defScope (top 11)) (.ref T3) kV3 dc3 pm3 an3 cd3 ct3), sl3⟩)
    (c3 : PySem.W.codeIn K cd3 "worth" = true)
    (k3 : PySem.W.keepIn K (.ref f3) = true)
    (t3 : K.lookup T3 = some ⟨cT3, dT3, .seq ([Value.int 1 tk3].toArray) nT3, sT3⟩)
    (a4 : PySem.W.nsIn K mainGlobals "is_worth" = some (some (.ref f4)))
    (l4 : K.lookup f4 = some ⟨oc4, od4, .func (PySem.W.fnOf "is_worth" "is_worth" (defArgs (top 12)) (defBody (top 12)) (defScope (top 12)) .none kV4 dc4 pm4 an4 cd4 ct4), sl4⟩)
    (c4 : PySem.W.codeIn K cd4 "is_worth" = true)
    (k4 : PySem.W.keepIn K (.ref f4) = true)
    (a5 : PySem.W.nsIn K mainGlobals "_refuse_others" = some (some (.ref f5)))
    (l5 : K.lookup f5 = some ⟨oc5, od5, .func (PySem.W.fnOf "_refuse_others" "_refuse_others" (defArgs (top 13)) (defBody (top 13)) (defScope (top 13)) .none kV5 dc5 pm5 an5 cd5 ct5), sl5⟩)
    (c5 : PySem.W.codeIn K cd5 "_refuse_others" = true)
    (k5 : PySem.W.keepIn K (.ref f5) = true)
    (a6 : PySem.W.nsIn K mainGlobals "is_above_nought" = some (some (.ref f6)))
    (l6 : K.lookup f6 = some ⟨oc6, od6, .func (PySem.W.fnOf "is_above_nought" "is_above_nought" (defArgs (top 14)) (defBody (top 14)) (defScope (top 14)) .none kV6 dc6 pm6 an6 cd6 ct6), sl6⟩)
    (c6 : PySem.W.codeIn K cd6 "is_above_nought" = true)
    (k6 : PySem.W.keepIn K (.ref f6) = true)
    (a7 : PySem.W.nsIn K mainGlobals "plus" = some (some (.ref f7)))
    (l7 : K.lookup f7 = some ⟨oc7, od7, .func (PySem.W.fnOf "plus" "plus" (defArgs (top 15)) (defBody (top 15)) (defScope (top 15)) .none kV7 dc7 pm7 an7 cd7 ct7), sl7⟩)
    (c7 : PySem.W.codeIn K cd7 "plus" = true)
    (k7 : PySem.W.keepIn K (.ref f7) = true)
    (a8 : PySem.W.nsIn K mainGlobals "minus" = some (some (.ref f8)))
    (l8 : K.lookup f8 = some ⟨oc8, od8, .func (PySem.W.fnOf "minus" "minus" (defArgs (top 16)) (defBody (top 16)) (defScope (top 16)) .none kV8 dc8 pm8 an8 cd8 ct8), sl8⟩)
    (c8 : PySem.W.codeIn K cd8 "minus" = true)
    (k8 : PySem.W.keepIn K (.ref f8) = true)
    (a9 : PySem.W.nsIn K mainGlobals "times" = some (some (.ref f9)))
    (l9 : K.lookup f9 = some ⟨oc9, od9, .func (PySem.W.fnOf "times" "times" (defArgs (top 17)) (defBody (top 17)) (defScope (top 17)) .none kV9 dc9 pm9 an9 cd9 ct9), sl9⟩)
    (c9 : PySem.W.codeIn K cd9 "times" = true)
    (k9 : PySem.W.keepIn K (.ref f9) = true)
    (a10 : PySem.W.nsIn K mainGlobals "over" = some (some (.ref f10)))
    (l10 : K.lookup f10 = some ⟨oc10, od10, .func (PySem.W.fnOf "over" "over" (defArgs (top 18)) (defBody (top 18)) (defScope (top 18)) .none kV10 dc10 pm10 an10 cd10 ct10), sl10⟩)
    (c10 : PySem.W.codeIn K cd10 "over" = true)
    (k10 : PySem.W.keepIn K (.ref f10) = true)
    (a11 : PySem.W.nsIn K mainGlobals "is_less" = some (some (.ref f11)))
    (l11 : K.lookup f11 = some ⟨oc11, od11, .func (PySem.W.fnOf "is_less" "is_less" (defArgs (top 19)) (defBody (top 19)) (defScope (top 19)) .none kV11 dc11 pm11 an11 cd11 ct11), sl11⟩)
    (c11 : PySem.W.codeIn K cd11 "is_less" = true)
    (k11 : PySem.W.keepIn K (.ref f11) = true)
    (a12 : PySem.W.nsIn K mainGlobals "are_borders" = some (some (.ref f12)))
    (l12 : K.lookup f12 = some ⟨oc12, od12, .func (PySem.W.fnOf "are_borders" "are_borders" (defArgs (top 23)) (defBody (top 23)) (defScope (top 23)) .none kV12 dc12 pm12 an12 cd12 ct12), sl12⟩)
    (c12 : PySem.W.codeIn K cd12 "are_borders" = true)
    (k12 : PySem.W.keepIn K (.ref f12) = true)
    (a13 : PySem.W.nsIn K mainGlobals "_are_steps" = some (some (.ref f13)))
    (l13 : K.lookup f13 = some ⟨oc13, od13, .func (PySem.W.fnOf "_are_steps" "_are_steps" (defArgs (top 24)) (defBody (top 24)) (defScope (top 24)) .none kV13 dc13 pm13 an13 cd13 ct13), sl13⟩)
    (c13 : PySem.W.codeIn K cd13 "_are_steps" = true)
    (k13 : PySem.W.keepIn K (.ref f13) = true)
    (a14 : PySem.W.nsIn K mainGlobals "_first_wrong" = some (some (.ref f14)))
    (l14 : K.lookup f14 = some ⟨oc14, od14, .func (PySem.W.fnOf "_first_wrong" "_first_wrong" (defArgs (top 25)) (defBody (top 25)) (defScope (top 25)) .none kV14 dc14 pm14 an14 cd14 ct14), sl14⟩)
    (c14 : PySem.W.codeIn K cd14 "_first_wrong" = true)
    (k14 : PySem.W.keepIn K (.ref f14) = true)
    (a15 : PySem.W.nsIn K mainGlobals "_law_digits" = some (some (.ref f15)))
    (l15 : K.lookup f15 = some ⟨oc15, od15, .func (PySem.W.fnOf "_law_digits" "_law_digits" (defArgs (top 29)) (defBody (top 29)) (defScope (top 29)) .none kV15 dc15 pm15 an15 cd15 ct15), sl15⟩)
    (c15 : PySem.W.codeIn K cd15 "_law_digits" = true)
    (k15 : PySem.W.keepIn K (.ref f15) = true)
    (a16 : PySem.W.nsIn K mainGlobals "_law_low" = some (some (.ref f16)))
    (l16 : K.lookup f16 = some ⟨oc16, od16, .func (PySem.W.fnOf "_law_low" "_law_low" (defArgs (top 30)) (defBody (top 30)) (defScope (top 30)) .none kV16 dc16 pm16 an16 cd16 ct16), sl16⟩)
    (c16 : PySem.W.codeIn K cd16 "_law_low" = true)
    (k16 : PySem.W.keepIn K (.ref f16) = true)
    (a17 : PySem.W.nsIn K mainGlobals "_law_by" = some (some (.ref f17)))
    (l17 : K.lookup f17 = some ⟨oc17, od17, .func (PySem.W.fnOf "_law_by" "_law_by" (defArgs (top 33)) (defBody (top 33)) (defScope (top 33)) .none kV17 dc17 pm17 an17 cd17 ct17), sl17⟩)
    (c17 : PySem.W.codeIn K cd17 "_law_by" = true)
    (k17 : PySem.W.keepIn K (.ref f17) = true)
    (a18 : PySem.W.nsIn K mainGlobals "_law_ring" = some (some (.ref f18)))
    (l18 : K.lookup f18 = some ⟨oc18, od18, .func (PySem.W.fnOf "_law_ring" "_law_ring" (defArgs (top 35)) (defBody (top 35)) (defScope (top 35)) .none kV18 dc18 pm18 an18 cd18 ct18), sl18⟩)
    (c18 : PySem.W.codeIn K cd18 "_law_ring" = true)
    (k18 : PySem.W.keepIn K (.ref f18) = true)
    (a19 : PySem.W.nsIn K mainGlobals "_law_stays" = some (some (.ref f19)))
    (l19 : K.lookup f19 = some ⟨oc19, od19, .func (PySem.W.fnOf "_law_stays" "_law_stays" (defArgs (top 36)) (defBody (top 36)) (defScope (top 36)) .none kV19 dc19 pm19 an19 cd19 ct19), sl19⟩)
    (c19 : PySem.W.codeIn K cd19 "_law_stays" = true)
    (k19 : PySem.W.keepIn K (.ref f19) = true)
    (a20 : PySem.W.nsIn K mainGlobals "_law_within" = some (some (.ref f20)))
    (l20 : K.lookup f20 = some ⟨oc20, od20, .func (PySem.W.fnOf "_law_within" "_law_within" (defArgs (top 37)) (defBody (top 37)) (defScope (top 37)) .none kV20 dc20 pm20 an20 cd20 ct20), sl20⟩)
    (c20 : PySem.W.codeIn K cd20 "_law_within" = true)
    (k20 : PySem.W.keepIn K (.ref f20) = true)
    (a21 : PySem.W.nsIn K mainGlobals "_law_right" = some (some (.ref f21)))
    (l21 : K.lookup f21 = some ⟨oc21, od21, .func (PySem.W.fnOf "_law_right" "_law_right" (defArgs (top 38)) (defBody (top 38)) (defScope (top 38)) .none kV21 dc21 pm21 an21 cd21 ct21), sl21⟩)
    (c21 : PySem.W.codeIn K cd21 "_law_right" = true)
    (k21 : PySem.W.keepIn K (.ref f21) = true)
    (a22 : PySem.W.nsIn K mainGlobals "law" = some (some (.ref f22)))
    (l22 : K.lookup f22 = some ⟨oc22, od22, .func (PySem.W.fnOf "law" "law" (defArgs (top 39)) (defBody (top 39)) (defScope (top 39)) .none kV22 dc22 pm22 an22 cd22 ct22), sl22⟩)
    (c22 : PySem.W.codeIn K cd22 "law" = true)
    (k22 : PySem.W.keepIn K (.ref f22) = true)
    (aN : PySem.W.nsIn K mainGlobals "NOUGHT" = some (some (.ref TN)))
    (tN : K.lookup TN = some ⟨.type "tuple", dN, .seq ([Value.int 0 tN0, Value.int 1 tN1].toArray) nN, sN⟩)
    (z_isinstance : PySem.W.nsIn K mainGlobals "isinstance" = some none)
    (z_int : PySem.W.nsIn K mainGlobals "int" = some none)
    (z_bool : PySem.W.nsIn K mainGlobals "bool" = some none)
    (z_tuple : PySem.W.nsIn K mainGlobals "tuple" = some none)
    (z_len : PySem.W.nsIn K mainGlobals "len" = some none)
    (z_list : PySem.W.nsIn K mainGlobals "list" = some none)
    (z_all : PySem.W.nsIn K mainGlobals "all" = some none)
    (z_zip : PySem.W.nsIn K mainGlobals "zip" = some none)
    (z_range : PySem.W.nsIn K mainGlobals "range" = some none)
    (z_abs : PySem.W.nsIn K mainGlobals "abs" = some none)
    (z_divmod : PySem.W.nsIn K mainGlobals "divmod" = some none)
    (z_sum : PySem.W.nsIn K mainGlobals "sum" = some none)
    (zg_gcd : PySem.W.nsIn K mainGlobals "gcd" = some (some (.builtin "math.gcd")))
    (zg_lcm : PySem.W.nsIn K mainGlobals "lcm" = some (some (.builtin "math.lcm")))
    (eg : PySem.W.nsIn K mainGlobals "NoWorth" = some (some (.ref CW)))
    (ex : PySem.W.excIn K CW veB "ValueError.__new__" = true)
    (ek : PySem.W.keepIn K (.ref CW) = true)
    (eb : PySem.W.subIn K (.ref CW) (.type "BaseException") = some true)
    (et : PySem.W.typeIn K (.ref CW) = some (.type "type"))
    (aL : PySem.W.nsIn K mainGlobals "Zones" = some (some (.ref CL)))
    (am0 : PySem.W.findIn K (.ref CL) "__init__" = some (some (.ref fm0)))
    (im0 : PySem.W.isFn K (.ref fm0) = true)
    (lm0 : K.lookup fm0 = some ⟨ocm0, odm0, .func (PySem.W.fnOf "__init__" "Zones.__init__" (defArgs (inClass (top 26) 0)) (defBody (inClass (top 26) 0)) (defScope (inClass (top 26) 0)) .none kVm0 dcm0 pmm0 anm0 cdm0 ctm0), slm0⟩)
    (cm0 : PySem.W.codeIn K cdm0 "Zones.__init__" = true)
    (km0 : PySem.W.keepIn K (.ref fm0) = true)
    (am1 : PySem.W.findIn K (.ref CL) "_units" = some (some (.ref fm1)))
    (im1 : PySem.W.isFn K (.ref fm1) = true)
    (lm1 : K.lookup fm1 = some ⟨ocm1, odm1, .func (PySem.W.fnOf "_units" "Zones._units" (defArgs (inClass (top 26) 1)) (defBody (inClass (top 26) 1)) (defScope (inClass (top 26) 1)) .none kVm1 dcm1 pmm1 anm1 cdm1 ctm1), slm1⟩)
    (cm1 : PySem.W.codeIn K cdm1 "Zones._units" = true)
    (km1 : PySem.W.keepIn K (.ref fm1) = true)
    (am2 : PySem.W.findIn K (.ref CL) "_gone" = some (some (.ref fm2)))
    (im2 : PySem.W.isFn K (.ref fm2) = true)
    (lm2 : K.lookup fm2 = some ⟨ocm2, odm2, .func (PySem.W.fnOf "_gone" "Zones._gone" (defArgs (inClass (top 26) 2)) (defBody (inClass (top 26) 2)) (defScope (inClass (top 26) 2)) .none kVm2 dcm2 pmm2 anm2 cdm2 ctm2), slm2⟩)
    (cm2 : PySem.W.codeIn K cdm2 "Zones._gone" = true)
    (km2 : PySem.W.keepIn K (.ref fm2) = true)
    (am3 : PySem.W.findIn K (.ref CL) "value" = some (some (.ref fm3)))
    (im3 : PySem.W.isFn K (.ref fm3) = true)
    (lm3 : K.lookup fm3 = some ⟨ocm3, odm3, .func (PySem.W.fnOf "value" "Zones.value" (defArgs (inClass (top 26) 3)) (defBody (inClass (top 26) 3)) (defScope (inClass (top 26) 3)) .none kVm3 dcm3 pmm3 anm3 cdm3 ctm3), slm3⟩)
    (cm3 : PySem.W.codeIn K cdm3 "Zones.value" = true)
    (km3 : PySem.W.keepIn K (.ref fm3) = true)
    (am5 : PySem.W.findIn K (.ref CL) "zone_of" = some (some (.ref fm5)))
    (im5 : PySem.W.isFn K (.ref fm5) = true)
    (lm5 : K.lookup fm5 = some ⟨ocm5, odm5, .func (PySem.W.fnOf "zone_of" "Zones.zone_of" (defArgs (inClass (top 26) 5)) (defBody (inClass (top 26) 5)) (defScope (inClass (top 26) 5)) .none kVm5 dcm5 pmm5 anm5 cdm5 ctm5), slm5⟩)
    (cm5 : PySem.W.codeIn K cdm5 "Zones.zone_of" = true)
    (km5 : PySem.W.keepIn K (.ref fm5) = true)
    (am6 : PySem.W.findIn K (.ref CL) "returns" = some (some (.ref fm6)))
    (im6 : PySem.W.isFn K (.ref fm6) = true)
    (lm6 : K.lookup fm6 = some ⟨ocm6, odm6, .func (PySem.W.fnOf "returns" "Zones.returns" (defArgs (inClass (top 26) 6)) (defBody (inClass (top 26) 6)) (defScope (inClass (top 26) 6)) .none kVm6 dcm6 pmm6 anm6 cdm6 ctm6), slm6⟩)
    (cm6 : PySem.W.codeIn K cdm6 "Zones.returns" = true)
    (km6 : PySem.W.keepIn K (.ref fm6) = true)
    (pg : PySem.W.plainGet K CL Str.empty = true)
    (hd : PySem.W.hasDictIn K CL = true)
    (po : PySem.W.plainOver K CL = true)
    (sa : PySem.W.findIn K (.ref CL) "__setattr__" = some (some (.builtin "object.__setattr__")))
    (mk : PySem.W.makesIn K CL = true)
    (kc : PySem.W.keepIn K (.ref CL) = true)
    (n_ring : PySem.W.findIn K (.ref CL) "_ring" = some none)
    (n_borders : PySem.W.findIn K (.ref CL) "_borders" = some none)
    (n_steps : PySem.W.findIn K (.ref CL) "_steps" = some none)
    (n_scale : PySem.W.findIn K (.ref CL) "_scale" = some none)
    (n_start : PySem.W.findIn K (.ref CL) "_start" = some none)
    (n_takes : PySem.W.findIn K (.ref CL) "_takes" = some none)
    (gmz : PySem.W.nsIn K mainGlobals "MOST_ZONES" = some (some (.int 12 t12))) :
    ∃ fd : FuncData, (∀ (s : Shared) (v : Value), BindsTo s fd ⟨[v], []⟩ [("_law_script", v)]) ∧ ∀ base : Heap, K.In base → base.Ns mainGlobals mg → FnOk P w K mg base (L2.CX P w) 9 fa fd ["_law_script"] (spD K 1 fLaw) := by
  have e := hfa.symm.trans (PySem.W.mg_of X G a22)
  cases e
  have g_isinstance : mg "isinstance" = none := PySem.W.mg_none_of X G z_isinstance
  have g_int : mg "int" = none := PySem.W.mg_none_of X G z_int
  have g_bool : mg "bool" = none := PySem.W.mg_none_of X G z_bool
  have g_tuple : mg "tuple" = none := PySem.W.mg_none_of X G z_tuple
  have g_len : mg "len" = none := PySem.W.mg_none_of X G z_len
  have g_list : mg "list" = none := PySem.W.mg_none_of X G z_list
  have g_all : mg "all" = none := PySem.W.mg_none_of X G z_all
  have g_zip : mg "zip" = none := PySem.W.mg_none_of X G z_zip
  have g_range : mg "range" = none := PySem.W.mg_none_of X G z_range
  have g_abs : mg "abs" = none := PySem.W.mg_none_of X G z_abs
  have g_divmod : mg "divmod" = none := PySem.W.mg_none_of X G z_divmod
  have g_sum : mg "sum" = none := PySem.W.mg_none_of X G z_sum
  have g_gcd : mg "gcd" = some (.builtin "math.gcd") := PySem.W.mg_of X G zg_gcd
  have g_lcm : mg "lcm" = some (.builtin "math.lcm") := PySem.W.mg_of X G zg_lcm
  have xW : ExF K mg "NoWorth" CW := ⟨PySem.W.mg_of X G eg, ex, ek, eb, et⟩
  have dN' : ∀ B, Dr K B (.ref TN) (.tup [.int 0, .int 1]) := fun B => Dr.tup (vs := [V.int 0, V.int 1]) (Or.inr ⟨_, _, _, tN, rfl, rfl, Nat.le_of_ble_eq_true rfl, .cons ⟨_, rfl⟩ (.cons ⟨_, rfl⟩ .nil)⟩) (.cons (.int 0) (.cons (.int 1) .nil))
  have F0 := fun_mk (st := top 7) l0 c0 k0
  have b0 := F0.binds (ps := ["thing", "least", "most"]) fun _ _ _ _ _ _ us hl => match us, hl with | [_, _, _], _ => rfl
  have F1 := fun_mk (st := top 8) l1 c1 k1
  have b1 := F1.binds (ps := ["thing", "many"]) fun _ _ _ _ _ _ us hl => match us, hl with | [_, _], _ => rfl
  have F2 := fun_mk (st := top 10) l2 c2 k2
  have b2 := F2.binds (ps := ["thing"]) fun _ _ _ _ _ _ us hl => match us, hl with | [_], _ => rfl
  have F3 : FunDS K "worth" "worth" (top 11) [.int 1] [] f3 _ := ⟨⟨_, _, _, _, _, _, _, _, _, _, rfl, l3, c3, Or.inr ⟨by simp, _, _, _, _, rfl, t3, rfl, .cons ⟨_, rfl⟩ .nil⟩, Or.inl rfl⟩, k3⟩
  have F4 := fun_mk (st := top 12) l4 c4 k4
  have b4 := F4.binds (ps := ["thing"]) fun _ _ _ _ _ _ us hl => match us, hl with | [_], _ => rfl
  have F5 := fun_mk (st := top 13) l5 c5 k5
  have b5 := F5.binds (ps := ["one", "other"]) fun _ _ _ _ _ _ us hl => match us, hl with | [_, _], _ => rfl
  have F6 := fun_mk (st := top 14) l6 c6 k6
  have b6 := F6.binds (ps := ["thing"]) fun _ _ _ _ _ _ us hl => match us, hl with | [_], _ => rfl
  have F7 := fun_mk (st := top 15) l7 c7 k7
  have b7 := F7.binds (ps := ["one", "other"]) fun _ _ _ _ _ _ us hl => match us, hl with | [_, _], _ => rfl
  have F8 := fun_mk (st := top 16) l8 c8 k8
  have b8 := F8.binds (ps := ["one", "other"]) fun _ _ _ _ _ _ us hl => match us, hl with | [_, _], _ => rfl
  have F9 := fun_mk (st := top 17) l9 c9 k9
  have b9 := F9.binds (ps := ["one", "other"]) fun _ _ _ _ _ _ us hl => match us, hl with | [_, _], _ => rfl
  have F10 := fun_mk (st := top 18) l10 c10 k10
  have b10 := F10.binds (ps := ["one", "other"]) fun _ _ _ _ _ _ us hl => match us, hl with | [_, _], _ => rfl
  have F11 := fun_mk (st := top 19) l11 c11 k11
  have b11 := F11.binds (ps := ["one", "other"]) fun _ _ _ _ _ _ us hl => match us, hl with | [_, _], _ => rfl
  have F12 := fun_mk (st := top 23) l12 c12 k12
  have b12 := F12.binds (ps := ["thing", "ring"]) fun _ _ _ _ _ _ us hl => match us, hl with | [_, _], _ => rfl
  have F13 := fun_mk (st := top 24) l13 c13 k13
  have b13 := F13.binds (ps := ["thing", "many"]) fun _ _ _ _ _ _ us hl => match us, hl with | [_, _], _ => rfl
  have F14 := fun_mk (st := top 25) l14 c14 k14
  have b14 := F14.binds (ps := ["ring", "borders", "steps", "at"]) fun _ _ _ _ _ _ us hl => match us, hl with | [_, _, _, _], _ => rfl
  have F15 := fun_mk (st := top 29) l15 c15 k15
  have b15 := F15.binds (ps := ["_law_cell_here", "_law_many"]) fun _ _ _ _ _ _ us hl => match us, hl with | [_, _], _ => rfl
  have F16 := fun_mk (st := top 30) l16 c16 k16
  have b16 := F16.binds (ps := ["_law_upper", "_law_lower"]) fun _ _ _ _ _ _ us hl => match us, hl with | [_, _], _ => rfl
  have F17 := fun_mk (st := top 33) l17 c17 k17
  have b17 := F17.binds (ps := ["_law_one", "_law_other"]) fun _ _ _ _ _ _ us hl => match us, hl with | [_, _], _ => rfl
  have F18 := fun_mk (st := top 35) l18 c18 k18
  have b18 := F18.binds (ps := ["_law_digits_here"]) fun _ _ _ _ _ _ us hl => match us, hl with | [_], _ => rfl
  have F19 := fun_mk (st := top 36) l19 c19 k19
  have b19 := F19.binds (ps := ["_law_zones"]) fun _ _ _ _ _ _ us hl => match us, hl with | [_], _ => rfl
  have F20 := fun_mk (st := top 37) l20 c20 k20
  have b20 := F20.binds (ps := ["_law_size", "_law_part"]) fun _ _ _ _ _ _ us hl => match us, hl with | [_, _], _ => rfl
  have F21 := fun_mk (st := top 38) l21 c21 k21
  have b21 := F21.binds (ps := ["_law_made", "_law_widths", "_law_paces", "_law_begin"]) fun _ _ _ _ _ _ us hl => match us, hl with | [_, _, _, _], _ => rfl
  have F22 := fun_mk (st := top 39) l22 c22 k22
  refine ⟨PySem.W.fnOf "law" "law" (defArgs (top 39)) (defBody (top 39)) (defScope (top 39)) .none kV22 dc22 pm22 an22 cd22 ct22, fun s v => .of_eq rfl, fun base hb1 hb2 => ?_⟩
  have cC : Cls K CL := ⟨pg, hd, po, sa⟩
  have Fm0 : FunDS K "__init__" "Zones.__init__" (inClass (top 26) 0) [] [] fm0 _ := ⟨⟨_, _, _, _, _, _, _, _, _, _, rfl, lm0, cm0, Or.inl ⟨rfl, rfl⟩, Or.inl rfl⟩, km0⟩
  have Fm1 := fun_mk (st := inClass (top 26) 1) lm1 cm1 km1
  have bm1 := Fm1.binds (ps := ["self", "rows"]) fun _ _ _ _ _ _ us hl => match us, hl with | [_, _], _ => rfl
  have Fm2 := fun_mk (st := inClass (top 26) 2) lm2 cm2 km2
  have bm2 := Fm2.binds (ps := ["self", "row"]) fun _ _ _ _ _ _ us hl => match us, hl with | [_, _], _ => rfl
  have Fm3 := fun_mk (st := inClass (top 26) 3) lm3 cm3 km3
  have bm3 := Fm3.binds (ps := ["self", "row"]) fun _ _ _ _ _ _ us hl => match us, hl with | [_, _], _ => rfl
  have Fm5 := fun_mk (st := inClass (top 26) 5) lm5 cm5 km5
  have bm5 := Fm5.binds (ps := ["self", "thing"]) fun _ _ _ _ _ _ us hl => match us, hl with | [_, _], _ => rfl
  have Fm6 := fun_mk (st := inClass (top 26) 6) lm6 cm6 km6
  have bm6 := Fm6.binds (ps := ["self"]) fun _ _ _ _ _ _ us hl => match us, hl with | [_], _ => rfl
  have cWh : Cal P w K mg base "is_whole" _ _ _ _ := cal_mk (ok_is_whole g_isinstance g_int g_bool F2) rfl (PySem.W.mg_of X G a2) k2 b2
  have GW := ok_worth (P := P) (w := w) (base := base) g_gcd cWh xW F3
  have cW : Cal P w K mg base "worth" 2 ["top", "bottom"] [] (fWorth CW) := ⟨f3, _, _, _, GW, PySem.W.mg_of X G a3, k3, worth_binds2 F3, .nil, fun _ => .nil⟩
  have cTu : Cal P w K mg base "is_tuple" _ _ _ _ := cal_mk (ok_is_tuple g_isinstance g_tuple g_len F1) rfl (PySem.W.mg_of X G a1) k1 b1
  have cI : Cal P w K mg base "is_worth" _ _ _ _ := cal_mk (ok_is_worth g_gcd cWh cTu F4) rfl (PySem.W.mg_of X G a4) k4 b4
  obtain ⟨ds1, hv1, hb1'⟩ := FunD.binds1 (ps := ["top", "bottom"]) F3 1 0 (by simp) rfl (fun T kV doc pm an cdv ct us its h1 h2 => match us, its, h1, h2 with | [_], [_], _, _ => ⟨_, rfl, rfl⟩)
  have cW1 : Cal P w K mg base "worth" 2 ["top", "bottom"] [.int 1] (fWorth CW) := ⟨f3, _, ds1, _, GW, PySem.W.mg_of X G a3, k3, hb1', hv1, fun _ => .cons (.int 1) .nil⟩
  have cR : Cal P w K mg base "_refuse_others" _ _ _ _ := cal_mk (ok_refuse cI xW F5) rfl (PySem.W.mg_of X G a5) k5 b5
  have cM : Cal P w K mg base "minus" _ _ _ _ := cal_mk (ok_minus cR cW F8) rfl (PySem.W.mg_of X G a8) k8 b8
  have cL : Cal P w K mg base "is_less" _ _ _ _ := cal_mk (ok_is_less cR cW F11) rfl (PySem.W.mg_of X G a11) k11 b11
  have cA : Cal P w K mg base "is_above_nought" _ _ _ _ := cal_mk (ok_above cI F6) rfl (PySem.W.mg_of X G a6) k6 b6
  have cP : Cal P w K mg base "plus" _ _ _ _ := cal_mk (ok_plus cR cW F7) rfl (PySem.W.mg_of X G a7) k7 b7
  have cT : Cal P w K mg base "times" _ _ _ _ := cal_mk (ok_times cR cW F9) rfl (PySem.W.mg_of X G a9) k9 b9
  have cO : Cal P w K mg base "over" _ _ _ _ := cal_mk (ok_over cR cW F10) rfl (PySem.W.mg_of X G a10) k10 b10
  have cIL : Cal P w K mg base "is_list" _ _ _ _ := cal_mk (ok_is_list g_isinstance g_list g_len F0) rfl (PySem.W.mg_of X G a0) k0 b0
  have cAB : CalR P w K mg base "are_borders" _ _ _ := calR_mk (ok_areb (vN := .ref TN) (PySem.W.mg_of X G gmz) (PySem.W.mg_of X G aN) rfl dN' g_all g_zip cIL cI cL F12) rfl (PySem.W.mg_of X G a12) k12 b12
  have cAS : CalR P w K mg base "_are_steps" _ _ _ := calR_mk (ok_ares g_all cIL cA F13) rfl (PySem.W.mg_of X G a13) k13 b13
  have cFW : CalR P w K mg base "_first_wrong" _ _ _ := calR_mk (ok_firstZ (vN := .ref TN) (PySem.W.mg_of X G aN) rfl dN' g_len cA cAB cAS cI cL F14) rfl (PySem.W.mg_of X G a14) k14 b14
  have lD : Cal P w K mg base "_law_digits" _ _ _ _ := cal_mk (ok_digits g_range F15) rfl (PySem.W.mg_of X G a15) k15 b15
  have lL : Cal P w K mg base "_law_low" _ _ _ _ := cal_mk (ok_low g_abs F16) rfl (PySem.W.mg_of X G a16) k16 b16
  have lB : Cal P w K mg base "_law_by" _ _ _ _ := cal_mk (ok__law_by lL F17) rfl (PySem.W.mg_of X G a17) k17 b17
  have cU : Mth P w K mg base CL "_units" 1 ["self", "rows"] (fUnits CL) := ⟨fm1, _, ok_unitsZ cC n_scale Fm1, ⟨am1, im1, km1⟩, bm1⟩
  have cZ : MthR P w K mg base CL "zone_of" 5 ["self", "thing"] (RZone CL) := ⟨fm5, _, ok_zone g_len cC n_borders cL Fm5, ⟨am5, im5, km5⟩, bm5⟩
  have cG : MthR P w K mg base CL "_gone" 5 ["self", "row"] (RGone CL) := ⟨fm2, _, ok_gone g_len g_divmod cC n_ring n_borders n_steps n_scale n_start n_takes cP cT cW Fm2, ⟨am2, im2, km2⟩, bm2⟩
  have cV : MthR P w K mg base CL "value" 6 ["self", "row"] (RValZ CL) := ⟨fm3, _, ok_valueZ cC cG Fm3, ⟨am3, im3, km3⟩, bm3⟩
  have cRt : MthR P w K mg base CL "returns" 3 ["self"] (RRetZ CL) := ⟨fm6, _, ok_retZ cC n_scale n_takes cW Fm6, ⟨am6, im6, km6⟩, bm6⟩
  have GI := ok_initZ (P := P) (w := w) (base := base) (vN := .ref TN) (PySem.W.mg_of X G aN) rfl dN' g_zip g_list g_lcm cC n_ring n_borders n_steps n_scale n_start n_takes cFW cP cM cO cU cZ Fm0
  have cK : MakR P w K mg base "Zones" CL 7 ["ring", "borders", "steps", "at"] (fun ds => ds) RInitZ := ⟨fm0, _, ["self", "ring", "borders", "steps", "at"], _, _, GI, ⟨mk, am0, im0, kc⟩, PySem.W.mg_of X G aL, kbn_plain Fm0 1 ["ring", "borders", "steps", "at"] (fun us ws => us ++ ws) (fun r1 r2 => r1.append r2) (fun kV doc pm an cdv ct us ws h1 h2 => match us, ws, h1, h2 with | [_], [_, _, _, _], _, _ => rfl), fun B r vs zs hA hl => ⟨congrArg (· + 1) hl, vs, rfl, hA⟩⟩
  have cRi : CalR P w K mg base "_law_ring" _ _ _ := calR_mk (ok_ring g_range g_sum lL F18) rfl (PySem.W.mg_of X G a18) k18 b18
  have cSt : CalR P w K mg base "_law_stays" _ _ _ := calR_mk (ok_stays F19) rfl (PySem.W.mg_of X G a19) k19 b19
  have cWi : CalR P w K mg base "_law_within" _ _ _ := calR_mk (ok_within F20) rfl (PySem.W.mg_of X G a20) k20 b20
  have cRg : CalR P w K mg base "_law_right" _ _ _ := calR_mk (ok_right g_range g_len cC cZ cV cRt lB cSt cWi F21) rfl (PySem.W.mg_of X G a21) k21 b21
  exact ok_law g_len g_range g_sum cC cK cRt lD cRi cRg F22
theorem walk {l : PySem.W.OpenLaw} {q : Program} {loose : List Str} {XP : (Str → Option Value) → Heap → Prop} {YP : World → Heap → Prop} {d : DefRec} {K : Params → PySem.W.Frag} (hn : l.most = some 63) (hdf : d.params.defaults = [])
    (hY : ∀ (w : World) (h : Heap), YP w h → (K w.params).In h)
    (F : ∀ (w : World) (mg : Str → Option Value) (fa : Addr) (h : Heap), (K w.params).In h → h.Ns mainGlobals mg → mg d.name = some (.ref fa) →
      ∃ fd : FuncData, (∀ (s : Shared) (u : Value), BindsTo s fd ⟨[u], []⟩ [("_law_script", u)]) ∧ ∀ base : Heap, (K w.params).In base → base.Ns mainGlobals mg → FnOk l.prog w (K w.params) mg base (L2.CX l.prog w) 9 fa fd ["_law_script"] (spD (K w.params) 1 fLaw)) :
    PySem.W.WalkO q loose XP YP l.row.toRowW d [] (fun f vs => PySem.call f vs) :=
  L2.walk_of (n := 63) (k := 9) (x := "_law_script") (CX := fun w => L2.CX l.prog w) (sp := fun w => spD (K w.params) 1 fLaw) hn (by decide) hdf ⟨rfl, by decide, by decide⟩ hY F
    (fun w H a ns hl _ hS => ⟨rfl, H, [.lst (ns.map .int)], .ok (.bl true), Ex.refl H, .cons (.lst hS DrA.ints) .nil, fLaw_ok hl, fun v B' H' g r => by cases r; rfl⟩)
    fun w H s e s' h => by
      obtain ⟨_, _, _, _, _, _, _, _, _, _, _, _, z⟩ := h
      exact z.elim
end T01
open PySem PySem.W PyProof.Rows
set_option maxRecDepth 100000 in
set_option maxHeartbeats 0 in
theorem PySem.Challenge.cw_tabletsky_k18_whole_stays_in_zones_holds : PySem.Challenge.rw_tabletsky_k18_whole_stays_in_zones.Holds := by
  w_on; o_law; k_head; (case hw => w_witness2)
  k_fill
  refine T01.walk (l := PySem.Challenge.rw_tabletsky_k18_whole_stays_in_zones) rfl rfl (fun w h Y => PySem.W.kIn_of Y) ?F
  case F =>
    intro w mg fa h KX G hmg
    refine' T01.all_mk KX G hmg ?a0 ?l0 ?c0 ?k0 ?a1 ?l1 ?c1 ?k1 ?a2 ?l2 ?c2 ?k2 ?a3 ?l3 ?c3 ?k3 ?t3 ?a4 ?l4 ?c4 ?k4 ?a5 ?l5 ?c5 ?k5 ?a6 ?l6 ?c6 ?k6 ?a7 ?l7 ?c7 ?k7 ?a8 ?l8 ?c8 ?k8 ?a9 ?l9 ?c9 ?k9 ?a10 ?l10 ?c10 ?k10 ?a11 ?l11 ?c11 ?k11 ?a12 ?l12 ?c12 ?k12 ?a13 ?l13 ?c13 ?k13 ?a14 ?l14 ?c14 ?k14 ?a15 ?l15 ?c15 ?k15 ?a16 ?l16 ?c16 ?k16 ?a17 ?l17 ?c17 ?k17 ?a18 ?l18 ?c18 ?k18 ?a19 ?l19 ?c19 ?k19 ?a20 ?l20 ?c20 ?k20 ?a21 ?l21 ?c21 ?k21 ?a22 ?l22 ?c22 ?k22 ?aN ?tN ?z_isinstance ?z_int ?z_bool ?z_tuple ?z_len ?z_list ?z_all ?z_zip ?z_range ?z_abs ?z_divmod ?z_sum ?zg_gcd ?zg_lcm ?eg ?ex ?ek ?eb ?et ?aL ?am0 ?im0 ?lm0 ?cm0 ?km0 ?am1 ?im1 ?lm1 ?cm1 ?km1 ?am2 ?im2 ?lm2 ?cm2 ?km2 ?am3 ?im3 ?lm3 ?cm3 ?km3 ?am5 ?im5 ?lm5 ?cm5 ?km5 ?am6 ?im6 ?lm6 ?cm6 ?km6 ?pg ?hd ?po ?sa ?mk ?kc ?n_ring ?n_borders ?n_steps ?n_scale ?n_start ?n_takes ?gmz
    (case a0 => k_is)
    (case l0 => k_is)
    (case c0 => k_is)
    (case k0 => k_is)
    (case a1 => k_is)
    (case l1 => k_is)
    (case c1 => k_is)
    (case k1 => k_is)
    (case a2 => k_is)
    (case l2 => k_is)
    (case c2 => k_is)
    (case k2 => k_is)
    (case a3 => k_is)
    (case l3 => k_is)
    (case c3 => k_is)
    (case k3 => k_is)
    (case t3 => k_is)
    (case a4 => k_is)
    (case l4 => k_is)
    (case c4 => k_is)
    (case k4 => k_is)
    (case a5 => k_is)
    (case l5 => k_is)
    (case c5 => k_is)
    (case k5 => k_is)
    (case a6 => k_is)
    (case l6 => k_is)
    (case c6 => k_is)
    (case k6 => k_is)
    (case a7 => k_is)
    (case l7 => k_is)
    (case c7 => k_is)
    (case k7 => k_is)
    (case a8 => k_is)
    (case l8 => k_is)
    (case c8 => k_is)
    (case k8 => k_is)
    (case a9 => k_is)
    (case l9 => k_is)
    (case c9 => k_is)
    (case k9 => k_is)
    (case a10 => k_is)
    (case l10 => k_is)
    (case c10 => k_is)
    (case k10 => k_is)
    (case a11 => k_is)
    (case l11 => k_is)
    (case c11 => k_is)
    (case k11 => k_is)
    (case a12 => k_is)
    (case l12 => k_is)
    (case c12 => k_is)
    (case k12 => k_is)
    (case a13 => k_is)
    (case l13 => k_is)
    (case c13 => k_is)
    (case k13 => k_is)
    (case a14 => k_is)
    (case l14 => k_is)
    (case c14 => k_is)
    (case k14 => k_is)
    (case a15 => k_is)
    (case l15 => k_is)
    (case c15 => k_is)
    (case k15 => k_is)
    (case a16 => k_is)
    (case l16 => k_is)
    (case c16 => k_is)
    (case k16 => k_is)
    (case a17 => k_is)
    (case l17 => k_is)
    (case c17 => k_is)
    (case k17 => k_is)
    (case a18 => k_is)
    (case l18 => k_is)
    (case c18 => k_is)
    (case k18 => k_is)
    (case a19 => k_is)
    (case l19 => k_is)
    (case c19 => k_is)
    (case k19 => k_is)
    (case a20 => k_is)
    (case l20 => k_is)
    (case c20 => k_is)
    (case k20 => k_is)
    (case a21 => k_is)
    (case l21 => k_is)
    (case c21 => k_is)
    (case k21 => k_is)
    (case a22 => k_is)
    (case l22 => k_is)
    (case c22 => k_is)
    (case k22 => k_is)
    (case aN => k_is)
    (case tN => k_is)
    (case z_isinstance => k_is)
    (case z_int => k_is)
    (case z_bool => k_is)
    (case z_tuple => k_is)
    (case z_len => k_is)
    (case z_list => k_is)
    (case z_all => k_is)
    (case z_zip => k_is)
    (case z_range => k_is)
    (case z_abs => k_is)
    (case z_divmod => k_is)
    (case z_sum => k_is)
    (case zg_gcd => k_is)
    (case zg_lcm => k_is)
    (case eg => k_is)
    (case ex => k_exc)
    (case ek => k_is)
    (case eb => k_is)
    (case et => k_is)
    (case aL => k_is)
    (case am0 => k_is)
    (case im0 => k_is)
    (case lm0 => k_is)
    (case cm0 => k_is)
    (case km0 => k_is)
    (case am1 => k_is)
    (case im1 => k_is)
    (case lm1 => k_is)
    (case cm1 => k_is)
    (case km1 => k_is)
    (case am2 => k_is)
    (case im2 => k_is)
    (case lm2 => k_is)
    (case cm2 => k_is)
    (case km2 => k_is)
    (case am3 => k_is)
    (case im3 => k_is)
    (case lm3 => k_is)
    (case cm3 => k_is)
    (case km3 => k_is)
    (case am5 => k_is)
    (case im5 => k_is)
    (case lm5 => k_is)
    (case cm5 => k_is)
    (case km5 => k_is)
    (case am6 => k_is)
    (case im6 => k_is)
    (case lm6 => k_is)
    (case cm6 => k_is)
    (case km6 => k_is)
    (case pg => k_is)
    (case hd => k_is)
    (case po => k_is)
    (case sa => k_is)
    (case mk => k_is)
    (case kc => k_is)
    (case n_ring => k_is)
    (case n_borders => k_is)
    (case n_steps => k_is)
    (case n_scale => k_is)
    (case n_start => k_is)
    (case n_takes => k_is)
    (case gmz => k_is)
#print axioms PySem.Challenge.cw_tabletsky_k18_whole_stays_in_zones_holds
