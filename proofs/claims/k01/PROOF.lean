import PyProof.Rows.All
import Wide.All
import OpenK.AllK
import Wide.FinOn
import HandS.ForMost
import HandS.ForExc
import HandS.Defaults
import HandS.MakeKwOnly
import HandS.CallSlots
import HandS.IsInst
import HandS.Wide
import HandS.WideMore
import HandS.Gcd
import HandS.Evl
import HandS.ExcIs
import PySem.Challenge.RW_tabletsky_k01_worths_reckoned
set_option Elab.async false
set_option linter.all false
set_option maxRecDepth 100000
set_option maxHeartbeats 4000000
/-! Values as plain data: what an expression, a statement, a def comes to, told by data alone -/
namespace Sky
open PySem L2 Evl

inductive Da where
  | non | bl (b : Bool) | int (i : Int) | str (x : Str) | ty (n : String) | cls (C : Addr)
  | lst (xs : List Da) | tup (xs : List Da) | ins (C : Addr) (fs : List (Str × Da))

mutual
inductive Dr (K : PySem.W.Frag) (B : Hp) : V → Da → Prop
  | non : Dr K B .non .non
  | bl (b : Bool) : Dr K B (.bl b) (.bl b)
  | int (i : Int) : Dr K B (.int i) (.int i)
  | str (x : Str) : Dr K B (.str x) (.str x)
  | ty (n : String) : Dr K B (.ty n) (.ty n)
  | cls (C : Addr) : Dr K B (.ref C) (.cls C)
  | lst {a : Addr} {vs : List V} {ds : List Da} (h : SqL K B a vs) (t : DrA K B vs ds) : Dr K B (.ref a) (.lst ds)
  | tup {a : Addr} {vs : List V} {ds : List Da} (h : SqT K B a vs) (t : DrA K B vs ds) : Dr K B (.ref a) (.tup ds)
  | ins {a C dx : Addr} {fs : List (Str × V)} {ds : List (Str × Da)} (h : B a = some (.ins C dx fs)) (t : DrF K B fs ds) : Dr K B (.ref a) (.ins C ds)
inductive DrA (K : PySem.W.Frag) (B : Hp) : List V → List Da → Prop
  | nil : DrA K B [] []
  | cons {v : V} {vs : List V} {d : Da} {ds : List Da} (h : Dr K B v d) (t : DrA K B vs ds) : DrA K B (v :: vs) (d :: ds)
inductive DrF (K : PySem.W.Frag) (B : Hp) : List (Str × V) → List (Str × Da) → Prop
  | nil : DrF K B [] []
  | cons {f : Str} {v : V} {vs : List (Str × V)} {d : Da} {ds : List (Str × Da)} (h : Dr K B v d) (t : DrF K B vs ds) : DrF K B ((f, v) :: vs) ((f, d) :: ds)
end
section
variable {K : PySem.W.Frag} {B B' H H' H0 B0 : Hp}
mutual
theorem Dr.mono (e : Ex B B') : ∀ {v : V} {d : Da}, Dr K B v d → Dr K B' v d
  | _, _, .non => .non
  | _, _, .bl b => .bl b
  | _, _, .int b => .int b
  | _, _, .str b => .str b
  | _, _, .ty b => .ty b
  | _, _, .cls b => .cls b
  | _, _, .lst h t => .lst (ex_l e h) (DrA.mono e t)
  | _, _, .tup h t => .tup (ex_t e h) (DrA.mono e t)
  | _, _, .ins h t => .ins (e _ _ h) (DrF.mono e t)
theorem DrA.mono (e : Ex B B') : ∀ {v : List V} {d : List Da}, DrA K B v d → DrA K B' v d
  | _, _, .nil => .nil
  | _, _, .cons h t => .cons (Dr.mono e h) (DrA.mono e t)
theorem DrF.mono (e : Ex B B') : ∀ {v : List (Str × V)} {d : List (Str × Da)}, DrF K B v d → DrF K B' v d
  | _, _, .nil => .nil
  | _, _, .cons h t => .cons (Dr.mono e h) (DrF.mono e t)
end
theorem DrA.length : ∀ {vs : List V} {ds : List Da}, DrA K B vs ds → vs.length = ds.length
  | _, _, .nil => rfl
  | _, _, .cons _ t => congrArg (· + 1) (DrA.length t)
theorem DrA.append : ∀ {vs ws : List V} {ds es : List Da}, DrA K B vs ds → DrA K B ws es → DrA K B (vs ++ ws) (ds ++ es)
  | _, _, _, _, .nil, s => s
  | _, _, _, _, .cons h t, s => .cons h (DrA.append t s)
theorem DrA.get : ∀ {vs : List V} {ds : List Da} {j : Nat} {d : Da}, DrA K B vs ds → ds[j]? = some d → ∃ v, vs[j]? = some v ∧ Dr K B v d
  | _, _, _, _, .nil, e => by simp at e
  | _, _, 0, _, .cons h _, e => by simp at e; subst e; exact ⟨_, rfl, h⟩
  | _, _, j + 1, d, .cons _ t, e => by
    obtain ⟨v, h1, h2⟩ := DrA.get (j := j) (d := d) t (by simpa using e)
    exact ⟨v, by simpa using h1, h2⟩
theorem DrA.set : ∀ {vs : List V} {ds : List Da} (j : Nat) {v : V} {d : Da}, DrA K B vs ds → Dr K B v d → DrA K B (vs.set j v) (ds.set j d)
  | _, _, _, _, _, .nil, _ => .nil
  | _, _, 0, _, _, .cons _ t, r => .cons r t
  | _, _, j + 1, _, _, .cons h t, r => .cons h (DrA.set j t r)
theorem DrA.take : ∀ {vs : List V} {ds : List Da} (n : Nat), DrA K B vs ds → DrA K B (vs.take n) (ds.take n)
  | _, _, 0, _ => .nil
  | _, _, _ + 1, .nil => .nil
  | _, _, n + 1, .cons h t => .cons h (DrA.take n t)
theorem DrA.drop : ∀ {vs : List V} {ds : List Da} (n : Nat), DrA K B vs ds → DrA K B (vs.drop n) (ds.drop n)
  | _, _, 0, r => r
  | _, _, _ + 1, .nil => .nil
  | _, _, n + 1, .cons _ t => DrA.drop n t
theorem DrA.rev : ∀ {vs : List V} {ds : List Da}, DrA K B vs ds → DrA K B vs.reverse ds.reverse
  | _, _, .nil => .nil
  | _, _, .cons h t => by
    rw [List.reverse_cons, List.reverse_cons]
    exact (DrA.rev t).append (.cons h .nil)
theorem DrF.look {f : Str} : ∀ {vs : List (Str × V)} {ds : List (Str × Da)} {d : Da}, DrF K B vs ds → ds.lookup f = some d → ∃ v, vs.lookup f = some v ∧ Dr K B v d
  | _, _, _, .nil, e => by simp at e
  | _, _, d, .cons (f := g) (v := v) (vs := vs) (ds := ds) h t, e => by
    rw [List.lookup_cons] at e ⊢
    cases q : f == g with
    | true => rw [q] at e; simp at e; subst e; exact ⟨v, by simp, h⟩
    | false => rw [q] at e; simp at e; simpa using DrF.look t e
theorem DrF.lookN {f : Str} : ∀ {vs : List (Str × V)} {ds : List (Str × Da)}, DrF K B vs ds → ds.lookup f = none → vs.lookup f = none
  | _, _, .nil, e => rfl
  | _, _, .cons (f := g) (d := d) (ds := ds) h t, e => by
    rw [List.lookup_cons] at e ⊢
    cases q : f == g with
    | true => rw [q] at e; cases e
    | false =>
      rw [q] at e
      exact DrF.lookN t e
/-- as ints -/
theorem DrA.ints : ∀ {ns : List Int}, DrA K B (ns.map V.int) (ns.map Da.int)
  | [] => .nil
  | n :: r => .cons (.int n) (DrA.ints (ns := r))

/-! ### how both heaps grow: B what is data, H all -/
structure Gr (B H B' H' : Hp) : Prop where
  b : Ex B B'
  h : Ex H H'
  s : Ex B' H'
  n : ∀ p, H p ≠ none → B p = none → B' p = none
theorem Gr.refl (e : Ex B H) : Gr B H B H := ⟨Ex.refl _, Ex.refl _, e, fun _ _ h => h⟩
theorem Gr.trans {B2 H2 : Hp} (a : Gr B H B' H') (c : Gr B' H' B2 H2) : Gr B H B2 H2 :=
  ⟨a.b.trans c.b, a.h.trans c.h, c.s, fun p hp hb => c.n p (fun z => by
    cases e : H p with
    | none => exact hp e
    | some o => rw [a.h p o e] at z; cases z) (a.n p hp hb)⟩
theorem Gr.back (a : Gr B H B' H') {p : Addr} (h : H' p = none) : H p = none := fresh_back a.h h
theorem Gr.bnone (e : Ex B H) {p : Addr} (h : H p = none) : B p = none := fresh_back e h
/-- a new object that is data -/
theorem Gr.new (e : Ex B H) {p : Addr} {o : HO} (h : H p = none) : Gr B H (upd B p o) (upd H p o) :=
  ⟨Ex.new (fresh_back e h), Ex.new h, fun a u q => by
    by_cases z : a = p
    · subst z; rw [upd_same] at q ⊢; exact q
    · rw [upd_ne z] at q ⊢; exact e a u q, fun q hq hb => by
    have z : q ≠ p := fun w => hq (by rw [w, h])
    rw [upd_ne z]; exact hb⟩
/-- a new object that is none (yet) -/
theorem Gr.newO (e : Ex B H) {p : Addr} {o : HO} (h : H p = none) : Gr B H B (upd H p o) :=
  ⟨Ex.refl _, Ex.new h, e.trans (Ex.new h), fun _ _ hb => hb⟩
/-- what was laid new becomes data -/
theorem Gr.freeze (e0 : Ex B H) (a : Gr B H B' H') {p : Addr} {o : HO} (h0 : H p = none) (h1 : H' p = some o) : Gr B H (upd B' p o) H' :=
  ⟨fun q u e => by
    have z : q ≠ p := ne_of_none (e0 q u e) h0
    rw [upd_ne z]; exact a.b q u e, a.h, fun q u e => by
    by_cases z : q = p
    · subst z; rw [upd_same] at e; rw [h1]; exact e
    · rw [upd_ne z] at e; exact a.s q u e, fun q hq hb => by
    have z : q ≠ p := fun w => hq (by rw [w, h0])
    rw [upd_ne z]; exact a.n q hq hb⟩
end

/-! ### slots -/
inductive Sl where
  | no | da (d : Da) | own (ds : List Da) | rf (v : V) | ob (p C dx : Addr) (fs : List (Str × Da))
inductive SlR (K : PySem.W.Frag) (B H0 H : Hp) : Option V → Sl → Prop
  | no (o : Option V) : SlR K B H0 H o .no
  | da {v : V} {d : Da} (h : Dr K B v d) : SlR K B H0 H (some v) (.da d)
  | rf (v : V) : SlR K B H0 H (some v) (.rf v)
  | ob {p C dx : Addr} {vs : List (Str × V)} {fs : List (Str × Da)} (b : B p = none) (f : H0 p = none) (h : H p = some (.ins C dx vs)) (t : DrF K B vs fs) : SlR K B H0 H (some (.ref p)) (.ob p C dx fs)
  | own {p : Addr} {vs : List V} {ds : List Da} (b : B p = none) (f : H0 p = none) (h : H p = some (.lst vs)) (t : DrA K B vs ds) : SlR K B H0 H (some (.ref p)) (.own ds)
/-- the frame: (B0, H0) at the def's begin, (B, H) now -/
structure Sd (K : PySem.W.Frag) (B0 H0 B H : Hp) (σ : L2.St) (en : List Sl) : Prop where
  gr : Gr B0 H0 B H
  sl : Paired (SlR K B H0 H) σ en
  sep : ∀ (i j : Nat) (p : Addr) (ds es : List Da), en[i]? = some (.own ds) → en[j]? = some (.own es) → σ[i]? = some (some (.ref p)) → σ[j]? = some (some (.ref p)) → i = j
inductive XO where
  | ok (d : Da) | err (C : Addr) (f : Option (Str × Da))
def XF (K : PySem.W.Frag) (B H : Hp) (dd : Option Addr) : Option (Str × Da) → Prop
  | none => dd = none
  | some (n, d) => ∃ a v, dd = some a ∧ H a = some (.xd [(n, v)]) ∧ Dr K B v d
def Ko (K : PySem.W.Frag) (E : XK) (B H : Hp) (Q : VK) : XO → Prop
  | .ok d => ∀ v B' H', Gr B H B' H' → Dr K B' v d → Q v H'
  | .err C f => ∀ dd B' H', Gr B H B' H' → XF K B' H' dd f → E (.ref C) dd H'
/-- an expression comes to o -/
def EX (K : PySem.W.Frag) (W : WX) (te : TE) (en : List Sl) (o : XO) : Prop := ∀ B0 H0 B H σ, Sd K B0 H0 B H σ en → ∀ Q : VK, Ko K (fun c d H' => W c d σ H') B H Q o → te σ H Q
def EA (K : PySem.W.Frag) (ta : TA) (en : List Sl) (ds : List Da) : Prop := ∀ B0 H0 B H σ, Sd K B0 H0 B H σ en → ∀ Q : List V → Hp → Prop, (∀ vs B' H', Gr B H B' H' → DrA K B' vs ds → Q vs H') → ta σ H Q
/-- a new list, nobody else's -/
def EL (K : PySem.W.Frag) (te : TE) (en : List Sl) (ds : List Da) : Prop := ∀ B0 H0 B H σ, Sd K B0 H0 B H σ en → ∀ Q : VK, (∀ p vs B' H', Gr B H B' H' → H p = none → B' p = none → H' p = some (.lst vs) → DrA K B' vs ds → Q (.ref p) H') → te σ H Q

section
variable {K : PySem.W.Frag} {W : WX} {B B' H H' H0 B0 : Hp} {σ : L2.St} {en en' : List Sl} {te ta tb : TE} {d d1 d2 : Da} {o : XO}
theorem SlR.grow (g : Gr B H B' H') {x : Option V} {y : Sl} (h : SlR K B H0 H x y) : SlR K B' H0 H' x y := by
  cases h with
  | no => exact .no _
  | da h => exact .da (h.mono g.b)
  | rf v => exact .rf v
  | ob b f h t => exact .ob (g.n _ (by rw [h]; exact fun z => nomatch z) b) f (g.h _ _ h) (t.mono g.b)
  | own b f h t => exact .own (g.n _ (by rw [h]; exact fun z => nomatch z) b) f (g.h _ _ h) (t.mono g.b)
theorem paired_mp {α β : Type} {F G : α → β → Prop} : ∀ {l₁ : List α} {l₂ : List β}, Paired F l₁ l₂ → (∀ a b, F a b → G a b) → Paired G l₁ l₂
  | _, _, .nil, _ => .nil
  | _, _, .cons r t, f => .cons (f _ _ r) (paired_mp t f)
theorem paired_get {α β : Type} {F : α → β → Prop} : ∀ {l₁ : List α} {l₂ : List β} {i : Nat} {y : β}, Paired F l₁ l₂ → l₂[i]? = some y → ∃ x, l₁[i]? = some x ∧ F x y
  | _, _, _, _, .nil, e => by simp at e
  | _, _, 0, _, .cons r _, e => by simp at e; subst e; exact ⟨_, rfl, r⟩
  | _, _, i + 1, y, .cons _ t, e => by
    obtain ⟨x, h1, h2⟩ := paired_get (i := i) (y := y) t (by simpa using e)
    exact ⟨x, by simpa using h1, h2⟩
theorem paired_set {α β : Type} {F : α → β → Prop} {x : α} {y : β} (r : F x y) : ∀ {xs : List α} {us : List β} (i : Nat), Paired F xs us → Paired F (xs.set i x) (us.set i y)
  | _, _, _, .nil => .nil
  | _, _, 0, .cons _ t => .cons r t
  | _, _, i + 1, .cons q t => .cons q (paired_set r i t)
theorem Sd.grow (S : Sd K B0 H0 B H σ en) (g : Gr B H B' H') : Sd K B0 H0 B' H' σ en :=
  ⟨S.gr.trans g, paired_mp S.sl fun _ _ h => h.grow g, S.sep⟩
theorem Sd.at (S : Sd K B0 H0 B H σ en) {i : Nat} (h : en[i]? = some (.da d)) : ∃ v, σ[i]? = some (some v) ∧ Dr K B v d := by
  obtain ⟨x, h1, h2⟩ := paired_get S.sl h
  cases h2 with
  | da h => exact ⟨_, h1, h⟩
theorem Sd.ownAt (S : Sd K B0 H0 B H σ en) {i : Nat} {ds : List Da} (h : en[i]? = some (.own ds)) : ∃ p vs, σ[i]? = some (some (.ref p)) ∧ B p = none ∧ H0 p = none ∧ H p = some (.lst vs) ∧ DrA K B vs ds := by
  obtain ⟨x, h1, h2⟩ := paired_get S.sl h
  cases h2 with
  | own b f h t => exact ⟨_, _, h1, b, f, h, t⟩
theorem Sd.eb (S : Sd K B0 H0 B H σ en) : Ex B H := S.gr.s
/-- a slot is set to data -/
theorem Sd.set (S : Sd K B0 H0 B H σ en) {v : V} (h : Dr K B v d) (i : Nat) : Sd K B0 H0 B H (σ.set i (some v)) (en.set i (.da d)) :=
  ⟨S.gr, paired_set (.da h) i S.sl, fun a b p ds es h1 h2 h3 h4 => by
    by_cases ha : a = i
    · subst ha
      by_cases hl : a < en.length
      · rw [List.getElem?_set_self hl] at h1; cases h1
      · rw [List.getElem?_eq_none (by rw [List.length_set]; omega)] at h1; cases h1
    · by_cases hb : b = i
      · subst hb
        by_cases hl : b < en.length
        · rw [List.getElem?_set_self hl] at h2; cases h2
        · rw [List.getElem?_eq_none (by rw [List.length_set]; omega)] at h2; cases h2
      · rw [List.getElem?_set_ne (Ne.symm ha)] at h1 h3
        rw [List.getElem?_set_ne (Ne.symm hb)] at h2 h4
        exact S.sep a b p ds es h1 h2 h3 h4⟩
theorem Sd.atRf (S : Sd K B0 H0 B H σ en) {i : Nat} {v : V} (h : en[i]? = some (.rf v)) : σ[i]? = some (some v) := by
  obtain ⟨x, h1, h2⟩ := paired_get S.sl h
  cases h2 with
  | rf => exact h1
/-- a slot holds just this -/
theorem Sd.setRf (S : Sd K B0 H0 B H σ en) (v : V) (i : Nat) : Sd K B0 H0 B H (σ.set i (some v)) (en.set i (.rf v)) :=
  ⟨S.gr, paired_set (.rf v) i S.sl, fun a b p ds es h1 h2 h3 h4 => by
    by_cases ha : a = i
    · subst ha
      by_cases hl : a < en.length
      · rw [List.getElem?_set_self hl] at h1; cases h1
      · rw [List.getElem?_eq_none (by rw [List.length_set]; omega)] at h1; cases h1
    · by_cases hb : b = i
      · subst hb
        by_cases hl : b < en.length
        · rw [List.getElem?_set_self hl] at h2; cases h2
        · rw [List.getElem?_eq_none (by rw [List.length_set]; omega)] at h2; cases h2
      · rw [List.getElem?_set_ne (Ne.symm ha)] at h1 h3
        rw [List.getElem?_set_ne (Ne.symm hb)] at h2 h4
        exact S.sep a b p ds es h1 h2 h3 h4⟩
/-- a slot is forgotten -/
theorem Sd.drop (S : Sd K B0 H0 B H σ en) (i : Nat) (x : Option V) : Sd K B0 H0 B H (σ.set i x) (en.set i .no) :=
  ⟨S.gr, paired_set (.no _) i S.sl, fun a b p ds es h1 h2 h3 h4 => by
    by_cases ha : a = i
    · subst ha
      by_cases hl : a < en.length
      · rw [List.getElem?_set_self hl] at h1; cases h1
      · rw [List.getElem?_eq_none (by rw [List.length_set]; omega)] at h1; cases h1
    · by_cases hb : b = i
      · subst hb
        by_cases hl : b < en.length
        · rw [List.getElem?_set_self hl] at h2; cases h2
        · rw [List.getElem?_eq_none (by rw [List.length_set]; omega)] at h2; cases h2
      · rw [List.getElem?_set_ne (Ne.symm ha)] at h1 h3
        rw [List.getElem?_set_ne (Ne.symm hb)] at h2 h4
        exact S.sep a b p ds es h1 h2 h3 h4⟩
/-- a new own list goes into a slot -/
theorem Sd.setOwn (S : Sd K B0 H0 B H σ en) (g : Gr B H B' H') {p : Addr} {vs : List V} {ds : List Da} (h0 : H p = none) (hb : B' p = none) (h1 : H' p = some (.lst vs)) (t : DrA K B' vs ds) (i : Nat) : Sd K B0 H0 B' H' (σ.set i (some (.ref p))) (en.set i (.own ds)) :=
  have nu : ∀ (a : Nat) (es : List Da), en[a]? = some (.own es) → σ[a]? = some (some (.ref p)) → False := fun a es h2 h4 => by
    obtain ⟨q, ws, e1, _, _, e2, _⟩ := S.ownAt h2
    rw [e1] at h4
    cases h4
    rw [h0] at e2
    cases e2
  ⟨S.gr.trans g, paired_set (.own hb (S.gr.back h0) h1 t) i (paired_mp S.sl fun _ _ h => h.grow g), fun a b q ds es h1 h2 h3 h4 => by
    by_cases ha : a = i
    · by_cases hb : b = i
      · rw [ha, hb]
      · subst ha
        rw [List.getElem?_set_ne (Ne.symm hb)] at h2 h4
        by_cases hl : a < en.length
        · have hs : a < σ.length := by have := Paired.length S.sl; omega
          rw [List.getElem?_set_self hs] at h3
          cases h3
          exact (nu b es h2 h4).elim
        · rw [List.getElem?_eq_none (by rw [List.length_set]; omega)] at h1; cases h1
    · by_cases hb : b = i
      · subst hb
        rw [List.getElem?_set_ne (Ne.symm ha)] at h1 h3
        by_cases hl : b < en.length
        · have hs : b < σ.length := by have := Paired.length S.sl; omega
          rw [List.getElem?_set_self hs] at h4
          cases h4
          exact (nu a ds h1 h3).elim
        · rw [List.getElem?_eq_none (by rw [List.length_set]; omega)] at h2; cases h2
      · rw [List.getElem?_set_ne (Ne.symm ha)] at h1 h3
        rw [List.getElem?_set_ne (Ne.symm hb)] at h2 h4
        exact S.sep a b q ds es h1 h2 h3 h4⟩
theorem paired_ix {α β : Type} {F : α → β → Prop} : ∀ {l₁ : List α} {l₂ : List β}, l₁.length = l₂.length → (∀ (i : Nat) x y, l₁[i]? = some x → l₂[i]? = some y → F x y) → Paired F l₁ l₂
  | [], [], _, _ => .nil
  | [], _ :: _, h, _ => by simp at h
  | _ :: _, [], h, _ => by simp at h
  | x :: xs, y :: ys, h, f => .cons (f 0 x y rfl rfl) (paired_ix (by simpa using h) fun i a b ha hb => f (i + 1) a b (by simpa using ha) (by simpa using hb))
theorem paired_at {α β : Type} {F : α → β → Prop} {l₁ : List α} {l₂ : List β} {i : Nat} {x : α} {y : β} (h : Paired F l₁ l₂) (h1 : l₁[i]? = some x) (h2 : l₂[i]? = some y) : F x y := by
  obtain ⟨x', e1, e2⟩ := paired_get h h2
  rw [h1] at e1
  cases e1
  exact e2
/-- the own list of a slot is changed -/
theorem Sd.mut (S : Sd K B0 H0 B H σ en) {i : Nat} {ds : List Da} {p : Addr} (he : en[i]? = some (.own ds)) (hp : σ[i]? = some (some (.ref p))) {vs : List V} {es : List Da} (t : DrA K B vs es) : Sd K B0 H0 B (upd H p (.lst vs)) σ (en.set i (.own es)) := by
  obtain ⟨q, ws, e1, b, f, e2, t0⟩ := S.ownAt he
  rw [hp] at e1
  cases e1
  have hi : i < en.length := by
    rcases Nat.lt_or_ge i en.length with h | h
    · exact h
    · rw [List.getElem?_eq_none h] at he; cases he
  refine ⟨⟨S.gr.b, S.gr.h.mut f, fun a o h => ?_, S.gr.n⟩, paired_ix (by rw [List.length_set]; exact Paired.length S.sl) fun j x y hx hy => ?_, fun a c r xs ys h1 h2 h3 h4 => ?_⟩
  · have z : a ≠ p := ne_of_none h b
    rw [upd_ne z]
    exact S.gr.s a o h
  · by_cases hj : j = i
    · subst hj
      rw [List.getElem?_set_self hi] at hy
      cases hy
      rw [hp] at hx
      cases hx
      exact .own b f upd_same t
    · rw [List.getElem?_set_ne (Ne.symm hj)] at hy
      have r := paired_at S.sl hx hy
      cases r with
      | no => exact .no _
      | da h => exact .da h
      | rf v => exact .rf v
      | ob b' f' h' t' => exact .ob b' f' (by rw [upd_ne (ne_of h' e2 (fun z => nomatch z))]; exact h') t'
      | own b' f' h' t' =>
        have z : _ ≠ p := fun w => hj (S.sep j i p _ _ hy he (by rw [← w]; exact hx) hp)
        exact .own b' f' (by rw [upd_ne z]; exact h') t'
  · have back : ∀ (a : Nat) (xs : List Da), (en.set i (.own es))[a]? = some (.own xs) → ∃ zs, en[a]? = some (.own zs) := fun a xs h => by
      by_cases ha : a = i
      · subst ha; exact ⟨_, he⟩
      · rw [List.getElem?_set_ne (Ne.symm ha)] at h; exact ⟨_, h⟩
    obtain ⟨z1, k1⟩ := back a xs h1
    obtain ⟨z2, k2⟩ := back c ys h2
    exact S.sep a c r z1 z2 k1 k2 h3 h4
/-- an own list becomes data -/
theorem Sd.freeze (S : Sd K B0 H0 B H σ en) {i : Nat} {ds : List Da} (he : en[i]? = some (.own ds)) : ∃ B', Sd K B0 H0 B' H σ (en.set i (.da (.lst ds))) ∧ (∀ a o, B a = some o → B' a = some o) := by
  obtain ⟨p, vs, e1, b, f, e2, t0⟩ := S.ownAt he
  have hi : i < en.length := by
    rcases Nat.lt_or_ge i en.length with h | h
    · exact h
    · rw [List.getElem?_eq_none h] at he; cases he
  have eB : Ex B (upd B p (.lst vs)) := Ex.new b
  refine ⟨upd B p (.lst vs), ⟨⟨S.gr.b.trans eB, S.gr.h, fun a o h => ?_, fun q hq hb => ?_⟩, paired_ix (by rw [List.length_set]; exact Paired.length S.sl) fun j x y hx hy => ?_, fun a c r xs ys h1 h2 h3 h4 => ?_⟩, eB⟩
  · by_cases z : a = p
    · subst z; rw [upd_same] at h; rw [e2]; exact h
    · rw [upd_ne z] at h; exact S.gr.s a o h
  · have z : q ≠ p := fun w => hq (by rw [w]; exact f)
    rw [upd_ne z]
    exact S.gr.n q hq hb
  · by_cases hj : j = i
    · subst hj
      rw [List.getElem?_set_self hi] at hy
      cases hy
      rw [e1] at hx
      cases hx
      exact .da (.lst (Or.inl (Or.inl upd_same)) (t0.mono eB))
    · rw [List.getElem?_set_ne (Ne.symm hj)] at hy
      have r := paired_at S.sl hx hy
      cases r with
      | no => exact .no _
      | da h => exact .da (h.mono eB)
      | rf v => exact .rf v
      | ob b' f' h' t' => exact .ob (by rw [upd_ne (ne_of h' e2 (fun z => nomatch z))]; exact b') f' h' (t'.mono eB)
      | own b' f' h' t' =>
        have z : _ ≠ p := fun w => hj (S.sep j i p _ _ hy he (by rw [← w]; exact hx) e1)
        exact .own (by rw [upd_ne z]; exact b') f' h' (t'.mono eB)
  · have back : ∀ (a : Nat) (xs : List Da), (en.set i (.da (.lst ds)))[a]? = some (.own xs) → en[a]? = some (.own xs) := fun a xs h => by
      by_cases ha : a = i
      · subst ha; rw [List.getElem?_set_self hi] at h; cases h
      · rw [List.getElem?_set_ne (Ne.symm ha)] at h; exact h
    exact S.sep a c r xs ys (back a xs h1) (back c ys h2) h3 h4
end
end Sky
namespace Sky
open PySem L2 Evl
section
variable {K : PySem.W.Frag} {W : WX} {E : XK} {B B' H H' H0 B0 : Hp} {σ : L2.St} {en en' : List Sl} {te ta tb : TE} {d d1 d2 : Da} {o : XO} {ds es : List Da}
theorem Ko.grow {Q : VK} (g : Gr B H B' H') (k : Ko K E B H Q o) : Ko K E B' H' Q o := by
  cases o with
  | ok d => exact fun v B2 H2 g2 r => k v B2 H2 (g.trans g2) r
  | err C f => exact fun dd B2 H2 g2 r => k dd B2 H2 (g.trans g2) r
/-! ### expressions -/
def FlatD (v : V) (d : Da) : Prop := ∀ K B, Dr K B v d
theorem ex_var {i : Nat} (h : en[i]? = some (.da d)) : EX K W (tVar i) en (.ok d) := fun _ _ B H σ S Q k => by
  obtain ⟨v, h1, h2⟩ := S.at h
  exact ⟨v, h1, k v B H (Gr.refl S.eb) h2⟩
theorem ex_c {v : V} (h : FlatD v d) : EX K W (tC v) en (.ok d) := fun _ _ B H σ S Q k => k v B H (Gr.refl S.eb) (h K B)
theorem ex_cK {v : V} (h : ∀ B, Dr K B v d) : EX K W (tC v) en (.ok d) := fun _ _ B H σ S Q k => k v B H (Gr.refl S.eb) (h B)
def RV (K : PySem.W.Frag) (r : R2) (d1 d2 d : Da) : Prop := ∀ B H x y, Ex B H → Dr K B x d1 → Dr K B y d2 → ∀ Q : VK, (∀ v B' H', Gr B H B' H' → Dr K B' v d → Q v H') → r x y H Q
def RU (K : PySem.W.Frag) (r : V → Hp → VK → Prop) (d1 d : Da) : Prop := ∀ B H x, Ex B H → Dr K B x d1 → ∀ Q : VK, (∀ v B' H', Gr B H B' H' → Dr K B' v d → Q v H') → r x H Q
def RC (K : PySem.W.Frag) (r : List V → Hp → VK → Prop) (ds : List Da) (d : Da) : Prop := ∀ B H vs, Ex B H → DrA K B vs ds → ∀ Q : VK, (∀ v B' H', Gr B H B' H' → Dr K B' v d → Q v H') → r vs H Q
theorem ex_op {r : R2} (ha : EX K W ta en (.ok d1)) (hb : EX K W tb en (.ok d2)) (hr : RV K r d1 d2 d) : EX K W (tOp r ta tb) en (.ok d) := fun _ _ B H σ S Q k =>
  ha _ _ B H σ S _ fun x B1 H1 g1 r1 => hb _ _ B1 H1 σ (S.grow g1) _ fun y B2 H2 g2 r2 => hr B2 H2 x y g2.s (r1.mono g2.b) r2 Q fun v B3 H3 g3 r3 => k v B3 H3 (g1.trans (g2.trans g3)) r3
theorem ex_un {r : V → Hp → VK → Prop} (ha : EX K W ta en (.ok d1)) (hr : RU K r d1 d) : EX K W (tUn r ta) en (.ok d) := fun _ _ B H σ S Q k =>
  ha _ _ B H σ S _ fun x B1 H1 g1 r1 => hr B1 H1 x g1.s r1 Q fun v B3 H3 g3 r3 => k v B3 H3 (g1.trans g3) r3
theorem ea_nil : EA K tNil en [] := fun _ _ B H σ S Q k => k [] B H (Gr.refl S.eb) .nil
theorem ea_cons {t : TA} (ha : EX K W te en (.ok d)) (ht : EA K t en ds) : EA K (tCons te t) en (d :: ds) := fun _ _ B H σ S Q k =>
  ha _ _ B H σ S _ fun x B1 H1 g1 r1 => ht _ _ B1 H1 σ (S.grow g1) _ fun vs B2 H2 g2 r2 => k _ B2 H2 (g1.trans g2) (.cons (r1.mono g2.b) r2)
theorem ex_tup {t : TA} (ht : EA K t en ds) (hl : ds.length ≤ 100000) : EX K W (tTup t) en (.ok (.tup ds)) := fun _ _ B H σ S Q k =>
  ht _ _ B H σ S _ fun vs B1 H1 g1 r1 => ⟨by rw [r1.length]; exact sz_of hl, fun p hp => k _ _ _ (g1.trans (Gr.new g1.s hp)) (.tup (st_of upd_same) (r1.mono (Ex.new (fresh_back g1.s hp))))⟩
theorem el_lst {t : TA} (ht : EA K t en ds) (hl : ds.length ≤ 100000) : EL K (tLst t) en ds := fun _ _ B H σ S Q k =>
  ht _ _ B H σ S _ fun vs B1 H1 g1 r1 => ⟨by rw [r1.length]; exact sz_of hl, fun p hp => k p vs B1 _ (g1.trans (Gr.newO g1.s hp)) (g1.back hp) (fresh_back g1.s hp) upd_same r1⟩
theorem EL.ex (h : EL K te en ds) : EX K W te en (.ok (.lst ds)) := fun _ _ B H σ S Q k =>
  h _ _ B H σ S _ fun p vs B1 H1 g1 h0 hb h1 r => k _ _ _ (g1.freeze S.eb h0 h1) (.lst (sq_of upd_same) (r.mono (Ex.new hb)))
theorem ex_cb {r : List V → Hp → VK → Prop} {t : TA} (ht : EA K t en ds) (hr : RC K r ds d) : EX K W (tCB r t) en (.ok d) := fun _ _ B H σ S Q k =>
  ht _ _ B H σ S _ fun vs B1 H1 g1 r1 => hr B1 H1 vs g1.s r1 Q fun v B3 H3 g3 r3 => k v B3 H3 (g1.trans g3) r3
/-- and, or, not of truths -/
theorem ex_andT {b : Da} (ha : EX K W ta en (.ok (.bl true))) (hb : EX K W tb en (.ok b)) : EX K W (tAndV ta tb) en (.ok b) := fun _ _ B H σ S Q k =>
  ha _ _ B H σ S _ fun x B1 H1 g1 r1 => by
    cases r1
    refine ⟨true, rfl, ?_⟩
    rw [if_pos rfl]
    exact hb _ _ B1 H1 σ (S.grow g1) _ (Ko.grow (o := .ok b) (E := fun _ _ _ => False) g1 k)
theorem ex_andF (ha : EX K W ta en (.ok (.bl false))) : EX K W (tAndV ta tb) en (.ok (.bl false)) := fun _ _ B H σ S Q k =>
  ha _ _ B H σ S _ fun x B1 H1 g1 r1 => by
    cases r1
    refine ⟨false, rfl, ?_⟩
    rw [if_neg Bool.false_ne_true]
    exact k _ _ _ g1 (.bl _)
theorem ex_orF {b : Da} (ha : EX K W ta en (.ok (.bl false))) (hb : EX K W tb en (.ok b)) : EX K W (tOrV ta tb) en (.ok b) := fun _ _ B H σ S Q k =>
  ha _ _ B H σ S _ fun x B1 H1 g1 r1 => by
    cases r1
    refine ⟨false, rfl, ?_⟩
    rw [if_neg Bool.false_ne_true]
    exact hb _ _ B1 H1 σ (S.grow g1) _ (Ko.grow (o := .ok b) (E := fun _ _ _ => False) g1 k)
theorem ex_orT (ha : EX K W ta en (.ok (.bl true))) : EX K W (tOrV ta tb) en (.ok (.bl true)) := fun _ _ B H σ S Q k =>
  ha _ _ B H σ S _ fun x B1 H1 g1 r1 => by
    cases r1
    refine ⟨true, rfl, ?_⟩
    rw [if_pos rfl]
    exact k _ _ _ g1 (.bl _)
theorem ex_not {b : Bool} (ha : EX K W ta en (.ok (.bl b))) : EX K W (tNotV ta) en (.ok (.bl (!b))) := fun _ _ B H σ S Q k =>
  ha _ _ B H σ S _ fun x B1 H1 g1 r1 => by
    cases r1
    exact ⟨b, rfl, k _ _ _ g1 (.bl _)⟩
/-! ### values -/
theorem rv_I {C : Int → Int → Prop} {g : Int → Int → V} {i j : Int} (hc : C i j) (hf : FlatD (g i j) d) : RV K (rI C g) (.int i) (.int j) d := fun B H x y e h1 h2 Q k => by
  cases h1; cases h2
  exact ⟨i, j, rfl, rfl, hc, k _ B H (Gr.refl e) (hf K B)⟩
theorem rv_I0 {g : Int → Int → V} {i j : Int} (hf : FlatD (g i j) d) : RV K (rI0 g) (.int i) (.int j) d := fun B H x y e h1 h2 Q k => by
  cases h1; cases h2
  exact ⟨i, j, rfl, rfl, k _ B H (Gr.refl e) (hf K B)⟩
theorem ixN_len {α β : Type} {xs : List α} {ys : List β} (h : xs.length = ys.length) (i : Int) : ixN xs.length i = ixN ys.length i := by rw [h]
theorem atI_dr {vs : List V} {i : Int} (h : DrA K B vs ds) (e : atI ds i = some d) : ∃ v, atI vs i = some v ∧ Dr K B v d := by
  unfold atI at e ⊢
  rw [ixN_len h.length i]
  cases q : ixN ds.length i with
  | none => rw [q] at e; cases e
  | some j =>
    rw [q] at e
    exact h.get e
theorem rv_ixT {i : Int} (e : atI ds i = some d) : RV K (rIxT K) (.tup ds) (.int i) d := fun B H x y eb h1 h2 Q k => by
  cases h2
  cases h1 with
  | tup h t =>
    obtain ⟨v, e1, r⟩ := atI_dr t e
    exact ⟨_, _, i, v, rfl, rfl, ex_t eb h, e1, k v B H (Gr.refl eb) r⟩
theorem rv_ixL {i : Int} (e : atI ds i = some d) : RV K (rIxL K) (.lst ds) (.int i) d := fun B H x y eb h1 h2 Q k => by
  cases h2
  cases h1 with
  | lst h t =>
    obtain ⟨v, e1, r⟩ := atI_dr t e
    exact ⟨_, _, i, v, rfl, rfl, ex_l eb h, e1, k v B H (Gr.refl eb) r⟩
/-- an item of an own list -/
theorem ex_ixO {i : Nat} {j : Int} (ho : en[i]? = some (.own ds)) (hb : EX K W tb en (.ok (.int j))) (e : atI ds j = some d) : EX K W (tOp (rIxL K) (tVar i) tb) en (.ok d) := fun _ _ B H σ S Q k => by
  obtain ⟨p, vs, e1, _⟩ := S.ownAt ho
  refine ⟨_, e1, hb _ _ B H σ S _ fun y B2 H2 g2 r2 => ?_⟩
  cases r2
  obtain ⟨p', vs', e1', _, _, e2, t⟩ := (S.grow g2).ownAt ho
  rw [e1] at e1'
  cases e1'
  obtain ⟨v, e3, r⟩ := atI_dr t e
  exact ⟨_, _, j, v, rfl, rfl, sq_of e2, e3, k v B2 H2 g2 r⟩

/-! ### equality -/
mutual
def py : Da → PyData
  | .non => .none | .bl b => .bool b | .int i => .int i | .str x => .str x | .ty _ => .none | .cls _ => .none
  | .lst xs => .list (pyA xs) | .tup xs => .tuple (pyA xs) | .ins _ _ => .none
def pyA : List Da → List PyData
  | [] => [] | d :: r => py d :: pyA r
end
mutual
def pl : Da → Bool
  | .non => true | .bl _ => true | .int _ => true | .str _ => true | .ty _ => false | .cls _ => false
  | .lst xs => plA xs | .tup xs => plA xs | .ins _ _ => false
def plA : List Da → Bool
  | [] => true | d :: r => pl d && plA r
end
mutual
theorem Dr.dp (e : Ex B H) : ∀ {v : V} {d : Da}, Dr K B v d → pl d = true → Dp K H v (py d)
  | _, _, .non, _ => .non
  | _, _, .bl b, _ => .bl b
  | _, _, .int b, _ => .int b
  | _, _, .str b, _ => .str b
  | _, _, .lst h t, q => .lst (ex_l e h) (DrA.dp e t q)
  | _, _, .tup h t, q => .tup (ex_t e h) (DrA.dp e t q)
theorem DrA.dp (e : Ex B H) : ∀ {v : List V} {d : List Da}, DrA K B v d → plA d = true → DpAll K H v (pyA d)
  | _, _, .nil, _ => .nil
  | _, _, .cons h t, q => .cons (Dr.dp e h (Bool.and_eq_true_iff.mp q).1) (DrA.dp e t (Bool.and_eq_true_iff.mp q).2)
end
/-- what == asks of both -/
def Cmp (d : Da) : Prop := pl d = true ∧ SeqAt.shaped (py d) = true
def deq (d e : Da) : Bool := PyData.eqv (py d) (py e)
theorem rv_eq (h1 : Cmp d1) (h2 : Cmp d2) : RV K (rEqD K) d1 d2 (.bl (deq d1 d2)) := fun B H x y e r1 r2 Q k =>
  ⟨_, _, r1.dp e h1.1, r2.dp e h2.1, h1.2, h2.2, k _ B H (Gr.refl e) (.bl _)⟩
theorem rv_ne (h1 : Cmp d1) (h2 : Cmp d2) : RV K (rNeD K) d1 d2 (.bl (!deq d1 d2)) := fun B H x y e r1 r2 Q k =>
  ⟨_, _, r1.dp e h1.1, r2.dp e h2.1, h1.2, h2.2, k _ B H (Gr.refl e) (.bl _)⟩
def isNon : Da → Bool
  | .non => true | _ => false
theorem rv_isN : RV K (fun x y H Q => y = .non ∧ Q (.bl (decide (x = .non))) H) d .non (.bl (isNon d)) := fun B H x y e r1 r2 Q k => by
  cases r2
  refine ⟨rfl, k _ B H (Gr.refl e) ?_⟩
  cases r1 <;> exact .bl _
theorem rv_notN : RV K (fun x y H Q => y = .non ∧ Q (.bl (!decide (x = .non))) H) d .non (.bl (!isNon d)) := fun B H x y e r1 r2 Q k => by
  cases r2
  refine ⟨rfl, k _ B H (Gr.refl e) ?_⟩
  cases r1 <;> exact .bl _
/-! ### types -/
def tyN : Da → Option String
  | .non => some "NoneType" | .bl _ => some "bool" | .int _ => some "int" | .str _ => some "str" | .lst _ => some "list" | .tup _ => some "tuple" | _ => none
theorem Dr.tyx (e : Ex B H) {v : V} {T : String} (h : Dr K B v d) (q : tyN d = some T) : TyX K H v (.type T) := by
  cases h with
  | non => cases q; exact .base .non
  | bl b => cases q; exact .base (.bl b)
  | int b => cases q; exact .base (.int b)
  | str b => cases q; exact .base (.str b)
  | ty n => cases q
  | cls n => cases q
  | ins _ _ => cases q
  | lst h t =>
    cases q
    rcases ex_l e h with (h | ⟨o, h⟩) | ⟨o, its, n, h, hc, _⟩
    · exact .base (.lst h)
    · exact .base (.frz h)
    · exact .kList h hc
  | tup h t =>
    cases q
    rcases ex_t e h with (h | ⟨o, h⟩) | ⟨o, its, n, h, hc, _⟩
    · exact .base (.tup h)
    · exact .fTuple h
    · exact .kTuple h hc
theorem rc_isi {T c : String} {b : Bool} (q : tyN d = some T) (h : kitB T c = some b) : RC K (rIsi K) [d, .ty c] (.bl b) := fun B H vs e hA Q k => by
  cases hA with
  | cons h1 t =>
    cases t with
    | cons h2 t =>
      cases t
      cases h2
      exact ⟨_, _, _, _, b, rfl, .ty c, h1.tyx e q, kit_ty h, k _ B H (Gr.refl e) (.bl _)⟩
end
end Sky
namespace Sky
open PySem L2 Evl
inductive Out where
  | nx (en : List Sl) | rt (d : Da) | bk (en : List Sl) | ct (en : List Sl) | rx (en : List Sl) (C : Addr) (f : Option (Str × Da))
def Fi (K : PySem.W.Frag) (W : WX) (B0 H0 : Hp) (D : Ends) : Out → Prop
  | .nx en => ∀ B H σ, Sd K B0 H0 B H σ en → D.nx σ H
  | .bk en => ∀ B H σ, Sd K B0 H0 B H σ en → D.bk σ H
  | .ct en => ∀ B H σ, Sd K B0 H0 B H σ en → D.ct σ H
  | .rt d => ∀ v B H, Gr B0 H0 B H → Dr K B v d → D.rt v H
  | .rx en C f => ∀ B H σ dd, Sd K B0 H0 B H σ en → XF K B H dd f → W (.ref C) dd σ H
def ST (K : PySem.W.Frag) (W : WX) (t : TS) (en : List Sl) (o : Out) : Prop := ∀ B0 H0 B H σ, Sd K B0 H0 B H σ en → ∀ D : Ends, Fi K W B0 H0 D o → t D σ H
/-- forgotten slots -/
inductive Wk : List Sl → List Sl → Prop
  | nil : Wk [] []
  | no {x : Sl} {xs ys : List Sl} (t : Wk xs ys) : Wk (x :: xs) (.no :: ys)
  | eq {x : Sl} {xs ys : List Sl} (t : Wk xs ys) : Wk (x :: xs) (x :: ys)
section
variable {K : PySem.W.Frag} {W : WX} {E : XK} {B B' H H' H0 B0 B1 H1 : Hp} {σ : L2.St} {en en' e1 e2 : List Sl} {te ta tb tl : TE} {d d1 d2 : Da} {o : Out} {ds es : List Da} {t u tbd : TS} {C : Addr} {f : Option (Str × Da)}
theorem Wk.refl : ∀ e : List Sl, Wk e e
  | [] => .nil
  | _ :: r => .eq (Wk.refl r)
theorem Wk.len : ∀ {e1 e2 : List Sl}, Wk e1 e2 → e1.length = e2.length
  | _, _, .nil => rfl
  | _, _, .no t => congrArg (· + 1) (Wk.len t)
  | _, _, .eq t => congrArg (· + 1) (Wk.len t)
theorem Wk.at : ∀ {e1 e2 : List Sl} {i : Nat} {y : Sl}, Wk e1 e2 → e2[i]? = some y → y = .no ∨ e1[i]? = some y
  | _, _, _, _, .nil, e => by simp at e
  | _, _, 0, _, .no _, e => by simp at e; exact .inl e.symm
  | _, _, 0, _, .eq _, e => by simp at e; exact .inr (by simp [e])
  | _, _, i + 1, _, .no t, e => by simpa using Wk.at (i := i) t (by simpa using e)
  | _, _, i + 1, _, .eq t, e => by simpa using Wk.at (i := i) t (by simpa using e)
theorem Sd.weak (S : Sd K B0 H0 B H σ e1) (w : Wk e1 e2) : Sd K B0 H0 B H σ e2 :=
  ⟨S.gr, paired_ix ((Paired.length S.sl).trans w.len) fun i x y hx hy => by
    rcases w.at hy with h | h
    · rw [h]; exact .no _
    · exact paired_at S.sl hx h, fun i j p ds es h1 h2 h3 h4 => by
    rcases w.at h1 with h | h
    · cases h
    · rcases w.at h2 with k | k
      · cases k
      · exact S.sep i j p ds es h k h3 h4⟩
/-- another begin: what is data by now -/
theorem Sd.rebase (S : Sd K B0 H0 B H σ en) : Sd K B H0 B H σ en := ⟨⟨Ex.refl _, S.gr.h, S.gr.s, fun _ _ h => h⟩, S.sl, S.sep⟩
theorem Gr.base (a : Gr B0 H0 B1 H1) (b : Gr B1 H0 B H) : Gr B0 H0 B H := ⟨a.b.trans b.b, b.h, b.s, fun p h1 h2 => b.n p h1 (a.n p h1 h2)⟩
theorem Sd.base (a : Gr B0 H0 B1 H1) (S : Sd K B1 H0 B H σ en) : Sd K B0 H0 B H σ en := ⟨a.base S.gr, S.sl, S.sep⟩
theorem st_weak (h : ST K W t en (.nx e1)) (w : Wk e1 e2) : ST K W t en (.nx e2) := fun B0 H0 B H σ S D k => h B0 H0 B H σ S D fun B' H' σ' S' => k B' H' σ' (S'.weak w)
theorem st_next : ST K W tNext en (.nx en) := fun _ _ _ _ _ S _ k => k _ _ _ S
theorem st_seq (h : ST K W t en (.nx e1)) (h2 : ST K W u e1 o) : ST K W (tSeq t u) en o := fun B0 H0 B H σ S D k =>
  h B0 H0 B H σ S { D with nx := u D } fun B' H' σ' S' => h2 B0 H0 B' H' σ' S' D k
theorem st_stop (h : ST K W t en o) (ho : ∀ e, o ≠ .nx e) : ST K W (tSeq t u) en o := fun B0 H0 B H σ S D k => h B0 H0 B H σ S { D with nx := u D } (by
  cases o with
  | nx e => exact absurd rfl (ho e)
  | rt d => exact k
  | bk d => exact k
  | ct d => exact k
  | rx e C f => exact k)
theorem st_asg {i : Nat} (h : EX K W te en (.ok d)) : ST K W (tAsg te (gName i)) en (.nx (en.set i (.da d))) := fun B0 H0 B H σ S D k =>
  h _ _ B H σ S _ fun v B' H' g r => k B' H' _ ((S.grow g).set r i)
theorem st_asgL {i : Nat} (h : EL K te en ds) : ST K W (tAsg te (gName i)) en (.nx (en.set i (.own ds))) := fun B0 H0 B H σ S D k =>
  h _ _ B H σ S _ fun p vs B' H' g h0 hb h1 r => k B' H' _ (S.setOwn g h0 hb h1 r i)
theorem ko_err (S : Sd K B0 H0 B H σ en) {Q : VK} (k : ∀ B H σ dd, Sd K B0 H0 B H σ en → XF K B H dd f → W (.ref C) dd σ H) : Ko K (fun c d H' => W c d σ H') B H Q (.err C f) := fun dd B' H' g x => k B' H' σ dd (S.grow g) x
theorem st_asgX {g : TG} (h : EX K W te en (.err C f)) : ST K W (tAsg te g) en (.rx en C f) := fun B0 H0 B H σ S D k => h _ _ B H σ S _ (ko_err S k)
theorem st_dropX (h : EX K W te en (.err C f)) : ST K W (tDrop te) en (.rx en C f) := fun B0 H0 B H σ S D k => h _ _ B H σ S _ (ko_err S k)
theorem st_retX (h : EX K W te en (.err C f)) : ST K W (tRet te) en (.rx en C f) := fun B0 H0 B H σ S D k => h _ _ B H σ S _ (ko_err S k)
theorem st_drop (h : EX K W te en (.ok d)) : ST K W (tDrop te) en (.nx en) := fun B0 H0 B H σ S D k => h _ _ B H σ S _ fun v B' H' g r => k B' H' σ (S.grow g)
theorem st_ret (h : EX K W te en (.ok d)) : ST K W (tRet te) en (.rt d) := fun B0 H0 B H σ S D k => h _ _ B H σ S _ fun v B' H' g r => k v B' H' (S.gr.trans g) r
theorem st_retN : ST K W tRetN en (.rt .non) := fun B0 H0 B H σ S D k => k .non B H S.gr .non
def ET (K : PySem.W.Frag) (tt : TT) (en : List Sl) (b : Bool) : Prop := ∀ B0 H0 B H σ, Sd K B0 H0 B H σ en → ∀ Q : Bool → Hp → Prop, (∀ B' H', Gr B H B' H' → Q b H') → tt σ H Q
theorem et_val {b : Bool} (h : EX K W te en (.ok (.bl b))) : ET K (tB te) en b := fun _ _ B H σ S Q k => h _ _ B H σ S _ fun v B' H' g r => by
  cases r
  exact ⟨b, rfl, k B' H' g⟩
theorem et_not {tt : TT} {b : Bool} (h : ET K tt en b) : ET K (tNot tt) en (!b) := fun _ _ B H σ S Q k => h _ _ B H σ S _ fun B' H' g => k B' H' g
theorem et_andT {tt tu : TT} {b : Bool} (h : ET K tt en true) (h2 : ET K tu en b) : ET K (tAnd tt tu) en b := fun _ _ B H σ S Q k => h _ _ B H σ S _ fun B' H' g => iteT (h2 _ _ B' H' σ (S.grow g) _ fun B2 H2 g2 => k B2 H2 (g.trans g2))
theorem et_andF {tt tu : TT} (h : ET K tt en false) : ET K (tAnd tt tu) en false := fun _ _ B H σ S Q k => h _ _ B H σ S _ fun B' H' g => iteF (k B' H' g)
theorem et_orF {tt tu : TT} {b : Bool} (h : ET K tt en false) (h2 : ET K tu en b) : ET K (tOr tt tu) en b := fun _ _ B H σ S Q k => h _ _ B H σ S _ fun B' H' g => iteF (h2 _ _ B' H' σ (S.grow g) _ fun B2 H2 g2 => k B2 H2 (g.trans g2))
theorem et_orT {tt tu : TT} (h : ET K tt en true) : ET K (tOr tt tu) en true := fun _ _ B H σ S Q k => h _ _ B H σ S _ fun B' H' g => iteT (k B' H' g)
theorem st_ifT {tt : TT} (h : ET K tt en true) (k : ST K W t en o) : ST K W (tIfS tt t u) en o := fun B0 H0 B H σ S D q =>
  h _ _ B H σ S _ fun B' H' g => iteT (k B0 H0 B' H' σ (S.grow g) D q)
theorem st_ifF {tt : TT} (h : ET K tt en false) (k : ST K W u en o) : ST K W (tIfS tt t u) en o := fun B0 H0 B H σ S D q =>
  h _ _ B H σ S _ fun B' H' g => iteF (k B0 H0 B' H' σ (S.grow g) D q)
theorem st_freeze {i : Nat} (he : en[i]? = some (.own ds)) (k : ST K W t (en.set i (.da (.lst ds))) o) : ST K W t en o := fun B0 H0 B H σ S D q => by
  obtain ⟨B', S', _⟩ := S.freeze he
  exact k B0 H0 B' H σ S' D q
/-- xs.append(e), xs an own list -/
theorem st_app {i : Nat} (he : en[i]? = some (.own ds)) (h : EX K W te en (.ok d)) (hz : ds.length < 100000) : ST K W (tDrop (tBM K "list" rAppend (tVar i) (tCons te tNil))) en (.nx (en.set i (.own (ds ++ [d])))) := fun B0 H0 B H σ S D k => by
  obtain ⟨p, vs, e1, _, _, e2, t⟩ := S.ownAt he
  refine ⟨_, e1, Or.inl ⟨rfl, vs, sq_of e2⟩, h _ _ B H σ S _ fun v B' H' g r => ?_⟩
  obtain ⟨p', vs', e1', _, _, e2', t'⟩ := (S.grow g).ownAt he
  rw [e1] at e1'
  cases e1'
  exact ⟨p, vs', v, rfl, rfl, e2', by rw [t'.length]; exact sz_lt hz, k B' _ σ ((S.grow g).mut he e1 (t'.append (.cons r .nil)))⟩
/-- a, b = x, y -/
theorem st_par {i j : Nat} {tx : TA} (h : EA K tx en [d1, d2]) : ST K W (tPar i j tx) en (.nx ((en.set i (.da d1)).set j (.da d2))) := fun B0 H0 B H σ S D k =>
  h _ _ B H σ S _ fun vs B' H' g r => by
    cases r with
    | cons r1 r2 =>
      cases r2 with
      | cons r2 r3 =>
        cases r3
        exact ⟨_, _, rfl, k B' H' _ (((S.grow g).set r1 i).set r2 j)⟩
/-! unpacking -/
def gNames : List Nat → TGs
  | [] => gNil
  | i :: r => gCons (gName i) (gNames r)
def setAll : List Sl → List Nat → List Da → List Sl
  | en, i :: is, d :: ds => setAll (en.set i (.da d)) is ds
  | en, _, _ => en
theorem gn_set : ∀ {is : List Nat} {vs : List V} {ds : List Da} {σ : L2.St} {en : List Sl} {Q : L2.St → Hp → Prop}, Sd K B0 H0 B H σ en → DrA K B vs ds → ds.length = is.length → (∀ σ', Sd K B0 H0 B H σ' (setAll en is ds) → Q σ' H) → gNames is vs σ H Q
  | [], _, _, σ, en, Q, S, .nil, _, k => ⟨rfl, k σ S⟩
  | i :: is, _, _, σ, en, Q, S, .cons h t, l, k => ⟨_, _, rfl, gn_set (is := is) (S.set h i) t (by simpa using l) k⟩
theorem st_unT {is : List Nat} {n : Nat} (h : EX K W te en (.ok (.tup ds))) (hl : ds.length = n) (hi : ds.length = is.length) : ST K W (tAsg te (gTup K n (gNames is))) en (.nx (setAll en is ds)) := fun B0 H0 B H σ S D k =>
  h _ _ B H σ S _ fun v B' H' g r => by
    cases r with
    | tup h t => exact ⟨_, _, rfl, ex_t g.s h, by rw [t.length, hl], gn_set (S.grow g) t hi fun σ' S' => k B' H' σ' S'⟩
theorem st_unL {is : List Nat} {n : Nat} (h : EX K W te en (.ok (.lst ds))) (hl : ds.length = n) (hi : ds.length = is.length) : ST K W (tAsg te (gLst K n (gNames is))) en (.nx (setAll en is ds)) := fun B0 H0 B H σ S D k =>
  h _ _ B H σ S _ fun v B' H' g r => by
    cases r with
    | lst h t => exact ⟨_, _, rfl, ex_l g.s h, by rw [t.length, hl], gn_set (S.grow g) t hi fun σ' S' => k B' H' σ' S'⟩
/-! loops -/
theorem fi_turn {Pv : L2.St → Hp → Prop} {D : Ends} (hnx : Fi K W B0 H0 D o → True) : True := trivial
/-- over a list: m turns that go on, then the end or a turn that leaves -/
theorem st_forL {j : Nat} (F : Nat → List Sl) (h : EX K W tl en (.ok (.lst ds))) (h0 : F 0 = en) (ht : ∀ i d, ds[i]? = some d → ST K W tbd ((F i).set j (.da d)) (.nx (F (i + 1)))) : ST K W (tFor (iList K tl) (gName j) tbd) en (.nx (F ds.length)) := fun B0 H0 B H σ S D k =>
  h _ _ B H σ S _ fun v B1 H1 g r => by
    cases r with
    | @lst a vs ds hq t =>
      have S1 := S.grow g
      refine ⟨a, rfl, ⟨vs, ex_l g.s hq⟩, for_list (fun i σ' H' => ∃ B', Sd K B1 H0 B' H' σ' (F i)) ⟨B1, by rw [h0]; exact S1.rebase⟩ (fun i σ' H' _ ⟨B', S'⟩ => ex_l (S'.gr.b.trans S'.gr.s) hq) (fun i x σ' H' hx ⟨B', S'⟩ => ?_) (fun σ' H' ⟨B', S'⟩ => ?_)⟩
      · obtain ⟨d, hd⟩ : ∃ d, ds[i]? = some d := by
          have := (List.getElem?_eq_some_iff.mp hx).1
          rw [t.length] at this
          exact ⟨ds[i], List.getElem?_eq_getElem this⟩
        obtain ⟨x', hx', rx⟩ := t.get hd
        rw [hx] at hx'
        cases hx'
        exact ht i d hd B1 H0 B' H' _ (S'.set (rx.mono S'.gr.b) j) _ fun B2 H2 σ2 S2 => ⟨B2, S2⟩
      · rw [t.length] at S'
        exact k B' H' σ' (S'.base S1.gr)
/-- .. a turn m leaves by o -/
theorem st_forLX {j m : Nat} (F : Nat → List Sl) (h : EX K W tl en (.ok (.lst ds))) (h0 : F 0 = en) (ht : ∀ i d, i < m → ds[i]? = some d → ST K W tbd ((F i).set j (.da d)) (.nx (F (i + 1)))) (hm : ds[m]? = some d) (hx : ST K W tbd ((F m).set j (.da d)) o) (ho : ∃ d', o = .rt d' ∨ ∃ e C f, o = .rx e C f) :
    ST K W (tFor (iList K tl) (gName j) tbd) en o := fun B0 H0 B H σ S D k =>
  h _ _ B H σ S _ fun v B1 H1 g r => by
    cases r with
    | @lst a vs ds hq t =>
      have S1 := S.grow g
      refine ⟨a, rfl, ⟨vs, ex_l g.s hq⟩, for_list (fun i σ' H' => i ≤ m ∧ ∃ B', Sd K B1 H0 B' H' σ' (F i)) ⟨Nat.zero_le _, B1, by rw [h0]; exact S1.rebase⟩ (fun i σ' H' _ ⟨_, B', S'⟩ => ex_l (S'.gr.b.trans S'.gr.s) hq) (fun i x σ' H' hx' ⟨hi, B', S'⟩ => ?_) (fun σ' H' ⟨hi, B', S'⟩ => ?_)⟩
      · obtain ⟨d2, hd⟩ : ∃ d, ds[i]? = some d := by
          have := (List.getElem?_eq_some_iff.mp hx').1
          rw [t.length] at this
          exact ⟨ds[i], List.getElem?_eq_getElem this⟩
        obtain ⟨x', hx2, rx⟩ := t.get hd
        rw [hx'] at hx2
        cases hx2
        rcases Nat.lt_or_ge i m with hlt | hge
        · exact ht i d2 hlt hd B1 H0 B' H' _ (S'.set (rx.mono S'.gr.b) j) _ fun B2 H2 σ2 S2 => ⟨hlt, B2, S2⟩
        · have e : i = m := by omega
          subst e
          rw [hm] at hd
          cases hd
          refine hx B1 H0 B' H' _ (S'.set (rx.mono S'.gr.b) j) _ ?_
          obtain ⟨d', rfl | ⟨e, C, f, rfl⟩⟩ := ho
          · exact fun v B2 H2 g2 r2 => k v B2 H2 (S1.gr.base g2) r2
          · exact fun B2 H2 σ2 dd S2 x2 => k B2 H2 σ2 dd (S2.base S1.gr) x2
      · have := (List.getElem?_eq_some_iff.mp hm).1
        rw [t.length] at hi
        omega
/-- over range(n) -/
theorem st_forR {j n : Nat} {tx : TA} (F : Nat → List Sl) (h : EA K tx en [.int (n : Int)]) (hn : n ≤ 100000) (h0 : F 0 = en) (ht : ∀ i : Nat, i < n → ST K W tbd ((F i).set j (.da (.int (i : Int)))) (.nx (F (i + 1)))) : ST K W (tFor (iRng1 tx) (gName j) tbd) en (.nx (F n)) := fun B0 H0 B H σ S D k =>
  h _ _ B H σ S _ fun vs B1 H1 g r => by
    cases r with
    | cons r r2 =>
      cases r2
      cases r
      have S1 := S.grow g
      refine ⟨n, rfl, by omega, by omega, for_range (lo := 0) (n := (n : Int).toNat) (fun i σ' H' => ∃ B', Sd K B1 H0 B' H' σ' (F i)) ⟨B1, by rw [h0]; exact S1.rebase⟩ (fun i σ' H' hi ⟨B', S'⟩ => ?_) (fun σ' H' ⟨B', S'⟩ => ?_)⟩
      · have e0 : (0 : Int) + (i : Int) = (i : Int) := Int.zero_add _
        rw [e0]
        exact ht i (by omega) B1 H0 B' H' _ (S'.set (.int _) j) _ fun B2 H2 σ2 S2 => ⟨B2, S2⟩
      · rw [Int.toNat_natCast] at S'
        exact k B' H' σ' (S'.base S1.gr)
/-- a while of m turns -/
theorem st_while {m : Nat} {tt : TT} (F : Nat → List Sl) (h0 : F 0 = en) (hc : ∀ i, i < m → ET K tt (F i) true) (ht : ∀ i, i < m → ST K W tbd (F i) (.nx (F (i + 1)))) (he : ET K tt (F m) false) : ST K W (tWhile tt tbd) en (.nx (F m)) := fun B0 H0 B H σ S D k => by
  refine ⟨fun q σ' H' => ∃ i, q = m - i ∧ i ≤ m ∧ ∃ B', Sd K B0 H0 B' H' σ' (F i), ⟨m, 0, rfl, Nat.zero_le _, B, by rw [h0]; exact S⟩, fun q σ' H' ⟨i, e, hi, B', S'⟩ => ?_⟩
  rcases Nat.lt_or_ge i m with hlt | hge
  · refine hc i hlt _ _ B' H' σ' S' _ fun B2 H2 g => ?_
    refine ⟨fun σ2 H2 => ∃ B2, Sd K B0 H0 B2 H2 σ2 (F (i + 1)), fun σ2 H2 ⟨B2, S2⟩ => ⟨m - (i + 1), by omega, i + 1, rfl, hlt, B2, S2⟩, ?_⟩
    exact ht i hlt B0 H0 B2 H2 σ' (S'.grow g) _ fun B3 H3 σ3 S3 => ⟨B3, S3⟩
  · have e : i = m := by omega
    subst e
    exact he _ _ B' H' σ' S' _ fun B2 H2 g => k B2 H2 σ' (S'.grow g)
end
end Sky
namespace Sky
open PySem L2 Evl PySem.Spec PyProof.Rows
structure Bd (X : Cx) (W : WX) (k : Nat) : Prop where
  calm : X.calm = true
  tk : Takes X W
  own : PassesOwn (model X.prog X.w) X.A X.env X.xe
  rm : Room k X.A
  nd : X.N.Nodup
structure EV (X : Cx) (W : WX) (en : List Sl) (e : Expr) (o : XO) : Prop where
  ex : ∃ t, PE X e t ∧ EX X.K W t en o
structure EVA (X : Cx) (W : WX) (en : List Sl) (es : List Expr) (ds : List Da) : Prop where
  ex : ∃ t, PA X es t ∧ EA X.K t en ds
structure EVL (X : Cx) (W : WX) (en : List Sl) (e : Expr) (ds : List Da) : Prop where
  ex : ∃ t, PE X e t ∧ EL X.K t en ds
structure SV (X : Cx) (W : WX) (en : List Sl) (s : Stmt) (o : Out) : Prop where
  ex : ∃ t, PS X s t ∧ ST X.K W t en o
structure SVs (X : Cx) (W : WX) (en : List Sl) (ss : List Stmt) (o : Out) : Prop where
  ex : ∃ t, PSs X ss t ∧ ST X.K W t en o
structure EVT (X : Cx) (W : WX) (en : List Sl) (c : Expr) (b : Bool) : Prop where
  ex : ∃ t, PT X c t ∧ ET X.K t en b
structure EVW (X : Cx) (W : WX) (en : List Sl) (c : Expr) (b : Bool) : Prop where
  ex : ∃ t, PW X c t ∧ ET X.K t en b
theorem pw_none {X : Cx} {e : Expr} : PW X e (fun _ _ _ => False) := ⟨fun _ _ _ _ _ _ _ h => h.elim⟩
theorem pe_none {X : Cx} {e : Expr} : PE X e (fun _ _ _ => False) := ⟨fun _ _ _ _ _ _ h => h.elim⟩
section
variable {X : Cx} {W : WX} {k : Nat} {en en' e1 e2 : List Sl} {e a b c : Expr} {es rest : List Expr} {pos p pos' p2 : Pos} {d d1 d2 : Da} {o : XO} {ou : Out} {ds ds1 ds2 : List Da} {i j : Int} {x : Str} {u v : Bool} {ss s1 s2 : List Stmt} {st : Stmt} {C : Addr} {f : Option (Str × Da)}
/-! ### expressions -/
theorem ev_int {q} : EV X W en (.Constant (.int i) q pos) (.ok (.int i)) := ⟨_, pe_int, ex_c fun _ _ => .int i⟩
theorem ev_bl {q} : EV X W en (.Constant (.bool u) q pos) (.ok (.bl u)) := ⟨_, pe_bl, ex_c fun _ _ => .bl u⟩
theorem ev_non {q} : EV X W en (.Constant .none q pos) (.ok .non) := ⟨_, pe_non, ex_c fun _ _ => .non⟩
theorem ev_str {q} : EV X W en (.Constant (.str x) q pos) (.ok (.str x)) := ⟨_, pe_str, ex_c fun _ _ => .str x⟩
theorem ev_name {n : Nat} (hN : X.N.idxOf? x = some n) (hv : Vis X.env.scope x) (h : en[n]? = some (.da d)) (hN2 : X.N[n]? = some x) (hd : (x == ("__debug__" : Str)) = false) (hc : (x == ("__classdict__" : Str)) = false) : EV X W en (.Name x pos) (.ok d) := ⟨_, pe_var hN2 hv hd hc, ex_var h⟩
theorem ev_ty {n : String} (hg : Gl X x) (hm : X.mg x = none) (hv : bootBuiltins x = some (.type n)) (hn : x ≠ "__name__") (hd : (x == ("__debug__" : Str)) = false) : EV X W en (.Name x pos) (.ok (.ty n)) := ⟨_, pe_bltn (v := .ty n) hg hm hv rfl hn hd, ex_c fun _ _ => .ty n⟩
/-- a name of the module that holds data of the written part -/
theorem ev_glob {v : V} {w : Value} (hg : Gl X x) (hm : X.mg x = some w) (r : RelV v w) (hd : (x == ("__debug__" : Str)) = false) (h : ∀ B, Dr X.K B v d) : EV X W en (.Name x pos) (.ok d) := ⟨_, pe_glob hg hm r hd, ex_cK h⟩
theorem eva_nil : EVA X W en [] [] := ⟨_, pa_nil, ea_nil⟩
theorem eva_cons (h : EV X W en e (.ok d)) (t : EVA X W en es ds) (hs : starEach (e :: es) X.env = (false, eval e X.env) :: starEach es X.env) : EVA X W en (e :: es) (d :: ds) := by
  obtain ⟨te, h1, h2⟩ := h
  obtain ⟨tr, h3, h4⟩ := t
  exact ⟨_, pa_cons h1 h3 hs, ea_cons h2 h4⟩
theorem ev_op {op : Operator} {r : R2} (ho : OpR X (binaryOp op) r) (ha : EV X W en a (.ok d1)) (hb : EV X W en b (.ok d2)) (hr : RV X.K r d1 d2 d) : EV X W en (.BinOp a op b pos) (.ok d) := by
  obtain ⟨te, h1, h2⟩ := ha
  obtain ⟨tr, h3, h4⟩ := hb
  exact ⟨_, pe_op ho h1 h3, ex_op h2 h4 hr⟩
theorem ev_add (ha : EV X W en a (.ok (.int i))) (hb : EV X W en b (.ok (.int j))) : EV X W en (.BinOp a .Add b pos) (.ok (.int (i + j))) := ev_op op_add ha hb (rv_I0 fun _ _ => .int _)
theorem ev_sub (ha : EV X W en a (.ok (.int i))) (hb : EV X W en b (.ok (.int j))) : EV X W en (.BinOp a .Sub b pos) (.ok (.int (i - j))) := ev_op op_sub ha hb (rv_I0 fun _ _ => .int _)
theorem ev_mul (ha : EV X W en a (.ok (.int i))) (hb : EV X W en b (.ok (.int j))) (hc : CMulW i j) : EV X W en (.BinOp a .Mult b pos) (.ok (.int (i * j))) := ev_op op_mulW ha hb (rv_I hc fun _ _ => .int _)
theorem ev_fdiv (ha : EV X W en a (.ok (.int i))) (hb : EV X W en b (.ok (.int j))) (hc : CDivW i j) : EV X W en (.BinOp a .FloorDiv b pos) (.ok (.int (i / j))) := ev_op op_fdivW ha hb (rv_I hc fun _ _ => .int _)
def CDivZ (_ j : Int) : Prop := j ≠ 0 ∧ j.natAbs.log2 < 9000
theorem op_fdivZ : OpR X (binaryOp .FloorDiv) (rI CDivZ fun i j => .int (i.fdiv j)) := opI fun i j _ _ _ _ _ hc q => PyProof.Rows.floordiv_int hc.1 q (.inl (PyProof.noPylong_of_log2 hc.2))
theorem ev_fdivZ (ha : EV X W en a (.ok (.int i))) (hb : EV X W en b (.ok (.int j))) (hc : CDivZ i j) : EV X W en (.BinOp a .FloorDiv b pos) (.ok (.int (i.fdiv j))) := ev_op op_fdivZ ha hb (rv_I hc fun _ _ => .int _)
theorem ev_mod (ha : EV X W en a (.ok (.int i))) (hb : EV X W en b (.ok (.int j))) (hc : 0 < j) : EV X W en (.BinOp a .Mod b pos) (.ok (.int (i % j))) := ev_op op_mod ha hb (rv_I hc fun _ _ => .int _)
theorem ev_pow (ha : EV X W en a (.ok (.int i))) (hb : EV X W en b (.ok (.int j))) (hc : CPow i j) : EV X W en (.BinOp a .Pow b pos) (.ok (.int (i ^ j.toNat))) := ev_op op_pow ha hb (rv_I hc fun _ _ => .int _)
theorem ev_neg (ha : EV X W en a (.ok (.int i))) : EV X W en (.UnaryOp .USub a pos) (.ok (.int (-i))) := by
  obtain ⟨te, h1, h2⟩ := ha
  exact ⟨_, pe_un un_neg h1, ex_un h2 fun B H x e r Q k => by cases r; exact ⟨i, rfl, k _ B H (Gr.refl e) (.int _)⟩⟩
theorem ev_cmp {op : CmpOp} {r : R2} (ho : OpR X (compareOp op) r) (ha : EV X W en a (.ok d1)) (hb : EV X W en b (.ok d2)) (hr : RV X.K r d1 d2 d) (hm : behindInMarks op b = false) : EV X W en (.Compare a [op] [b] pos) (.ok d) := by
  obtain ⟨te, h1, h2⟩ := ha
  obtain ⟨tr, h3, h4⟩ := hb
  exact ⟨_, pe_cmpR ho h1 h3 hm, ex_op h2 h4 hr⟩
theorem ev_lt (ha : EV X W en a (.ok (.int i))) (hb : EV X W en b (.ok (.int j))) : EV X W en (.Compare a [.Lt] [b] pos) (.ok (.bl (decide (i < j)))) := ev_cmp op_lt ha hb (rv_I0 fun _ _ => .bl _) (nomark _)
theorem ev_le (ha : EV X W en a (.ok (.int i))) (hb : EV X W en b (.ok (.int j))) : EV X W en (.Compare a [.LtE] [b] pos) (.ok (.bl (decide (i ≤ j)))) := ev_cmp op_le ha hb (rv_I0 fun _ _ => .bl _) (nomark _)
theorem ev_gt (ha : EV X W en a (.ok (.int i))) (hb : EV X W en b (.ok (.int j))) : EV X W en (.Compare a [.Gt] [b] pos) (.ok (.bl (decide (j < i)))) := ev_cmp op_gt ha hb (rv_I0 fun _ _ => .bl _) (nomark _)
theorem ev_ge (ha : EV X W en a (.ok (.int i))) (hb : EV X W en b (.ok (.int j))) : EV X W en (.Compare a [.GtE] [b] pos) (.ok (.bl (decide (j ≤ i)))) := ev_cmp op_ge ha hb (rv_I0 fun _ _ => .bl _) (nomark _)
theorem ev_eq (Bx : Bd X W k) (ha : EV X W en a (.ok d1)) (hb : EV X W en b (.ok d2)) (h1 : Cmp d1) (h2 : Cmp d2) : EV X W en (.Compare a [.Eq] [b] pos) (.ok (.bl (deq d1 d2))) := ev_cmp (op_eqD Bx.rm.units) ha hb (rv_eq h1 h2) (nomark _)
theorem ev_ne (Bx : Bd X W k) (ha : EV X W en a (.ok d1)) (hb : EV X W en b (.ok d2)) (h1 : Cmp d1) (h2 : Cmp d2) : EV X W en (.Compare a [.NotEq] [b] pos) (.ok (.bl (!deq d1 d2))) := ev_cmp (op_neD Bx.rm.units) ha hb (rv_ne h1 h2) (nomark _)
theorem ev_isN (ha : EV X W en a (.ok d1)) (hb : EV X W en b (.ok .non)) : EV X W en (.Compare a [.Is] [b] pos) (.ok (.bl (isNon d1))) := ev_cmp op_isN ha hb rv_isN (nomark _)
theorem ev_notN (ha : EV X W en a (.ok d1)) (hb : EV X W en b (.ok .non)) : EV X W en (.Compare a [.IsNot] [b] pos) (.ok (.bl (!isNon d1))) := ev_cmp op_notN ha hb rv_notN (nomark _)
/-- a truth by its value -/
theorem EV.is (h : EV X W en e (.ok (.bl u))) (q : u = v) : EV X W en e (.ok (.bl v)) := q ▸ h
theorem EV.to (h : EV X W en e (.ok d1)) (q : d1 = d2) : EV X W en e (.ok d2) := q ▸ h
theorem ev_one {op} (h : EV X W en a o) : EV X W en (.BoolOp op [a] pos) o := by
  obtain ⟨t, h1, h2⟩ := h
  exact ⟨t, pe_one h1, h2⟩
theorem ev_andT (ha : EV X W en a (.ok (.bl true))) (hb : EV X W en (.BoolOp .And (b :: rest) pos) (.ok d)) : EV X W en (.BoolOp .And (a :: b :: rest) pos) (.ok d) := by
  obtain ⟨te, h1, h2⟩ := ha
  obtain ⟨tr, h3, h4⟩ := hb
  exact ⟨_, pe_and h1 h3, ex_andT h2 h4⟩
theorem ev_andF (ha : EV X W en a (.ok (.bl false))) : EV X W en (.BoolOp .And (a :: b :: rest) pos) (.ok (.bl false)) := by
  obtain ⟨te, h1, h2⟩ := ha
  exact ⟨_, pe_and h1 pe_none, ex_andF h2⟩
theorem ev_and (ha : EV X W en a (.ok (.bl u))) (hb : u = true → EV X W en (.BoolOp .And (b :: rest) pos) (.ok (.bl v))) : EV X W en (.BoolOp .And (a :: b :: rest) pos) (.ok (.bl (u && v))) := by
  cases u with
  | true => exact ev_andT ha (hb rfl)
  | false => exact ev_andF ha
theorem ev_orF (ha : EV X W en a (.ok (.bl false))) (hb : EV X W en (.BoolOp .Or (b :: rest) pos) (.ok d)) : EV X W en (.BoolOp .Or (a :: b :: rest) pos) (.ok d) := by
  obtain ⟨te, h1, h2⟩ := ha
  obtain ⟨tr, h3, h4⟩ := hb
  exact ⟨_, pe_or h1 h3, ex_orF h2 h4⟩
theorem ev_orT (ha : EV X W en a (.ok (.bl true))) : EV X W en (.BoolOp .Or (a :: b :: rest) pos) (.ok (.bl true)) := by
  obtain ⟨te, h1, h2⟩ := ha
  exact ⟨_, pe_or h1 pe_none, ex_orT h2⟩
theorem ev_or (ha : EV X W en a (.ok (.bl u))) (hb : u = false → EV X W en (.BoolOp .Or (b :: rest) pos) (.ok (.bl v))) : EV X W en (.BoolOp .Or (a :: b :: rest) pos) (.ok (.bl (u || v))) := by
  cases u with
  | true => exact ev_orT ha
  | false => exact ev_orF ha (hb rfl)
theorem ev_not (ha : EV X W en a (.ok (.bl u))) : EV X W en (.UnaryOp .Not a pos) (.ok (.bl (!u))) := by
  obtain ⟨te, h1, h2⟩ := ha
  exact ⟨_, pe_not h1, ex_not h2⟩
theorem ev_tup {q} (h : EVA X W en es ds) (hl : ds.length ≤ 100000) : EV X W en (.Tuple es q pos) (.ok (.tup ds)) := by
  obtain ⟨t, h1, h2⟩ := h
  exact ⟨_, pe_tup h1, ex_tup h2 hl⟩
theorem evl_lst (h : EVA X W en es ds) (hl : ds.length ≤ 100000) : EVL X W en (.List es pos) ds := by
  obtain ⟨t, h1, h2⟩ := h
  exact ⟨_, pe_lst h1, el_lst h2 hl⟩
theorem EVL.ev (h : EVL X W en e ds) : EV X W en e (.ok (.lst ds)) := by
  obtain ⟨t, h1, h2⟩ := h
  exact ⟨t, h1, h2.ex⟩
theorem ev_lst (h : EVA X W en es ds) (hl : ds.length ≤ 100000) : EV X W en (.List es pos) (.ok (.lst ds)) := (evl_lst h hl).ev
theorem ev_ixT (ha : EV X W en a (.ok (.tup ds))) (hb : EV X W en b (.ok (.int i))) (hp : PlainIx b) (h : atI ds i = some d) : EV X W en (.Subscript a b pos) (.ok d) := by
  obtain ⟨te, h1, h2⟩ := ha
  obtain ⟨tr, h3, h4⟩ := hb
  exact ⟨_, pe_ix ix_tup h1 h3 hp, ex_op h2 h4 (rv_ixT h)⟩
theorem ev_ixL (ha : EV X W en a (.ok (.lst ds))) (hb : EV X W en b (.ok (.int i))) (hp : PlainIx b) (h : atI ds i = some d) : EV X W en (.Subscript a b pos) (.ok d) := by
  obtain ⟨te, h1, h2⟩ := ha
  obtain ⟨tr, h3, h4⟩ := hb
  exact ⟨_, pe_ix ix_list h1 h3 hp, ex_op h2 h4 (rv_ixL h)⟩
theorem ev_ixO {n : Nat} (hN : X.N.idxOf? x = some n) (hv : Vis X.env.scope x) (ho : en[n]? = some (.own ds)) (hN2 : X.N[n]? = some x) (hd : (x == ("__debug__" : Str)) = false) (hc : (x == ("__classdict__" : Str)) = false) (hb : EV X W en b (.ok (.int i))) (hp : PlainIx b) (h : atI ds i = some d) : EV X W en (.Subscript (.Name x p) b pos) (.ok d) := by
  obtain ⟨tr, h3, h4⟩ := hb
  exact ⟨_, pe_ix ix_list (pe_var hN2 hv hd hc) h3 hp, ex_ixO ho h4 h⟩
/-! slices of data lists -/
def cutD (xs : List Da) (lo hi : Option Int) : List Da := (xs.drop (HT.sIx xs.length 0 lo)).take (HT.sIx xs.length xs.length hi - HT.sIx xs.length 0 lo)
def EO (K : PySem.W.Frag) (to : TO) (en : List Sl) (q : Option Int) : Prop := ∀ B0 H0 B H σ, Sd K B0 H0 B H σ en → ∀ Q : Option Int → Hp → Prop, (∀ B' H', Gr B H B' H' → Q q H') → to σ H Q
structure EVO (X : Cx) (W : WX) (en : List Sl) (e : Option Expr) (q : Option Int) : Prop where
  ex : ∃ t, PO X e t ∧ EO X.K t en q
theorem evo_none : EVO X W en none none := ⟨_, po_none, fun _ _ B H σ S Q k => k B H (Gr.refl S.eb)⟩
theorem evo_some (h : EV X W en e (.ok (.int i))) : EVO X W en (some e) (some i) := by
  obtain ⟨t, h1, h2⟩ := h
  exact ⟨_, po_some h1, fun _ _ B H σ S Q k => h2 _ _ B H σ S _ fun v B' H' g r => by cases r; exact ⟨i, rfl, k B' H' g⟩⟩
theorem evl_sl {lo hi : Option Expr} {q1 q2 : Option Int} (ha : EV X W en a (.ok (.lst ds))) (h1 : EVO X W en lo q1) (h2 : EVO X W en hi q2) : EVL X W en (.Subscript a (.Slice lo hi none p2) pos) (cutD ds q1 q2) := by
  obtain ⟨te, a1, a2⟩ := ha
  obtain ⟨tl, b1, b2⟩ := h1
  obtain ⟨th, c1, c2⟩ := h2
  refine ⟨_, pe_slice sl_list a1 b1 c1, fun B0 H0 B H σ S Q k => a2 _ _ B H σ S _ fun v B1 H1 g1 r1 => ?_⟩
  refine b2 _ _ B1 H1 σ (S.grow g1) _ fun B2 H2 g2 => c2 _ _ B2 H2 σ (S.grow (g1.trans g2)) _ fun B3 H3 g3 => ?_
  cases r1 with
  | @lst a vs _ h t =>
    have g := g1.trans (g2.trans g3)
    refine ⟨a, vs, rfl, ex_l g3.s (ex_l (g2.b.trans g3.b) h), fun p hp => k p _ B3 _ (g.trans (Gr.newO g3.s hp)) (g.back hp) (fresh_back g3.s hp) upd_same ?_⟩
    have l := t.length
    unfold cutV cutD
    rw [l]
    exact ((t.drop _).take _).mono (g2.b.trans g3.b)
theorem ev_sl {lo hi : Option Expr} {q1 q2 : Option Int} (ha : EV X W en a (.ok (.lst ds))) (h1 : EVO X W en lo q1) (h2 : EVO X W en hi q2) : EV X W en (.Subscript a (.Slice lo hi none p2) pos) (.ok (.lst (cutD ds q1 q2))) := (evl_sl ha h1 h2).ev
/-! built-ins -/
theorem ev_cb {id : String} {r : List V → Hp → VK → Prop} (hc : CallR X (.builtin id) r) (ha : EVA X W en (e :: es) ds) (hr : RC X.K r ds d) (hg : Gl X x) (hm : X.mg x = none) (hv : bootBuiltins x = some (.builtin id)) (hn : x ≠ "__name__") (hd : (x == ("__debug__" : Str)) = false)
    (he : starEach (e :: es) X.env = (false, eval e X.env) :: starEach es X.env) (hpl : (backTo pos (starEach es X.env)).any (·.1) = false) : EV X W en (.Call (.Name x p) (e :: es) [] pos) (.ok d) := by
  obtain ⟨t, h1, h2⟩ := ha
  exact ⟨_, pe_callB hc hg hm hv h1 hn hd he hpl, ex_cb h2 hr⟩
theorem ev_ct {T : String} {r : List V → Hp → VK → Prop} (hc : CallR X (.type T) r) (ha : EVA X W en (e :: es) ds) (hr : RC X.K r ds d) (hg : Gl X x) (hm : X.mg x = none) (hv : bootBuiltins x = some (.type T)) (hn : x ≠ "__name__") (hd : (x == ("__debug__" : Str)) = false)
    (he : starEach (e :: es) X.env = (false, eval e X.env) :: starEach es X.env) (hpl : (backTo pos (starEach es X.env)).any (·.1) = false) : EV X W en (.Call (.Name x p) (e :: es) [] pos) (.ok d) := by
  obtain ⟨t, h1, h2⟩ := ha
  exact ⟨_, pe_callTy hc hg hm hv h1 hn hd he hpl, ex_cb h2 hr⟩
theorem ev_cf {id : String} {r : List V → Hp → VK → Prop} (hc : CallR X (.builtin id) r) (ha : EVA X W en (e :: es) ds) (hr : RC X.K r ds d) (hg : Gl X x) (hm : X.mg x = some (.builtin id)) (hd : (x == ("__debug__" : Str)) = false)
    (he : starEach (e :: es) X.env = (false, eval e X.env) :: starEach es X.env) (hpl : (backTo pos (starEach es X.env)).any (·.1) = false) : EV X W en (.Call (.Name x p) (e :: es) [] pos) (.ok d) := by
  obtain ⟨t, h1, h2⟩ := ha
  exact ⟨_, pe_callBfun hc hg hm h1 hd he hpl, ex_cb h2 hr⟩
theorem rc_gcd {K : PySem.W.Frag} : RC K rGcd [.int i, .int j] (.int ((Nat.gcd i.natAbs j.natAbs : Nat) : Int)) := fun B H vs e hA Q k => by
  cases hA with
  | cons h1 t =>
    cases t with
    | cons h2 t =>
      cases t; cases h1; cases h2
      exact ⟨i, j, rfl, k _ B H (Gr.refl e) (.int _)⟩
theorem rc_abs {K : PySem.W.Frag} : RC K (fun xs H Q => ∃ i, xs = [.int i] ∧ Q (.int (if i < 0 then -i else i)) H) [.int i] (.int ((i.natAbs : Nat) : Int)) := fun B H vs e hA Q k => by
  cases hA with
  | cons h1 t =>
    cases t; cases h1
    have q : (if i < 0 then -i else i) = ((i.natAbs : Nat) : Int) := by split <;> omega
    exact ⟨i, rfl, by rw [q]; exact k _ B H (Gr.refl e) (.int _)⟩
theorem rc_intB {K : PySem.W.Frag} : RC K (fun xs H Q => (∃ i, xs = [.int i] ∧ Q (.int i) H) ∨ ∃ k, xs = [.bl k] ∧ Q (.int (if k then 1 else 0)) H) [.bl u] (.int (if u then 1 else 0)) := fun B H vs e hA Q k => by
  cases hA with
  | cons h1 t => cases t; cases h1; exact .inr ⟨u, rfl, k _ B H (Gr.refl e) (.int _)⟩
theorem rc_intI {K : PySem.W.Frag} : RC K (fun xs H Q => (∃ i, xs = [.int i] ∧ Q (.int i) H) ∨ ∃ k, xs = [.bl k] ∧ Q (.int (if k then 1 else 0)) H) [.int i] (.int i) := fun B H vs e hA Q k => by
  cases hA with
  | cons h1 t => cases t; cases h1; exact .inl ⟨i, rfl, k _ B H (Gr.refl e) (.int _)⟩
def lenD : Da → Option Nat
  | .lst xs => some xs.length | .tup xs => some xs.length | .str x => if x.length ≤ 100000 then some x.length else none | _ => none
theorem rc_len {K : PySem.W.Frag} {n : Nat} (h : lenD d = some n) : RC K (fun xs H Q => ∃ x n, xs = [x] ∧ LenV K x H n ∧ Q (.int n) H) [d] (.int (n : Int)) := fun B H vs e hA Q k => by
  cases hA with
  | cons h1 t =>
    cases t
    cases h1 with
    | lst hq t =>
      cases h
      exact ⟨_, _, rfl, .inl ⟨_, ex_l e hq, t.length.symm⟩, k _ B H (Gr.refl e) (.int _)⟩
    | tup hq t =>
      cases h
      exact ⟨_, _, rfl, .inr ⟨_, ex_t e hq, t.length.symm⟩, k _ B H (Gr.refl e) (.int _)⟩
    | str x =>
      have h : (if x.length ≤ 100000 then some x.length else none) = some n := h
      by_cases q : x.length ≤ 100000
      · rw [if_pos q] at h
        cases h
        exact ⟨_, _, rfl, ⟨sz_of q, rfl⟩, k _ B H (Gr.refl e) (.int _)⟩
      · rw [if_neg q] at h
        cases h
    | _ => cases h
/-! ### statements -/
theorem svs_nil : SVs X W en [] (.nx en) := ⟨_, pss_nil, st_next⟩
theorem svs_one (h : SV X W en st ou) : SVs X W en [st] ou := by
  obtain ⟨t, h1, h2⟩ := h
  exact ⟨t, pss_one h1, h2⟩
theorem svs_cons (h : SV X W en st (.nx e1)) (r : SVs X W e1 ss ou) : SVs X W en (st :: ss) ou := by
  obtain ⟨t, h1, h2⟩ := h
  obtain ⟨t', h3, h4⟩ := r
  exact ⟨_, pss_cons h1 h3, st_seq h2 h4⟩
theorem svs_stop (h : SV X W en st ou) (ho : ∀ e, ou ≠ .nx e) : SVs X W en (st :: ss) ou := by
  obtain ⟨t, h1, h2⟩ := h
  exact ⟨_, pss_cons h1 pss_never, st_stop h2 ho⟩
theorem svs_weak (h : SVs X W en ss (.nx e1)) (w : Wk e1 e2) : SVs X W en ss (.nx e2) := by
  obtain ⟨t, h1, h2⟩ := h
  exact ⟨t, h1, st_weak h2 w⟩
theorem svs_freeze {n : Nat} (he : en[n]? = some (.own ds)) (h : SVs X W (en.set n (.da (.lst ds))) ss ou) : SVs X W en ss ou := by
  obtain ⟨t, h1, h2⟩ := h
  exact ⟨t, h1, st_freeze he h2⟩
theorem sv_freeze {n : Nat} (he : en[n]? = some (.own ds)) (h : SV X W (en.set n (.da (.lst ds))) st ou) : SV X W en st ou := by
  obtain ⟨t, h1, h2⟩ := h
  exact ⟨t, h1, st_freeze he h2⟩
theorem SVs.env (h : SVs X W e1 ss ou) (q : e2 = e1) : SVs X W e2 ss ou := q ▸ h
theorem sv_set {n : Nat} (Bx : Bd X W k) (he : EV X W en e (.ok d)) (hN : X.N.idxOf? x = some n) (hN2 : X.N[n]? = some x) (hx : Loc X.env.scope x) (hf : X.fn x = true ∨ X.env.scope.names.lookup x = some .local) (hs : swapsWith e (some (.Name x pos')) pos.line X.env = pure false) (hq : en.set n (.da d) = e1) :
    SV X W en (.Assign [.Name x pos'] e pos) (.nx e1) := by
  subst hq
  obtain ⟨t, h1, h2⟩ := he
  exact ⟨_, ps_set Bx.nd hN2 hx h1 hs hf, st_asg h2⟩
theorem sv_setL {n : Nat} (Bx : Bd X W k) (he : EVL X W en e ds) (hN : X.N.idxOf? x = some n) (hN2 : X.N[n]? = some x) (hx : Loc X.env.scope x) (hf : X.fn x = true ∨ X.env.scope.names.lookup x = some .local) (hs : swapsWith e (some (.Name x pos')) pos.line X.env = pure false) (hq : en.set n (.own ds) = e1) :
    SV X W en (.Assign [.Name x pos'] e pos) (.nx e1) := by
  subst hq
  obtain ⟨t, h1, h2⟩ := he
  exact ⟨_, ps_set Bx.nd hN2 hx h1 hs hf, st_asgL h2⟩
theorem sv_setX {n : Nat} (Bx : Bd X W k) (he : EV X W en e (.err C f)) (hN : X.N.idxOf? x = some n) (hN2 : X.N[n]? = some x) (hx : Loc X.env.scope x) (hf : X.fn x = true ∨ X.env.scope.names.lookup x = some .local) (hs : swapsWith e (some (.Name x pos')) pos.line X.env = pure false) :
    SV X W en (.Assign [.Name x pos'] e pos) (.rx en C f) := by
  obtain ⟨t, h1, h2⟩ := he
  exact ⟨_, ps_set Bx.nd hN2 hx h1 hs hf, st_asgX h2⟩
theorem sv_ret (he : EV X W en e (.ok d)) : SV X W en (.Return (some e) pos) (.rt d) := by
  obtain ⟨t, h1, h2⟩ := he
  exact ⟨_, ps_ret h1, st_ret h2⟩
theorem sv_retX (he : EV X W en e (.err C f)) : SV X W en (.Return (some e) pos) (.rx en C f) := by
  obtain ⟨t, h1, h2⟩ := he
  exact ⟨_, ps_ret h1, st_retX h2⟩
theorem sv_expr (he : EV X W en e (.ok d)) (hs : swapsWith e none pos.line X.env = pure false) : SV X W en (.Expr e pos) (.nx en) := by
  obtain ⟨t, h1, h2⟩ := he
  exact ⟨_, ps_expr h1 hs, st_drop h2⟩
theorem sv_exprX (he : EV X W en e (.err C f)) (hs : swapsWith e none pos.line X.env = pure false) : SV X W en (.Expr e pos) (.rx en C f) := by
  obtain ⟨t, h1, h2⟩ := he
  exact ⟨_, ps_expr h1 hs, st_dropX h2⟩
/-! tests -/
theorem evt_val (h : EV X W en c (.ok (.bl u))) (he : ∀ whole, isTrue c X.env whole = (do let v ← whole; standAt c.pos; holding [v] (truthy v))) : EVT X W en c u := by
  obtain ⟨t, h1, h2⟩ := h
  exact ⟨_, pt_val h1 he, et_val h2⟩
theorem evt_cmp {op : CmpOp} {r : R2} (ho : OpR X (compareOp op) r) (ha : EV X W en a (.ok d1)) (hb : EV X W en b (.ok d2)) (hr : RV X.K r d1 d2 (.bl u)) (hm : behindInMarks op b = false) : EVT X W en (.Compare a [op] [b] pos) u := by
  obtain ⟨te, h1, h2⟩ := ha
  obtain ⟨tr, h3, h4⟩ := hb
  exact ⟨_, pt_cmpR ho h1 h3 hm, et_val (W := W) (ex_op h2 h4 hr)⟩
theorem evt_lt (ha : EV X W en a (.ok (.int i))) (hb : EV X W en b (.ok (.int j))) : EVT X W en (.Compare a [.Lt] [b] pos) (decide (i < j)) := evt_cmp op_lt ha hb (rv_I0 fun _ _ => .bl _) (nomark _)
theorem evt_le (ha : EV X W en a (.ok (.int i))) (hb : EV X W en b (.ok (.int j))) : EVT X W en (.Compare a [.LtE] [b] pos) (decide (i ≤ j)) := evt_cmp op_le ha hb (rv_I0 fun _ _ => .bl _) (nomark _)
theorem evt_gt (ha : EV X W en a (.ok (.int i))) (hb : EV X W en b (.ok (.int j))) : EVT X W en (.Compare a [.Gt] [b] pos) (decide (j < i)) := evt_cmp op_gt ha hb (rv_I0 fun _ _ => .bl _) (nomark _)
theorem evt_ge (ha : EV X W en a (.ok (.int i))) (hb : EV X W en b (.ok (.int j))) : EVT X W en (.Compare a [.GtE] [b] pos) (decide (j ≤ i)) := evt_cmp op_ge ha hb (rv_I0 fun _ _ => .bl _) (nomark _)
theorem evt_eq (Bx : Bd X W k) (ha : EV X W en a (.ok d1)) (hb : EV X W en b (.ok d2)) (h1 : Cmp d1) (h2 : Cmp d2) : EVT X W en (.Compare a [.Eq] [b] pos) (deq d1 d2) := evt_cmp (op_eqD Bx.rm.units) ha hb (rv_eq h1 h2) (nomark _)
theorem evt_ne (Bx : Bd X W k) (ha : EV X W en a (.ok d1)) (hb : EV X W en b (.ok d2)) (h1 : Cmp d1) (h2 : Cmp d2) : EVT X W en (.Compare a [.NotEq] [b] pos) (!deq d1 d2) := evt_cmp (op_neD Bx.rm.units) ha hb (rv_ne h1 h2) (nomark _)
theorem evt_isN (ha : EV X W en a (.ok d1)) (hb : EV X W en b (.ok .non)) : EVT X W en (.Compare a [.Is] [b] pos) (isNon d1) := evt_cmp op_isN ha hb rv_isN (nomark _)
theorem evt_notN (ha : EV X W en a (.ok d1)) (hb : EV X W en b (.ok .non)) : EVT X W en (.Compare a [.IsNot] [b] pos) (!isNon d1) := evt_cmp op_notN ha hb rv_notN (nomark _)
theorem evt_not (h : EVT X W en c u) : EVT X W en (.UnaryOp .Not c pos) (!u) := by
  obtain ⟨t, h1, h2⟩ := h
  exact ⟨_, pt_not h1, et_not h2⟩
theorem evt_w {op} (h : EVW X W en (.BoolOp op es pos) u) : EVT X W en (.BoolOp op es pos) u := by
  obtain ⟨t, h1, h2⟩ := h
  exact ⟨_, h1.pt, h2⟩
theorem EVT.is (h : EVT X W en c u) (q : u = v) : EVT X W en c v := q ▸ h
theorem EVW.is (h : EVW X W en c u) (q : u = v) : EVW X W en c v := q ▸ h
theorem evw_and1 (h : EVT X W en c u) : EVW X W en (.BoolOp .And [c] pos) u := by
  obtain ⟨t, h1, h2⟩ := h
  exact ⟨_, pw_and1 h1, h2⟩
theorem evw_or1 (h : EVT X W en c u) : EVW X W en (.BoolOp .Or [c] pos) u := by
  obtain ⟨t, h1, h2⟩ := h
  exact ⟨_, pw_or1 h1, h2⟩
theorem evw_andT (ha : EVT X W en a true) (hb : EVW X W en (.BoolOp .And (b :: rest) pos) u) : EVW X W en (.BoolOp .And (a :: b :: rest) pos) u := by
  obtain ⟨t, h1, h2⟩ := ha
  obtain ⟨t', h3, h4⟩ := hb
  exact ⟨_, pw_and h1 h3, et_andT h2 h4⟩
theorem evw_andF (ha : EVT X W en a false) : EVW X W en (.BoolOp .And (a :: b :: rest) pos) false := by
  obtain ⟨t, h1, h2⟩ := ha
  exact ⟨_, pw_and h1 pw_none, et_andF h2⟩
theorem evw_orF (ha : EVT X W en a false) (hb : EVW X W en (.BoolOp .Or (b :: rest) pos) u) : EVW X W en (.BoolOp .Or (a :: b :: rest) pos) u := by
  obtain ⟨t, h1, h2⟩ := ha
  obtain ⟨t', h3, h4⟩ := hb
  exact ⟨_, pw_or h1 h3, et_orF h2 h4⟩
theorem evw_orT (ha : EVT X W en a true) : EVW X W en (.BoolOp .Or (a :: b :: rest) pos) true := by
  obtain ⟨t, h1, h2⟩ := ha
  exact ⟨_, pw_or h1 pw_none, et_orT h2⟩
/-- all of an or's parts walked, whatever they come to (all can be walked) -/
theorem evw_or (ha : EVT X W en a u) (hb : u = false → EVW X W en (.BoolOp .Or (b :: rest) pos) v) : EVW X W en (.BoolOp .Or (a :: b :: rest) pos) (u || v) := by
  cases u with
  | true => exact evw_orT ha
  | false => exact evw_orF ha (hb rfl)
theorem evw_and (ha : EVT X W en a u) (hb : u = true → EVW X W en (.BoolOp .And (b :: rest) pos) v) : EVW X W en (.BoolOp .And (a :: b :: rest) pos) (u && v) := by
  cases u with
  | true => exact evw_andT ha (hb rfl)
  | false => exact evw_andF ha
theorem sv_ifT (hc : EVT X W en c true) (h : SVs X W en s1 ou) : SV X W en (.If c s1 s2 pos) ou := by
  obtain ⟨t, h1, h2⟩ := hc
  obtain ⟨t', h3, h4⟩ := h
  exact ⟨_, ps_if h1 h3 (pss_never), st_ifT h2 h4⟩
theorem sv_ifF (hc : EVT X W en c false) (h : SVs X W en s2 ou) : SV X W en (.If c s1 s2 pos) ou := by
  obtain ⟨t, h1, h2⟩ := hc
  obtain ⟨t', h3, h4⟩ := h
  exact ⟨_, ps_if h1 (pss_never) h3, st_ifF h2 h4⟩
theorem sv_if (hc : EVT X W en c u) (hT : u = true → SVs X W en s1 ou) (hF : u = false → SVs X W en s2 ou) : SV X W en (.If c s1 s2 pos) ou := by
  cases u with
  | true => exact sv_ifT hc (hT rfl)
  | false => exact sv_ifF hc (hF rfl)
theorem sv_par {n m : Nat} {y : Str} {px py pt : Pos} {kt k2 pt2} (Bx : Bd X W k) (ha : EVA X W en [a, b] [d1, d2]) (hn : X.N.idxOf? x = some n) (hm : X.N.idxOf? y = some m) (hi : X.N[n]? = some x) (hj : X.N[m]? = some y) (hij : n ≠ m)
    (hx : X.env.scope.names.lookup x = some .local) (hy : X.env.scope.names.lookup y = some .local) (hw : swappedStores [.Tuple [.Name x px, .Name y py] kt pt] (.Tuple [a, b] k2 pt2) X.env = pure (some [x, y]))
    (hs : swapsWithSole [.Tuple [.Name x px, .Name y py] kt pt] (.Tuple [a, b] k2 pt2) pos.line X.env = pure false) (hq : (en.set n (.da d1)).set m (.da d2) = e1) :
    SV X W en (.Assign [.Tuple [.Name x px, .Name y py] kt pt] (.Tuple [a, b] k2 pt2) pos) (.nx e1) := by
  subst hq
  obtain ⟨t, h1, h2⟩ := ha
  exact ⟨_, ps_par Bx.calm Bx.nd hi hj hij hx hy h1 hw hs, st_par h2⟩
/-- the targets' names -/
def GN (X : Cx) (es : List Expr) (is : List Nat) : Prop := PGs X es (gNames is)
theorem gn_nil : GN X [] [] := pgs_nil
theorem gn_cons {n : Nat} {is : List Nat} (nd : X.N.Nodup) (hN : X.N.idxOf? x = some n) (hi : X.N[n]? = some x) (hx : Loc X.env.scope x) (hf : X.fn x = true ∨ X.env.scope.names.lookup x = some .local) (h : GN X es is)
    (hs : (assignEach (.Name x pos :: es) X.env).map (·.2) = assign (.Name x pos) X.env :: (assignEach es X.env).map (·.2)) : GN X (.Name x pos :: es) (n :: is) := pgs_cons (pg_name nd hi hx hf) h hs
theorem sv_unT {tp : Pos} {q : _} {is : List Nat} (Bx : Bd X W k) (he : EV X W en e (.ok (.tup ds))) (hg : GN X es is) (hl : ds.length = is.length) (hn : (assignEach es X.env).length = is.length) (hst : (assignEach es X.env).findIdx? (·.1) = none)
    (hs : swapsWithSole [.Tuple es q tp] e pos.line X.env = pure false) (hw : swappedStores [.Tuple es q tp] e X.env = pure none) (h1 : (assignEach [.Tuple es q tp] X.env).map (·.2) = [assign (.Tuple es q tp) X.env]) (hq : setAll en is ds = e1) :
    SV X W en (.Assign [.Tuple es q tp] e pos) (.nx e1) := by
  subst hq
  obtain ⟨t, a1, a2⟩ := he
  exact ⟨_, ps_asg a1 (pg_tup Bx.calm hg hn hst) hs hw h1, st_unT a2 hl hl⟩
theorem sv_unL {tp : Pos} {q : _} {is : List Nat} (Bx : Bd X W k) (he : EV X W en e (.ok (.lst ds))) (hg : GN X es is) (hl : ds.length = is.length) (hn : (assignEach es X.env).length = is.length) (hst : (assignEach es X.env).findIdx? (·.1) = none)
    (hs : swapsWithSole [.Tuple es q tp] e pos.line X.env = pure false) (hw : swappedStores [.Tuple es q tp] e X.env = pure none) (h1 : (assignEach [.Tuple es q tp] X.env).map (·.2) = [assign (.Tuple es q tp) X.env]) (hq : setAll en is ds = e1) :
    SV X W en (.Assign [.Tuple es q tp] e pos) (.nx e1) := by
  subst hq
  obtain ⟨t, a1, a2⟩ := he
  exact ⟨_, ps_asg a1 (pg_lst Bx.calm hg hn hst) hs hw h1, st_unL a2 hl hl⟩
/-- xs.append(e) -/
theorem sv_app {n : Nat} {apos : Pos} {l : Str} (hN : X.N.idxOf? l = some n) (hv : Vis X.env.scope l) (ho : en[n]? = some (.own ds)) (hN2 : X.N[n]? = some l) (hd : (l == ("__debug__" : Str)) = false) (hc : (l == ("__classdict__" : Str)) = false) (he : EV X W en e (.ok d)) (hz : ds.length < 100000)
    (q : ∀ {te : TE}, PE X e te → PE X (.Call (.Attribute (.Name l p) "append" apos) [e] [] pos) (tBM X.K "list" rAppend (tVar n) (tCons te tNil)))
    (hs : swapsWith (.Call (.Attribute (.Name l p) "append" apos) [e] [] pos) none pos'.line X.env = pure false) (hq : en.set n (.own (ds ++ [d])) = e1) : SV X W en (.Expr (.Call (.Attribute (.Name l p) "append" apos) [e] [] pos) pos') (.nx e1) := by
  subst hq
  obtain ⟨t, h1, h2⟩ := he
  exact ⟨_, ps_expr (q h1) hs, st_app ho h2 hz⟩
/-- a block's widest reading: one for all data -/
def tU (X : Cx) (ss : List Stmt) : TS := fun D σ H => ∃ t, PSs X ss t ∧ t D σ H
theorem pss_U : PSs X ss (tU X ss) := ⟨fun pins s σ H D I ⟨t, h, q⟩ => h.run pins s σ H D I q⟩
theorem SVs.U (h : SVs X W en ss ou) : ST X.K W (tU X ss) en ou := by
  obtain ⟨t, h1, h2⟩ := h
  exact fun B0 H0 B H σ S D k => ⟨t, h1, h2 B0 H0 B H σ S D k⟩
def tUE (X : Cx) (e : Expr) : TE := fun σ H Q => ∃ t, PE X e t ∧ t σ H Q
theorem pe_U : PE X e (tUE X e) := ⟨fun pins s σ H Q I ⟨t, h, q⟩ => h.run pins s σ H Q I q⟩
theorem EV.U (h : EV X W en e o) : EX X.K W (tUE X e) en o := by
  obtain ⟨t, h1, h2⟩ := h
  exact fun B0 H0 B H σ S D k => ⟨t, h1, h2 B0 H0 B H σ S D k⟩
theorem sv_forL {n : Nat} {it : Expr} (Bx : Bd X W k) (F : Nat → List Sl) (hN : X.N.idxOf? x = some n) (hN2 : X.N[n]? = some x) (hx : Loc X.env.scope x) (hf : X.fn x = true ∨ X.env.scope.names.lookup x = some .local) (hi : EV X W en it (.ok (.lst ds))) (h0 : F 0 = en) (hq : ∀ v, foldedSetIterable it X.env v = pure v)
    (ht : ∀ i d, ds[i]? = some d → SVs X W ((F i).set n (.da d)) ss (.nx (F (i + 1)))) : SV X W en (.For (.Name x p) it ss [] pos) (.nx (F ds.length)) := by
  obtain ⟨t, h1, h2⟩ := hi
  exact ⟨_, ps_for Bx.own Bx.calm (pi_list h1) (pg_name Bx.nd hN2 hx hf) pss_U hq, st_forL F h2 h0 fun i d hd => (ht i d hd).U⟩
theorem sv_forLX {n m : Nat} {it : Expr} (Bx : Bd X W k) (F : Nat → List Sl) (hN : X.N.idxOf? x = some n) (hN2 : X.N[n]? = some x) (hx : Loc X.env.scope x) (hf : X.fn x = true ∨ X.env.scope.names.lookup x = some .local) (hi : EV X W en it (.ok (.lst ds))) (h0 : F 0 = en) (hq : ∀ v, foldedSetIterable it X.env v = pure v)
    (ht : ∀ i d, i < m → ds[i]? = some d → SVs X W ((F i).set n (.da d)) ss (.nx (F (i + 1)))) (hm : ds[m]? = some d) (hl : SVs X W ((F m).set n (.da d)) ss ou) (ho : ∃ d', ou = .rt d' ∨ ∃ e C f, ou = .rx e C f) : SV X W en (.For (.Name x p) it ss [] pos) ou := by
  obtain ⟨t, h1, h2⟩ := hi
  exact ⟨_, ps_for Bx.own Bx.calm (pi_list h1) (pg_name Bx.nd hN2 hx hf) pss_U hq, st_forLX F h2 h0 (fun i d hi hd => (ht i d hi hd).U) hm hl.U ho⟩
theorem sv_forR {n m : Nat} {q1 q2 : Pos} (Bx : Bd X W k) (F : Nat → List Sl) (hN : X.N.idxOf? x = some n) (hN2 : X.N[n]? = some x) (hx : Loc X.env.scope x) (hf : X.fn x = true ∨ X.env.scope.names.lookup x = some .local) (hr : X.mg "range" = none) (hi : EVA X W en [a] [.int (m : Int)]) (hm : m ≤ 100000) (h0 : F 0 = en)
    (hg : Gl X "range") (hst : starEach [a] X.env = [(false, eval a X.env)])
    (ht : ∀ i : Nat, i < m → SVs X W ((F i).set n (.da (.int (i : Int)))) ss (.nx (F (i + 1)))) : SV X W en (.For (.Name x p) (.Call (.Name "range" q1) [a] [] q2) ss [] pos) (.nx (F m)) := by
  obtain ⟨t, h1, h2⟩ := hi
  exact ⟨_, ps_for Bx.own Bx.calm (pi_range1 hg hr h1 hst) (pg_name Bx.nd hN2 hx hf) pss_U, st_forR F h2 hm h0 fun i hi => (ht i hi).U⟩
def tUT (X : Cx) (e : Expr) : TT := fun σ H Q => ∃ t, PT X e t ∧ t σ H Q
theorem pt_U : PT X e (tUT X e) := ⟨fun pins s σ H Q I ⟨t, h, q⟩ => h.run pins s σ H Q I q⟩
theorem EVT.U (h : EVT X W en e u) : ET X.K (tUT X e) en u := by
  obtain ⟨t, h1, h2⟩ := h
  exact fun B0 H0 B H σ S D k => ⟨t, h1, h2 B0 H0 B H σ S D k⟩
theorem sv_while {m : Nat} (Bx : Bd X W k) (F : Nat → List Sl) (h0 : F 0 = en) (hc : ∀ i, i < m → EVT X W (F i) c true) (ht : ∀ i, i < m → SVs X W (F i) ss (.nx (F (i + 1)))) (he : EVT X W (F m) c false) : SV X W en (.While c ss [] pos) (.nx (F m)) :=
  ⟨_, ps_while Bx.own pt_U pss_U, st_while F h0 (fun i hi => (hc i hi).U) (fun i hi => (ht i hi).U) he.U⟩

/-! ### defs -/
def spD (K : PySem.W.Frag) (n : Nat) (fs : List Da → Option XO) : Sp := fun vs H Q E => vs.length = n ∧ ∃ B ds o, Ex B H ∧ DrA K B vs ds ∧ fs ds = some o ∧ Ko K E B H Q o
/-- how a body's end becomes the def's -/
inductive Leads : Out → XO → Prop
  | rt (d : Da) : Leads (.rt d) (.ok d)
  | rx (en : List Sl) (C : Addr) (f : Option (Str × Da)) : Leads (.rx en C f) (.err C f)
  | nx (en : List Sl) : Leads (.nx en) (.ok .non)
end
def slots (N : List Str) (ds : List Da) : List Sl := ds.map .da ++ List.replicate (N.length - ds.length) .no
section
variable {K : PySem.W.Frag} {B H H0 : Hp}
theorem paired_app {α β : Type} {F : α → β → Prop} : ∀ {l₁ l₃ : List α} {l₂ l₄ : List β}, Paired F l₁ l₂ → Paired F l₃ l₄ → Paired F (l₁ ++ l₃) (l₂ ++ l₄)
  | _, _, _, _, .nil, s => s
  | _, _, _, _, .cons r t, s => .cons r (paired_app t s)
theorem paired_rep : ∀ {n : Nat}, Paired (SlR K B H0 H) (List.replicate n none) (List.replicate n .no)
  | 0 => .nil
  | n + 1 => .cons (.no _) (paired_rep (n := n))
theorem slots_sl : ∀ {vs : List V} {ds : List Da}, DrA K B vs ds → Paired (SlR K B H0 H) (vs.map some) (ds.map .da)
  | _, _, .nil => .nil
  | _, _, .cons h t => .cons (.da h) (slots_sl t)
theorem slots_no {N : List Str} {ds es : List Da} {i : Nat} : (slots N ds)[i]? = some (.own es) → False := fun h => by
  unfold slots at h
  have m := List.mem_of_getElem? h
  rcases List.mem_append.mp m with m | m
  · obtain ⟨d, _, e⟩ := List.mem_map.mp m
    cases e
  · cases (List.eq_of_mem_replicate m)
end
section
variable {P : Program} {w : World} {K : PySem.W.Frag} {mg : Str → Option Value} {base : Heap} {x qual : Str} {st : Stmt} {f : Addr} {fd : FuncData} {N ps : List Str} {k : Nat}
abbrev XB (P : Program) (w : World) (K : PySem.W.Frag) (mg : Str → Option Value) (base : Heap) (N : List Str) (qual : Str) (st : Stmt) (f : Addr) (cdv : Value) (A : Around) (outer : List Env) (s : Shared) (H : Hp) (E : XK) : Cx :=
  cxOf (L2.CX P w) P w K mg base N qual (defScope st) f cdv A outer s H E
abbrev WD (E : XK) : WX := fun c d _ H => E c d H
theorem bd_of (S : FnScope N ps (defScope st)) {cdv : Value} {A : Around} {outer : List Env} {s : Shared} {H : Hp} {E : XK} (hr : Room k (A.deeper (envOfC qual (defScope st) s.heap.objs.size f cdv))) : Bd (XB P w K mg base N qual st f cdv A outer s H E) (WD E) k :=
  ⟨rfl, takes_of rfl rfl rfl rfl, PassesOwn.leaving, hr, S.nd⟩
/-- a def by its data -/
theorem fn_d (F : Fun K x qual st f fd) (S : FnScope N ps (defScope st)) (fs : List Da → Option XO)
    (hb : ∀ (cdv : Value) (A : Around) (outer : List Env) (s : Shared) (H : Hp) (E : XK) (ds : List Da) (o : XO), Bd (XB P w K mg base N qual st f cdv A outer s H E) (WD E) k → ds.length = ps.length → fs ds = some o →
      ∃ ou, Leads ou o ∧ SVs (XB P w K mg base N qual st f cdv A outer s H E) (WD E) (slots N ds) (defBody st) ou) : FnOk P w K mg base (L2.CX P w) (k + 1) f fd ps (spD K ps.length fs) := by
  refine F.okX S (fun vs H Q E h => h.1) fun cdv A outer s H vs Q E hr h => ?_
  obtain ⟨hl, B, ds, o, eB, hA, hf, ko⟩ := h
  obtain ⟨ou, ld, t, h1, h2⟩ := hb cdv A outer s H E ds o (bd_of S hr) (hA.length.symm.trans hl) hf
  have hN : ps.length ≤ N.length := by have := congrArg List.length S.pre; rw [List.length_take] at this; omega
  refine ⟨t, h1, h2 B H B H _ ⟨Gr.refl eB, ?_, fun i j p es1 es2 q1 => (slots_no q1).elim⟩ _ ?_⟩
  · unfold L2.start slots
    rw [hA.length]
    exact paired_app (slots_sl hA) paired_rep
  · cases ld with
    | rt d => exact fun v B' H' g r => ko v B' H' g r
    | rx en C f => exact fun B' H' σ' dd S' x' => ko dd B' H' S'.gr x'
    | nx en => exact fun B' H' σ' S' => ko .non B' H' S'.gr .non
end
section
variable {X : Cx} {W : WX} {k j n : Nat} {en : List Sl} {e : Expr} {es : List Expr} {pos p : Pos} {ds dds : List Da} {o : XO} {x : Str} {f : Addr} {fd : FuncData} {ps : List Str} {fs : List Da → Option XO} {dvs : List V} {dus : List Value}
theorem ex_callD {t : TA} (ha : EA X.K t en ds) (hd : ∀ B, DrA X.K B dvs dds) (hf : fs (ds ++ dds) = some o) (hl : (ds ++ dds).length = n) : EX X.K W (tCallSD (spD X.K n fs) dvs (WE W) t) en o := fun _ _ B H σ S Q ko =>
  ha _ _ B H σ S _ fun vs B1 H1 g r => ⟨by rw [← hl, List.length_append, List.length_append, r.length, (hd B1).length], B1, _, o, g.s, r.append (hd B1), hf, ko.grow g⟩
theorem ev_call (Bx : Bd X W k) (F : FnOk X.prog X.w X.K X.mg X.base (L2.CX X.prog X.w) j f fd ps (spD X.K n fs)) (hj : j ≤ k) (hg : Gl X x) (hm : X.mg x = some (.ref f)) (hk : PySem.W.keepIn X.K (.ref f) = true) (hb : Binds X.K fd ps dus) (hd : Vals dvs dus) (hdd : ∀ B, DrA X.K B dvs dds)
    (ha : EVA X W en (e :: es) ds) (hf : fs (ds ++ dds) = some o) (hl : (ds ++ dds).length = n) (hdb : (x == ("__debug__" : Str)) = false) (he : starEach (e :: es) X.env = (false, eval e X.env) :: starEach es X.env) (hpl : (backTo pos (starEach es X.env)).any (·.1) = false) :
    EV X W en (.Call (.Name x p) (e :: es) [] pos) o := by
  obtain ⟨t, h1, h2⟩ := ha
  exact ⟨_, pe_callSD F (Bx.rm.mono hj) hg hm hk hb hd (fun σ => passAt Bx.tk σ) h1 hdb he hpl, ex_callD h2 hdd hf hl⟩
end
end Sky
namespace Sky
open PySem L2 Evl PySem.Spec PyProof.Rows
/-! ### own errors without fields, callable defs, whiles by a word -/
abbrev veB : List Value := [.type "ValueError", .type "Exception", .type "BaseException", .type "object"]
structure ExF (K : PySem.W.Frag) (mg : Str → Option Value) (x : Str) (C : Addr) : Prop where
  g : mg x = some (.ref C)
  x : PySem.W.excIn K C veB "ValueError.__new__" = true
  k : PySem.W.keepIn K (.ref C) = true
  b : PySem.W.subIn K (.ref C) (.type "BaseException") = some true
  t : PySem.W.typeIn K (.ref C) = some (.type "type")
/-- a def that may be called: its name, how deep, its parameters, the defaults behind, what it comes to -/
structure Cal (P : Program) (w : World) (K : PySem.W.Frag) (mg : Str → Option Value) (base : Heap) (x : Str) (j : Nat) (ps : List Str) (dds : List Da) (fs : List Da → Option XO) : Prop where
  ex : ∃ f fd dus dvs, FnOk P w K mg base (L2.CX P w) j f fd ps (spD K ps.length fs) ∧ mg x = some (.ref f) ∧ PySem.W.keepIn K (.ref f) = true ∧ Binds K fd ps dus ∧ Vals dvs dus ∧ ∀ B, DrA K B dvs dds
section
variable {X : Cx} {W : WX} {k j : Nat} {en : List Sl} {e c : Expr} {es : List Expr} {pos p p2 pos2 : Pos} {ds dds : List Da} {o : XO} {x m : Str} {ps : List Str} {fs : List Da → Option XO} {C : Addr} {q : Nat} {ss : List Stmt} {ou : Out}
theorem sv_raise (Bx : Bd X W k) (T : ExF X.K X.mg x C) (hg : Gl X x) (hd : (x == ("__debug__" : Str)) = false) : SV X W en (.Raise (some (.Call (.Name x p) [.Constant (.str m) q p2] [] pos)) none pos2) (.rx en C none) :=
  ⟨_, ps_raise Bx.calm Bx.tk (pmk_own PySem.F.excBase_ValueError T.x T.g T.k (raises_own T.b T.t) hg hd), fun B0 H0 B H σ S D k => k B H σ none S rfl⟩
theorem ev_cal (cl : Cal X.prog X.w X.K X.mg X.base x j ps dds fs) (Bx : Bd X W k) (hj : j ≤ k) (ha : EVA X W en (e :: es) ds) (hf : fs (ds ++ dds) = some o) (hl : (ds ++ dds).length = ps.length) (hg : Gl X x)
    (hdb : (x == ("__debug__" : Str)) = false) (he : starEach (e :: es) X.env = (false, eval e X.env) :: starEach es X.env) (hpl : (backTo pos (starEach es X.env)).any (·.1) = false) : EV X W en (.Call (.Name x p) (e :: es) [] pos) o := by
  obtain ⟨f, fd, dus, dvs, F, hm, hk, hb, hd, hdd⟩ := cl.ex
  exact ev_call Bx F hj hg hm hk hb hd hdd ha hf hl hdb he hpl
def isiB (a b : String) : Bool := (kitB a b).getD false
theorem ev_isi {a t : Expr} {tn T : String} {d : Da} (hm : X.mg "isinstance" = none) (ha : EV X W en a (.ok d)) (ht : EV X W en t (.ok (.ty tn))) (hT : tyN d = some T) (hb : kitB T tn = some (isiB T tn)) (hg : Gl X "isinstance")
    (h1 : starEach [a, t] X.env = (false, eval a X.env) :: starEach [t] X.env) (h2 : starEach [t] X.env = (false, eval t X.env) :: starEach [] X.env) (hpl : (backTo pos (starEach [t] X.env)).any (·.1) = false) :
    EV X W en (.Call (.Name "isinstance" p) [a, t] [] pos) (.ok (.bl (isiB T tn))) :=
  ev_cb call_isi (eva_cons ha (eva_cons ht eva_nil h2) h1) (rc_isi hT hb) hg hm (by decide +kernel) (by decide) (by decide) h1 hpl
theorem sv_whileP {α : Type} (Bx : Bd X W k) (I : α → List Sl) (go : α → Bool) (μ : α → Nat) (P : α → Prop) (a0 : α) (h0 : P a0) (hI : I a0 = en)
    (step : ∀ a, P a → go a = true → EVT X W (I a) c true ∧ ∃ a', P a' ∧ μ a' < μ a ∧ SVs X W (I a) ss (.nx (I a'))) (stop : ∀ a, P a → go a = false → EVT X W (I a) c false) : ∃ a, P a ∧ go a = false ∧ SV X W en (.While c ss [] pos) (.nx (I a)) := by
  have key : ∀ n a, μ a ≤ n → P a → ∃ (m : Nat) (F : Nat → α), F 0 = a ∧ (∀ i, i < m → EVT X W (I (F i)) c true ∧ SVs X W (I (F i)) ss (.nx (I (F (i + 1))))) ∧ P (F m) ∧ go (F m) = false := by
    intro n
    induction n with
    | zero =>
      intro a ha hp
      cases hg : go a with
      | true =>
        obtain ⟨_, a', _, hl, _⟩ := step a hp hg
        omega
      | false => exact ⟨0, fun _ => a, rfl, fun i hi => by omega, hp, hg⟩
    | succ n ih =>
      intro a ha hp
      cases hg : go a with
      | true =>
        obtain ⟨h1, a', hp', hl, h2⟩ := step a hp hg
        obtain ⟨m, F, f0, fs, fp, fg⟩ := ih a' (by omega) hp'
        refine ⟨m + 1, fun i => match i with | 0 => a | i + 1 => F i, rfl, fun i hi => ?_, fp, fg⟩
        cases i with
        | zero => exact ⟨h1, by rw [← f0] at h2; exact h2⟩
        | succ i => exact fs i (by omega)
      | false => exact ⟨0, fun _ => a, rfl, fun i hi => by omega, hp, hg⟩
  obtain ⟨m, F, f0, fs, fp, fg⟩ := key _ a0 (Nat.le_refl _) h0
  refine ⟨F m, fp, fg, sv_while Bx (fun i => I (F i)) (by rw [f0]; exact hI) (fun i hi => (fs i hi).1) (fun i hi => (fs i hi).2) (stop _ fp fg)⟩
end
theorem cal_mk {P : Program} {w : World} {K : PySem.W.Frag} {mg : Str → Option Value} {base : Heap} {x : Str} {j : Nat} {ps : List Str} {fs : List Da → Option XO} {f : Addr} {fd : FuncData} {n : Nat} (G : FnOk P w K mg base (L2.CX P w) j f fd ps (spD K n fs)) (hn : ps.length = n) (hm : mg x = some (.ref f)) (hk : PySem.W.keepIn K (.ref f) = true) (hb : Binds K fd ps []) : Cal P w K mg base x j ps [] fs := by
  subst hn
  exact ⟨f, fd, [], [], G, hm, hk, hb, .nil, fun _ => .nil⟩
/-! ### the numbers -/
def gz (a b : Int) : Int := if b < 0 then -((Nat.gcd a.natAbs b.natAbs : Nat) : Int) else ((Nat.gcd a.natAbs b.natAbs : Nat) : Int)
def lw (a b : Int) : Da := .tup [.int (a.fdiv (gz a b)), .int (b.fdiv (gz a b))]
def isWholeD : Da → Option Bool
  | .int _ => some true | .non => some false | .bl _ => some false | .str _ => some false | .lst _ => some false | .tup _ => some false | _ => none
def fIsWhole : List Da → Option XO
  | [d] => (isWholeD d).map fun b => .ok (.bl b) | _ => none
def Small (b : Int) : Prop := b.natAbs < 2 ^ 250
instance (b : Int) : Decidable (Small b) := inferInstanceAs (Decidable (_ < _))
def fWorth (C : Addr) : List Da → Option XO
  | [a, b] => match isWholeD a, isWholeD b with
    | some false, some _ => some (.err C none)
    | some true, some false => some (.err C none)
    | some true, some true => match a, b with
      | .int a, .int b => if b = 0 then some (.err C none) else if Small b then some (.ok (lw a b)) else none
      | _, _ => none
    | _, _ => none
  | _ => none
def isWorthD : Da → Option Bool
  | .tup [a, b] => match isWholeD a with
    | some false => if (isWholeD b).isSome then some false else none
    | some true => match isWholeD b with
      | some false => some false
      | some true => match a, b with
        | .int a, .int b => some (decide (0 < b) && decide (Nat.gcd a.natAbs b.natAbs = 1))
        | _, _ => none
      | none => none
    | none => none
  | .tup _ => some false
  | .int _ => some false | .non => some false | .bl _ => some false | .str _ => some false | .lst _ => some false | _ => none
def fIsWorth : List Da → Option XO
  | [d] => (isWorthD d).map fun b => .ok (.bl b) | _ => none
def isW (a b : Int) : Bool := decide (0 < b) && decide (Nat.gcd a.natAbs b.natAbs = 1)
theorem isWorthD_int (a b : Int) : isWorthD (.tup [.int a, .int b]) = some (isW a b) := rfl
theorem gz_ne {a b : Int} (h : b ≠ 0) : gz a b ≠ 0 := by
  have g : 0 < Nat.gcd a.natAbs b.natAbs := Nat.gcd_pos_of_pos_right _ (by omega)
  unfold gz
  split <;> omega
theorem gz_le {a b : Int} (h : b ≠ 0) : (gz a b).natAbs ≤ b.natAbs := by
  have g : Nat.gcd a.natAbs b.natAbs ≤ b.natAbs := Nat.gcd_le_right _ (by omega)
  unfold gz
  split <;> omega
theorem small_log {b : Int} {z : Int} (h : Small b) (hz : z.natAbs ≤ b.natAbs) : z.natAbs.log2 < 9000 := by
  have h1 : z.natAbs < 2 ^ 250 := Nat.lt_of_le_of_lt hz h
  exact Nat.lt_of_lt_of_le (PySem.Flt.log2_lt_of (by decide) h1) (by decide)
theorem gz_div {a b : Int} (h : b ≠ 0) (hb : Small b) (u : Int) : CDivZ u (gz a b) := ⟨gz_ne h, small_log hb (gz_le h)⟩
end Sky
namespace Sky
open PySem L2 Evl PySem.Spec PyProof.Rows
theorem whole_some {d : Da} {b : Bool} (h : isWholeD d = some b) : fIsWhole ([d] ++ []) = some (.ok (.bl b)) := by
  show (isWholeD d).map _ = _
  rw [h]
  rfl
theorem whole_int {d : Da} (h : isWholeD d = some true) : ∃ i, d = .int i := by
  cases d with
  | int i => exact ⟨i, rfl⟩
  | _ => cases h
theorem worth_some {d : Da} {b : Bool} (h : isWorthD d = some b) : fIsWorth ([d] ++ []) = some (.ok (.bl b)) := by
  show (isWorthD d).map _ = _
  rw [h]
  rfl
theorem worth_int {a b : Int} {u : Bool} (h : isW a b = u) : fIsWorth ([.tup [.int a, .int b]] ++ []) = some (.ok (.bl u)) := by
  subst h
  rfl
theorem deq_int (a b : Int) : deq (.int a) (.int b) = (a == b) := rfl
theorem isWorthD_long {a b c : Da} {r : List Da} : isWorthD (.tup (a :: b :: c :: r)) = some false := rfl
/-- refused unless both are worths -/
def fRefuse (C : Addr) : List Da → Option XO
  | [a, b] => match isWorthD a with
    | some false => some (.err C none)
    | some true => match isWorthD b with
      | some false => some (.err C none)
      | some true => some (.ok .non)
      | none => none
    | none => none
  | _ => none
theorem refuse_ok {C : Addr} {a b c d : Int} (h1 : isW a b = true) (h2 : isW c d = true) : fRefuse C ([.tup [.int a, .int b], .tup [.int c, .int d]] ++ []) = some (.ok .non) := by
  show (match isWorthD (.tup [.int a, .int b]) with | some false => _ | some true => _ | none => _) = _
  rw [isWorthD_int, isWorthD_int, h1, h2]
def Bn (i : Int) : Prop := i.natAbs < 2 ^ 100
instance (i : Int) : Decidable (Bn i) := inferInstanceAs (Decidable (_ < _))
/-- two worths of sensible size -/
def Two (a b c d : Int) : Prop := isW a b = true ∧ isW c d = true ∧ Bn a ∧ Bn b ∧ Bn c ∧ Bn d
instance (a b c d : Int) : Decidable (Two a b c d) := inferInstanceAs (Decidable (_ ∧ _))
theorem isW_pos {a b : Int} (h : isW a b = true) : 0 < b := by
  unfold isW at h
  exact of_decide_eq_true (Bool.and_eq_true_iff.mp h).1
def fTwo (g : Int → Int → Int → Int → Option XO) : List Da → Option XO
  | [.tup [.int a, .int b], .tup [.int c, .int d]] => if Two a b c d then g a b c d else none
  | _ => none
theorem fTwo_inv {g : Int → Int → Int → Int → Option XO} {ds : List Da} {o : XO} (h : fTwo g ds = some o) : ∃ a b c d, ds = [.tup [.int a, .int b], .tup [.int c, .int d]] ∧ Two a b c d ∧ g a b c d = some o := by
  unfold fTwo at h
  split at h
  · split at h
    · exact ⟨_, _, _, _, rfl, ‹_›, h⟩
    · cases h
  · cases h
theorem fTwo_ok {g : Int → Int → Int → Int → Option XO} {a b c d : Int} {o : XO} (t : Two a b c d) (h : g a b c d = some o) : fTwo g ([.tup [.int a, .int b], .tup [.int c, .int d]] ++ []) = some o := by
  show (if Two a b c d then g a b c d else none) = some o
  rw [if_pos t]
  exact h
theorem bn_mul {i j : Int} (h1 : Bn i) (h2 : Bn j) : CMulW i j := wide_mul h1 h2 (by decide) (by decide) (by decide)
theorem bn_prod {i j : Int} (h1 : Bn i) (h2 : Bn j) : (i * j).natAbs < 2 ^ 200 := wide_lt h1 h2
theorem small_prod {i j : Int} (h1 : Bn i) (h2 : Bn j) : Small (i * j) := Nat.lt_of_lt_of_le (bn_prod h1 h2) (Nat.pow_le_pow_right (by decide) (by decide))
theorem fWorth_ok {C : Addr} {a b : Int} (h : b ≠ 0) (s : Small b) : fWorth C ([.int a, .int b] ++ []) = some (.ok (lw a b)) := by
  show (if b = 0 then some (XO.err C none) else if Small b then some (.ok (lw a b)) else none) = _
  rw [if_neg h, if_pos s]
theorem fWorth_no {C : Addr} {a b : Int} (h : b = 0) : fWorth C ([.int a, .int b] ++ []) = some (.err C none) := by
  show (if b = 0 then some (XO.err C none) else if Small b then some (.ok (lw a b)) else none) = _
  rw [if_pos h]
def gPlus (a b c d : Int) : Option XO := some (.ok (lw (a * d + c * b) (b * d)))
def gMinus (a b c d : Int) : Option XO := some (.ok (lw (a * d - c * b) (b * d)))
def gTimes (a b c d : Int) : Option XO := some (.ok (lw (a * c) (b * d)))
def gOver (C : Addr) (a b c d : Int) : Option XO := if b * c = 0 then some (.err C none) else some (.ok (lw (a * d) (b * c)))
def gLess (a b c d : Int) : Option XO := some (.ok (.bl (decide (a * d < c * b))))
theorem mul_ne {b d : Int} (h1 : 0 < b) (h2 : 0 < d) : b * d ≠ 0 := Int.ne_of_gt (Int.mul_pos h1 h2)
end Sky
namespace Sky
open PySem L2 Evl PySem.Spec PyProof.Rows
/-! ### the law's own: low, digits -/
def fLow : List Da → Option XO
  | [.int a, .int b] => if b ≠ 0 ∧ Small b then some (.ok (lw a b)) else none
  | _ => none
theorem fLow_inv {ds : List Da} {o : XO} (h : fLow ds = some o) : ∃ a b, ds = [.int a, .int b] ∧ b ≠ 0 ∧ Small b ∧ o = .ok (lw a b) := by
  unfold fLow at h
  split at h
  · split at h
    · exact ⟨_, _, rfl, (‹_ ∧ _› : _ ∧ _).1, (‹_ ∧ _› : _ ∧ _).2, (Option.some.inj h).symm⟩
    · cases h
  · cases h
theorem fLow_ok {a b : Int} (h : b ≠ 0) (s : Small b) : fLow ([.int a, .int b] ++ []) = some (.ok (lw a b)) := if_pos ⟨h, s⟩
def numD (c : Int) : Nat → Int
  | 0 => c % 2147483647
  | k + 1 => ((numD c k * 48271 + 30103 * (k : Int) + 11) % 2147483647) * (((numD c k * 48271 + 30103 * (k : Int) + 11) % 2147483647) / 1009 + 69621) % 2147483629
def restD (c : Int) : Nat → Int
  | 0 => if 10 ^ 18 ≤ c then c else 0
  | k + 1 => if 0 < restD c k then restD c k / 1009 else restD c k
def digD (c : Int) (k : Nat) : Int := if 0 < restD c k then restD c k % 1009 else numD c (k + 1) / 7 % 1009
def digs (c : Int) (n : Nat) : List Int := (List.range n).map (digD c)
theorem digs_len (c : Int) (n : Nat) : (digs c n).length = n := by simp [digs]
theorem digD_lo (c : Int) (k : Nat) : 0 ≤ digD c k := by
  unfold digD
  split <;> exact Int.emod_nonneg _ (by decide)
theorem digD_hi (c : Int) (k : Nat) : digD c k < 1009 := by
  unfold digD
  split <;> exact Int.emod_lt_of_pos _ (by decide)
theorem digs_succ (c : Int) (n : Nat) : digs c (n + 1) = digs c n ++ [digD c n] := by
  unfold digs
  rw [List.range_succ, List.map_append]
  rfl
theorem digs_get (c : Int) {n k : Nat} (h : k < n) : (digs c n)[k]? = some (digD c k) := by
  unfold digs
  rw [List.getElem?_map, List.getElem?_range h]
  rfl
theorem numD_bd (c : Int) : ∀ k, 0 ≤ numD c k ∧ numD c k < 2147483647
  | 0 => ⟨Int.emod_nonneg _ (by decide), Int.emod_lt_of_pos _ (by decide)⟩
  | k + 1 => ⟨Int.emod_nonneg _ (by decide), Int.lt_trans (Int.emod_lt_of_pos _ (by decide)) (by decide)⟩
theorem cm64 {i j : Int} (h1 : i.natAbs < 2 ^ 64) (h2 : j.natAbs < 2 ^ 64) : CMulW i j := wide_mul h1 h2 (by decide) (by decide) (by decide)
def fDigits : List Da → Option XO
  | [.int c, .int n] => if 0 ≤ n ∧ n ≤ 1000 then some (.ok (.lst ((digs c n.toNat).map .int))) else none
  | _ => none
theorem fDigits_inv {ds : List Da} {o : XO} (h : fDigits ds = some o) : ∃ (c : Int) (n : Nat), ds = [.int c, .int (n : Int)] ∧ n ≤ 1000 ∧ o = .ok (.lst ((digs c n).map .int)) := by
  unfold fDigits at h
  split at h
  · split at h
    · rename_i c n hn
      refine ⟨c, n.toNat, ?_, by omega, (Option.some.inj h).symm⟩
      rw [Int.toNat_of_nonneg hn.1]
    · cases h
  · cases h
theorem fDigits_ok {c : Int} {n : Nat} (h : n ≤ 1000) : fDigits ([.int c, .int (n : Int)] ++ []) = some (.ok (.lst ((digs c n).map .int))) := by
  show (if 0 ≤ (n : Int) ∧ (n : Int) ≤ 1000 then some (XO.ok (.lst ((digs c (n : Int).toNat).map .int))) else none) = _
  rw [if_pos ⟨by omega, by omega⟩, Int.toNat_natCast]
def TwoL (a b c d : Int) : Prop := b ≠ 0 ∧ d ≠ 0 ∧ Bn a ∧ Bn b ∧ Bn c ∧ Bn d
instance (a b c d : Int) : Decidable (TwoL a b c d) := inferInstanceAs (Decidable (_ ∧ _))
def fTwoL (g : Int → Int → Int → Int → Option XO) : List Da → Option XO
  | [.tup [.int a, .int b], .tup [.int c, .int d]] => if TwoL a b c d then g a b c d else none
  | _ => none
theorem fTwoL_inv {g : Int → Int → Int → Int → Option XO} {ds : List Da} {o : XO} (h : fTwoL g ds = some o) : ∃ a b c d, ds = [.tup [.int a, .int b], .tup [.int c, .int d]] ∧ TwoL a b c d ∧ g a b c d = some o := by
  unfold fTwoL at h
  split at h
  · split at h
    · exact ⟨_, _, _, _, rfl, ‹_›, h⟩
    · cases h
  · cases h
theorem fTwoL_ok {g : Int → Int → Int → Int → Option XO} {a b c d : Int} {o : XO} (t : TwoL a b c d) (h : g a b c d = some o) : fTwoL g ([.tup [.int a, .int b], .tup [.int c, .int d]] ++ []) = some o := by
  show (if TwoL a b c d then g a b c d else none) = some o
  rw [if_pos t]
  exact h
end Sky
namespace Sky
open PySem L2 Evl PySem.Spec PyProof.Rows
theorem svs_whileP {X : Cx} {W : WX} {k : Nat} {en : List Sl} {c : Expr} {pos : Pos} {ss rest : List Stmt} {ou : Out} {α : Type} (Bx : Bd X W k) (I : α → List Sl) (go : α → Bool) (μ : α → Nat) (P : α → Prop) (a0 : α) (h0 : P a0) (hI : I a0 = en)
    (step : ∀ a, P a → go a = true → EVT X W (I a) c true ∧ ∃ a', P a' ∧ μ a' < μ a ∧ SVs X W (I a) ss (.nx (I a'))) (stop : ∀ a, P a → go a = false → EVT X W (I a) c false)
    (k : ∀ a, P a → go a = false → SVs X W (I a) rest ou) : SVs X W en (.While c ss [] pos :: rest) ou := by
  obtain ⟨a, ha, hg, h⟩ := sv_whileP (pos := pos) Bx I go μ P a0 h0 hI step stop
  exact svs_cons h (k a ha hg)
end Sky
namespace Sky
open PySem L2 Evl PySem.Spec PyProof.Rows
/-! ### try: .. except X as n: .. -/
section
variable {X : Cx} {W : WX} {k i : Nat} {en e1 e2 : List Sl} {x n : Str} {c : Value} {body suite : List Stmt} {b₀ : Stmt} {np pos pos' : Pos} {o : Out} {C : Addr} {f : Option (Str × Da)}
/-- the wish of the body -/
abbrev WA (X : Cx) (c : Value) (i : Nat) (b₀ : Stmt) (suite : List Stmt) (D : Ends) : WX :=
  wAs X.K c i (fun a cls d => fun D σ H => ∀ (oe : Obj) (pn : List (Addr × Obj)), Zc cls d oe → (∃ vs, oe.data = .fields vs) → ∃ t, PSs (X.suite a ((a, oe) :: pn)) (b₀ :: suite) t ∧ t D σ H) (fun _ _ _ _ => False) D
theorem ps_tryU (hs : X.stack = X.env :: X.outer) (hf : X.env.frame = some X.env.locals) (hN : X.N.Nodup) (hi : X.N[i]? = some n) (hln : X.env.kindOf n = some .local) (hc : Names X x c) :
    PS X (.Try body [.ExceptHandler (some (.Name x np)) (some n) (b₀ :: suite) pos'] [] [] pos) (fun D σ H => ∀ (pn : List (Addr × Obj)) (xe : Value → Shared → Prop), Takes (X.tr pn xe) (WA X c i b₀ suite D) → PassesOwn (model X.prog X.w) X.A X.env xe → ∃ t, PSs (X.tr pn xe) body t ∧ t D σ H) :=
  ps_try_as (tb := fun W D σ H => ∀ (pn : List (Addr × Obj)) (xe : Value → Shared → Prop), Takes (X.tr pn xe) W → PassesOwn (model X.prog X.w) X.A X.env xe → ∃ t, PSs (X.tr pn xe) body t ∧ t D σ H)
    hs hf hN hi hln hc takes0
    (fun W pn xe tk ow => ⟨fun pins s σ H D I h => by
      obtain ⟨t, h1, h2⟩ := h pn xe tk ow
      exact h1.run pins s σ H D I h2⟩)
    (fun a oe cls d pn hz hf => ⟨fun pins s σ H D I h => by
      obtain ⟨t, h1, h2⟩ := h oe pn hz hf
      exact h1.run pins s σ H D I h2⟩)
theorem bd_tr (Bx : Bd X W k) {W' : WX} {pn : List (Addr × Obj)} {xe : Value → Shared → Prop} (tk : Takes (X.tr pn xe) W') (ow : PassesOwn (model X.prog X.w) X.A X.env xe) : Bd (X.tr pn xe) W' k := ⟨Bx.calm, tk, ow, Bx.rm, Bx.nd⟩
/-- nothing is raised -/
theorem sv_tryOk (Bx : Bd X W k) (hs : X.stack = X.env :: X.outer) (hf : X.env.frame = some X.env.locals) (hi : X.N[i]? = some n) (hln : X.env.kindOf n = some .local) (hc : Names X x c) (ho : (∃ d, o = .rt d) ∨ ∃ e, o = .nx e)
    (hb : ∀ (W' : WX) (pn : List (Addr × Obj)) (xe : Value → Shared → Prop), Bd (X.tr pn xe) W' k → SVs (X.tr pn xe) W' en body o) :
    SV X W en (.Try body [.ExceptHandler (some (.Name x np)) (some n) (b₀ :: suite) pos'] [] [] pos) o :=
  ⟨_, ps_tryU hs hf Bx.nd hi hln hc, fun B0 H0 B H σ S D q pn xe tk ow => by
    obtain ⟨t, h1, h2⟩ := hb _ pn xe (bd_tr Bx tk ow)
    refine ⟨t, h1, h2 B0 H0 B H σ S D ?_⟩
    rcases ho with ⟨d, rfl⟩ | ⟨e, rfl⟩
    · exact q
    · exact q⟩
/-- the body raises C, the clause's own class takes it; the suite returns -/
theorem sv_tryRet {d : Da} (Bx : Bd X W k) (hs : X.stack = X.env :: X.outer) (hf : X.env.frame = some X.env.locals) (hN : X.N.idxOf? n = some i) (hi : X.N[i]? = some n) (hln : X.env.kindOf n = some .local) (hc : Names X x c)
    (hb : ∀ (W' : WX) (pn : List (Addr × Obj)) (xe : Value → Shared → Prop), Bd (X.tr pn xe) W' k → SVs (X.tr pn xe) W' en body (.rx e1 C f)) (he : PySem.W.exmOne X.K (.ref C) c = some true)
    (hsu : ∀ (a : Addr) (oe : Obj) (dd : Option Addr) (pn : List (Addr × Obj)), (f = none → dd = none) → Zc (.ref C) dd oe → (∃ vs, oe.data = .fields vs) → SVs (X.suite a ((a, oe) :: pn)) (fun _ _ _ _ => False) (e1.set i (.rf (.ref a))) (b₀ :: suite) (.rt d)) :
    SV X W en (.Try body [.ExceptHandler (some (.Name x np)) (some n) (b₀ :: suite) pos'] [] [] pos) (.rt d) :=
  ⟨_, ps_tryU hs hf Bx.nd hi hln hc, fun B0 H0 B H σ S D q pn xe tk ow => by
    obtain ⟨t, h1, h2⟩ := hb _ pn xe (bd_tr Bx tk ow)
    refine ⟨t, h1, h2 B0 H0 B H σ S D fun B' H' σ' dd S' xf => ⟨true, he, fun _ a ha oe pn2 hz hv => ?_, fun z => by cases z⟩⟩
    have hd : f = none → dd = none := fun z => by subst z; exact xf
    obtain ⟨t', h3, h4⟩ := hsu a oe dd pn2 hd hz hv
    exact ⟨t', h3, h4 B0 H0 B' H' _ (S'.setRf (.ref a) i) _ q⟩⟩
theorem ex_rf {K : PySem.W.Frag} {v : V} (h : en[i]? = some (.rf v)) : ∀ B0 H0 B H σ, Sd K B0 H0 B H σ en → ∀ Q : VK, Q v H → tVar i σ H Q := fun _ _ B H σ S Q k => ⟨v, S.atRf h, k⟩
/-- isinstance(e, c), e the error that the suite holds -/
theorem ev_isE {a : Addr} {oe : Obj} {pn : List (Addr × Obj)} {D : Addr} {y : Str} {cx : Expr} {cv : V} {cu : Value} {b : Bool} {p1 p2 p3 : Pos} {W' : WX} (Ec : ExcC X.K D) (hz : Zc (.ref D) none oe) (hf : ∃ vs, oe.data = .fields vs) (hm : X.mg "isinstance" = none)
    (hN : X.N.idxOf? y = some i) (hv : Vis X.env.scope y) (h : en[i]? = some (.rf (.ref a))) (hN2 : X.N[i]? = some y) (hd : (y == ("__debug__" : Str)) = false) (hcd : (y == ("__classdict__" : Str)) = false)
    (hc : PE (X.suite a ((a, oe) :: pn)) cx (tC cv)) (hcu : ∀ u, RelV cv u → u = cu) (hk : PySem.W.kitOne X.K (.ref D) cu = some b) (hg : Gl (X.suite a ((a, oe) :: pn)) "isinstance")
    (h1 : starEach [.Name y p1, cx] X.env = (false, eval (.Name y p1) X.env) :: starEach [cx] X.env) (h2 : starEach [cx] X.env = (false, eval cx X.env) :: starEach [] X.env) (hpl : (backTo p3 (starEach [cx] X.env)).any (·.1) = false) :
    EV (X.suite a ((a, oe) :: pn)) W' en (.Call (.Name "isinstance" p2) [.Name y p1, cx] [] p3) (.ok (.bl b)) := by
  have hvar : PE (X.suite a ((a, oe) :: pn)) (.Name y p1) (tVar i) := pe_var hN2 hv hd hcd
  refine ⟨_, pe_callB (call_isE Ec hz hf) hg hm (by decide +kernel) (pa_cons hvar (pa_cons hc pa_nil h2) h1) (by decide) (by decide) h1 hpl, fun B0 H0 B H σ S Q ko => ?_⟩
  exact ex_rf h B0 H0 B H σ S _ ⟨cv, cu, b, rfl, hcu, hk, ko _ B H (Gr.refl S.eb) (.bl b)⟩
end
end Sky
namespace Sky
open PySem L2 Evl PySem.Spec PyProof.Rows
/-! ### calls with keywords -/
structure CalK (P : Program) (w : World) (K : PySem.W.Frag) (mg : Str → Option Value) (base : Heap) (x : Str) (j : Nat) (n : Nat) (ks : List Str) (gD : List Da → List Da → List Da) (fs : List Da → Option XO) : Prop where
  ex : ∃ (f : Addr) (fd : FuncData) (ps : List Str) (g : List Value → List Value → List Value) (gV : List V → List V → List V), FnOk P w K mg base (L2.CX P w) j f fd ps (spD K ps.length fs) ∧ mg x = some (.ref f) ∧ PySem.W.keepIn K (.ref f) = true ∧ KBn K fd ps n ks g gV ∧
    ∀ B vs zs ds es, DrA K B vs ds → DrA K B zs es → vs.length = n → zs.length = ks.length → (gV vs zs).length = ps.length ∧ DrA K B (gV vs zs) (gD ds es)
def tKS (n m : Nat) (sp : Sp) (gV : List V → List V → List V) (E : L2.St → XK) (t tk : TA) : TE := fun σ H Q => t σ H fun vs H1 => tk σ H1 fun zs H2 => vs.length = n ∧ zs.length = m ∧ sp (gV vs zs) H2 Q (E σ)
section
variable {X : Cx} {W : WX} {k j n : Nat} {f : Addr} {fd : FuncData} {ps ks : List Str} {sp : Sp} {E : L2.St → XK} {x : Str} {p pos : Pos} {e : Expr} {es : List Expr} {kws : List Keyword} {t tk : TA} {g : List Value → List Value → List Value} {gV : List V → List V → List V} {en : List Sl} {o : XO} {ds zs : List Da} {gD : List Da → List Da → List Da} {fs : List Da → Option XO} {d : Da}
theorem run_fnKS {CX : CXT} {pins : List (Addr × Obj)} {σ : L2.St} {H : Hp} {s : Shared} {Q : VK} {us ws : List Value} {vs zs : List V} (F : FnOk X.prog X.w X.K X.mg X.base CX k f fd ps sp) (hr : Room k X.A) (hb : KBn X.K fd ps n ks g gV) (hx : PassesAt CX X σ (E σ))
    (I : Inv X pins σ H s) (r : Vals vs us) (rz : Vals zs ws) (l1 : vs.length = n) (l2 : zs.length = ks.length) (h : sp (gV vs zs) H Q (E σ)) : wpAny (model X.prog X.w) X.A (call (.ref f) us (ks.zip ws)) (EP X pins σ Q) X.xe s := by
  have r2 := hb.rel r rz
  refine wpAny_call (codeAny_mono (F.run X.A X.stack s H ⟨us, ks.zip ws⟩ (g us ws) (gV vs zs) Q (E σ) hr I.env0 (hb.to s us ws I.kIn (r.length.symm.trans l1) (rz.length.symm.trans l2)) r2 h) fun r s' hq => ?_)
  cases r with
  | error e => exact hx pins H s e s' I hq
  | ok fl =>
    cases fl with
    | ret u => exact I.after hq
    | next => exact False.elim hq
    | brk => exact False.elim hq
    | cont => exact False.elim hq
theorem pe_KS {CX : CXT} (F : FnOk X.prog X.w X.K X.mg X.base CX k f fd ps sp) (hr : Room k X.A) (hg : Gl X x) (hm : X.mg x = some (.ref f)) (hk : PySem.W.keepIn X.K (.ref f) = true) (hb : KBn X.K fd ps n ks g gV) (hx : ∀ σ, PassesAt CX X σ (E σ))
    (ha : PA X (e :: es) t) (hkw : PK X kws tk) (hall : (backToKw pos (keywordEach kws X.env)).all (·.1.isSome) = true) (hks : (backToKw pos (keywordEach kws X.env)).filterMap (·.1) = ks)
    (hdb : (x == ("__debug__" : Str)) = false) (he : starEach (e :: es) X.env = (false, eval e X.env) :: starEach es X.env)
    (hpl : ((backTo pos (starEach (e :: es) X.env)).any (·.1) || (backToKw pos (keywordEach kws X.env)).any (·.1.isNone)) = false) :
    PE X (.Call (.Name x p) (e :: es) kws pos) (tKS n ks.length sp gV E t tk) := by
  refine ⟨fun pins s σ H Q I h => ?_⟩
  refine wpAny_Call_Name_kw (ld_glob I hg hm ?_ hdb)
  refine PySem.W.callWith_KW (h₀ := X.base) I.ok.mod.kin hk hall (thn (ha.run pos pins s σ H _ I h) fun us s1 ⟨vs, H1, I1, r, q⟩ => ?_) hpl he
  refine thn (hkw.run pos pins s1 σ H1 _ I1 q) fun ws s2 ⟨zs, H2, I2, rz, l1, l2, q2⟩ => ⟨I2.kIn, ?_⟩
  rw [hks]
  exact run_fnKS F hr hb (hx σ) I2 r rz l1 l2 q2
theorem pe_KS0 {CX : CXT} (F : FnOk X.prog X.w X.K X.mg X.base CX k f fd ps sp) (hr : Room k X.A) (hg : Gl X x) (hm : X.mg x = some (.ref f)) (hk : PySem.W.keepIn X.K (.ref f) = true) (hb : KBn X.K fd ps 0 ks g gV) (hx : ∀ σ, PassesAt CX X σ (E σ))
    (hkw : PK X kws tk) (hall : (backToKw pos (keywordEach kws X.env)).all (·.1.isSome) = true) (hks : (backToKw pos (keywordEach kws X.env)).filterMap (·.1) = ks)
    (hdb : (x == ("__debug__" : Str)) = false)
    (hpl : ((backTo pos (starEach [] X.env)).any (·.1) || (backToKw pos (keywordEach kws X.env)).any (·.1.isNone)) = false) :
    PE X (.Call (.Name x p) [] kws pos) (tKS 0 ks.length sp gV E tNil tk) := by
  refine ⟨fun pins s σ H Q I h => ?_⟩
  refine wpAny_Call_Name_kw (ld_glob I hg hm ?_ hdb)
  refine PySem.W.callWith_KW0 (h₀ := X.base) I.ok.mod.kin hk hall ?_ hpl
  refine thn (hkw.run pos pins s σ H _ I h) fun ws s2 ⟨zs, H2, I2, rz, l1, l2, q2⟩ => ⟨I2.kIn, ?_⟩
  rw [hks]
  exact run_fnKS (us := []) (vs := []) F hr hb (hx σ) I2 .nil rz l1 l2 q2
structure EVK (X : Cx) (W : WX) (en : List Sl) (kws : List Keyword) (ds : List Da) : Prop where
  ex : ∃ t, PK X kws t ∧ EA X.K t en ds
theorem evk_nil : EVK X W en [] [] := ⟨_, pk_nil, ea_nil⟩
theorem evk_cons {nm : Option Str} {kp : Pos} (h : EV X W en e (.ok d)) (t : EVK X W en kws zs) : EVK X W en (⟨nm, e, kp⟩ :: kws) (d :: zs) := by
  obtain ⟨te, h1, h2⟩ := h
  obtain ⟨tr, h3, h4⟩ := t
  exact ⟨_, pk_cons h1 h3, ea_cons h2 h4⟩
theorem ex_KS (ha : EA X.K t en ds) (hk : EA X.K tk en zs) (hgd : ∀ B vs ws, DrA X.K B vs ds → DrA X.K B ws zs → vs.length = n → ws.length = ks.length → (gV vs ws).length = ps.length ∧ DrA X.K B (gV vs ws) (gD ds zs)) (l1 : ds.length = n) (l2 : zs.length = ks.length) (hf : fs (gD ds zs) = some o) :
    EX X.K W (tKS n ks.length (spD X.K ps.length fs) gV (WE W) t tk) en o := fun _ _ B H σ S Q ko =>
  ha _ _ B H σ S _ fun vs B1 H1 g1 r1 => hk _ _ B1 H1 σ (S.grow g1) _ fun ws B2 H2 g2 r2 => by
    have q1 := (r1.mono g2.b).length.trans l1
    have q2 := r2.length.trans l2
    obtain ⟨h1, h2⟩ := hgd B2 vs ws (r1.mono g2.b) r2 q1 q2
    exact ⟨q1, q2, h1, B2, _, o, g2.s, h2, hf, ko.grow (g1.trans g2)⟩
theorem ev_calK (cl : CalK X.prog X.w X.K X.mg X.base x j n ks gD fs) (Bx : Bd X W k) (hj : j ≤ k) (ha : EVA X W en (e :: es) ds) (hk : EVK X W en kws zs) (hf : fs (gD ds zs) = some o) (l1 : ds.length = n) (l2 : zs.length = ks.length) (hg : Gl X x)
    (hall : (backToKw pos (keywordEach kws X.env)).all (·.1.isSome) = true) (hks : (backToKw pos (keywordEach kws X.env)).filterMap (·.1) = ks)
    (hdb : (x == ("__debug__" : Str)) = false) (he : starEach (e :: es) X.env = (false, eval e X.env) :: starEach es X.env)
    (hpl : ((backTo pos (starEach (e :: es) X.env)).any (·.1) || (backToKw pos (keywordEach kws X.env)).any (·.1.isNone)) = false) : EV X W en (.Call (.Name x p) (e :: es) kws pos) o := by
  obtain ⟨f, fd, ps, g, gV, F, hm, hkp, hb, hgd⟩ := cl.ex
  obtain ⟨t, h1, h2⟩ := ha
  obtain ⟨tk, h3, h4⟩ := hk
  exact ⟨_, pe_KS F (Bx.rm.mono hj) hg hm hkp hb (fun σ => passAt Bx.tk σ) h1 h3 hall hks hdb he hpl, ex_KS h2 h4 (fun B vs ws r1 r2 q1 q2 => hgd B vs ws ds zs r1 r2 q1 q2) l1 l2 hf⟩
theorem ev_calK0 (cl : CalK X.prog X.w X.K X.mg X.base x j 0 ks gD fs) (Bx : Bd X W k) (hj : j ≤ k) (hk : EVK X W en kws zs) (hf : fs (gD [] zs) = some o) (l2 : zs.length = ks.length) (hg : Gl X x)
    (hall : (backToKw pos (keywordEach kws X.env)).all (·.1.isSome) = true) (hks : (backToKw pos (keywordEach kws X.env)).filterMap (·.1) = ks)
    (hdb : (x == ("__debug__" : Str)) = false)
    (hpl : ((backTo pos (starEach [] X.env)).any (·.1) || (backToKw pos (keywordEach kws X.env)).any (·.1.isNone)) = false) : EV X W en (.Call (.Name x p) [] kws pos) o := by
  obtain ⟨f, fd, ps, g, gV, F, hm, hkp, hb, hgd⟩ := cl.ex
  obtain ⟨tk, h3, h4⟩ := hk
  exact ⟨_, pe_KS0 F (Bx.rm.mono hj) hg hm hkp hb (fun σ => passAt Bx.tk σ) h3 hall hks hdb hpl, ex_KS ea_nil h4 (fun B vs ws r1 r2 q1 q2 => hgd B vs ws [] zs r1 r2 q1 q2) rfl l2 hf⟩
end
/-! defaults -/
section
variable {P : Program} {w : World} {K : PySem.W.Frag} {mg : Str → Option Value} {base : Heap} {x qual : Str} {st : Stmt} {f : Addr} {fd : FuncData} {N ps : List Str} {k : Nat} {dvs : List V} {kws : List (Str × V)}
abbrev FunDS (K : PySem.W.Frag) (x qual : Str) (st : Stmt) (dvs : List V) (kws : List (Str × V)) (f : Addr) (fd : FuncData) : Prop := FunD K x qual (defArgs st) (defBody st) (defScope st) dvs kws f fd
/-- a def by its data, whatever its defaults are -/
theorem fn_dD (F : FunDS K x qual st dvs kws f fd) (S : FnScope N ps (defScope st)) (fs : List Da → Option XO)
    (hb : ∀ (cdv : Value) (A : Around) (outer : List Env) (s : Shared) (H : Hp) (E : XK) (ds : List Da) (o : XO), Bd (XB P w K mg base N qual st f cdv A outer s H E) (WD E) k → ds.length = ps.length → fs ds = some o →
      ∃ ou, Leads ou o ∧ SVs (XB P w K mg base N qual st f cdv A outer s H E) (WD E) (slots N ds) (defBody st) ou) : FnOk P w K mg base (L2.CX P w) (k + 1) f fd ps (spD K ps.length fs) := by
  refine F.ok (CX := L2.CX P w) S (fun vs H Q E h => h.1) fun cdv A outer s H vs Q E hr h => ?_
  obtain ⟨hl, B, ds, o, eB, hA, hf, ko⟩ := h
  obtain ⟨ou, ld, t, h1, h2⟩ := hb cdv A outer s H E ds o (bd_of S hr) (hA.length.symm.trans hl) hf
  have hN : ps.length ≤ N.length := by have := congrArg List.length S.pre; rw [List.length_take] at this; omega
  refine ⟨t, h1, h2 B H B H _ ⟨Gr.refl eB, ?_, fun i j p es1 es2 q1 => (slots_no q1).elim⟩ _ ?_⟩
  · unfold L2.start slots
    rw [hA.length]
    exact paired_app (slots_sl hA) paired_rep
  · cases ld with
    | rt d => exact fun v B' H' g r => ko v B' H' g r
    | rx en C f => exact fun B' H' σ' dd S' x' => ko dd B' H' S'.gr x'
    | nx en => exact fun B' H' σ' S' => ko .non B' H' S'.gr .non
/-- keywords over a def with positional defaults alone -/
theorem FunD.kb1 (F : FunDS K x qual st dvs kws f fd) (n : Nat) (ks : List Str) (g : {α : Type} → List α → List α → List α → List α) (hd : dvs ≠ [])
    (hrel : ∀ {vs ds zs : List V} {us its ws : List Value}, Vals vs us → Vals ds its → Vals zs ws → Vals (g vs ds zs) (g us its ws))
    (h : ∀ (T : Addr) (kV doc pm : Value) (an : Option Addr) (cdv ct : Value) (us its ws : List Value), us.length = n → its.length = dvs.length → ws.length = ks.length →
      ∃ k, bindArgs (PySem.W.fnOf x qual (defArgs st) (defBody st) (defScope st) (.ref T) kV doc pm an cdv ct) ⟨us, ks.zip ws⟩ = seqItems? (.ref T) >>= k ∧ k (some its.toArray) = pure (ps.zip (g us its ws))) :
    ∃ its : List Value, KBn K fd ps n ks (fun us ws => g us its ws) (fun vs zs => g vs dvs zs) := by
  obtain ⟨oc, od, dV, kV, doc, pm, an, cdv, ct, osl, rfl, lk, hcd, hD, hK⟩ := F.ex
  rcases hD with ⟨e, _⟩ | ⟨_, T, o, its, m, rfl, lT, oT, rT⟩
  · exact absurd e hd
  · refine ⟨its, ⟨fun s us ws X l1 l2 => ?_, fun r1 r2 => hrel r1 rT r2⟩⟩
    obtain ⟨k, e1, e2⟩ := h T kV doc pm an cdv ct us its ws l1 rT.length.symm l2
    refine BindsTo.of_looks fun M => ?_
    rw [e1]
    exact looks_items X lT oT (.of_pure e2)
end
/-! ### [e for x in xs] -/
def wipeE (en : List Sl) : List Nat → List Sl
  | [] => en
  | v :: vs => (wipeE en vs).set v .no
section
variable {K : PySem.W.Frag} {W : WX} {B B' H H' H0 B0 : Hp} {σ : L2.St} {en : List Sl} {te tl : TE} {ds : List Da}
theorem Sd.wipe (S : Sd K B0 H0 B H σ en) : ∀ vs : List Nat, Sd K B0 H0 B H (wipe σ vs) (wipeE en vs)
  | [] => S
  | v :: vs => (Sd.wipe S vs).drop v none
theorem el_lc {j : Nat} (gf : Da → Da) (h : EX K W tl en (.ok (.lst ds))) (hz : ds.length ≤ 40000) (he : ∀ d, d ∈ ds → EX K (fun _ _ _ _ => False) te ((wipeE en [j]).set j (.da d)) (.ok (gf d))) : EL K (tLc (iList K tl) (gName j) tYes te [j]) en (ds.map gf) := fun B0 H0 B H σ S Q q =>
  h _ _ B H σ S _ fun v B1 H1 g1 r1 => by
    cases r1 with
    | @lst a vs _ hq t =>
      have S1 := S.grow g1
      refine ⟨a, rfl, ⟨vs, ex_l g1.s hq⟩, fun D hD => lc_list (xs := vs) (fun i H' => ∃ B' acc, Gr B1 H1 B' H' ∧ B' D = none ∧ H' D = some (.lst acc) ∧ DrA K B' acc ((ds.take i).map gf)) ⟨B1, [], Gr.newO g1.s hD, fresh_back g1.s hD, upd_same, .nil⟩ (fun i H' _ ⟨B', acc, g, _⟩ => ex_l g.s (ex_l g.b hq)) (fun i x H' hi ⟨B', acc, g, hB, hH, hA⟩ => ?_) (fun H' ⟨B', acc, g, hB, hH, hA⟩ => ?_)⟩
      · obtain ⟨d, hd⟩ : ∃ d, ds[i]? = some d := by
          have := (List.getElem?_eq_some_iff.mp hi).1
          rw [t.length] at this
          exact ⟨ds[i], List.getElem?_eq_getElem this⟩
        obtain ⟨x', hx', rx⟩ := t.get hd
        rw [hi] at hx'
        cases hx'
        have S2 := ((S1.grow g).wipe [j]).set (rx.mono g.b) j
        refine ⟨by simp only [L2.wipe, List.set_set], ?_⟩
        show te ((wipe σ [j]).set j (some x)) H' _
        refine he d (List.mem_of_getElem? hd) _ _ B' H' _ S2 _ fun y B4 H4 g4 r4 => ?_
        have h4 : H4 D = some (.lst acc) := g4.h _ _ hH
        have b4 : B4 D = none := g4.n D (by rw [hH]; exact fun z => nomatch z) hB
        have hl : i < ds.length := by
          rcases Nat.lt_or_ge i ds.length with q | q
          · exact q
          · rw [List.getElem?_eq_none q] at hd; cases hd
        refine ⟨acc, h4, ?_, B4, acc ++ [y], ⟨g.b.trans g4.b, (g.h.trans g4.h).mut hD, fun a o e => ?_, (g.trans g4).n⟩, b4, upd_same, ?_⟩
        · rw [hA.length, List.length_map, List.length_take]
          exact sz_lt (by omega)
        · rw [upd_ne (ne_of_none e b4)]
          exact g4.s a o e
        · rw [List.take_add_one, hd, List.map_append]
          exact (hA.mono g4.b).append (.cons r4 .nil)
      · rw [t.length, List.take_length] at hA
        exact q D acc B' H' (g1.trans g) (g1.back hD) hB hH hA
end
section
variable {X : Cx} {W : WX} {k : Nat} {en : List Sl} {it elt : Expr} {x : Str} {p pos : Pos} {scope : Scope} {ds : List Da} {j : Nat}
theorem evl_lc (Bx : Bd X W k) (gf : Da → Da) (hi : EV X W en it (.ok (.lst ds))) (hz : ds.length ≤ 40000) (hN2 : X.N[j]? = some x) (ok : BlkOk X.N X.env.scope scope [(x, j)])
    (hg : ∀ (s : Shared) (H : Hp) (C : Addr) (cl : List (Str × Addr)) (fp : List Addr), PG (X.blk s H scope (compEnvC scope cl C X.env) fp) (.Name x p) (gName j)) (hs : ∀ v, foldedSetIterable it X.env v = pure v)
    (he : ∀ (s : Shared) (H : Hp) (C : Addr) (cl : List (Str × Addr)) (fp : List Addr) d, d ∈ ds → EV (X.blk s H scope (compEnvC scope cl C X.env) fp) (fun _ _ _ _ => False) ((wipeE en [j]).set j (.da d)) elt (.ok (gf d))) :
    EVL X W en (.ListComp elt [⟨.Name x p, it, [], 0⟩] scope pos) (ds.map gf) := by
  obtain ⟨t, h1, h2⟩ := hi
  refine ⟨_, pe_lc (own := [(x, j)]) (g := gName j) (tt := tYes) (te := fun σ H Q => ∀ (s : Shared) (H_ : Hp) (C : Addr) (cl : List (Str × Addr)) (fp : List Addr), ∃ t, PE (X.blk s H_ scope (compEnvC scope cl C X.env) fp) elt t ∧ t σ H Q) Bx.calm Bx.nd (pi_list h1) ok hg (fun _ _ _ _ _ => pts_nil)
    (fun s H C cl fp => ⟨fun pins s' σ H' Q I hh => ?_⟩) hs, ?_⟩
  · obtain ⟨t', h3, h4⟩ := hh s H C cl fp
    exact h3.run pins s' σ H' Q I h4
  · refine el_lc gf h2 hz fun d hd => ?_
    intro B0 H0 B H σ S Q ko s H_ C cl fp
    obtain ⟨t', h3, h4⟩ := he s H_ C cl fp d hd
    exact ⟨t', h3, h4 B0 H0 B H σ S Q ko⟩
theorem bd_blk (Bx : Bd X W k) {s : Shared} {H : Hp} {cenv : Env} {fp : List Addr} (hN : (X.blk s H scope cenv fp).N.Nodup) : Bd (X.blk s H scope cenv fp) (fun _ _ _ _ => False) k := ⟨Bx.calm, takes0, PassesOwn.never, Bx.rm, hN⟩
end
theorem rc_all {K : PySem.W.Frag} {bs : List Bool} : RC K (rAll K) [.lst (bs.map .bl)] (.bl (bs.all id)) := fun B H vs e hA Q k => by
  cases hA with
  | cons h1 t =>
    cases t
    cases h1 with
    | @lst a vs _ h t =>
      have ev : vs = bs.map V.bl := by
        clear h k
        induction bs generalizing vs with
        | nil => cases t; rfl
        | cons b r ih =>
          cases t with
          | cons h t =>
            cases h
            rw [ih t]
            rfl
      subst ev
      exact ⟨a, bs, rfl, ex_l e h, k _ B H (Gr.refl e) (.bl _)⟩
end Sky
namespace Sky
open PySem L2 Evl PySem.Spec PyProof.Rows
/-! ### numbers once more -/
def tp (a b : Int) : Int := a.fdiv (gz a b)
def bt (a b : Int) : Int := b.fdiv (gz a b)
theorem lw_is (a b : Int) : lw a b = .tup [.int (tp a b), .int (bt a b)] := rfl
/-- what lowest terms are: u = z q, l = z r, r above 0, q and r without a common divisor -/
theorem gz_of {u l z q r : Int} (hz : z ≠ 0) (hu : u = z * q) (hl : l = z * r) (hr : 0 < r) (hg : Nat.gcd q.natAbs r.natAbs = 1) : gz u l = z := by
  have g : Nat.gcd u.natAbs l.natAbs = z.natAbs := by
    rw [hu, hl, Int.natAbs_mul, Int.natAbs_mul, Nat.gcd_mul_left, hg, Nat.mul_one]
  unfold gz
  rw [g]
  by_cases h : z < 0
  · have : l < 0 := by rw [hl]; exact Int.mul_neg_of_neg_of_pos h hr
    rw [if_pos this]
    omega
  · have : ¬ l < 0 := by
      have : 0 ≤ l := by rw [hl]; exact Int.mul_nonneg (by omega) (by omega)
      omega
    rw [if_neg this]
    omega
theorem lw_of {u l z q r : Int} (hz : z ≠ 0) (hu : u = z * q) (hl : l = z * r) (hr : 0 < r) (hg : Nat.gcd q.natAbs r.natAbs = 1) : tp u l = q ∧ bt u l = r := by
  have e := gz_of hz hu hl hr hg
  unfold tp bt
  rw [e, hu, hl, Int.mul_fdiv_cancel_left _ hz, Int.mul_fdiv_cancel_left _ hz]
  exact ⟨rfl, rfl⟩
theorem lw_ex (u : Int) {l : Int} (h : l ≠ 0) : ∃ z q r, z ≠ 0 ∧ u = z * q ∧ l = z * r ∧ 0 < r ∧ Nat.gcd q.natAbs r.natAbs = 1 := by
  have gp : 0 < Nat.gcd u.natAbs l.natAbs := Nat.gcd_pos_of_pos_right _ (by omega)
  have d1 : ((Nat.gcd u.natAbs l.natAbs : Nat) : Int) ∣ u := Int.ofNat_dvd_left.mpr (Nat.gcd_dvd_left _ _)
  have d2 : ((Nat.gcd u.natAbs l.natAbs : Nat) : Int) ∣ l := Int.ofNat_dvd_left.mpr (Nat.gcd_dvd_right _ _)
  obtain ⟨q, hq⟩ := d1
  obtain ⟨r, hr⟩ := d2
  have hg : Nat.gcd q.natAbs r.natAbs = 1 := by
    have e : Nat.gcd u.natAbs l.natAbs = Nat.gcd u.natAbs l.natAbs * Nat.gcd q.natAbs r.natAbs := by
      have e1 : u.natAbs = Nat.gcd u.natAbs l.natAbs * q.natAbs := by
        have := congrArg Int.natAbs hq
        rwa [Int.natAbs_mul, Int.natAbs_natCast] at this
      have e2 : l.natAbs = Nat.gcd u.natAbs l.natAbs * r.natAbs := by
        have := congrArg Int.natAbs hr
        rwa [Int.natAbs_mul, Int.natAbs_natCast] at this
      have e3 : Nat.gcd (Nat.gcd u.natAbs l.natAbs * q.natAbs) (Nat.gcd u.natAbs l.natAbs * r.natAbs) = Nat.gcd u.natAbs l.natAbs * Nat.gcd q.natAbs r.natAbs := Nat.gcd_mul_left _ _ _
      rw [← e1, ← e2] at e3
      exact e3
    exact Nat.eq_of_mul_eq_mul_left gp (by rw [Nat.mul_one]; exact e.symm)
  by_cases hs : 0 < r
  · exact ⟨_, q, r, by omega, hq, hr, hs, hg⟩
  · have hr0 : r ≠ 0 := fun z => by rw [z, Int.mul_zero] at hr; exact h hr
    refine ⟨-((Nat.gcd u.natAbs l.natAbs : Nat) : Int), -q, -r, by omega, by rw [Int.neg_mul_neg]; exact hq, by rw [Int.neg_mul_neg]; exact hr, by omega, by rw [Int.natAbs_neg, Int.natAbs_neg]; exact hg⟩
theorem lw_isW (u : Int) {l : Int} (h : l ≠ 0) : isW (tp u l) (bt u l) = true := by
  obtain ⟨z, q, r, h1, h2, h3, h4, h5⟩ := lw_ex u h
  obtain ⟨e1, e2⟩ := lw_of h1 h2 h3 h4 h5
  unfold isW
  rw [e1, e2, decide_eq_true h4, decide_eq_true h5]
  rfl
theorem natAbs_le_mul {z q : Int} (hz : z ≠ 0) : q.natAbs ≤ (z * q).natAbs := by
  rw [Int.natAbs_mul]
  exact Nat.le_mul_of_pos_left _ (by omega)
theorem tp_le (u : Int) {l : Int} (h : l ≠ 0) : (tp u l).natAbs ≤ u.natAbs := by
  obtain ⟨z, q, r, h1, h2, h3, h4, h5⟩ := lw_ex u h
  rw [(lw_of h1 h2 h3 h4 h5).1, h2]
  exact natAbs_le_mul h1
theorem bt_le (u : Int) {l : Int} (h : l ≠ 0) : (bt u l).natAbs ≤ l.natAbs := by
  obtain ⟨z, q, r, h1, h2, h3, h4, h5⟩ := lw_ex u h
  rw [(lw_of h1 h2 h3 h4 h5).2, h3]
  exact natAbs_le_mul h1
theorem lw_neg (u : Int) {l : Int} (h : l ≠ 0) : lw (0 - u) (0 - l) = lw u l := by
  obtain ⟨z, q, r, h1, h2, h3, h4, h5⟩ := lw_ex u h
  obtain ⟨e1, e2⟩ := lw_of h1 h2 h3 h4 h5
  have m1 : 0 - u = -z * q := by rw [h2, Int.neg_mul]; omega
  have m2 : 0 - l = -z * r := by rw [h3, Int.neg_mul]; omega
  obtain ⟨f1, f2⟩ := lw_of (u := 0 - u) (l := 0 - l) (z := -z) (by omega) m1 m2 h4 h5
  rw [lw_is, lw_is, e1, e2, f1, f2]
theorem lw_one (u : Int) : lw u 1 = .tup [.int u, .int 1] := by
  obtain ⟨e1, e2⟩ := lw_of (u := u) (l := 1) (z := 1) (q := u) (r := 1) (by decide) (by omega) (by omega) (by decide) (Nat.gcd_one_right _)
  rw [lw_is, e1, e2]
theorem lw_self {a b : Int} (h : isW a b = true) : lw a b = .tup [.int a, .int b] := by
  have hp := isW_pos h
  have hg : Nat.gcd a.natAbs b.natAbs = 1 := of_decide_eq_true (Bool.and_eq_true_iff.mp h).2
  obtain ⟨e1, e2⟩ := lw_of (u := a) (l := b) (z := 1) (q := a) (r := b) (by decide) (by omega) (by omega) hp hg
  rw [lw_is, e1, e2]
/-! equality of equal data -/
theorem deq_self {d : Da} (h : Cmp d) : deq d d = true := by
  have h1 := h.2
  unfold SeqAt.shaped at h1
  exact SeqAt.eqv_refl _ (Bool.and_eq_true_iff.mp h1).1
theorem eqv_ints : ∀ {xs ys : List Int}, PyData.eqvAll (pyA (xs.map .int)) (pyA (ys.map .int)) = decide (xs = ys)
  | [], [] => rfl
  | [], _ :: _ => rfl
  | _ :: _, [] => rfl
  | x :: xs, y :: ys => by
    show (PyData.eqv (.int x) (.int y) && PyData.eqvAll (pyA (xs.map .int)) (pyA (ys.map .int))) = _
    rw [eqv_ints]
    show ((x == y) && decide (xs = ys)) = decide (x :: xs = y :: ys)
    by_cases h : x = y
    · subst h
      simp
    · simp [h]
end Sky
namespace Sky
open PySem L2 Evl PySem.Spec PyProof.Rows
def fByN : List Da → Option XO
  | [.tup [.int a, .int b]] => if isW a b = true ∧ Bn a ∧ Bn b then some (.ok (.bl true)) else none
  | _ => none
theorem fByN_inv {ds : List Da} {o : XO} (h : fByN ds = some o) : ∃ a b, ds = [.tup [.int a, .int b]] ∧ isW a b = true ∧ Bn a ∧ Bn b ∧ o = .ok (.bl true) := by
  unfold fByN at h
  split at h
  · split at h
    · rename_i hh
      exact ⟨_, _, rfl, hh.1, hh.2.1, hh.2.2, (Option.some.inj h).symm⟩
    · cases h
  · cases h
theorem fByN_ok {a b : Int} (h1 : isW a b = true) (h2 : Bn a) (h3 : Bn b) : fByN ([.tup [.int a, .int b]] ++ []) = some (.ok (.bl true)) := if_pos ⟨h1, h2, h3⟩
/-- an item at an open place of a short list -/
theorem at_ints {ns : List Int} {i : Int} (h0 : 0 ≤ i) (h1 : i < ns.length) : atI (ns.map Da.int) i = some (.int (ns.getD i.toNat 0)) := by
  unfold atI ixN
  rw [if_pos h0, List.length_map, if_pos h1]
  show (ns.map Da.int)[i.toNat]? = _
  rw [List.getElem?_map, List.getD_eq_getElem?_getD, List.getElem?_eq_getElem (by omega)]
  rfl
theorem at_nat {ds : List Da} {k : Nat} {d : Da} (h : ds[k]? = some d) : atI ds (k : Int) = some d := by
  have hk : k < ds.length := by
    rcases Nat.lt_or_ge k ds.length with q | q
    · exact q
    · rw [List.getElem?_eq_none q] at h; cases h
  unfold atI ixN
  rw [if_pos (by omega), if_pos (by omega)]
  simpa using h
theorem at_last {ds : List Da} {d : Da} : atI (ds ++ [d]) (-1) = some d := by
  unfold atI ixN
  rw [if_neg (by decide), if_pos (by rw [List.length_append]; show -((ds.length + 1 : Nat) : Int) ≤ -1; omega)]
  show (ds ++ [d])[(-1 + ((ds ++ [d]).length : Int)).toNat]? = _
  have e : (-1 + ((ds ++ [d]).length : Int)).toNat = ds.length := by
    rw [List.length_append]
    show (-1 + ((ds.length + 1 : Nat) : Int)).toNat = _
    omega
  rw [e]
  simp
end Sky
namespace Sky
open PySem L2 Evl PySem.Spec PyProof.Rows
theorem kit_refT {K : PySem.W.Frag} {C : Addr} {t : Value} (h2 : PySem.W.hasDictIn K C = true) (h3 : PySem.W.typeIn K (.ref C) = some (.type "type")) (h : PySem.W.subIn K t (.ref C) = some true) : PySem.W.kitOne K t (.ref C) = some true := by
  obtain ⟨cd, hc, _⟩ := PySem.W.any_some h2
  have e2 : ((PySem.W.clsIn K C).isSome && PySem.W.typeIn K (.ref C) == some (.type "type")) = true := by rw [hc, h3] <;> rfl
  unfold PySem.W.kitOne
  split
  · rfl
  · show (if _ = true then _ else _) = _
    rw [if_pos e2]
    exact h
theorem kit_tyT {K : PySem.W.Frag} {T : String} {t : Value} (h2 : PySem.W.kitMeta T = true) (h : PySem.W.subIn K t (.type T) = some true) : PySem.W.kitOne K t (.type T) = some true := by
  unfold PySem.W.kitOne
  split
  · rfl
  · show (if _ = true then _ else _) = _
    rw [if_pos h2]
    exact h
end Sky
namespace Sky
open PySem L2 Evl PySem.Spec PyProof.Rows
/-! ### is_tuple -/
def isTupD : Da → Int → Option Bool
  | .tup ds, m => some (decide ((ds.length : Int) = m))
  | .int _, _ => some false | .non, _ => some false | .bl _, _ => some false | .str _, _ => some false | .lst _, _ => some false | _, _ => none
def fIsTuple : List Da → Option XO
  | [d, .int m] => (isTupD d m).map fun b => .ok (.bl b)
  | _ => none
theorem tuple_some {d : Da} {m : Int} {b : Bool} (h : isTupD d m = some b) : fIsTuple ([d, .int m] ++ []) = some (.ok (.bl b)) := by
  show (isTupD d m).map _ = _
  rw [h]
  rfl
end Sky
namespace K01
open PySem L2 Evl PySem.Spec PyProof.Rows Sky
def qd (c : Int) (i m : Nat) : Int := digD c (8 * i + m)
def d1 (q : Nat → Int) : Int := ([1, 1000, 100000] : List Int).getD (q 2 % 3).toNat 0
def u1 (q : Nat → Int) : Int := (q 0 * 1009 + q 1) / d1 q
def u2 (q : Nat → Int) : Int := if deq (.int (q 2 % 9)) (.int 7) = true then (10 : Int) ^ (12 : Int).toNat - u1 q else u1 q
def d3 (q : Nat → Int) : Int := ([1, -1] : List Int).getD (q 3 % 2).toNat 0
def up (q : Nat → Int) : Int := u2 q * d3 q
def d4 (q : Nat → Int) : Int := ([q 4 % 12, q 5 * 1009 + q 6, 3599, 0, (10 : Int) ^ (12 : Int).toNat - q 5 - 1] : List Int).getD (q 7 % 5).toNat 0
def lo (q : Nat → Int) : Int := 1 + d4 q
def U (c : Int) (i : Nat) : Int := up (qd c i)
def L (c : Int) (i : Nat) : Int := lo (qd c i)
structure Dg (q : Nat → Int) : Prop where
  lo : ∀ m, 0 ≤ q m
  hi : ∀ m, q m < 1009
theorem qd_dg (c : Int) (i : Nat) : Dg (qd c i) := ⟨fun m => digD_lo c _, fun m => digD_hi c _⟩
theorem t12 : (10 : Int) ^ (12 : Int).toNat = 1000000000000 := by decide
section
variable {q : Nat → Int} (h : Dg q)
include h
theorem d1_at : atI [Da.int 1, .int 1000, .int 100000] (q 2 % 3) = some (.int (d1 q)) := at_ints (ns := [1, 1000, 100000]) (Int.emod_nonneg _ (by decide)) (Int.emod_lt_of_pos _ (by decide))
theorem cases3 {x : Int} (h0 : 0 ≤ x) (h1 : x < 3) : x = 0 ∨ x = 1 ∨ x = 2 := by omega
theorem d1_bd : 1 ≤ d1 q ∧ d1 q ≤ 100000 := by
  have a := Int.emod_nonneg (q 2) (show (3 : Int) ≠ 0 by decide)
  have b := Int.emod_lt_of_pos (q 2) (show (0 : Int) < 3 by decide)
  unfold d1
  rcases cases3 h a b with e | e | e <;> rw [e] <;> decide
theorem u1_bd : 0 ≤ u1 q ∧ u1 q < 2000000 := by
  have b := d1_bd h
  have x0 := h.lo 0
  have x1 := h.hi 0
  have y0 := h.lo 1
  have y1 := h.hi 1
  unfold u1
  refine ⟨Int.ediv_nonneg (by omega) (by omega), ?_⟩
  have := Int.ediv_le_self (d1 q) (show 0 ≤ q 0 * 1009 + q 1 by omega)
  omega
theorem u2_bd : -2000000 ≤ u2 q ∧ u2 q ≤ 1000000000000 := by
  have b := u1_bd h
  unfold u2
  rw [t12]
  split <;> omega
theorem d3_at : atI [Da.int 1, .int (-1)] (q 3 % 2) = some (.int (d3 q)) := at_ints (ns := [1, -1]) (Int.emod_nonneg _ (by decide)) (Int.emod_lt_of_pos _ (by decide))
theorem d3_bd : d3 q = 1 ∨ d3 q = -1 := by
  have a := Int.emod_nonneg (q 3) (show (2 : Int) ≠ 0 by decide)
  have b := Int.emod_lt_of_pos (q 3) (show (0 : Int) < 2 by decide)
  have e : q 3 % 2 = 0 ∨ q 3 % 2 = 1 := by omega
  unfold d3
  rcases e with e | e <;> rw [e] <;> decide
theorem up_bd : -1000000000000 ≤ up q ∧ up q ≤ 1000000000000 := by
  have b := u2_bd h
  unfold up
  rcases d3_bd h with e | e <;> rw [e] <;> omega
theorem d4_at : atI [Da.int (q 4 % 12), .int (q 5 * 1009 + q 6), .int 3599, .int 0, .int ((10 : Int) ^ (12 : Int).toNat - q 5 - 1)] (q 7 % 5) = some (.int (d4 q)) :=
  at_ints (ns := [q 4 % 12, q 5 * 1009 + q 6, 3599, 0, (10 : Int) ^ (12 : Int).toNat - q 5 - 1]) (Int.emod_nonneg _ (by decide)) (Int.emod_lt_of_pos _ (by decide))
theorem lo_bd : 1 ≤ lo q ∧ lo q ≤ 1000000000000 := by
  have a := Int.emod_nonneg (q 7) (show (5 : Int) ≠ 0 by decide)
  have b := Int.emod_lt_of_pos (q 7) (show (0 : Int) < 5 by decide)
  have e : q 7 % 5 = 0 ∨ q 7 % 5 = 1 ∨ q 7 % 5 = 2 ∨ q 7 % 5 = 3 ∨ q 7 % 5 = 4 := by omega
  have x0 := h.lo 5
  have x1 := h.hi 5
  have y0 := h.lo 6
  have y1 := h.hi 6
  have z0 := Int.emod_nonneg (q 4) (show (12 : Int) ≠ 0 by decide)
  have z1 := Int.emod_lt_of_pos (q 4) (show (0 : Int) < 12 by decide)
  unfold lo d4
  rw [t12]
  rcases e with e | e | e | e | e <;> rw [e]
  · show 1 ≤ 1 + q 4 % 12 ∧ 1 + q 4 % 12 ≤ _
    omega
  · show 1 ≤ 1 + (q 5 * 1009 + q 6) ∧ 1 + (q 5 * 1009 + q 6) ≤ _
    omega
  · show 1 ≤ 1 + (3599 : Int) ∧ 1 + (3599 : Int) ≤ _
    decide
  · show 1 ≤ 1 + (0 : Int) ∧ 1 + (0 : Int) ≤ _
    decide
  · show 1 ≤ 1 + (1000000000000 - q 5 - 1) ∧ 1 + (1000000000000 - q 5 - 1) ≤ _
    omega
end
theorem pick2 {P : Prop} [Decidable P] (b : Bool) (x y : Int) : atI [Da.int x, .int y] (if b = true then 1 else 0) = some (.int (if b = true then y else x)) := by
  cases b <;> rfl
theorem part_is (c : Int) (i : Nat) (hi : i < 2) : cutD ((digs c 16).map Da.int) (some (8 * (i : Int))) (some (8 * (i : Int) + 8)) = [.int (qd c i 0), .int (qd c i 1), .int (qd c i 2), .int (qd c i 3), .int (qd c i 4), .int (qd c i 5), .int (qd c i 6), .int (qd c i 7)] := by
  rcases (show i = 0 ∨ i = 1 by omega) with rfl | rfl <;> rfl
theorem bn_of {x : Int} (h : -1000000000000 ≤ x ∧ x ≤ 1000000000000) : Bn x := by
  unfold Bn
  have : x.natAbs ≤ 1000000000000 := by omega
  exact Nat.lt_of_le_of_lt this (by decide)
theorem bn_le {x y : Int} (h : Bn x) (l : y.natAbs ≤ x.natAbs) : Bn y := Nat.lt_of_le_of_lt l h
theorem small_of {x : Int} (h : Bn x) : Small x := Nat.lt_of_lt_of_le h (by decide)
theorem bn_neg {x : Int} (h : Bn x) : Bn (0 - x) := by
  unfold Bn at h ⊢
  have : (0 - x).natAbs = x.natAbs := by omega
  rw [this]
  exact h
end K01
namespace T01
open PySem L2 Evl PySem.Spec PyProof.Rows Sky K01
def top (i : Nat) : Stmt := PySem.Challenge.pw_tabletsky_k01_worths_reckoned.main.body.getD i (.Pass ⟨0, 0, 0, 0⟩)
local macro_rules | `(tactic| walk_at "vis") => `(tactic| first
  | exact Or.inl rfl
  | exact Or.inr (Or.inl rfl)
  | exact Or.inr (Or.inr rfl)
  | exact Or.inr rfl)
local macro_rules | `(tactic| walk_at "ev") => `(tactic| first
  | exact ev_int
  | exact ev_bl
  | exact ev_non
  | exact ev_str
  | (apply ev_name; (· rfl); (· walk_at "vis"); (· rfl); (· rfl); (· decide); (· decide))
  | walk_at "evT"
  | walk_at "evC"
  | (apply ev_add; (· walk_at "ev"); (· walk_at "ev"))
  | (apply ev_sub; (· walk_at "ev"); (· walk_at "ev"))
  | (apply ev_mul; (· walk_at "ev"); (· walk_at "ev"); (· walk_at "side"))
  | (apply ev_mod; (· walk_at "ev"); (· walk_at "ev"); (· walk_at "side"))
  | (apply ev_fdivZ; (· walk_at "ev"); (· walk_at "ev"); (· walk_at "sideZ"))
  | (apply ev_fdiv; (· walk_at "ev"); (· walk_at "ev"); (· walk_at "side"))
  | (apply ev_pow; (· walk_at "ev"); (· walk_at "ev"); (· walk_at "side"))
  | (apply ev_neg; (· walk_at "ev"))
  | (apply ev_lt; (· walk_at "ev"); (· walk_at "ev"))
  | (apply ev_le; (· walk_at "ev"); (· walk_at "ev"))
  | (apply ev_gt; (· walk_at "ev"); (· walk_at "ev"))
  | (apply ev_ge; (· walk_at "ev"); (· walk_at "ev"))
  | (apply ev_eq; (· assumption); (· walk_at "ev"); (· walk_at "ev"); (· walk_at "cmp"); (· walk_at "cmp"))
  | (apply ev_ne; (· assumption); (· walk_at "ev"); (· walk_at "ev"); (· walk_at "cmp"); (· walk_at "cmp"))
  | (apply ev_isN; (· walk_at "ev"); (· exact ev_non))
  | (apply ev_notN; (· walk_at "ev"); (· exact ev_non))
  | (apply ev_not; (· walk_at "ev"))
  | (apply ev_one; (· walk_at "ev"))
  | (apply ev_and; (· walk_at "ev"); (· intro _; walk_at "ev"))
  | (apply ev_or; (· walk_at "ev"); (· intro _; walk_at "ev"))
  | (apply ev_tup; (· walk_at "eva"); (· exact Nat.le_of_ble_eq_true rfl))
  | (apply ev_lst; (· walk_at "eva"); (· exact Nat.le_of_ble_eq_true rfl))
  | (apply ev_ixT; (· walk_at "ev"); (· walk_at "ev"); (· exact fun _ _ => rfl); (· walk_at "side"))
  | (apply ev_ixL; (· walk_at "ev"); (· walk_at "ev"); (· exact fun _ _ => rfl); (· walk_at "side"))
  | (apply ev_sl; (· walk_at "ev"); (· walk_at "evo"); (· walk_at "evo"))
  | (apply ev_slT; (· walk_at "ev"); (· walk_at "evo"); (· walk_at "evo"); (· first | decide | exact fun h => nomatch (show (3 : Nat) = 5 from h.2)))
  | (apply ev_ixO; (· rfl); (· walk_at "vis"); (· rfl); (· rfl); (· decide); (· decide); (· walk_at "ev"); (· exact fun _ _ => rfl); (· walk_at "side")))
local macro_rules | `(tactic| walk_at "eva") => `(tactic| first
  | exact eva_nil
  | (apply eva_cons; (· walk_at "ev"); (· walk_at "eva"); (· rfl)))
local macro_rules | `(tactic| walk_at "cmp") => `(tactic| first
  | with_reducible assumption
  | exact cmp_lw
  | exact ⟨rfl, rfl⟩)
local macro_rules | `(tactic| walk_at "side") => `(tactic| first
  | with_reducible assumption
  | rfl
  | decide
  | omega
  | exact ⟨by decide, by decide⟩
  | exact ⟨by decide, by decide, by decide⟩)
local macro_rules | `(tactic| walk_at "sideZ") => `(tactic| first
  | assumption
  | exact gz_div (by assumption) (by assumption) _)
local macro_rules | `(tactic| walk_at "evT") => `(tactic| first
  | (apply ev_ty (n := "int"); (· rfl); (· assumption); (· decide +kernel); (· decide); (· decide))
  | (apply ev_ty (n := "bool"); (· rfl); (· assumption); (· decide +kernel); (· decide); (· decide))
  | (apply ev_ty (n := "tuple"); (· rfl); (· assumption); (· decide +kernel); (· decide); (· decide)))
local macro_rules | `(tactic| walk_at "evC") => `(tactic| first
  | (apply ev_isi; (· assumption); (· walk_at "ev"); (· walk_at "ev"); (· rfl); (· decide +kernel); (· rfl); (· rfl); (· rfl); (· rfl))
  | (apply ev_cb (x := "len") call_len; (· walk_at "eva"); (· (apply rc_len; walk_at "side")); (· rfl); (· assumption); (· decide +kernel); (· decide); (· decide); (· rfl); (· rfl))
  | (apply ev_cb (x := "abs") call_abs; (· walk_at "eva"); (· exact rc_abs); (· rfl); (· assumption); (· decide +kernel); (· decide); (· decide); (· rfl); (· rfl))
  | (apply ev_ct (x := "int") call_int1; (· walk_at "eva"); (· first | exact rc_intB | exact rc_intI); (· rfl); (· assumption); (· decide +kernel); (· decide); (· decide); (· rfl); (· rfl))
  | (apply ev_fldO; (· assumption); (· assumption); (· rfl); (· walk_at "vis"); (· rfl); (· rfl); (· decide); (· decide); (· walk_at "side"); (· rfl))
  | (apply ev_fld; (· assumption); (· assumption); (· walk_at "ev"); (· walk_at "side"); (· rfl))
  | (apply ev_methO; (· assumption); (· assumption); (· decide); (· assumption); (· rfl); (· walk_at "vis"); (· rfl); (· rfl); (· decide); (· decide); (· walk_at "eva"); (· walk_at "fs"); (· rfl); (· rfl); (· rfl); (· rfl); (· rfl))
  | (apply ev_meth; (· assumption); (· assumption); (· decide); (· assumption); (· walk_at "ev"); (· walk_at "eva"); (· walk_at "fs"); (· first | with_reducible assumption | rfl); (· rfl); (· rfl); (· rfl); (· rfl))
  | (apply ev_meth0; (· assumption); (· assumption); (· decide); (· assumption); (· walk_at "ev"); (· walk_at "fs"); (· first | with_reducible assumption | rfl); (· rfl); (· rfl))
  | (apply ev_cf (x := "lcm") cr_lcm4; (· walk_at "eva"); (· apply rc_lcm4; assumption); (· rfl); (· assumption); (· decide); (· rfl); (· rfl))
  | (apply ev_cb (x := "min") (call_min2 (Bd.calm (by assumption))); (· walk_at "eva"); (· exact rc_min2); (· rfl); (· assumption); (· decide +kernel); (· decide); (· decide); (· rfl); (· rfl))
  | (apply ev_cf (x := "gcd") cr_gcd; (· walk_at "eva"); (· exact rc_gcd); (· rfl); (· assumption); (· decide); (· rfl); (· rfl))
  | (apply ev_calK (gD := fun ds es => ds ++ es); (· assumption); (· assumption); (· decide); (· walk_at "eva"); (· walk_at "evk"); (· walk_at "fs"); (· rfl); (· rfl); (· rfl); (· rfl); (· rfl); (· decide); (· rfl); (· rfl))
  | (apply ev_calK0 (gD := fun _ es => es.reverse); (· assumption); (· assumption); (· decide); (· walk_at "evk"); (· walk_at "fs"); (· rfl); (· rfl); (· rfl); (· rfl); (· decide); (· rfl))
  | (apply ev_cal (dds := [_]); (· assumption); (· assumption); (· decide); (· walk_at "eva"); (· walk_at "fs"); (· rfl); (· rfl); (· decide); (· rfl); (· rfl))
  | (apply ev_calR; (· assumption); (· assumption); (· decide); (· walk_at "eva"); (· walk_at "fs"); (· rfl); (· rfl); (· decide); (· rfl); (· rfl))
  | (apply ev_cal (dds := []); (· assumption); (· assumption); (· decide); (· walk_at "eva"); (· walk_at "fs"); (· rfl); (· rfl); (· decide); (· rfl); (· rfl)))
local macro_rules | `(tactic| walk_at "evk") => `(tactic| first
  | exact evk_nil
  | (apply evk_cons; (· walk_at "ev"); (· walk_at "evk")))
local macro_rules | `(tactic| walk_at "fs") => `(tactic| first
  | with_reducible assumption
  | rfl)
local macro_rules | `(tactic| walk_at "nrm") => `(tactic| first
  | (simp only [slots, setAll, List.map_cons, List.map_nil, List.length_cons, List.length_nil, List.replicate, List.cons_append, List.nil_append, List.set_cons_succ, List.set_cons_zero, List.set_nil, Nat.reduceAdd, Nat.reduceSub]; done)
  | (simp only [slots, setAll, List.map_cons, List.map_nil, List.length_cons, List.length_nil, List.replicate, List.cons_append, List.nil_append, List.set_cons_succ, List.set_cons_zero, List.set_nil, Nat.reduceAdd, Nat.reduceSub]; rfl)
  | rfl)
local macro_rules | `(tactic| walk_at "evt") => `(tactic| first
  | (apply evt_not; (· walk_at "evt"))
  | (apply evt_w; (· walk_at "evw"))
  | (apply evt_lt; (· walk_at "ev"); (· walk_at "ev"))
  | (apply evt_le; (· walk_at "ev"); (· walk_at "ev"))
  | (apply evt_gt; (· walk_at "ev"); (· walk_at "ev"))
  | (apply evt_ge; (· walk_at "ev"); (· walk_at "ev"))
  | (apply evt_eq; (· assumption); (· walk_at "ev"); (· walk_at "ev"); (· walk_at "cmp"); (· walk_at "cmp"))
  | (apply evt_ne; (· assumption); (· walk_at "ev"); (· walk_at "ev"); (· walk_at "cmp"); (· walk_at "cmp"))
  | (apply evt_isN; (· walk_at "ev"); (· exact ev_non))
  | (apply evt_notN; (· walk_at "ev"); (· exact ev_non))
  | (apply evt_val; (· walk_at "ev"); (· intro _; rfl)))
local macro_rules | `(tactic| walk_at "evw") => `(tactic| first
  | (apply evw_and1; (· walk_at "evt"))
  | (apply evw_or1; (· walk_at "evt"))
  | (apply evw_and; (· walk_at "evt"); (· intro _; walk_at "evw"))
  | (apply evw_or; (· walk_at "evt"); (· intro _; walk_at "evw")))
local macro_rules | `(tactic| walk_at "set") => `(tactic| first
  | (apply sv_set; (· assumption); (· walk_at "ev"); (· rfl); (· rfl); (· walk_at "vis"); (· exact Or.inl rfl); (· rfl); (· walk_at "nrm")))
local macro_rules | `(tactic| walk_at "gn") => `(tactic| first
  | exact gn_nil
  | (apply gn_cons; (· exact Bd.nd (by assumption)); (· rfl); (· rfl); (· walk_at "vis"); (· exact Or.inl rfl); (· walk_at "gn"); (· rfl)))
local macro_rules | `(tactic| walk_at "unT") => `(tactic| first
  | (apply sv_unT; (· assumption); (· walk_at "ev"); (· walk_at "gn"); (· rfl); (· rfl); (· rfl); (· rfl); (· rfl); (· rfl); (· walk_at "nrm")))
local macro_rules | `(tactic| walk_at "unL") => `(tactic| first
  | (apply sv_unL; (· assumption); (· walk_at "ev"); (· walk_at "gn"); (· rfl); (· rfl); (· rfl); (· rfl); (· rfl); (· rfl); (· walk_at "nrm")))
local macro_rules | `(tactic| walk_at "par") => `(tactic| first
  | (apply sv_par; (· assumption); (· walk_at "eva"); (· rfl); (· rfl); (· rfl); (· rfl); (· decide); (· rfl); (· rfl); (· rfl); (· rfl); (· walk_at "nrm")))
local macro_rules | `(tactic| walk_at "app") => `(tactic| first
  | (apply sv_app; (· rfl); (· walk_at "vis"); (· rfl); (· rfl); (· decide); (· decide); (· walk_at "ev"); (· walk_at "side"); (· exact fun h => pe_bm PySem.F.plainAttrs_list PySem.F.slot_list_append PySem.F.type_list_append mt_append (pv _) (pa_cons h pa_nil)); (· rfl); (· walk_at "nrm")))
local macro_rules | `(tactic| walk_at "fld") => `(tactic| first
  | (apply sv_fldO; (· assumption); (· assumption); (· rfl); (· walk_at "vis"); (· rfl); (· rfl); (· decide); (· decide); (· rfl); (· exact Nat.le_of_ble_eq_true rfl); (· walk_at "ev"); (· rfl); (· walk_at "nrm")))
local macro_rules | `(tactic| walk_at "setL") => `(tactic| first
  | (apply sv_setL; (· assumption); (· walk_at "evl"); (· rfl); (· rfl); (· walk_at "vis"); (· exact Or.inl rfl); (· rfl); (· walk_at "nrm")))
local macro_rules | `(tactic| walk_at "evl") => `(tactic| first
  | (apply evl_lst; (· walk_at "eva"); (· exact Nat.le_of_ble_eq_true rfl))
  | (apply evl_sl; (· walk_at "ev"); (· walk_at "evo"); (· walk_at "evo")))
local macro_rules | `(tactic| walk_at "evo") => `(tactic| first
  | exact evo_none
  | (apply evo_some; (· walk_at "ev")))
section
variable {P : Program} {w : World} {K : PySem.W.Frag} {mg : Str → Option Value} {base : Heap} {f : Addr} {fd : FuncData} {CW CL : Addr}
theorem sc_is_whole : FnScope ["thing"] ["thing"] (defScope (top 7)) := ⟨rfl, rfl, rfl, by decide +kernel, rfl, by decide +kernel, by decide +kernel⟩
theorem ok_is_whole (m1 : mg "isinstance" = none) (m2 : mg "int" = none) (m3 : mg "bool" = none) (F : Fun K "is_whole" "is_whole" (top 7) f fd) : FnOk P w K mg base (L2.CX P w) 1 f fd ["thing"] (spD K 1 fIsWhole) := by
  refine fn_d F sc_is_whole _ fun cdv A outer s H E ds o Bx hl hf => ?_
  match ds, hl with
  | [d], _ =>
  cases d with
  | ty n => cases hf
  | cls n => cases hf
  | ins n _ => cases hf
  | int i =>
    cases hf
    exact ⟨_, .rt _, svs_one (sv_ret (ev_andT (EV.is (by walk_at "ev") (by decide +kernel)) (EV.is (by walk_at "ev") (by decide +kernel))))⟩
  | bl i =>
    cases hf
    exact ⟨_, .rt _, svs_one (sv_ret (ev_andT (EV.is (by walk_at "ev") (by decide +kernel)) (EV.is (by walk_at "ev") (by decide +kernel))))⟩
  | _ =>
    cases hf
    exact ⟨_, .rt _, svs_one (sv_ret (ev_andF (EV.is (by walk_at "ev") (by decide +kernel))))⟩
theorem sc_worth : FnScope ["top", "bottom", "shared"] ["top", "bottom"] (defScope (top 8)) := ⟨rfl, rfl, rfl, by decide +kernel, rfl, by decide +kernel, by decide +kernel⟩
theorem ok_worth (m1 : mg "gcd" = some (.builtin "math.gcd")) (c1 : Cal P w K mg base "is_whole" 1 ["thing"] [] fIsWhole) (xW : ExF K mg "NoWorth" CW) (F : FunDS K "worth" "worth" (top 8) [.int 1] [] f fd) : FnOk P w K mg base (L2.CX P w) 2 f fd ["top", "bottom"] (spD K 2 (fWorth CW)) := by
  refine fn_dD F sc_worth _ fun cdv A outer s H E ds o Bx hl hf => ?_
  match ds, hl with
  | [d1, d2], _ =>
  cases q1 : isWholeD d1 with
  | none => simp only [fWorth, q1] at hf; cases hf
  | some b1 =>
  cases q2 : isWholeD d2 with
  | none => simp only [fWorth, q1, q2] at hf; cases b1 <;> cases hf
  | some b2 =>
  have w1 := whole_some q1
  have w2 := whole_some q2
  cases b1 with
  | false =>
    simp only [fWorth, q1, q2] at hf
    cases hf
    exact ⟨_, .rx (slots _ _) _ _, svs_stop (sv_ifT (evt_w (evw_orT (EVT.is (by walk_at "evt") (by rfl)))) (svs_one (sv_raise Bx xW (by rfl) (by decide)))) (fun _ z => by cases z)⟩
  | true =>
  cases b2 with
  | false =>
    simp only [fWorth, q1, q2] at hf
    cases hf
    exact ⟨_, .rx (slots _ _) _ _, svs_stop (sv_ifT (evt_w (evw_orF (EVT.is (by walk_at "evt") (by rfl)) (evw_orT (EVT.is (by walk_at "evt") (by rfl))))) (svs_one (sv_raise Bx xW (by rfl) (by decide)))) (fun _ z => by cases z)⟩
  | true =>
  obtain ⟨a, rfl⟩ := whole_int q1
  obtain ⟨b, rfl⟩ := whole_int q2
  simp only [fWorth, q1, q2] at hf
  by_cases hb : b = 0
  · rw [if_pos hb] at hf
    cases hf
    exact ⟨_, .rx (slots _ _) _ _, svs_stop (sv_ifT (evt_w (evw_orF (EVT.is (by walk_at "evt") (by rfl)) (evw_orF (EVT.is (by walk_at "evt") (by rfl)) (evw_or1 (EVT.is (by walk_at "evt") (by rw [hb]; rfl)))))) (svs_one (sv_raise Bx xW (by rfl) (by decide)))) (fun _ z => by cases z)⟩
  · rw [if_neg hb] at hf
    by_cases hs : Small b
    · rw [if_pos hs] at hf
      cases hf
      refine ⟨_, .rt _, svs_cons (sv_ifF (evt_w (evw_orF (EVT.is (by walk_at "evt") (by rfl)) (evw_orF (EVT.is (by walk_at "evt") (by rfl)) (evw_or1 (EVT.is (by walk_at "evt") ?_))))) svs_nil) (svs_cons (e1 := [.da (.int a), .da (.int b), .da (.int ((Nat.gcd a.natAbs b.natAbs : Nat) : Int))]) (by walk_at "set") (svs_cons (e1 := [.da (.int a), .da (.int b), .da (.int (gz a b))]) ?_ (svs_one (sv_ret ?_))))⟩
      · show (b == 0) = false
        simpa using hb
      · by_cases hn : b < 0
        · have e : gz a b = -((Nat.gcd a.natAbs b.natAbs : Nat) : Int) := if_pos hn
          rw [e]
          exact sv_ifT (EVT.is (by walk_at "evt") (by simpa using hn)) (svs_one (by walk_at "set"))
        · have e : gz a b = ((Nat.gcd a.natAbs b.natAbs : Nat) : Int) := if_neg hn
          rw [e]
          exact sv_ifF (EVT.is (by walk_at "evt") (by simpa using hn)) svs_nil
      · unfold lw
        walk_at "ev"
    · rw [if_neg hs] at hf
      cases hf
theorem sc_is_tuple : FnScope ["thing", "many"] ["thing", "many"] (defScope (top 5)) := ⟨rfl, rfl, rfl, by decide +kernel, rfl, by decide +kernel, by decide +kernel⟩
theorem ok_is_tuple (m1 : mg "isinstance" = none) (m2 : mg "tuple" = none) (m3 : mg "len" = none) (F : Fun K "is_tuple" "is_tuple" (top 5) f fd) : FnOk P w K mg base (L2.CX P w) 1 f fd ["thing", "many"] (spD K 2 fIsTuple) := by
  refine fn_d F sc_is_tuple _ fun cdv A outer s H E ds o Bx hl hf => ?_
  match ds, hl with
  | [d, e], _ =>
  cases e with
  | int m =>
    cases d with
    | ty n => cases hf
    | cls n => cases hf
    | ins n _ => cases hf
    | tup ds =>
      cases hf
      exact ⟨_, .rt _, svs_one (sv_ret (ev_andT (EV.is (by walk_at "ev") (by decide +kernel)) (ev_one (EV.is (by walk_at "ev") (by rfl)))))⟩
    | _ =>
      cases hf
      exact ⟨_, .rt _, svs_one (sv_ret (ev_andF (EV.is (by walk_at "ev") (by decide +kernel))))⟩
  | _ => cases d <;> cases hf
theorem sc_is_worth : FnScope ["thing", "top", "bottom"] ["thing"] (defScope (top 9)) := ⟨rfl, rfl, rfl, by decide +kernel, rfl, by decide +kernel, by decide +kernel⟩
theorem ok_is_worth (m4 : mg "gcd" = some (.builtin "math.gcd")) (c1 : Cal P w K mg base "is_whole" 1 ["thing"] [] fIsWhole) (c2 : Cal P w K mg base "is_tuple" 1 ["thing", "many"] [] fIsTuple) (F : Fun K "is_worth" "is_worth" (top 9) f fd) : FnOk P w K mg base (L2.CX P w) 2 f fd ["thing"] (spD K 1 fIsWorth) := by
  refine fn_d F sc_is_worth _ fun cdv A outer s H E ds o Bx hl hf => ?_
  match ds, hl with
  | [d], _ =>
  have no : isTupD d 2 = some false → isWorthD d = some false → ∃ ou, Leads ou o ∧ SVs (XB P w K mg base ["thing", "top", "bottom"] "is_worth" (top 9) f cdv A outer s H E) (WD E) (slots ["thing", "top", "bottom"] [d]) (defBody (top 9)) ou := fun q q2 => by
    have t1 := tuple_some q
    have hf2 : (isWorthD d).map (fun b => XO.ok (.bl b)) = some o := hf
    rw [q2] at hf2
    cases hf2
    exact ⟨_, .rt _, svs_stop (sv_ifT (EVT.is (u := !false) (by walk_at "evt") rfl) (svs_one (sv_ret ev_bl))) (fun _ z => by cases z)⟩
  cases d with
  | ty n => cases hf
  | cls n => cases hf
  | ins n _ => cases hf
  | tup ds =>
    match ds, hf with
    | [], hf => exact no rfl rfl
    | [_], hf => exact no rfl rfl
    | _ :: _ :: _ :: r, hf =>
      exact no (congrArg some (decide_eq_false (by simp only [List.length_cons]; omega))) rfl
    | [a, b], hf =>
      have t1 : fIsTuple ([.tup [a, b], .int 2] ++ []) = some (.ok (.bl true)) := rfl
      have hf2 : (isWorthD (.tup [a, b])).map (fun b => XO.ok (.bl b)) = some o := hf
      cases q : isWorthD (.tup [a, b]) with
      | none => rw [q] at hf2; cases hf2
      | some r =>
      rw [q] at hf2
      cases hf2
      refine ⟨_, .rt _, svs_cons (e1 := [.da (.tup [a, b]), .no, .no]) (sv_ifF (EVT.is (u := !true) (by walk_at "evt") rfl) svs_nil) (svs_cons (e1 := [.da (.tup [a, b]), .da a, .da b]) ?_ (svs_one (sv_ret ?_)))⟩
      · walk_at "unT"
      · cases q1 : isWholeD a with
        | none => simp only [isWorthD, q1] at q; cases q
        | some u =>
        cases q2 : isWholeD b with
        | none => simp only [isWorthD, q1, q2] at q; cases u <;> cases q
        | some v =>
        have w1 := whole_some q1
        have w2 := whole_some q2
        cases u with
        | false =>
          simp only [isWorthD, q1, q2] at q
          cases q
          exact ev_andF (by walk_at "ev")
        | true =>
        refine ev_andT (by walk_at "ev") ?_
        cases v with
        | false =>
          simp only [isWorthD, q1, q2] at q
          cases q
          exact ev_andF (by walk_at "ev")
        | true =>
        refine ev_andT (by walk_at "ev") ?_
        obtain ⟨i, rfl⟩ := whole_int q1
        obtain ⟨j, rfl⟩ := whole_int q2
        rw [isWorthD_int] at q
        cases q
        unfold isW
        by_cases h0 : 0 < j
        · rw [decide_eq_true h0, Bool.true_and]
          refine ev_andT (EV.is (by walk_at "ev") (decide_eq_true h0)) (ev_one (EV.is (by walk_at "ev") ?_))
          rw [deq_int]
          by_cases h1 : Nat.gcd i.natAbs j.natAbs = 1
          · rw [decide_eq_true h1, h1]
            rfl
          · rw [decide_eq_false h1, beq_eq_false_iff_ne]
            omega
        · rw [decide_eq_false h0, Bool.false_and]
          exact ev_andF (EV.is (by walk_at "ev") (decide_eq_false h0))
  | _ => exact no rfl rfl
theorem sc__refuse_others : FnScope ["one", "other"] ["one", "other"] (defScope (top 10)) := ⟨rfl, rfl, rfl, by decide +kernel, rfl, by decide +kernel, by decide +kernel⟩
theorem ok_refuse (c1 : Cal P w K mg base "is_worth" 2 ["thing"] [] fIsWorth) (xW : ExF K mg "NoWorth" CW) (F : Fun K "_refuse_others" "_refuse_others" (top 10) f fd) : FnOk P w K mg base (L2.CX P w) 3 f fd ["one", "other"] (spD K 2 (fRefuse CW)) := by
  refine fn_d F sc__refuse_others _ fun cdv A outer s H E ds o Bx hl hf => ?_
  match ds, hl with
  | [d1, d2], _ =>
  cases q1 : isWorthD d1 with
  | none => simp only [fRefuse, q1] at hf; cases hf
  | some b1 =>
  have w1 := worth_some q1
  cases b1 with
  | false =>
    simp only [fRefuse, q1] at hf
    cases hf
    exact ⟨_, .rx (slots _ _) _ _, svs_one (sv_ifT (evt_w (evw_orT (EVT.is (by walk_at "evt") (by rfl)))) (svs_one (sv_raise Bx xW (by rfl) (by decide))))⟩
  | true =>
  cases q2 : isWorthD d2 with
  | none => simp only [fRefuse, q1, q2] at hf; cases hf
  | some b2 =>
  have w2 := worth_some q2
  cases b2 with
  | false =>
    simp only [fRefuse, q1, q2] at hf
    cases hf
    exact ⟨_, .rx (slots _ _) _ _, svs_one (sv_ifT (evt_w (evw_orF (EVT.is (by walk_at "evt") (by rfl)) (evw_or1 (EVT.is (by walk_at "evt") (by rfl))))) (svs_one (sv_raise Bx xW (by rfl) (by decide))))⟩
  | true =>
    simp only [fRefuse, q1, q2] at hf
    cases hf
    exact ⟨_, .nx (slots _ _), svs_one (sv_ifF (evt_w (evw_orF (EVT.is (by walk_at "evt") (by rfl)) (evw_or1 (EVT.is (by walk_at "evt") (by rfl))))) svs_nil)⟩
theorem sc_plus : FnScope ["one", "other"] ["one", "other"] (defScope (top 11)) := ⟨rfl, rfl, rfl, by decide +kernel, rfl, by decide +kernel, by decide +kernel⟩
theorem ok_plus (c1 : Cal P w K mg base "_refuse_others" 3 ["one", "other"] [] (fRefuse CW)) (c2 : Cal P w K mg base "worth" 2 ["top", "bottom"] [] (fWorth CW)) (F : Fun K "plus" "plus" (top 11) f fd) : FnOk P w K mg base (L2.CX P w) 4 f fd ["one", "other"] (spD K 2 (fTwo gPlus)) := by
  refine fn_d F sc_plus _ fun cdv A outer s H E ds o Bx hl hf => ?_
  obtain ⟨a, b, c, d, rfl, T, hg⟩ := fTwo_inv hf
  have T' := T
  obtain ⟨t1, t2, t3, t4, t5, t6⟩ := T'
  have p1 := isW_pos t1
  have p2 := isW_pos t2
  have r1 := refuse_ok (C := CW) t1 t2
  have m1 := bn_mul t3 t6
  have m2 := bn_mul t5 t4
  have m3 := bn_mul t4 t6
  have h0 := mul_ne p1 p2
  have h1 : Small (b * d) := small_prod t4 t6
  have w1 := fWorth_ok (C := CW) (a := a * d + c * b) h0 h1
  cases hg
  exact ⟨_, .rt _, svs_cons (sv_expr (by walk_at "ev") (by rfl)) (svs_one (sv_ret (by walk_at "ev")))⟩
theorem sc_minus : FnScope ["one", "other"] ["one", "other"] (defScope (top 12)) := ⟨rfl, rfl, rfl, by decide +kernel, rfl, by decide +kernel, by decide +kernel⟩
theorem ok_minus (c1 : Cal P w K mg base "_refuse_others" 3 ["one", "other"] [] (fRefuse CW)) (c2 : Cal P w K mg base "worth" 2 ["top", "bottom"] [] (fWorth CW)) (F : Fun K "minus" "minus" (top 12) f fd) : FnOk P w K mg base (L2.CX P w) 4 f fd ["one", "other"] (spD K 2 (fTwo gMinus)) := by
  refine fn_d F sc_minus _ fun cdv A outer s H E ds o Bx hl hf => ?_
  obtain ⟨a, b, c, d, rfl, T, hg⟩ := fTwo_inv hf
  have T' := T
  obtain ⟨t1, t2, t3, t4, t5, t6⟩ := T'
  have p1 := isW_pos t1
  have p2 := isW_pos t2
  have r1 := refuse_ok (C := CW) t1 t2
  have m1 := bn_mul t3 t6
  have m2 := bn_mul t5 t4
  have m3 := bn_mul t4 t6
  have h0 := mul_ne p1 p2
  have h1 : Small (b * d) := small_prod t4 t6
  have w1 := fWorth_ok (C := CW) (a := a * d - c * b) h0 h1
  cases hg
  exact ⟨_, .rt _, svs_cons (sv_expr (by walk_at "ev") (by rfl)) (svs_one (sv_ret (by walk_at "ev")))⟩
theorem sc_times : FnScope ["one", "other"] ["one", "other"] (defScope (top 13)) := ⟨rfl, rfl, rfl, by decide +kernel, rfl, by decide +kernel, by decide +kernel⟩
theorem ok_times (c1 : Cal P w K mg base "_refuse_others" 3 ["one", "other"] [] (fRefuse CW)) (c2 : Cal P w K mg base "worth" 2 ["top", "bottom"] [] (fWorth CW)) (F : Fun K "times" "times" (top 13) f fd) : FnOk P w K mg base (L2.CX P w) 4 f fd ["one", "other"] (spD K 2 (fTwo gTimes)) := by
  refine fn_d F sc_times _ fun cdv A outer s H E ds o Bx hl hf => ?_
  obtain ⟨a, b, c, d, rfl, T, hg⟩ := fTwo_inv hf
  have T' := T
  obtain ⟨t1, t2, t3, t4, t5, t6⟩ := T'
  have p1 := isW_pos t1
  have p2 := isW_pos t2
  have r1 := refuse_ok (C := CW) t1 t2
  have m1 := bn_mul t3 t5
  have m3 := bn_mul t4 t6
  have h0 := mul_ne p1 p2
  have h1 : Small (b * d) := small_prod t4 t6
  have w1 := fWorth_ok (C := CW) (a := a * c) h0 h1
  cases hg
  exact ⟨_, .rt _, svs_cons (sv_expr (by walk_at "ev") (by rfl)) (svs_one (sv_ret (by walk_at "ev")))⟩
theorem sc_over : FnScope ["one", "other"] ["one", "other"] (defScope (top 14)) := ⟨rfl, rfl, rfl, by decide +kernel, rfl, by decide +kernel, by decide +kernel⟩
theorem ok_over (c1 : Cal P w K mg base "_refuse_others" 3 ["one", "other"] [] (fRefuse CW)) (c2 : Cal P w K mg base "worth" 2 ["top", "bottom"] [] (fWorth CW)) (F : Fun K "over" "over" (top 14) f fd) : FnOk P w K mg base (L2.CX P w) 4 f fd ["one", "other"] (spD K 2 (fTwo (gOver CW))) := by
  refine fn_d F sc_over _ fun cdv A outer s H E ds o Bx hl hf => ?_
  obtain ⟨a, b, c, d, rfl, T, hg⟩ := fTwo_inv hf
  have T' := T
  obtain ⟨t1, t2, t3, t4, t5, t6⟩ := T'
  have p1 := isW_pos t1
  have p2 := isW_pos t2
  have r1 := refuse_ok (C := CW) t1 t2
  have m1 := bn_mul t3 t6
  have m3 := bn_mul t4 t5
  unfold gOver at hg
  by_cases hb : b * c = 0
  · rw [if_pos hb] at hg
    cases hg
    have w1 := fWorth_no (C := CW) (a := a * d) hb
    exact ⟨_, .rx _ _ _, svs_cons (sv_expr (by walk_at "ev") (by rfl)) (svs_one (sv_retX (by walk_at "ev")))⟩
  · rw [if_neg hb] at hg
    have w1 := fWorth_ok (C := CW) (a := a * d) hb (small_prod t4 t5)
    cases hg
    exact ⟨_, .rt _, svs_cons (sv_expr (by walk_at "ev") (by rfl)) (svs_one (sv_ret (by walk_at "ev")))⟩
theorem sc_is_less : FnScope ["one", "other"] ["one", "other"] (defScope (top 15)) := ⟨rfl, rfl, rfl, by decide +kernel, rfl, by decide +kernel, by decide +kernel⟩
theorem ok_is_less (c1 : Cal P w K mg base "_refuse_others" 3 ["one", "other"] [] (fRefuse CW)) (c2 : Cal P w K mg base "worth" 2 ["top", "bottom"] [] (fWorth CW)) (F : Fun K "is_less" "is_less" (top 15) f fd) : FnOk P w K mg base (L2.CX P w) 4 f fd ["one", "other"] (spD K 2 (fTwo gLess)) := by
  refine fn_d F sc_is_less _ fun cdv A outer s H E ds o Bx hl hf => ?_
  obtain ⟨a, b, c, d, rfl, T, hg⟩ := fTwo_inv hf
  have T' := T
  obtain ⟨t1, t2, t3, t4, t5, t6⟩ := T'
  have p1 := isW_pos t1
  have p2 := isW_pos t2
  have r1 := refuse_ok (C := CW) t1 t2
  have m1 := bn_mul t3 t6
  have m2 := bn_mul t5 t4
  cases hg
  exact ⟨_, .rt _, svs_cons (sv_expr (by walk_at "ev") (by rfl)) (svs_one (sv_ret (by walk_at "ev")))⟩
theorem sc_low : FnScope ["_law_upper", "_law_lower", "_law_one", "_law_other"] ["_law_upper", "_law_lower"] (defScope (top 19)) := ⟨rfl, rfl, rfl, by decide +kernel, rfl, by decide +kernel, by decide +kernel⟩
theorem ok_low (m1 : mg "abs" = none) (F : Fun K "_law_low" "_law_low" (top 19) f fd) : FnOk P w K mg base (L2.CX P w) 1 f fd ["_law_upper", "_law_lower"] (spD K 2 fLow) := by
  refine fn_d F sc_low _ fun cdv A outer s H E ds o Bx hl hf => ?_
  obtain ⟨a, b, rfl, hb, hs, rfl⟩ := fLow_inv hf
  refine ⟨_, .rt _, svs_cons (e1 := [.da (.int a), .da (.int b), .da (.int (a.natAbs : Int)), .da (.int (b.natAbs : Int))]) (by walk_at "par") ?_⟩
  apply svs_whileP Bx (fun p : Nat × Nat => [.da (.int a), .da (.int b), .da (.int (p.1 : Int)), .da (.int (p.2 : Int))]) (fun p => decide (0 < p.2)) (fun p => p.2) (fun p => Nat.gcd p.1 p.2 = Nat.gcd a.natAbs b.natAbs) (a.natAbs, b.natAbs) rfl rfl
  · rintro ⟨x, y⟩ hp hy
    have hy' : 0 < y := of_decide_eq_true hy
    have hy2 : (0 : Int) < (y : Int) := by omega
    refine ⟨EVT.is (by walk_at "evt") (decide_eq_true hy2), (y, x % y), ?_, Nat.mod_lt _ hy', svs_one (by walk_at "par")⟩
    show Nat.gcd y (x % y) = _
    rw [← hp]
    show Nat.gcd y (x % y) = Nat.gcd x y
    rw [Nat.gcd_comm x y, Nat.gcd_rec y x, Nat.gcd_comm]
  · rintro ⟨x, y⟩ hp hy
    have hy' : ¬ 0 < y := of_decide_eq_false hy
    exact EVT.is (by walk_at "evt") (decide_eq_false (by omega))
  · rintro ⟨x, y⟩ hp hy
    have hy' : ¬ 0 < y := of_decide_eq_false hy
    have y0 : y = 0 := by omega
    subst y0
    have hx : x = Nat.gcd a.natAbs b.natAbs := by
      have q : Nat.gcd x 0 = Nat.gcd a.natAbs b.natAbs := hp
      rwa [Nat.gcd_zero_right] at q
    subst hx
    refine svs_cons (e1 := [.da (.int a), .da (.int b), .da (.int (gz a b)), .da (.int ((0 : Nat) : Int))]) ?_ (svs_one (sv_ret ?_))
    · by_cases hn : b < 0
      · have e : gz a b = 0 - ((Nat.gcd a.natAbs b.natAbs : Nat) : Int) := by unfold gz; rw [if_pos hn]; omega
        rw [e]
        exact sv_ifT (EVT.is (by walk_at "evt") (decide_eq_true hn)) (svs_one (by walk_at "set"))
      · have e : gz a b = ((Nat.gcd a.natAbs b.natAbs : Nat) : Int) := if_neg hn
        rw [e]
        exact sv_ifF (EVT.is (by walk_at "evt") (decide_eq_false hn)) svs_nil
    · unfold lw
      walk_at "ev"
theorem sc_digits : FnScope ["_law_cell_here", "_law_many", "_law_row", "_law_rest", "_law_number", "_law_k"] ["_law_cell_here", "_law_many"] (defScope (top 18)) := ⟨rfl, rfl, rfl, by decide +kernel, rfl, by decide +kernel, by decide +kernel⟩
theorem ok_digits (m1 : mg "range" = none) (F : Fun K "_law_digits" "_law_digits" (top 18) f fd) : FnOk P w K mg base (L2.CX P w) 1 f fd ["_law_cell_here", "_law_many"] (spD K 2 fDigits) := by
  refine fn_d F sc_digits _ fun cdv A outer s H E ds o Bx hl hf => ?_
  obtain ⟨c, n, rfl, hn, rfl⟩ := fDigits_inv hf
  refine ⟨_, .rt _, svs_cons (e1 := [.da (.int c), .da (.int n), .own [], .no, .no, .no]) (by walk_at "setL") (svs_cons (e1 := [.da (.int c), .da (.int n), .own [], .da (.int 0), .no, .no]) (by walk_at "set") (svs_cons (e1 := [.da (.int c), .da (.int n), .own [], .da (.int (restD c 0)), .no, .no]) ?_ (svs_cons (e1 := [.da (.int c), .da (.int n), .own [], .da (.int (restD c 0)), .da (.int (numD c 0)), .no]) (by walk_at "set") (svs_cons (e1 := [.da (.int c), .da (.int n), .own ((digs c n).map .int), .da (.int (restD c n)), .da (.int (numD c n)), .no]) ?_ (svs_freeze (n := 2) rfl (svs_one (sv_ret (by walk_at "ev"))))))))⟩
  · by_cases h : 10 ^ 18 ≤ c
    · have e : restD c 0 = c := if_pos h
      rw [e]
      exact sv_ifT (EVT.is (by walk_at "evt") (by simpa using h)) (svs_one (by walk_at "set"))
    · have e : restD c 0 = 0 := if_neg h
      rw [e]
      exact sv_ifF (EVT.is (by walk_at "evt") (by simpa using h)) svs_nil
  · apply sv_forR Bx (fun i => [.da (.int c), .da (.int n), .own ((digs c i).map .int), .da (.int (restD c i)), .da (.int (numD c i)), .no]) (m := n)
    · rfl
    · rfl
    · walk_at "vis"
    · exact Or.inl rfl
    · exact m1
    · walk_at "eva"
    · omega
    · rfl
    · rfl
    · rfl
    · intro i hi
      have nb := numD_bd c i
      have l1 : ((digs c i).map Da.int).length < 100000 := by rw [List.length_map, digs_len]; omega
      have x1 : CMulW (numD c i) 48271 := cm64 (by omega) (by decide)
      have x2 : CMulW 30103 (i : Int) := cm64 (by decide) (by omega)
      have y0 : 0 ≤ (numD c i * 48271 + 30103 * (i : Int) + 11) % 2147483647 := Int.emod_nonneg _ (by decide)
      have y1 : (numD c i * 48271 + 30103 * (i : Int) + 11) % 2147483647 < 2147483647 := Int.emod_lt_of_pos _ (by decide)
      have x3 : CMulW ((numD c i * 48271 + 30103 * (i : Int) + 11) % 2147483647) (((numD c i * 48271 + 30103 * (i : Int) + 11) % 2147483647) / 1009 + 69621) := cm64 (by omega) (by omega)
      refine svs_weak (svs_cons (by walk_at "set") (svs_cons (e1 := [.da (.int c), .da (.int n), .own ((digs c i).map .int), .da (.int (restD c i)), .da (.int (numD c (i + 1))), .da (.int i)]) (by walk_at "set") (svs_one (ou := .nx [.da (.int c), .da (.int n), .own ((digs c (i + 1)).map .int), .da (.int (restD c (i + 1))), .da (.int (numD c (i + 1))), .da (.int i)]) ?_))) (.eq (.eq (.eq (.eq (.eq (.no .nil))))))
      rw [digs_succ, List.map_append]
      by_cases h : 0 < restD c i
      · have e1 : restD c (i + 1) = restD c i / 1009 := if_pos h
        have e2 : digD c i = restD c i % 1009 := if_pos h
        rw [e1, e2]
        refine sv_ifT (EVT.is (by walk_at "evt") (decide_eq_true h)) (svs_cons (e1 := [.da (.int c), .da (.int n), .own ((digs c i).map .int ++ [.int (restD c i % 1009)]), .da (.int (restD c i)), .da (.int (numD c (i + 1))), .da (.int i)]) (by walk_at "app") (svs_one (by walk_at "set")))
      · have e1 : restD c (i + 1) = restD c i := if_neg h
        have e2 : digD c i = numD c (i + 1) / 7 % 1009 := if_neg h
        rw [e1, e2]
        exact sv_ifF (EVT.is (by walk_at "evt") (decide_eq_false h)) (svs_one (by walk_at "app"))
theorem sc__law_add : FnScope ["_law_one", "_law_other"] ["_law_one", "_law_other"] (defScope (top 20)) := ⟨rfl, rfl, rfl, by decide +kernel, rfl, by decide +kernel, by decide +kernel⟩
theorem ok__law_add (c1 : Cal P w K mg base "_law_low" 1 ["_law_upper", "_law_lower"] [] fLow) (F : Fun K "_law_add" "_law_add" (top 20) f fd) : FnOk P w K mg base (L2.CX P w) 2 f fd ["_law_one", "_law_other"] (spD K 2 (fTwoL gPlus)) := by
  refine fn_d F sc__law_add _ fun cdv A outer s H E ds o Bx hl hf => ?_
  obtain ⟨a, b, c, d, rfl, T, hg⟩ := fTwoL_inv hf
  obtain ⟨p1, p2, t3, t4, t5, t6⟩ := T
  have m1 := bn_mul t3 t6
  have m2 := bn_mul t5 t4
  have m3 := bn_mul t4 t6
  have w1 := fLow_ok (a := a * d + c * b) (Int.mul_ne_zero p1 p2) (small_prod t4 t6)
  cases hg
  exact ⟨_, .rt _, svs_one (sv_ret (by walk_at "ev"))⟩
theorem sc__law_take : FnScope ["_law_one", "_law_other"] ["_law_one", "_law_other"] (defScope (top 21)) := ⟨rfl, rfl, rfl, by decide +kernel, rfl, by decide +kernel, by decide +kernel⟩
theorem ok__law_take (c1 : Cal P w K mg base "_law_low" 1 ["_law_upper", "_law_lower"] [] fLow) (F : Fun K "_law_take" "_law_take" (top 21) f fd) : FnOk P w K mg base (L2.CX P w) 2 f fd ["_law_one", "_law_other"] (spD K 2 (fTwoL gMinus)) := by
  refine fn_d F sc__law_take _ fun cdv A outer s H E ds o Bx hl hf => ?_
  obtain ⟨a, b, c, d, rfl, T, hg⟩ := fTwoL_inv hf
  obtain ⟨p1, p2, t3, t4, t5, t6⟩ := T
  have m1 := bn_mul t3 t6
  have m2 := bn_mul t5 t4
  have m3 := bn_mul t4 t6
  have w1 := fLow_ok (a := a * d - c * b) (Int.mul_ne_zero p1 p2) (small_prod t4 t6)
  cases hg
  exact ⟨_, .rt _, svs_one (sv_ret (by walk_at "ev"))⟩
theorem sc__law_by : FnScope ["_law_one", "_law_other"] ["_law_one", "_law_other"] (defScope (top 22)) := ⟨rfl, rfl, rfl, by decide +kernel, rfl, by decide +kernel, by decide +kernel⟩
theorem ok__law_by (c1 : Cal P w K mg base "_law_low" 1 ["_law_upper", "_law_lower"] [] fLow) (F : Fun K "_law_by" "_law_by" (top 22) f fd) : FnOk P w K mg base (L2.CX P w) 2 f fd ["_law_one", "_law_other"] (spD K 2 (fTwoL gTimes)) := by
  refine fn_d F sc__law_by _ fun cdv A outer s H E ds o Bx hl hf => ?_
  obtain ⟨a, b, c, d, rfl, T, hg⟩ := fTwoL_inv hf
  obtain ⟨p1, p2, t3, t4, t5, t6⟩ := T
  have m1 := bn_mul t3 t5
  have m3 := bn_mul t4 t6
  have w1 := fLow_ok (a := a * c) (Int.mul_ne_zero p1 p2) (small_prod t4 t6)
  cases hg
  exact ⟨_, .rt _, svs_one (sv_ret (by walk_at "ev"))⟩
theorem sc__law_less : FnScope ["_law_one", "_law_other"] ["_law_one", "_law_other"] (defScope (top 23)) := ⟨rfl, rfl, rfl, by decide +kernel, rfl, by decide +kernel, by decide +kernel⟩
theorem ok__law_less (c1 : Cal P w K mg base "_law_low" 1 ["_law_upper", "_law_lower"] [] fLow) (F : Fun K "_law_less" "_law_less" (top 23) f fd) : FnOk P w K mg base (L2.CX P w) 2 f fd ["_law_one", "_law_other"] (spD K 2 (fTwoL gLess)) := by
  refine fn_d F sc__law_less _ fun cdv A outer s H E ds o Bx hl hf => ?_
  obtain ⟨a, b, c, d, rfl, T, hg⟩ := fTwoL_inv hf
  obtain ⟨p1, p2, t3, t4, t5, t6⟩ := T
  have m1 := bn_mul t3 t6
  have m2 := bn_mul t5 t4
  cases hg
  exact ⟨_, .rt _, svs_one (sv_ret (by walk_at "ev"))⟩
theorem sc__law_by_nought : FnScope ["_law_one", "e"] ["_law_one"] (defScope (top 24)) := ⟨rfl, rfl, rfl, by decide +kernel, rfl, by decide +kernel, by decide +kernel⟩
theorem ok_by_nought {CS : Addr} (m1 : mg "isinstance" = none) (m2 : mg "ValueError" = none) (xW : ExF K mg "NoWorth" CW) (eW : ExcC K CW) (gS : mg "SkyError" = some (.ref CS)) (xS : PySem.W.exmOne K (.ref CW) (.ref CS) = some true) (k1 : PySem.W.kitOne K (.ref CW) (.ref CW) = some true) (k2 : PySem.W.kitOne K (.ref CW) (.type "ValueError") = some true)
    (c1 : Cal P w K mg base "over" 4 ["one", "other"] [] (fTwo (gOver CW))) (F : Fun K "_law_by_nought" "_law_by_nought" (top 24) f fd) : FnOk P w K mg base (L2.CX P w) 5 f fd ["_law_one"] (spD K 1 fByN) := by
  refine fn_d F sc__law_by_nought _ fun cdv A outer s H E ds o Bx hl hf => ?_
  obtain ⟨a, b, rfl, h1, h2, h3, rfl⟩ := fByN_inv hf
  have w1 : fTwo (gOver CW) ([.tup [.int a, .int b], .tup [.int 0, .int 1]] ++ []) = some (.err CW none) := fTwo_ok ⟨h1, rfl, h2, h3, by decide, by decide⟩ (by unfold gOver; rw [Int.mul_zero, if_pos rfl])
  refine ⟨_, .rt _, svs_stop (sv_tryRet (f := none) (C := CW) Bx rfl rfl (by rfl) (by rfl) (by rfl) ⟨by rfl, by decide, Or.inl gS⟩ (fun W' pn xe Bt => svs_one (sv_exprX (by walk_at "ev") (by rfl))) xS (fun a oe dd pn hdd hz hv => ?_)) (fun _ z => by cases z)⟩
  have hd := hdd rfl
  subst hd
  refine svs_one (sv_ret (ev_andT ?_ (ev_one ?_)))
  · exact ev_isE eW hz hv m1 (by rfl) (by walk_at "vis") (by rfl) (by rfl) (by decide) (by decide) (pe_glob (v := .ref CW) (by rfl) xW.g rfl (by decide)) (fun u r => r) k1 (by rfl) (by rfl) (by rfl) (by rfl)
  · exact ev_isE eW hz hv m1 (by rfl) (by walk_at "vis") (by rfl) (by rfl) (by decide) (by decide) (pe_bltn (v := .ty "ValueError") (by rfl) m2 (by decide +kernel) rfl (by decide) (by decide)) (fun u r => r) k2 (by rfl) (by rfl) (by rfl) (by rfl)
theorem sc_law : FnScope ["_law_script", "_law_cells", "_law_cell_here", "_law_row", "_law_some", "_law_k", "_law_part", "_law_upper", "_law_lower", "_law_one", "_law_other", "_law_found", "_law_told", "_law_thing"] ["_law_script"] (defScope (top 25)) := ⟨rfl, rfl, rfl, by decide +kernel, rfl, by decide +kernel, by decide +kernel⟩
open Classical in
noncomputable def fLaw : List Da → Option XO
  | [.lst ds] => if ∃ ns : List Int, ds = ns.map .int ∧ ns.length ≤ 63 then some (.ok (.bl true)) else none
  | _ => none
theorem fLaw_inv {ds : List Da} {o : XO} (h : fLaw ds = some o) : ∃ ns : List Int, ds = [.lst (ns.map .int)] ∧ o = .ok (.bl true) := by
  unfold fLaw at h
  split at h
  · split at h
    · rename_i hh
      obtain ⟨ns, e, _⟩ := hh
      exact ⟨ns, by rw [e], (Option.some.inj h).symm⟩
    · cases h
  · cases h
theorem pl_ints : ∀ ns : List Int, plA (ns.map .int) = true
  | [] => rfl
  | _ :: r => pl_ints r
theorem lay_ints : ∀ ns : List Int, PyData.canLayAll0 (pyA (ns.map .int)) = true
  | [] => rfl
  | _ :: r => lay_ints r
theorem dep_ints : ∀ ns : List Int, PyData.depthAll (pyA (ns.map .int)) ≤ 1
  | [] => Nat.zero_le _
  | _ :: r => Nat.max_le.mpr ⟨Nat.zero_le _, dep_ints r⟩
theorem cmp_ints (ns : List Int) : Cmp (.lst (ns.map .int)) := by
  refine ⟨pl_ints ns, ?_⟩
  unfold SeqAt.shaped
  rw [Bool.and_eq_true_iff]
  refine ⟨lay_ints ns, decide_eq_true ?_⟩
  have := dep_ints ns
  show PyData.depthAll (pyA (ns.map .int)) + 1 ≤ 64
  omega
theorem ok_law (m1 : mg "isinstance" = none) (m2 : mg "bool" = none) (m3 : mg "int" = none) (m4 : mg "range" = none) (m5 : mg "all" = none)
    (cW : Cal P w K mg base "worth" 2 ["top", "bottom"] [] (fWorth CW)) (cW1 : Cal P w K mg base "worth" 2 ["top", "bottom"] [.int 1] (fWorth CW)) (kW1 : CalK P w K mg base "worth" 2 1 ["bottom"] (fun ds es => ds ++ es) (fWorth CW)) (kW0 : CalK P w K mg base "worth" 2 0 ["bottom", "top"] (fun _ es => es.reverse) (fWorth CW))
    (cI : Cal P w K mg base "is_worth" 2 ["thing"] [] fIsWorth) (cP : Cal P w K mg base "plus" 4 ["one", "other"] [] (fTwo gPlus)) (cM : Cal P w K mg base "minus" 4 ["one", "other"] [] (fTwo gMinus)) (cT : Cal P w K mg base "times" 4 ["one", "other"] [] (fTwo gTimes)) (cO : Cal P w K mg base "over" 4 ["one", "other"] [] (fTwo (gOver CW))) (cL : Cal P w K mg base "is_less" 4 ["one", "other"] [] (fTwo gLess))
    (lD : Cal P w K mg base "_law_digits" 1 ["_law_cell_here", "_law_many"] [] fDigits) (lL : Cal P w K mg base "_law_low" 1 ["_law_upper", "_law_lower"] [] fLow) (lA : Cal P w K mg base "_law_add" 2 ["_law_one", "_law_other"] [] (fTwoL gPlus)) (lT : Cal P w K mg base "_law_take" 2 ["_law_one", "_law_other"] [] (fTwoL gMinus)) (lB : Cal P w K mg base "_law_by" 2 ["_law_one", "_law_other"] [] (fTwoL gTimes)) (lS : Cal P w K mg base "_law_less" 2 ["_law_one", "_law_other"] [] (fTwoL gLess)) (lN : Cal P w K mg base "_law_by_nought" 5 ["_law_one"] [] fByN)
    (F : Fun K "law" "law" (top 25) f fd) : FnOk P w K mg base (L2.CX P w) 6 f fd ["_law_script"] (spD K 1 fLaw) := by
  refine fn_d F sc_law _ fun cdv A outer s H E ds o Bx hl hf => ?_
  obtain ⟨ns, rfl, rfl⟩ := fLaw_inv hf
  have c1 := cmp_ints (ns.take 10)
  have c2 := cmp_ints []
  have cut : Sky.cutD (ns.map Da.int) none (some 10) = .map .int (ns.take 10) := by
    unfold Sky.cutD
    show ((ns.map Da.int).drop 0).take (min 10 _ - 0) = _
    rw [List.drop_zero, Nat.sub_zero, List.map_take]
    by_cases hh : 10 ≤ (ns.map Da.int).length
    · rw [Nat.min_eq_left hh]
    · rw [Nat.min_eq_right (by omega), List.take_of_length_le (Nat.le_refl _), List.take_of_length_le (by omega)]
  obtain ⟨cs, hcs⟩ : ∃ cs : List Int, cs = if ns.take 10 = [] then [4, 19, 300] else ns.take 10 := ⟨_, rfl⟩
  refine ⟨_, .rt _, svs_cons (e1 := [.da (.lst (ns.map .int)), .da (.lst ((ns.take 10).map .int)), .no, .no, .no, .no, .no, .no, .no, .no, .no, .no, .no, .no]) (by apply sv_set; (· assumption); (· exact EV.to (by walk_at "ev") (congrArg Da.lst cut)); (· rfl); (· rfl); (· walk_at "vis"); (· exact Or.inl rfl); (· rfl); (· rfl)) (svs_cons (e1 := [.da (.lst (ns.map .int)), .da (.lst (cs.map .int)), .no, .no, .no, .no, .no, .no, .no, .no, .no, .no, .no, .no]) ?_ (svs_cons (e1 := [.da (.lst (ns.map .int)), .da (.lst (cs.map .int)), .no, .no, .no, .no, .no, .no, .no, .no, .no, .no, .no, .no]) ?_ (svs_one (sv_ret ev_bl))))⟩
  · by_cases hn : ns.take 10 = []
    · rw [if_pos hn] at hcs
      refine sv_ifT (EVT.is (by walk_at "evt") ?_) (svs_one ?_)
      · rw [hn]; rfl
      · rw [hcs]; walk_at "set"
    · rw [if_neg hn] at hcs
      refine sv_ifF (EVT.is (by walk_at "evt") ?_) ?_
      · show PyData.eqvAll (pyA ((ns.take 10).map .int)) (pyA (([] : List Int).map .int)) = false
        rw [eqv_ints]
        exact decide_eq_false hn
      · rw [hcs]; exact svs_nil
  · clear hcs
    apply sv_forL Bx (fun _ => [.da (.lst (ns.map .int)), .da (.lst (cs.map .int)), .no, .no, .no, .no, .no, .no, .no, .no, .no, .no, .no, .no]) (ds := cs.map .int)
    · rfl
    · rfl
    · walk_at "vis"
    · exact Or.inl rfl
    · walk_at "ev"
    · rfl
    · intro _; rfl
    · intro i0 d0 hd0
      obtain ⟨c, rfl⟩ : ∃ c : Int, d0 = .int c := by
        rw [List.getElem?_map] at hd0
        cases hq : cs[i0]? with
        | none => rw [hq] at hd0; cases hd0
        | some c => rw [hq] at hd0; exact ⟨c, (Option.some.inj hd0).symm⟩
      have fd1 : fDigits ([.int c, .int 16] ++ []) = some (.ok (.lst ((digs c 16).map .int))) := fDigits_ok (n := 16) (by decide)
      refine svs_cons (e1 := [.da (.lst (ns.map .int)), .da (.lst (cs.map .int)), .da (.int c), .da (.lst ((digs c 16).map .int)), .no, .no, .no, .no, .no, .no, .no, .no, .no, .no]) (by walk_at "set") (svs_cons (e1 := [.da (.lst (ns.map .int)), .da (.lst (cs.map .int)), .da (.int c), .da (.lst ((digs c 16).map .int)), .own [], .no, .no, .no, .no, .no, .no, .no, .no, .no]) (by walk_at "setL") (svs_cons (e1 := [.da (.lst (ns.map .int)), .da (.lst (cs.map .int)), .da (.int c), .da (.lst ((digs c 16).map .int)), .own ((List.range (2)).map fun k => lw (U c k) (L c k)), .no, .no, .no, .no, .no, .no, .no, .no, .no]) ?_ ?_))
      · apply sv_forR Bx (fun i => [.da (.lst (ns.map .int)), .da (.lst (cs.map .int)), .da (.int c), .da (.lst ((digs c 16).map .int)), .own ((List.range (i)).map fun k => lw (U c k) (L c k)), .no, .no, .no, .no, .no, .no, .no, .no, .no]) (m := 2)
        · rfl
        · rfl
        · walk_at "vis"
        · exact Or.inl rfl
        · exact m4
        · walk_at "eva"
        · decide
        · rfl
        · rfl
        · rfl
        · intro i hi
          have dg := qd_dg c i
          have part := part_is c i hi
          have x0 : CMulW 8 (i : Int) := cm64 (by decide) (by omega)
          have q0 := dg.lo 0
          have q0' := dg.hi 0
          have q5 := dg.lo 5
          have q5' := dg.hi 5
          have x1 : CMulW (qd c i 0) 1009 := cm64 (by omega) (by decide)
          have x2 : CMulW (qd c i 5) 1009 := cm64 (by omega) (by decide)
          have b1 := d1_bd dg
          have a1 := d1_at dg
          have x3 : CDivW (qd c i 0 * 1009 + qd c i 1) (d1 (qd c i)) := wide_div (b := 64) (by omega) (by omega) (by decide) (by decide)
          have a2 : atI [Da.int (u1 (qd c i)), .int ((10 : Int) ^ (12 : Int).toNat - u1 (qd c i))] (if deq (.int (qd c i 2 % 9)) (.int 7) = true then 1 else 0) = some (.int (u2 (qd c i))) := pick2 (P := True) _ _ _
          have a3 := d3_at dg
          have b2 := u2_bd dg
          have b3 := d3_bd dg
          have x4 : CMulW (u2 (qd c i)) (d3 (qd c i)) := cm64 (by omega) (by omega)
          have a4 := d4_at dg
          have bU := up_bd dg
          have bL := lo_bd dg
          have nU : Bn (U c i) := bn_of bU
          have nL : Bn (L c i) := bn_of ⟨by unfold L; omega, bL.2⟩
          have hL : L c i ≠ 0 := by unfold L; omega
          have sL := small_of nL
          have w0 := fLow_ok (a := U c i) hL sL
          have w1 := fWorth_ok (C := CW) (a := U c i) hL sL
          have w2 : fWorth CW ([.int (0 - U c i)] ++ [.int (0 - L c i)]) = some (.ok (lw (0 - U c i) (0 - L c i))) := fWorth_ok (by omega) (small_of (bn_neg nL))
          have w3 : fWorth CW ([.int (U c i)] ++ [.int 1]) = some (.ok (lw (U c i) 1)) := fWorth_ok (by decide) (by decide)
          have w4 : fWorth CW ([.int (L c i), .int (U c i)].reverse) = some (.ok (lw (U c i) (L c i))) := w1
          have w5 : fIsWorth ([lw (U c i) (L c i)] ++ []) = some (.ok (.bl true)) := worth_int (lw_isW _ hL)
          have l5 : ((List.range i).map fun k => lw (U c k) (L c k)).length < 100000 := by rw [List.length_map, List.length_range]; omega
          have a5 : atI (((List.range i).map fun k => lw (U c k) (L c k)) ++ [lw (U c i) (L c i)]) (-1) = some (lw (U c i) (L c i)) := at_last
          refine svs_weak (svs_cons (e1 := [.da (.lst (ns.map .int)), .da (.lst (cs.map .int)), .da (.int c), .da (.lst ((digs c 16).map .int)), .own ((List.range (i)).map fun k => lw (U c k) (L c k)), .da (.int (i : Int)), .da (.lst [.int (qd c i 0), .int (qd c i 1), .int (qd c i 2), .int (qd c i 3), .int (qd c i 4), .int (qd c i 5), .int (qd c i 6), .int (qd c i 7)]), .no, .no, .no, .no, .no, .no, .no]) (by apply sv_set; (· assumption); (· exact EV.to (by walk_at "ev") (congrArg Da.lst part)); (· rfl); (· rfl); (· walk_at "vis"); (· exact Or.inl rfl); (· rfl); (· rfl)) (svs_cons (e1 := [.da (.lst (ns.map .int)), .da (.lst (cs.map .int)), .da (.int c), .da (.lst ((digs c 16).map .int)), .own ((List.range (i)).map fun k => lw (U c k) (L c k)), .da (.int (i : Int)), .da (.lst [.int (qd c i 0), .int (qd c i 1), .int (qd c i 2), .int (qd c i 3), .int (qd c i 4), .int (qd c i 5), .int (qd c i 6), .int (qd c i 7)]), .da (.int (u1 (qd c i))), .no, .no, .no, .no, .no, .no]) (by walk_at "set") (svs_cons (e1 := [.da (.lst (ns.map .int)), .da (.lst (cs.map .int)), .da (.int c), .da (.lst ((digs c 16).map .int)), .own ((List.range (i)).map fun k => lw (U c k) (L c k)), .da (.int (i : Int)), .da (.lst [.int (qd c i 0), .int (qd c i 1), .int (qd c i 2), .int (qd c i 3), .int (qd c i 4), .int (qd c i 5), .int (qd c i 6), .int (qd c i 7)]), .da (.int (U c i)), .no, .no, .no, .no, .no, .no]) (by walk_at "set") (svs_cons (e1 := [.da (.lst (ns.map .int)), .da (.lst (cs.map .int)), .da (.int c), .da (.lst ((digs c 16).map .int)), .own ((List.range (i)).map fun k => lw (U c k) (L c k)), .da (.int (i : Int)), .da (.lst [.int (qd c i 0), .int (qd c i 1), .int (qd c i 2), .int (qd c i 3), .int (qd c i 4), .int (qd c i 5), .int (qd c i 6), .int (qd c i 7)]), .da (.int (U c i)), .da (.int (L c i)), .no, .no, .no, .no, .no]) (by walk_at "set") (svs_cons (e1 := [.da (.lst (ns.map .int)), .da (.lst (cs.map .int)), .da (.int c), .da (.lst ((digs c 16).map .int)), .own (((List.range i).map fun k => lw (U c k) (L c k)) ++ [lw (U c i) (L c i)]), .da (.int (i : Int)), .da (.lst [.int (qd c i 0), .int (qd c i 1), .int (qd c i 2), .int (qd c i 3), .int (qd c i 4), .int (qd c i 5), .int (qd c i 6), .int (qd c i 7)]), .da (.int (U c i)), .da (.int (L c i)), .no, .no, .no, .no, .no]) (by walk_at "app") (svs_cons (e1 := [.da (.lst (ns.map .int)), .da (.lst (cs.map .int)), .da (.int c), .da (.lst ((digs c 16).map .int)), .own (((List.range i).map fun k => lw (U c k) (L c k)) ++ [lw (U c i) (L c i)]), .da (.int (i : Int)), .da (.lst [.int (qd c i 0), .int (qd c i 1), .int (qd c i 2), .int (qd c i 3), .int (qd c i 4), .int (qd c i 5), .int (qd c i 6), .int (qd c i 7)]), .da (.int (U c i)), .da (.int (L c i)), .no, .no, .no, .no, .no]) ?_ (svs_one (ou := .nx [.da (.lst (ns.map .int)), .da (.lst (cs.map .int)), .da (.int c), .da (.lst ((digs c 16).map .int)), .own (((List.range i).map fun k => lw (U c k) (L c k)) ++ [lw (U c i) (L c i)]), .da (.int (i : Int)), .da (.lst [.int (qd c i 0), .int (qd c i 1), .int (qd c i 2), .int (qd c i 3), .int (qd c i 4), .int (qd c i 5), .int (qd c i 6), .int (qd c i 7)]), .da (.int (U c i)), .da (.int (L c i)), .no, .no, .no, .no, .no]) ?_))))))) (by rw [List.range_succ, List.map_append]; exact .eq (.eq (.eq (.eq (.eq (.no (.no (.no (.no (.eq (.eq (.eq (.eq (.eq .nil))))))))))))))
          · refine sv_ifF (evt_w (evw_orF (EVT.is (by walk_at "evt") ?_) (evw_or1 (EVT.is (by walk_at "evt") ?_)))) svs_nil
            · rw [deq_self ⟨rfl, rfl⟩]; rfl
            · rw [lw_neg _ hL, deq_self ⟨rfl, rfl⟩]; rfl
          · refine sv_ifF (evt_w (evw_orF (EVT.is (by walk_at "evt") ?_) (evw_orF (EVT.is (by walk_at "evt") ?_) (evw_or1 (EVT.is (by walk_at "evt") (by rfl)))))) svs_nil
            · rw [lw_one, deq_self ⟨rfl, rfl⟩]; rfl
            · rw [deq_self ⟨rfl, rfl⟩]; rfl
      · have dg0 := qd_dg c 0
        have dg1 := qd_dg c 1
        have nU0 : Bn (U c 0) := bn_of (up_bd dg0)
        have nU1 : Bn (U c 1) := bn_of (up_bd dg1)
        have bL0 := lo_bd dg0
        have bL1 := lo_bd dg1
        have nL0 : Bn (L c 0) := bn_of ⟨by unfold L; omega, bL0.2⟩
        have nL1 : Bn (L c 1) := bn_of ⟨by unfold L; omega, bL1.2⟩
        have hL0 : L c 0 ≠ 0 := by unfold L; omega
        have hL1 : L c 1 ≠ 0 := by unfold L; omega
        have i0 := lw_isW (U c 0) hL0
        have i1 := lw_isW (U c 1) hL1
        have na := bn_le nU0 (tp_le (U c 0) hL0)
        have nb := bn_le nL0 (bt_le (U c 0) hL0)
        have nc := bn_le nU1 (tp_le (U c 1) hL1)
        have nd := bn_le nL1 (bt_le (U c 1) hL1)
        refine svs_freeze (n := 4) rfl (svs_cons (e1 := [.da (.lst (ns.map .int)), .da (.lst (cs.map .int)), .da (.int c), .da (.lst ((digs c 16).map .int)), .da (.lst ((List.range 2).map fun k => lw (U c k) (L c k))), .no, .no, .no, .no, .da (lw (U c 0) (L c 0)), .da (lw (U c 1) (L c 1)), .no, .no, .no]) (by walk_at "unL") ?_)
        rw [lw_is, lw_is]
        generalize tp (U c 0) (L c 0) = ta at *
        generalize bt (U c 0) (L c 0) = tb at *
        generalize tp (U c 1) (L c 1) = tc at *
        generalize bt (U c 1) (L c 1) = td at *
        have pb := isW_pos i0
        have pd := isW_pos i1
        have T : Two ta tb tc td := ⟨i0, i1, na, nb, nc, nd⟩
        have TL : TwoL ta tb tc td := ⟨by omega, by omega, na, nb, nc, nd⟩
        have g1 := fTwo_ok (g := gPlus) T rfl
        have g2 := fTwo_ok (g := gMinus) T rfl
        have g3 := fTwo_ok (g := gTimes) T rfl
        have g4 := fTwo_ok (g := gLess) T rfl
        have g5 := fTwo_ok (g := gLess) (⟨i0, i0, na, nb, na, nb⟩ : Two ta tb ta tb) rfl
        have r1 := fTwoL_ok (g := gPlus) TL rfl
        have r2 := fTwoL_ok (g := gMinus) TL rfl
        have r3 := fTwoL_ok (g := gTimes) TL rfl
        have r4 := fTwoL_ok (g := gLess) TL rfl
        have v1 := fByN_ok i0 na nb
        refine svs_weak (svs_cons (e1 := ([.da (.lst (ns.map .int)), .da (.lst (cs.map .int)), .da (.int c), .da (.lst ((digs c 16).map .int)), .da (.lst ((List.range 2).map fun k => lw (U c k) (L c k))), .no, .no, .no, .no, .da (.tup [.int ta, .int tb]), .da (.tup [.int tc, .int td]), .da (.lst [lw (ta * td + tc * tb) (tb * td), lw (ta * td - tc * tb) (tb * td), lw (ta * tc) (tb * td)]), .no, .no])) (by walk_at "set") (svs_cons (e1 := ([.da (.lst (ns.map .int)), .da (.lst (cs.map .int)), .da (.int c), .da (.lst ((digs c 16).map .int)), .da (.lst ((List.range 2).map fun k => lw (U c k) (L c k))), .no, .no, .no, .no, .da (.tup [.int ta, .int tb]), .da (.tup [.int tc, .int td]), .da (.lst [lw (ta * td + tc * tb) (tb * td), lw (ta * td - tc * tb) (tb * td), lw (ta * tc) (tb * td)]), .no, .no])) ?_ (svs_cons (e1 := ([.da (.lst (ns.map .int)), .da (.lst (cs.map .int)), .da (.int c), .da (.lst ((digs c 16).map .int)), .da (.lst ((List.range 2).map fun k => lw (U c k) (L c k))), .no, .no, .no, .no, .da (.tup [.int ta, .int tb]), .da (.tup [.int tc, .int td]), .da (.lst [lw (ta * td + tc * tb) (tb * td), lw (ta * td - tc * tb) (tb * td), lw (ta * tc) (tb * td)]), .da (.bl (decide (ta * td < tc * tb))), .no])) (by walk_at "set") (svs_cons (e1 := ([.da (.lst (ns.map .int)), .da (.lst (cs.map .int)), .da (.int c), .da (.lst ((digs c 16).map .int)), .da (.lst ((List.range 2).map fun k => lw (U c k) (L c k))), .no, .no, .no, .no, .da (.tup [.int ta, .int tb]), .da (.tup [.int tc, .int td]), .da (.lst [lw (ta * td + tc * tb) (tb * td), lw (ta * td - tc * tb) (tb * td), lw (ta * tc) (tb * td)]), .da (.bl (decide (ta * td < tc * tb))), .no])) ?_ (svs_cons (e1 := ([.da (.lst (ns.map .int)), .da (.lst (cs.map .int)), .da (.int c), .da (.lst ((digs c 16).map .int)), .da (.lst ((List.range 2).map fun k => lw (U c k) (L c k))), .no, .no, .no, .no, .da (.tup [.int ta, .int tb]), .da (.tup [.int tc, .int td]), .da (.lst [lw (ta * td + tc * tb) (tb * td), lw (ta * td - tc * tb) (tb * td), lw (ta * tc) (tb * td)]), .da (.bl (decide (ta * td < tc * tb))), .no])) ?_ (svs_one (ou := .nx ([.da (.lst (ns.map .int)), .da (.lst (cs.map .int)), .da (.int c), .da (.lst ((digs c 16).map .int)), .da (.lst ((List.range 2).map fun k => lw (U c k) (L c k))), .no, .no, .no, .no, .da (.tup [.int ta, .int tb]), .da (.tup [.int tc, .int td]), .da (.lst [lw (ta * td + tc * tb) (tb * td), lw (ta * td - tc * tb) (tb * td), lw (ta * tc) (tb * td)]), .da (.bl (decide (ta * td < tc * tb))), .no])) ?_)))))) (.eq (.eq (.no (.no (.no (.no (.no (.no (.no (.no (.no (.no (.no (.no .nil))))))))))))))
        · exact sv_ifF (EVT.is (by walk_at "evt") (by rw [deq_self ⟨rfl, rfl⟩]; rfl)) svs_nil
        · exact sv_ifF (evt_w (evw_orF (EVT.is (by walk_at "evt") (by decide +kernel)) (evw_orF (EVT.is (by walk_at "evt") (by rw [deq_self ⟨rfl, rfl⟩]; rfl)) (evw_or1 (EVT.is (by walk_at "evt") (decide_eq_false (Int.lt_irrefl _))))))) svs_nil
        · by_cases hc : tc = 0
          · exact sv_ifF (evt_w (evw_andF (EVT.is (by walk_at "evt") (by rw [hc]; rfl)))) svs_nil
          · have hbc : tb * tc ≠ 0 := Int.mul_ne_zero (by omega) hc
            have g6 : fTwo (gOver CW) ([.tup [.int ta, .int tb], .tup [.int tc, .int td]] ++ []) = some (.ok (lw (ta * td) (tb * tc))) := fTwo_ok T (by unfold gOver; rw [if_neg hbc])
            have r6 := fLow_ok (a := ta * td) hbc (small_prod nb nc)
            have m6 := bn_mul na nd
            have m7 := bn_mul nb nc
            exact sv_ifF (evt_w (evw_andT (EVT.is (by walk_at "evt") (by rw [deq_int]; simpa using hc)) (evw_and1 (EVT.is (by walk_at "evt") (by rw [deq_self ⟨rfl, rfl⟩]; rfl))))) svs_nil
        · have bd : tb * td ≠ 0 := Int.mul_ne_zero (by omega) (by omega)
          refine sv_ifF (evt_w (evw_orF (EVT.is (by walk_at "evt") (by rfl)) (evw_or1 (EVT.is (u := !true) (evt_not (evt_val ?_ (fun _ => rfl))) rfl)))) svs_nil
          refine ev_cb (d := .bl true) (cr_all Bx.calm) (eva_cons (EVL.ev (evl_lc (j := 13) Bx (fun _ => .bl true) (by walk_at "ev") (Nat.le_of_ble_eq_true rfl) (by rfl) (blkOk_by (N := ["_law_script", "_law_cells", "_law_cell_here", "_law_row", "_law_some", "_law_k", "_law_part", "_law_upper", "_law_lower", "_law_one", "_law_other", "_law_found", "_law_told", "_law_thing"]) (sc := defScope (top 25)) (by decide +kernel)) (fun s H C cl fp => pg_name Bx.nd (by rfl) (Or.inl rfl)) (fun _ => rfl) (fun s H C cl fp d hd => ?_))) eva_nil (by rfl)) (rc_all (bs := [true, true, true])) (by rfl) m5 (by decide +kernel) (by decide) (by decide) (by rfl) (by rfl)
          have hw : fIsWorth ([d] ++ []) = some (.ok (.bl true)) := by
            simp only [List.mem_cons, List.not_mem_nil, or_false] at hd
            rcases hd with rfl | rfl | rfl <;> exact worth_int (lw_isW _ bd)
          exact ev_cal (dds := []) cI (bd_blk Bx Bx.nd) (by decide) (by walk_at "eva") hw (by rfl) (by rfl) (by decide) (by rfl) (by rfl)
theorem fLaw_ok {ns : List Int} (h : ns.length ≤ 63) : fLaw [.lst (ns.map .int)] = some (.ok (.bl true)) := if_pos ⟨ns, rfl, h⟩
end
end T01
namespace T01
open PySem L2 Evl PySem.Spec PyProof.Rows Sky K01
theorem vals_rev : ∀ {xs : List V} {us : List Value}, Vals xs us → Vals xs.reverse us.reverse
  | _, _, .nil => .nil
  | _, _, .cons h t => by
    rw [List.reverse_cons, List.reverse_cons]
    exact (vals_rev t).append (.cons h .nil)
theorem worth_binds2 {K : PySem.W.Frag} {f : Addr} {fd : FuncData} (F : FunDS K "worth" "worth" (top 8) [.int 1] [] f fd) : Binds K fd ["top", "bottom"] [] := by
  obtain ⟨its, kb⟩ := Sky.FunD.kb1 (ps := ["top", "bottom"]) F 2 [] (fun us _ _ => us) (by simp) (fun r1 _ _ => r1) (fun T kV doc pm an cdv ct us its ws h1 h2 h3 => match us, its, ws, h1, h2, h3 with | [_, _], [_], [], _, _, _ => ⟨_, rfl, rfl⟩)
  intro s us hk hl
  rw [List.append_nil] at hl ⊢
  exact kb.to s us [] hk hl rfl
theorem all_mk {P : Program} {w : World} {K : PySem.W.Frag} {h : Heap} {mg : Str → Option Value} {fa : Addr} (X : K.In h) (G : h.Ns mainGlobals mg) (hfa : mg "law" = some (.ref fa))
    {CW : Addr}
    {f0 : Addr} {od0 an0 : Option Addr} {sl0 : Array (Option Value)} {oc0 kV0 dc0 pm0 cd0 ct0 : Value}
    {T1 : Addr} {cT1 : Value} {dT1 : Option Addr} {tk1 : Tok} {nT1 : Nat} {sT1 : Array (Option Value)}
    {f1 : Addr} {od1 an1 : Option Addr} {sl1 : Array (Option Value)} {oc1 kV1 dc1 pm1 cd1 ct1 : Value}
    {f2 : Addr} {od2 an2 : Option Addr} {sl2 : Array (Option Value)} {oc2 kV2 dc2 pm2 cd2 ct2 : Value}
    {f3 : Addr} {od3 an3 : Option Addr} {sl3 : Array (Option Value)} {oc3 kV3 dc3 pm3 cd3 ct3 : Value}
    {f4 : Addr} {od4 an4 : Option Addr} {sl4 : Array (Option Value)} {oc4 kV4 dc4 pm4 cd4 ct4 : Value}
    {f5 : Addr} {od5 an5 : Option Addr} {sl5 : Array (Option Value)} {oc5 kV5 dc5 pm5 cd5 ct5 : Value}
    {f6 : Addr} {od6 an6 : Option Addr} {sl6 : Array (Option Value)} {oc6 kV6 dc6 pm6 cd6 ct6 : Value}
    {f7 : Addr} {od7 an7 : Option Addr} {sl7 : Array (Option Value)} {oc7 kV7 dc7 pm7 cd7 ct7 : Value}
    {f8 : Addr} {od8 an8 : Option Addr} {sl8 : Array (Option Value)} {oc8 kV8 dc8 pm8 cd8 ct8 : Value}
    {f9 : Addr} {od9 an9 : Option Addr} {sl9 : Array (Option Value)} {oc9 kV9 dc9 pm9 cd9 ct9 : Value}
    {f10 : Addr} {od10 an10 : Option Addr} {sl10 : Array (Option Value)} {oc10 kV10 dc10 pm10 cd10 ct10 : Value}
    {f11 : Addr} {od11 an11 : Option Addr} {sl11 : Array (Option Value)} {oc11 kV11 dc11 pm11 cd11 ct11 : Value}
    {f12 : Addr} {od12 an12 : Option Addr} {sl12 : Array (Option Value)} {oc12 kV12 dc12 pm12 cd12 ct12 : Value}
    {f13 : Addr} {od13 an13 : Option Addr} {sl13 : Array (Option Value)} {oc13 kV13 dc13 pm13 cd13 ct13 : Value}
    {f14 : Addr} {od14 an14 : Option Addr} {sl14 : Array (Option Value)} {oc14 kV14 dc14 pm14 cd14 ct14 : Value}
    {f15 : Addr} {od15 an15 : Option Addr} {sl15 : Array (Option Value)} {oc15 kV15 dc15 pm15 cd15 ct15 : Value}
    {f16 : Addr} {od16 an16 : Option Addr} {sl16 : Array (Option Value)} {oc16 kV16 dc16 pm16 cd16 ct16 : Value}
    {f17 : Addr} {od17 an17 : Option Addr} {sl17 : Array (Option Value)} {oc17 kV17 dc17 pm17 cd17 ct17 : Value}
    {CS : Addr}
    (a0 : PySem.W.nsIn K mainGlobals "is_whole" = some (some (.ref f0)))
    (l0 : K.lookup f0 = some ⟨oc0, od0, .func (PySem.W.fnOf "is_whole" "is_whole" (defArgs (top 7)) (defBody (top 7)) (defScope (top 7)) .none kV0 dc0 pm0 an0 cd0 ct0), sl0⟩)
    (c0 : PySem.W.codeIn K cd0 "is_whole" = true)
    (k0 : PySem.W.keepIn K (.ref f0) = true)
    (a1 : PySem.W.nsIn K mainGlobals "worth" = some (some (.ref f1)))
    (l1 : K.lookup f1 = some ⟨oc1, od1, .func (PySem.W.fnOf "worth" "worth" (defArgs (top 8)) (defBody (top 8)) (defScope (top 8)) (.ref T1) kV1 dc1 pm1 an1 cd1 ct1), sl1⟩)
    (c1 : PySem.W.codeIn K cd1 "worth" = true)
    (k1 : PySem.W.keepIn K (.ref f1) = true)
    (t1 : K.lookup T1 = some ⟨cT1, dT1, .seq ([Value.int 1 tk1].toArray) nT1, sT1⟩)
    (a2 : PySem.W.nsIn K mainGlobals "is_tuple" = some (some (.ref f2)))
    (l2 : K.lookup f2 = some ⟨oc2, od2, .func (PySem.W.fnOf "is_tuple" "is_tuple" (defArgs (top 5)) (defBody (top 5)) (defScope (top 5)) .none kV2 dc2 pm2 an2 cd2 ct2), sl2⟩)
    (c2 : PySem.W.codeIn K cd2 "is_tuple" = true)
    (k2 : PySem.W.keepIn K (.ref f2) = true)
    (a3 : PySem.W.nsIn K mainGlobals "is_worth" = some (some (.ref f3)))
    (l3 : K.lookup f3 = some ⟨oc3, od3, .func (PySem.W.fnOf "is_worth" "is_worth" (defArgs (top 9)) (defBody (top 9)) (defScope (top 9)) .none kV3 dc3 pm3 an3 cd3 ct3), sl3⟩)
    (c3 : PySem.W.codeIn K cd3 "is_worth" = true)
    (k3 : PySem.W.keepIn K (.ref f3) = true)
    (a4 : PySem.W.nsIn K mainGlobals "_refuse_others" = some (some (.ref f4)))
    (l4 : K.lookup f4 = some ⟨oc4, od4, .func (PySem.W.fnOf "_refuse_others" "_refuse_others" (defArgs (top 10)) (defBody (top 10)) (defScope (top 10)) .none kV4 dc4 pm4 an4 cd4 ct4), sl4⟩)
    (c4 : PySem.W.codeIn K cd4 "_refuse_others" = true)
    (k4 : PySem.W.keepIn K (.ref f4) = true)
    (a5 : PySem.W.nsIn K mainGlobals "plus" = some (some (.ref f5)))
    (l5 : K.lookup f5 = some ⟨oc5, od5, .func (PySem.W.fnOf "plus" "plus" (defArgs (top 11)) (defBody (top 11)) (defScope (top 11)) .none kV5 dc5 pm5 an5 cd5 ct5), sl5⟩)
    (c5 : PySem.W.codeIn K cd5 "plus" = true)
    (k5 : PySem.W.keepIn K (.ref f5) = true)
    (a6 : PySem.W.nsIn K mainGlobals "minus" = some (some (.ref f6)))
    (l6 : K.lookup f6 = some ⟨oc6, od6, .func (PySem.W.fnOf "minus" "minus" (defArgs (top 12)) (defBody (top 12)) (defScope (top 12)) .none kV6 dc6 pm6 an6 cd6 ct6), sl6⟩)
    (c6 : PySem.W.codeIn K cd6 "minus" = true)
    (k6 : PySem.W.keepIn K (.ref f6) = true)
    (a7 : PySem.W.nsIn K mainGlobals "times" = some (some (.ref f7)))
    (l7 : K.lookup f7 = some ⟨oc7, od7, .func (PySem.W.fnOf "times" "times" (defArgs (top 13)) (defBody (top 13)) (defScope (top 13)) .none kV7 dc7 pm7 an7 cd7 ct7), sl7⟩)
    (c7 : PySem.W.codeIn K cd7 "times" = true)
    (k7 : PySem.W.keepIn K (.ref f7) = true)
    (a8 : PySem.W.nsIn K mainGlobals "over" = some (some (.ref f8)))
    (l8 : K.lookup f8 = some ⟨oc8, od8, .func (PySem.W.fnOf "over" "over" (defArgs (top 14)) (defBody (top 14)) (defScope (top 14)) .none kV8 dc8 pm8 an8 cd8 ct8), sl8⟩)
    (c8 : PySem.W.codeIn K cd8 "over" = true)
    (k8 : PySem.W.keepIn K (.ref f8) = true)
    (a9 : PySem.W.nsIn K mainGlobals "is_less" = some (some (.ref f9)))
    (l9 : K.lookup f9 = some ⟨oc9, od9, .func (PySem.W.fnOf "is_less" "is_less" (defArgs (top 15)) (defBody (top 15)) (defScope (top 15)) .none kV9 dc9 pm9 an9 cd9 ct9), sl9⟩)
    (c9 : PySem.W.codeIn K cd9 "is_less" = true)
    (k9 : PySem.W.keepIn K (.ref f9) = true)
    (a10 : PySem.W.nsIn K mainGlobals "_law_digits" = some (some (.ref f10)))
    (l10 : K.lookup f10 = some ⟨oc10, od10, .func (PySem.W.fnOf "_law_digits" "_law_digits" (defArgs (top 18)) (defBody (top 18)) (defScope (top 18)) .none kV10 dc10 pm10 an10 cd10 ct10), sl10⟩)
    (c10 : PySem.W.codeIn K cd10 "_law_digits" = true)
    (k10 : PySem.W.keepIn K (.ref f10) = true)
    (a11 : PySem.W.nsIn K mainGlobals "_law_low" = some (some (.ref f11)))
    (l11 : K.lookup f11 = some ⟨oc11, od11, .func (PySem.W.fnOf "_law_low" "_law_low" (defArgs (top 19)) (defBody (top 19)) (defScope (top 19)) .none kV11 dc11 pm11 an11 cd11 ct11), sl11⟩)
    (c11 : PySem.W.codeIn K cd11 "_law_low" = true)
    (k11 : PySem.W.keepIn K (.ref f11) = true)
    (a12 : PySem.W.nsIn K mainGlobals "_law_add" = some (some (.ref f12)))
    (l12 : K.lookup f12 = some ⟨oc12, od12, .func (PySem.W.fnOf "_law_add" "_law_add" (defArgs (top 20)) (defBody (top 20)) (defScope (top 20)) .none kV12 dc12 pm12 an12 cd12 ct12), sl12⟩)
    (c12 : PySem.W.codeIn K cd12 "_law_add" = true)
    (k12 : PySem.W.keepIn K (.ref f12) = true)
    (a13 : PySem.W.nsIn K mainGlobals "_law_take" = some (some (.ref f13)))
    (l13 : K.lookup f13 = some ⟨oc13, od13, .func (PySem.W.fnOf "_law_take" "_law_take" (defArgs (top 21)) (defBody (top 21)) (defScope (top 21)) .none kV13 dc13 pm13 an13 cd13 ct13), sl13⟩)
    (c13 : PySem.W.codeIn K cd13 "_law_take" = true)
    (k13 : PySem.W.keepIn K (.ref f13) = true)
    (a14 : PySem.W.nsIn K mainGlobals "_law_by" = some (some (.ref f14)))
    (l14 : K.lookup f14 = some ⟨oc14, od14, .func (PySem.W.fnOf "_law_by" "_law_by" (defArgs (top 22)) (defBody (top 22)) (defScope (top 22)) .none kV14 dc14 pm14 an14 cd14 ct14), sl14⟩)
    (c14 : PySem.W.codeIn K cd14 "_law_by" = true)
    (k14 : PySem.W.keepIn K (.ref f14) = true)
    (a15 : PySem.W.nsIn K mainGlobals "_law_less" = some (some (.ref f15)))
    (l15 : K.lookup f15 = some ⟨oc15, od15, .func (PySem.W.fnOf "_law_less" "_law_less" (defArgs (top 23)) (defBody (top 23)) (defScope (top 23)) .none kV15 dc15 pm15 an15 cd15 ct15), sl15⟩)
    (c15 : PySem.W.codeIn K cd15 "_law_less" = true)
    (k15 : PySem.W.keepIn K (.ref f15) = true)
    (a16 : PySem.W.nsIn K mainGlobals "_law_by_nought" = some (some (.ref f16)))
    (l16 : K.lookup f16 = some ⟨oc16, od16, .func (PySem.W.fnOf "_law_by_nought" "_law_by_nought" (defArgs (top 24)) (defBody (top 24)) (defScope (top 24)) .none kV16 dc16 pm16 an16 cd16 ct16), sl16⟩)
    (c16 : PySem.W.codeIn K cd16 "_law_by_nought" = true)
    (k16 : PySem.W.keepIn K (.ref f16) = true)
    (a17 : PySem.W.nsIn K mainGlobals "law" = some (some (.ref f17)))
    (l17 : K.lookup f17 = some ⟨oc17, od17, .func (PySem.W.fnOf "law" "law" (defArgs (top 25)) (defBody (top 25)) (defScope (top 25)) .none kV17 dc17 pm17 an17 cd17 ct17), sl17⟩)
    (c17 : PySem.W.codeIn K cd17 "law" = true)
    (k17 : PySem.W.keepIn K (.ref f17) = true)
    (z_isinstance : PySem.W.nsIn K mainGlobals "isinstance" = some none)
    (z_int : PySem.W.nsIn K mainGlobals "int" = some none)
    (z_bool : PySem.W.nsIn K mainGlobals "bool" = some none)
    (z_tuple : PySem.W.nsIn K mainGlobals "tuple" = some none)
    (z_len : PySem.W.nsIn K mainGlobals "len" = some none)
    (z_range : PySem.W.nsIn K mainGlobals "range" = some none)
    (z_all : PySem.W.nsIn K mainGlobals "all" = some none)
    (z_abs : PySem.W.nsIn K mainGlobals "abs" = some none)
    (z_ValueError : PySem.W.nsIn K mainGlobals "ValueError" = some none)
    (zg_gcd : PySem.W.nsIn K mainGlobals "gcd" = some (some (.builtin "math.gcd")))
    (eg : PySem.W.nsIn K mainGlobals "NoWorth" = some (some (.ref CW)))
    (ex : PySem.W.excIn K CW veB "ValueError.__new__" = true)
    (ek : PySem.W.keepIn K (.ref CW) = true)
    (eb : PySem.W.subIn K (.ref CW) (.type "BaseException") = some true)
    (et : PySem.W.typeIn K (.ref CW) = some (.type "type"))
    (e1 : PySem.W.findIn K (.ref CW) "__getattribute__" = some (some (.builtin "BaseException.__getattribute__")))
    (e2 : PySem.W.findIn K (.ref CW) "__getattr__" = some none)
    (e4 : PySem.W.hasDictIn K CW = true)
    (e5 : PySem.W.findIn K (.ref CW) "__class__" = some (some (.builtin "object.__class__")))
    (e6 : PySem.W.specialIn K (.builtin "object.__class__") "__get__" = some (some (.builtin "getset_descriptor.__get__")))
    (e7 : PySem.W.takesIn K (.builtin "object.__class__") = some true)
    (e8 : PySem.W.mroIn K CW (.type "object") = some true)
    (sg : PySem.W.nsIn K mainGlobals "SkyError" = some (some (.ref CS)))
    (s1 : PySem.W.subIn K (.ref CS) (.type "BaseException") = some true)
    (s2 : PySem.W.hasDictIn K CS = true)
    (s3 : PySem.W.typeIn K (.ref CS) = some (.type "type"))
    (s4 : PySem.W.subIn K (.ref CW) (.ref CS) = some true)
    (s5 : PySem.W.subIn K (.ref CW) (.ref CW) = some true)
    (s6 : PySem.W.subIn K (.ref CW) (.type "ValueError") = some true) :
    ∃ fd : FuncData, (∀ (s : Shared) (v : Value), BindsTo s fd ⟨[v], []⟩ [("_law_script", v)]) ∧ ∀ base : Heap, K.In base → base.Ns mainGlobals mg → FnOk P w K mg base (L2.CX P w) 6 fa fd ["_law_script"] (spD K 1 fLaw) := by
  have e := hfa.symm.trans (PySem.W.mg_of X G a17)
  cases e
  have g_isinstance : mg "isinstance" = none := PySem.W.mg_none_of X G z_isinstance
  have g_int : mg "int" = none := PySem.W.mg_none_of X G z_int
  have g_bool : mg "bool" = none := PySem.W.mg_none_of X G z_bool
  have g_tuple : mg "tuple" = none := PySem.W.mg_none_of X G z_tuple
  have g_len : mg "len" = none := PySem.W.mg_none_of X G z_len
  have g_range : mg "range" = none := PySem.W.mg_none_of X G z_range
  have g_all : mg "all" = none := PySem.W.mg_none_of X G z_all
  have g_abs : mg "abs" = none := PySem.W.mg_none_of X G z_abs
  have g_ValueError : mg "ValueError" = none := PySem.W.mg_none_of X G z_ValueError
  have g_gcd : mg "gcd" = some (.builtin "math.gcd") := PySem.W.mg_of X G zg_gcd
  have eW : ExcC K CW := ⟨e1, e2, eb, e4, e5, e6, e7, e8⟩
  have gS : mg "SkyError" = some (.ref CS) := PySem.W.mg_of X G sg
  have xS : PySem.W.exmOne K (.ref CW) (.ref CS) = some true := PySem.W.exm_ref s1 s2 s3 s4
  have xW : ExF K mg "NoWorth" CW := ⟨PySem.W.mg_of X G eg, ex, ek, eb, et⟩
  have F0 := fun_mk (st := top 7) l0 c0 k0
  have b0 := F0.binds (ps := ["thing"]) fun _ _ _ _ _ _ us hl => match us, hl with | [_], _ => rfl
  have F1 : FunDS K "worth" "worth" (top 8) [.int 1] [] f1 _ := ⟨⟨_, _, _, _, _, _, _, _, _, _, rfl, l1, c1, Or.inr ⟨by simp, _, _, _, _, rfl, t1, rfl, .cons ⟨_, rfl⟩ .nil⟩, Or.inl rfl⟩, k1⟩
  have F2 := fun_mk (st := top 5) l2 c2 k2
  have b2 := F2.binds (ps := ["thing", "many"]) fun _ _ _ _ _ _ us hl => match us, hl with | [_, _], _ => rfl
  have F3 := fun_mk (st := top 9) l3 c3 k3
  have b3 := F3.binds (ps := ["thing"]) fun _ _ _ _ _ _ us hl => match us, hl with | [_], _ => rfl
  have F4 := fun_mk (st := top 10) l4 c4 k4
  have b4 := F4.binds (ps := ["one", "other"]) fun _ _ _ _ _ _ us hl => match us, hl with | [_, _], _ => rfl
  have F5 := fun_mk (st := top 11) l5 c5 k5
  have b5 := F5.binds (ps := ["one", "other"]) fun _ _ _ _ _ _ us hl => match us, hl with | [_, _], _ => rfl
  have F6 := fun_mk (st := top 12) l6 c6 k6
  have b6 := F6.binds (ps := ["one", "other"]) fun _ _ _ _ _ _ us hl => match us, hl with | [_, _], _ => rfl
  have F7 := fun_mk (st := top 13) l7 c7 k7
  have b7 := F7.binds (ps := ["one", "other"]) fun _ _ _ _ _ _ us hl => match us, hl with | [_, _], _ => rfl
  have F8 := fun_mk (st := top 14) l8 c8 k8
  have b8 := F8.binds (ps := ["one", "other"]) fun _ _ _ _ _ _ us hl => match us, hl with | [_, _], _ => rfl
  have F9 := fun_mk (st := top 15) l9 c9 k9
  have b9 := F9.binds (ps := ["one", "other"]) fun _ _ _ _ _ _ us hl => match us, hl with | [_, _], _ => rfl
  have F10 := fun_mk (st := top 18) l10 c10 k10
  have b10 := F10.binds (ps := ["_law_cell_here", "_law_many"]) fun _ _ _ _ _ _ us hl => match us, hl with | [_, _], _ => rfl
  have F11 := fun_mk (st := top 19) l11 c11 k11
  have b11 := F11.binds (ps := ["_law_upper", "_law_lower"]) fun _ _ _ _ _ _ us hl => match us, hl with | [_, _], _ => rfl
  have F12 := fun_mk (st := top 20) l12 c12 k12
  have b12 := F12.binds (ps := ["_law_one", "_law_other"]) fun _ _ _ _ _ _ us hl => match us, hl with | [_, _], _ => rfl
  have F13 := fun_mk (st := top 21) l13 c13 k13
  have b13 := F13.binds (ps := ["_law_one", "_law_other"]) fun _ _ _ _ _ _ us hl => match us, hl with | [_, _], _ => rfl
  have F14 := fun_mk (st := top 22) l14 c14 k14
  have b14 := F14.binds (ps := ["_law_one", "_law_other"]) fun _ _ _ _ _ _ us hl => match us, hl with | [_, _], _ => rfl
  have F15 := fun_mk (st := top 23) l15 c15 k15
  have b15 := F15.binds (ps := ["_law_one", "_law_other"]) fun _ _ _ _ _ _ us hl => match us, hl with | [_, _], _ => rfl
  have F16 := fun_mk (st := top 24) l16 c16 k16
  have b16 := F16.binds (ps := ["_law_one"]) fun _ _ _ _ _ _ us hl => match us, hl with | [_], _ => rfl
  have F17 := fun_mk (st := top 25) l17 c17 k17
  refine ⟨PySem.W.fnOf "law" "law" (defArgs (top 25)) (defBody (top 25)) (defScope (top 25)) .none kV17 dc17 pm17 an17 cd17 ct17, fun s v => .of_eq rfl, fun base hb1 hb2 => ?_⟩
  have cWh : Cal P w K mg base "is_whole" _ _ _ _ := cal_mk (ok_is_whole g_isinstance g_int g_bool F0) rfl (PySem.W.mg_of X G a0) k0 b0
  have GW := ok_worth (P := P) (w := w) (base := base) g_gcd cWh xW F1
  have cW : Cal P w K mg base "worth" 2 ["top", "bottom"] [] (fWorth CW) := ⟨f1, _, _, _, GW, PySem.W.mg_of X G a1, k1, worth_binds2 F1, .nil, fun _ => .nil⟩
  have cTu : Cal P w K mg base "is_tuple" _ _ _ _ := cal_mk (ok_is_tuple g_isinstance g_tuple g_len F2) rfl (PySem.W.mg_of X G a2) k2 b2
  have cI : Cal P w K mg base "is_worth" _ _ _ _ := cal_mk (ok_is_worth g_gcd cWh cTu F3) rfl (PySem.W.mg_of X G a3) k3 b3
  obtain ⟨ds1, hv1, hb1'⟩ := FunD.binds1 (ps := ["top", "bottom"]) F1 1 0 (by simp) rfl (fun T kV doc pm an cdv ct us its h1 h2 => match us, its, h1, h2 with | [_], [_], _, _ => ⟨_, rfl, rfl⟩)
  have cW1 : Cal P w K mg base "worth" 2 ["top", "bottom"] [.int 1] (fWorth CW) := ⟨f1, _, ds1, _, GW, PySem.W.mg_of X G a1, k1, hb1', hv1, fun _ => .cons (.int 1) .nil⟩
  obtain ⟨its2, kb2⟩ := Sky.FunD.kb1 (ps := ["top", "bottom"]) F1 1 ["bottom"] (fun us _ ws => us ++ ws) (by simp) (fun r1 _ r2 => r1.append r2) (fun T kV doc pm an cdv ct us its ws h1 h2 h3 => match us, its, ws, h1, h2, h3 with | [_], [_], [_], _, _, _ => ⟨_, rfl, rfl⟩)
  have kW1 : CalK P w K mg base "worth" 2 1 ["bottom"] (fun ds es => ds ++ es) (fWorth CW) := ⟨f1, _, ["top", "bottom"], _, _, GW, PySem.W.mg_of X G a1, k1, kb2, fun B vs zs ds es r1 r2 l1 l2 => ⟨by rw [List.length_append, l1, l2]; rfl, r1.append r2⟩⟩
  obtain ⟨its3, kb3⟩ := Sky.FunD.kb1 (ps := ["top", "bottom"]) F1 0 ["bottom", "top"] (fun _ _ ws => ws.reverse) (by simp) (fun _ _ r2 => vals_rev r2) (fun T kV doc pm an cdv ct us its ws h1 h2 h3 => match us, its, ws, h1, h2, h3 with | [], [_], [_, _], _, _, _ => ⟨_, rfl, rfl⟩)
  have kW0 : CalK P w K mg base "worth" 2 0 ["bottom", "top"] (fun _ es => es.reverse) (fWorth CW) := ⟨f1, _, ["top", "bottom"], _, _, GW, PySem.W.mg_of X G a1, k1, kb3, fun B vs zs ds es r1 r2 l1 l2 => ⟨by rw [List.length_reverse, l2]; rfl, r2.rev⟩⟩
  have cR : Cal P w K mg base "_refuse_others" _ _ _ _ := cal_mk (ok_refuse cI xW F4) rfl (PySem.W.mg_of X G a4) k4 b4
  have cP : Cal P w K mg base "plus" _ _ _ _ := cal_mk (ok_plus cR cW F5) rfl (PySem.W.mg_of X G a5) k5 b5
  have cM : Cal P w K mg base "minus" _ _ _ _ := cal_mk (ok_minus cR cW F6) rfl (PySem.W.mg_of X G a6) k6 b6
  have cT : Cal P w K mg base "times" _ _ _ _ := cal_mk (ok_times cR cW F7) rfl (PySem.W.mg_of X G a7) k7 b7
  have cO : Cal P w K mg base "over" _ _ _ _ := cal_mk (ok_over cR cW F8) rfl (PySem.W.mg_of X G a8) k8 b8
  have cL : Cal P w K mg base "is_less" _ _ _ _ := cal_mk (ok_is_less cR cW F9) rfl (PySem.W.mg_of X G a9) k9 b9
  have lD : Cal P w K mg base "_law_digits" _ _ _ _ := cal_mk (ok_digits g_range F10) rfl (PySem.W.mg_of X G a10) k10 b10
  have lL : Cal P w K mg base "_law_low" _ _ _ _ := cal_mk (ok_low g_abs F11) rfl (PySem.W.mg_of X G a11) k11 b11
  have lA : Cal P w K mg base "_law_add" _ _ _ _ := cal_mk (ok__law_add lL F12) rfl (PySem.W.mg_of X G a12) k12 b12
  have lT : Cal P w K mg base "_law_take" _ _ _ _ := cal_mk (ok__law_take lL F13) rfl (PySem.W.mg_of X G a13) k13 b13
  have lB : Cal P w K mg base "_law_by" _ _ _ _ := cal_mk (ok__law_by lL F14) rfl (PySem.W.mg_of X G a14) k14 b14
  have lS : Cal P w K mg base "_law_less" _ _ _ _ := cal_mk (ok__law_less lL F15) rfl (PySem.W.mg_of X G a15) k15 b15
  have lN : Cal P w K mg base "_law_by_nought" _ _ _ _ := cal_mk (ok_by_nought g_isinstance g_ValueError xW eW gS xS (kit_refT e4 et s5) (kit_tyT (by decide +kernel) s6) cO F16) rfl (PySem.W.mg_of X G a16) k16 b16
  exact ok_law g_isinstance g_bool g_int g_range g_all cW cW1 kW1 kW0 cI cP cM cT cO cL lD lL lA lT lB lS lN F17
theorem walk {l : PySem.W.OpenLaw} {q : Program} {loose : List Str} {XP : (Str → Option Value) → Heap → Prop} {YP : World → Heap → Prop} {d : DefRec} {K : Params → PySem.W.Frag} (hn : l.most = some 63) (hdf : d.params.defaults = [])
    (hY : ∀ (w : World) (h : Heap), YP w h → (K w.params).In h)
    (F : ∀ (w : World) (mg : Str → Option Value) (fa : Addr) (h : Heap), (K w.params).In h → h.Ns mainGlobals mg → mg d.name = some (.ref fa) →
      ∃ fd : FuncData, (∀ (s : Shared) (u : Value), BindsTo s fd ⟨[u], []⟩ [("_law_script", u)]) ∧ ∀ base : Heap, (K w.params).In base → base.Ns mainGlobals mg → FnOk l.prog w (K w.params) mg base (L2.CX l.prog w) 6 fa fd ["_law_script"] (spD (K w.params) 1 fLaw)) :
    PySem.W.WalkO q loose XP YP l.row.toRowW d [] (fun f vs => PySem.call f vs) :=
  L2.walk_of (n := 63) (k := 6) (x := "_law_script") (CX := fun w => L2.CX l.prog w) (sp := fun w => spD (K w.params) 1 fLaw) hn (by decide) hdf ⟨rfl, by decide, by decide⟩ hY F
    (fun w H a ns hl _ hS => ⟨rfl, H, [.lst (ns.map .int)], .ok (.bl true), Ex.refl H, .cons (.lst hS DrA.ints) .nil, fLaw_ok hl, fun v B' H' g r => by cases r; rfl⟩)
    fun w H s e s' h => by
      obtain ⟨_, _, _, _, _, _, _, _, _, _, _, _, z⟩ := h
      exact z.elim
end T01
open PySem PySem.W PyProof.Rows
set_option maxRecDepth 100000 in
set_option maxHeartbeats 0 in
theorem PySem.Challenge.cw_tabletsky_k01_worths_reckoned_holds : PySem.Challenge.rw_tabletsky_k01_worths_reckoned.Holds := by
  w_on; o_law; k_head; (case hw => w_witness2)
  k_fill
  refine T01.walk (l := PySem.Challenge.rw_tabletsky_k01_worths_reckoned) rfl rfl (fun w h Y => PySem.W.kIn_of Y) ?F
  case F =>
    intro w mg fa h KX G hmg
    refine' T01.all_mk KX G hmg ?a0 ?l0 ?c0 ?k0 ?a1 ?l1 ?c1 ?k1 ?t1 ?a2 ?l2 ?c2 ?k2 ?a3 ?l3 ?c3 ?k3 ?a4 ?l4 ?c4 ?k4 ?a5 ?l5 ?c5 ?k5 ?a6 ?l6 ?c6 ?k6 ?a7 ?l7 ?c7 ?k7 ?a8 ?l8 ?c8 ?k8 ?a9 ?l9 ?c9 ?k9 ?a10 ?l10 ?c10 ?k10 ?a11 ?l11 ?c11 ?k11 ?a12 ?l12 ?c12 ?k12 ?a13 ?l13 ?c13 ?k13 ?a14 ?l14 ?c14 ?k14 ?a15 ?l15 ?c15 ?k15 ?a16 ?l16 ?c16 ?k16 ?a17 ?l17 ?c17 ?k17 ?z_isinstance ?z_int ?z_bool ?z_tuple ?z_len ?z_range ?z_all ?z_abs ?z_ValueError ?zg_gcd ?eg ?ex ?ek ?eb ?et ?e1 ?e2 ?e4 ?e5 ?e6 ?e7 ?e8 ?sg ?s1 ?s2 ?s3 ?s4 ?s5 ?s6
    (case a0 => k_is)
    (case l0 => k_is)
    (case c0 => k_is)
    (case k0 => k_is)
    (case a1 => k_is)
    (case l1 => k_is)
    (case c1 => k_is)
    (case k1 => k_is)
    (case t1 => k_is)
    (case a2 => k_is)
    (case l2 => k_is)
    (case c2 => k_is)
    (case k2 => k_is)
    (case a3 => k_is)
    (case l3 => k_is)
    (case c3 => k_is)
    (case k3 => k_is)
    (case a4 => k_is)
    (case l4 => k_is)
    (case c4 => k_is)
    (case k4 => k_is)
    (case a5 => k_is)
    (case l5 => k_is)
    (case c5 => k_is)
    (case k5 => k_is)
    (case a6 => k_is)
    (case l6 => k_is)
    (case c6 => k_is)
    (case k6 => k_is)
    (case a7 => k_is)
    (case l7 => k_is)
    (case c7 => k_is)
    (case k7 => k_is)
    (case a8 => k_is)
    (case l8 => k_is)
    (case c8 => k_is)
    (case k8 => k_is)
    (case a9 => k_is)
    (case l9 => k_is)
    (case c9 => k_is)
    (case k9 => k_is)
    (case a10 => k_is)
    (case l10 => k_is)
    (case c10 => k_is)
    (case k10 => k_is)
    (case a11 => k_is)
    (case l11 => k_is)
    (case c11 => k_is)
    (case k11 => k_is)
    (case a12 => k_is)
    (case l12 => k_is)
    (case c12 => k_is)
    (case k12 => k_is)
    (case a13 => k_is)
    (case l13 => k_is)
    (case c13 => k_is)
    (case k13 => k_is)
    (case a14 => k_is)
    (case l14 => k_is)
    (case c14 => k_is)
    (case k14 => k_is)
    (case a15 => k_is)
    (case l15 => k_is)
    (case c15 => k_is)
    (case k15 => k_is)
    (case a16 => k_is)
    (case l16 => k_is)
    (case c16 => k_is)
    (case k16 => k_is)
    (case a17 => k_is)
    (case l17 => k_is)
    (case c17 => k_is)
    (case k17 => k_is)
    (case z_isinstance => k_is)
    (case z_int => k_is)
    (case z_bool => k_is)
    (case z_tuple => k_is)
    (case z_len => k_is)
    (case z_range => k_is)
    (case z_all => k_is)
    (case z_abs => k_is)
    (case z_ValueError => k_is)
    (case zg_gcd => k_is)
    (case eg => k_is)
    (case ex => k_exc)
    (case ek => k_is)
    (case eb => k_is)
    (case et => k_is)
    (case e1 => k_is)
    (case e2 => k_is)
    (case e4 => k_is)
    (case e5 => k_is)
    (case e6 => k_is)
    (case e7 => k_is)
    (case e8 => k_is)
    (case sg => k_is)
    (case s1 => k_is)
    (case s2 => k_is)
    (case s3 => k_is)
    (case s4 => k_is)
    (case s5 => k_is)
    (case s6 => k_is)
#print axioms PySem.Challenge.cw_tabletsky_k01_worths_reckoned_holds
