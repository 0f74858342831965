/-
  Two sides' trees, together, on lists alone; how two texts are put together is left open. No program is named here.
-/
import Derived.Test.YtahcokfoifdlmaaGreatDoorQWI
import Derived.Test.YtahcokfoifdlmaaGreatDoorQWS
import Derived.Lib.SmallJoins
import Derived.BigQuiet
namespace Go.Proofs.YtahcokfoifdlmaaGreatDoor.Tr
open Go

/-- paths that rise, behind one -/
def asc : Option Bs → List Bs → Bool
  | _, [] => true
  | p, q :: l => above p q && asc (some q) l
/-- a path among others -/
def insP (p : Bs) : List Bs → List Bs
  | [] => [p]
  | q :: l => if p = q then q :: l else if lt p q then p :: q :: l else q :: insP p l
/-- the same, as it is done one behind the other -/
def insR (p : Bs) : Bool → List Bs → List Bs
  | d, [] => if d then [] else [p]
  | d, q :: l => if !(d || q == p) && lt p q then p :: q :: insR p true l else q :: insR p (d || q == p) l
theorem insR_done (p : Bs) : ∀ l : List Bs, insR p true l = l
  | [] => rfl
  | q :: l => by rw [insR, Bool.true_or, insR_done p l]; rfl
theorem insR_is (p : Bs) : ∀ l : List Bs, insR p false l = insP p l
  | [] => rfl
  | q :: l => by
    rw [insR, insP, Bool.false_or]
    by_cases h : p = q
    · subst h
      rw [if_pos rfl, beq_self_eq_true, insR_done]; rfl
    · have hb : (q == p) = false := by rw [beq_eq_false_iff_ne]; exact fun e => h e.symm
      rw [if_neg h, hb, Bool.not_false, Bool.true_and]
      split
      · rw [insR_done]
      · rw [insR_is p l]
theorem mem_insP {p x : Bs} : ∀ {l : List Bs}, x ∈ insP p l ↔ x = p ∨ x ∈ l
  | [] => by simp [insP]
  | q :: l => by
    have ih := mem_insP (p := p) (x := x) (l := l)
    rw [insP]
    split
    · next h =>
      subst h
      rw [List.mem_cons]
      constructor
      · exact fun h => .inr h
      · rintro (h | h)
        · exact .inl h
        · exact h
    · split
      · rw [List.mem_cons]
      · rw [List.mem_cons, ih, List.mem_cons]
        constructor
        · rintro (h | h | h)
          · exact .inr (.inl h)
          · exact .inl h
          · exact .inr (.inr h)
        · rintro (h | h | h)
          · exact .inr (.inl h)
          · exact .inl h
          · exact .inr (.inr h)
theorem asc_insP (p : Bs) : ∀ {q : Option Bs} {l : List Bs}, asc q l = true → above q p = true → asc q (insP p l) = true
  | q, [], _, h => by simp [insP, asc, h]
  | q, r :: l, h, hp => by
    have h0 := h
    simp only [asc, Bool.and_eq_true] at h
    rw [insP]
    split
    · exact h0
    · next hne =>
      split
      · next hl =>
        simp only [asc, Bool.and_eq_true]
        exact ⟨hp, hl, h.2⟩
      · next hl =>
        simp only [asc, Bool.and_eq_true]
        refine ⟨h.1, asc_insP p h.2 ?_⟩
        show lt r p = true
        rcases lt_tri p r with h1 | h1 | h1
        · exact absurd h1 hl
        · exact absurd h1 hne
        · exact h1
theorem insP_len (p : Bs) : ∀ l : List Bs, (insP p l).length ≤ l.length + 1
  | [] => Nat.le_refl _
  | q :: l => by
    have := insP_len p l
    rw [insP]
    split
    · simp
    · split
      · simp
      · simp only [List.length_cons]; omega
theorem asc_above : ∀ {q : Option Bs} {l : List Bs}, asc q l = true → ∀ p ∈ l, above q p = true
  | _, [], _, p, hp => by cases hp
  | q, r :: l, h, p, hp => by
    simp only [asc, Bool.and_eq_true] at h
    rcases List.mem_cons.1 hp with rfl | hp
    · exact h.1
    · exact above_trans h.1 (asc_above h.2 p hp)
theorem asc_ext : ∀ {q r : Option Bs} {l m : List Bs}, asc q l = true → asc r m = true → (∀ p, p ∈ l ↔ p ∈ m) → l = m
  | _, _, [], [], _, _, _ => rfl
  | _, _, [], p :: m, _, _, h => by have := (h p).2 (by simp); cases this
  | _, _, p :: l, [], _, _, h => by have := (h p).1 (by simp); cases this
  | q, r, x :: l, y :: m, h1, h2, h => by
    simp only [asc, Bool.and_eq_true] at h1 h2
    have a1 := asc_above h1.2
    have a2 := asc_above h2.2
    have e : x = y := by
      rcases List.mem_cons.1 ((h x).1 (by simp)) with h' | h'
      · exact h'
      · rcases List.mem_cons.1 ((h y).2 (by simp)) with h'' | h''
        · exact h''.symm
        · have := lt_trans (a1 y h'') (a2 x h')
          rw [lt_irr] at this; cases this
    subst e
    congr 1
    refine asc_ext h1.2 h2.2 fun z => ⟨fun hz => ?_, fun hz => ?_⟩
    · rcases List.mem_cons.1 ((h z).1 (by simp [hz])) with h' | h'
      · subst h'; have := a1 z hz; rw [show above (some z) z = lt z z from rfl, lt_irr] at this; cases this
      · exact h'
    · rcases List.mem_cons.1 ((h z).2 (by simp [hz])) with h' | h'
      · subst h'; have := a2 z hz; rw [show above (some z) z = lt z z from rfl, lt_irr] at this; cases this
      · exact h'
theorem asc_weak {q r : Option Bs} {l : List Bs} (h : asc q l = true) (hw : ∀ p ∈ l, above r p = true) : asc r l = true := by
  cases l with
  | nil => rfl
  | cons p l =>
    simp only [asc, Bool.and_eq_true] at h ⊢
    exact ⟨hw p (by simp), h.2⟩
/-- more paths among others -/
def addP (l : List Bs) (t : List Fl) : List Bs := t.foldl (fun l f => insP f.path l) l
/-- the paths of two trees -/
def both (a b : List Fl) : List Bs := addP (addP [] a) b
theorem mem_addP {x : Bs} : ∀ {t : List Fl} {l : List Bs}, x ∈ addP l t ↔ (∃ f ∈ t, f.path = x) ∨ x ∈ l
  | [], l => by simp [addP]
  | f :: t, l => by
    have ih := mem_addP (x := x) (t := t) (l := insP f.path l)
    unfold addP at ih ⊢
    rw [List.foldl_cons, ih, mem_insP]
    constructor
    · rintro (⟨g, hg, e⟩ | h | h)
      · exact .inl ⟨g, by simp [hg], e⟩
      · exact .inl ⟨f, by simp, h.symm⟩
      · exact .inr h
    · rintro (⟨g, hg, e⟩ | h)
      · rcases List.mem_cons.1 hg with rfl | hg
        · exact .inr (.inl e.symm)
        · exact .inl ⟨g, hg, e⟩
      · exact .inr (.inr h)
theorem asc_addP : ∀ {t : List Fl} {l : List Bs}, asc none l = true → asc none (addP l t) = true
  | [], _, h => h
  | f :: t, l, h => by
    unfold addP
    rw [List.foldl_cons]
    exact asc_addP (t := t) (asc_insP f.path h rfl)
theorem addP_len : ∀ {t : List Fl} {l : List Bs}, (addP l t).length ≤ l.length + t.length
  | [], _ => Nat.le_refl _
  | f :: t, l => by
    have h1 := addP_len (t := t) (l := insP f.path l)
    have h2 := insP_len f.path l
    unfold addP at h1 ⊢
    rw [List.foldl_cons, List.length_cons]; omega
theorem mem_both {a b : List Fl} {x : Bs} : x ∈ both a b ↔ (∃ f ∈ a, f.path = x) ∨ (∃ f ∈ b, f.path = x) := by
  unfold both
  rw [mem_addP, mem_addP]
  constructor
  · rintro (h | h | h)
    · exact .inr h
    · exact .inl h
    · cases h
  · rintro (h | h)
    · exact .inr (.inl h)
    · exact .inl h
theorem asc_both (a b : List Fl) : asc none (both a b) = true := asc_addP (asc_addP rfl)
theorem both_len (a b : List Fl) : (both a b).length ≤ a.length + b.length := by
  have h1 := addP_len (t := b) (l := addP [] a)
  have h2 := addP_len (t := a) (l := [])
  unfold both
  simp only [List.length_nil] at h2
  omega
section
variable (mg : Bs → Bs → Bs → Bs × Nat)
/-- what becomes of a path: a text, whether there is one, whether it clashes -/
def one (o a b : List Fl) (p : Bs) : Bs × Bool × Bool :=
  if get a p = get b p ∨ get b p = get o p then ((get a p).1, (get a p).2, false)
  else if get a p = get o p then ((get b p).1, (get b p).2, false)
  else if (get a p).2 = false then ((get b p).1, true, true)
  else if (get b p).2 = false then ((get a p).1, true, true)
  else if 65536 < (mg (get o p).1 (get a p).1 (get b p).1).1.length then (if lt (get a p).1 (get b p).1 then (get b p).1 else (get a p).1, true, true)
  else ((mg (get o p).1 (get a p).1 (get b p).1).1, true, decide (0 < (mg (get o p).1 (get a p).1 (get b p).1).2))
/-- the files of paths -/
def outs (h : Bs → Bs × Bool × Bool) : List Bs → List Fl
  | [] => []
  | p :: l => if (h p).2.1 then ⟨p, (h p).1⟩ :: outs h l else outs h l
/-- the paths that clash -/
def odds (h : Bs → Bs × Bool × Bool) (l : List Bs) : List Bs := l.filter fun p => (h p).2.2
def trees (o a b : List Fl) : List Fl × List Bs := ((outs (one mg o a b) (both a b)).take 1000, odds (one mg o a b) (both a b))
end
theorem outs_len (h : Bs → Bs × Bool × Bool) : ∀ l : List Bs, (outs h l).length ≤ l.length
  | [] => Nat.le_refl _
  | p :: l => by
    have := outs_len h l
    rw [outs]
    split <;> simp only [List.length_cons] <;> omega
theorem mem_outs {h : Bs → Bs × Bool × Bool} {f : Fl} : ∀ {l : List Bs}, f ∈ outs h l ↔ f.path ∈ l ∧ (h f.path).2.1 = true ∧ f.text = (h f.path).1
  | [] => by simp [outs]
  | p :: l => by
    have ih := mem_outs (h := h) (f := f) (l := l)
    rw [outs]
    obtain ⟨q, x⟩ := f
    by_cases hp : (h p).2.1 = true
    · rw [if_pos hp, List.mem_cons, ih, List.mem_cons]
      constructor
      · rintro (e | ⟨h1, h2⟩)
        · injection e with e1 e2
          subst e1 e2
          exact ⟨.inl rfl, hp, rfl⟩
        · exact ⟨.inr h1, h2⟩
      · rintro ⟨h1 | h1, h2, h3⟩
        · left
          simp only at h1 h3
          subst h1
          rw [h3]
        · exact .inr ⟨h1, h2, h3⟩
    · rw [if_neg hp, ih, List.mem_cons]
      constructor
      · rintro ⟨h1, h2⟩
        exact ⟨.inr h1, h2⟩
      · rintro ⟨h1 | h1, h2, h3⟩
        · simp only at h1 h2
          rw [h1] at h2
          exact absurd h2 hp
        · exact ⟨h1, h2, h3⟩
/-- files of rising paths are right -/
theorem go_outs {h : Bs → Bs × Bool × Bool} : ∀ {q : Option Bs} {l : List Bs}, asc q l = true → (∀ p ∈ l, can p = true ∧ (h p).1.length ≤ 65536) → go q (outs h l) = true
  | _, [], _, _ => rfl
  | q, p :: l, ha, hc => by
    simp only [asc, Bool.and_eq_true] at ha
    have ih := go_outs (h := h) ha.2 fun x hx => hc x (by simp [hx])
    have hp := hc p (by simp)
    rw [outs]
    split
    · simp only [go, Bool.and_eq_true, decide_eq_true_eq]
      exact ⟨⟨⟨hp.1, hp.2⟩, ha.1⟩, ih⟩
    · exact go_weak ih fun x hx => above_trans ha.1 hx
theorem get_short {q : Option Bs} {t : List Fl} (h : go q t = true) (p : Bs) : (get t p).1.length ≤ 65536 := by
  cases hb : (get t p).2 with
  | true =>
    obtain ⟨f, hf, _, e⟩ := get_some hb
    rw [e]; exact (go_above h f hf).2.2
  | false =>
    have : ∀ (t : List Fl), (get t p).2 = false → (get t p).1 = [] := by
      intro t
      induction t with
      | nil => intro _; rfl
      | cons f t ih =>
        rw [get]
        split
        · intro h; cases h
        · exact ih
    rw [this t hb]; simp
theorem get_empty : ∀ {t : List Fl} {p : Bs}, (get t p).2 = false → get t p = ([], false)
  | [], _, _ => rfl
  | f :: t, p, h => by
    rw [get] at h ⊢
    split at h
    · cases h
    · next hf => rw [if_neg hf]; exact get_empty h
theorem can_both {a b : List Fl} (ha : go none a = true) (hb : go none b = true) {p : Bs} (hp : p ∈ both a b) : can p = true := by
  rcases mem_both.1 hp with ⟨f, hf, rfl⟩ | ⟨f, hf, rfl⟩
  · exact (go_above ha f hf).2.1
  · exact (go_above hb f hf).2.1
theorem trees_is (mg : Bs → Bs → Bs → Bs × Nat) (o : List Fl) {a b : List Fl} (hl : a.length + b.length ≤ 1000) : trees mg o a b = (outs (one mg o a b) (both a b), odds (one mg o a b) (both a b)) := by
  unfold trees
  rw [List.take_of_length_le]
  have h1 := outs_len (one mg o a b) (both a b)
  have h2 := both_len a b
  omega
/-- what one side alone changed is taken -/
theorem outs_all {h : Bs → Bs × Bool × Bool} {x : List Fl} {l : List Bs} (hx : go none x = true) (hl : asc none l = true) (hc : ∀ p ∈ l, can p = true) (hh : ∀ p, h p = ((get x p).1, (get x p).2, false)) (hm : ∀ f ∈ x, f.path ∈ l) : outs h l = x ∧ odds h l = [] := by
  have hg : go none (outs h l) = true := go_outs hl fun p hp => ⟨hc p hp, by rw [hh p]; exact get_short hx p⟩
  refine ⟨go_ext hg hx fun f => ?_, ?_⟩
  · rw [mem_outs, hh f.path]
    constructor
    · rintro ⟨_, h2, h3⟩
      obtain ⟨g, hg, e, ht⟩ := get_some h2
      simp only at h3
      rw [ht] at h3
      obtain ⟨q, y⟩ := f
      obtain ⟨q', y'⟩ := g
      simp only at e h3
      subst e h3
      exact hg
    · intro hf
      rw [get_is hx hf]
      exact ⟨hm f hf, rfl, rfl⟩
  · unfold odds
    rw [List.filter_eq_nil_iff]
    intro p _
    rw [hh p]
    simp
end Go.Proofs.YtahcokfoifdlmaaGreatDoor.Tr
namespace Go.Proofs.YtahcokfoifdlmaaGreatDoor.Tr
open Go

/-- a change -/
structure Ch where
  path : Bs
  gone : Bool
  text : Bs
deriving DecidableEq
/-- are changes right, behind a path? -/
def cgo : Option Bs → List Ch → Bool
  | _, [] => true
  | p, c :: l => can c.path && decide (c.text.length ≤ 65536) && (!c.gone || decide (c.text = [])) && above p c.path && cgo (some c.path) l
theorem cgo_cons {p : Option Bs} {c : Ch} {l : List Ch} (h : cgo p (c :: l) = true) : can c.path = true ∧ c.text.length ≤ 65536 ∧ (c.gone = true → c.text = []) ∧ above p c.path = true ∧ cgo (some c.path) l = true := by
  simp only [cgo, Bool.and_eq_true, Bool.or_eq_true, Bool.not_eq_true', decide_eq_true_eq] at h
  exact ⟨h.1.1.1.1, h.1.1.1.2, fun hg => h.1.1.2.resolve_left (by rw [hg]; decide), h.1.2, h.2⟩
theorem cgo_of {p : Option Bs} {c : Ch} {l : List Ch} (h1 : can c.path = true) (h2 : c.text.length ≤ 65536) (h3 : c.gone = true → c.text = []) (h4 : above p c.path = true) (h5 : cgo (some c.path) l = true) : cgo p (c :: l) = true := by
  simp only [cgo, Bool.and_eq_true, Bool.or_eq_true, Bool.not_eq_true', decide_eq_true_eq]
  refine ⟨⟨⟨⟨h1, h2⟩, ?_⟩, h4⟩, h5⟩
  cases hg : c.gone with
  | true => exact .inr (h3 hg)
  | false => exact .inl rfl
theorem cgo_above : ∀ {p : Option Bs} {l : List Ch}, cgo p l = true → ∀ c ∈ l, above p c.path = true ∧ can c.path = true ∧ c.text.length ≤ 65536 ∧ (c.gone = true → c.text = [])
  | _, [], _, c, hc => by cases hc
  | p, d :: l, h, c, hc => by
    obtain ⟨h1, h2, h3, h4, h5⟩ := cgo_cons h
    rcases List.mem_cons.1 hc with rfl | hc
    · exact ⟨h4, h1, h2, h3⟩
    · obtain ⟨k1, k2⟩ := cgo_above h5 c hc
      exact ⟨above_trans h4 k1, k2⟩
theorem cgo_weak {p q : Option Bs} {l : List Ch} (h : cgo p l = true) (hw : ∀ c ∈ l, above q c.path = true) : cgo q l = true := by
  cases l with
  | nil => rfl
  | cons c l =>
    obtain ⟨h1, h2, h3, _, h5⟩ := cgo_cons h
    exact cgo_of h1 h2 h3 (hw c (by simp)) h5
/-- changes with one path are one -/
theorem cgo_one : ∀ {p : Option Bs} {l : List Ch}, cgo p l = true → ∀ c ∈ l, ∀ d ∈ l, c.path = d.path → c = d
  | _, [], _, c, hc, _, _, _ => by cases hc
  | p, e :: l, h, c, hc, d, hd, he => by
    obtain ⟨_, _, _, _, h5⟩ := cgo_cons h
    have hne : ∀ x ∈ l, e.path ≠ x.path := fun x hx h0 => by
      have := (cgo_above h5 x hx).1
      rw [show above (some e.path) x.path = lt e.path x.path from rfl, h0, lt_irr] at this
      cases this
    rcases List.mem_cons.1 hc with k1 | k1
    · rcases List.mem_cons.1 hd with k2 | k2
      · rw [k1, k2]
      · exact absurd (by rw [← k1]; exact he) (hne d k2)
    · rcases List.mem_cons.1 hd with k2 | k2
      · exact absurd (by rw [← k2]; exact he.symm) (hne c k1)
      · exact cgo_one h5 c k1 d k2 he
/-- a change done to a tree -/
def does (t : List Fl) (c : Ch) : List Fl := if c.gone then drop t c.path else if (put t ⟨c.path, c.text⟩).2 = 0 then (put t ⟨c.path, c.text⟩).1 else t
def play (t : List Fl) (l : List Ch) : List Fl := l.foldl does t
theorem play_cons (t : List Fl) (c : Ch) (l : List Ch) : play t (c :: l) = play (does t c) l := rfl
theorem play_append (t : List Fl) (l m : List Ch) : play t (l ++ m) = play (play t l) m := List.foldl_append
theorem does_put {t : List Fl} {c : Ch} (hl : t.length < 1000) (hc : can c.path = true) (hx : c.text.length ≤ 65536) (hg : c.gone = false) : does t c = ins ⟨c.path, c.text⟩ (drop t c.path) := by
  unfold does
  rw [hg, if_neg (by decide), put_ok (f := ⟨c.path, c.text⟩) hl hc hx, if_pos rfl]
theorem does_drop {t : List Fl} {c : Ch} (hg : c.gone = true) : does t c = drop t c.path := by
  unfold does
  rw [hg, if_pos rfl]
theorem does_any {t : List Fl} {c : Ch} (ht : go none t = true) (hl : t.length < 1000) (hc : can c.path = true) (hx : c.text.length ≤ 65536) :
    go none (does t c) = true ∧ (does t c).length ≤ t.length + 1 ∧ ∀ f, f ∈ does t c ↔ (c.gone = false ∧ f = ⟨c.path, c.text⟩) ∨ (f ∈ t ∧ f.path ≠ c.path) := by
  cases hg : c.gone with
  | true =>
    rw [does_drop hg]
    refine ⟨go_drop c.path ht, Nat.le_succ_of_le (drop_le t c.path), fun f => ?_⟩
    rw [mem_drop]
    constructor
    · exact fun h => .inr h
    · rintro (⟨h, _⟩ | h)
      · cases h
      · exact h
  | false =>
    rw [does_put hl hc hx hg]
    refine ⟨go_put (f := ⟨c.path, c.text⟩) ht hc hx, put_len t ⟨c.path, c.text⟩, fun f => ?_⟩
    rw [mem_put (f := ⟨c.path, c.text⟩)]
    constructor
    · rintro (h | h)
      · exact .inl ⟨rfl, h⟩
      · exact .inr h
    · rintro (⟨_, h⟩ | h)
      · exact .inl h
      · exact .inr h
/-- P12.3: what a tree is with changes -/
theorem play_any : ∀ {l : List Ch} {t : List Fl} {p : Option Bs}, cgo p l = true → go none t = true → t.length + l.length ≤ 1000 →
    go none (play t l) = true ∧ (play t l).length ≤ t.length + l.length ∧ ∀ f, f ∈ play t l ↔ (∃ c ∈ l, c.gone = false ∧ f = ⟨c.path, c.text⟩) ∨ (f ∈ t ∧ ∀ c ∈ l, f.path ≠ c.path)
  | [], t, _, _, ht, _ => ⟨ht, Nat.le_refl _, fun f => by simp [play]⟩
  | c :: l, t, p, h, ht, hl => by
    simp only [List.length_cons] at hl
    obtain ⟨h1, h2, _, _, h5⟩ := cgo_cons h
    obtain ⟨d1, d2, d3⟩ := does_any ht (c := c) (by omega) h1 h2
    obtain ⟨i1, i2, i3⟩ := play_any h5 d1 (by omega)
    rw [play_cons]
    refine ⟨i1, by simp only [List.length_cons]; omega, fun f => ?_⟩
    have hne : ∀ x ∈ l, c.path ≠ x.path := fun x hx h0 => by
      have := (cgo_above h5 x hx).1
      rw [show above (some c.path) x.path = lt c.path x.path from rfl, h0, lt_irr] at this
      cases this
    rw [i3, d3]
    constructor
    · rintro (⟨d, hd, hg⟩ | ⟨⟨hg, rfl⟩ | ⟨hf, hp⟩, ha⟩)
      · exact .inl ⟨d, by simp [hd], hg⟩
      · exact .inl ⟨c, by simp, hg, rfl⟩
      · refine .inr ⟨hf, fun d hd => ?_⟩
        rcases List.mem_cons.1 hd with rfl | hd
        · exact hp
        · exact ha d hd
    · rintro (⟨d, hd, hg⟩ | ⟨hf, ha⟩)
      · rcases List.mem_cons.1 hd with rfl | hd
        · exact .inr ⟨.inl hg, fun x hx => by rw [hg.2]; exact hne x hx⟩
        · exact .inl ⟨d, hd, hg⟩
      · exact .inr ⟨.inr ⟨hf, ha c (by simp)⟩, fun x hx => ha x (by simp [hx])⟩
/-- what a tree has at a path, with changes -/
theorem play_get_in {l : List Ch} {t : List Fl} (hl : cgo none l = true) (ht : go none t = true) (hn : t.length + l.length ≤ 1000) {c : Ch} (hc : c ∈ l) : get (play t l) c.path = if c.gone then ([], false) else (c.text, true) := by
  obtain ⟨a1, _, a3⟩ := play_any hl ht hn
  cases hg : c.gone with
  | true =>
    rw [if_pos rfl]
    refine get_none fun f hf e => ?_
    rcases (a3 f).1 hf with ⟨d, hd, hdg, rfl⟩ | ⟨_, ha⟩
    · have := cgo_one hl d hd c hc e
      rw [this, hg] at hdg
      cases hdg
    · exact ha c hc e
  | false =>
    rw [if_neg (by decide)]
    exact get_is (f := ⟨c.path, c.text⟩) a1 ((a3 _).2 (.inl ⟨c, hc, hg, rfl⟩))
theorem play_get_out {l : List Ch} {t : List Fl} (hl : cgo none l = true) (ht : go none t = true) (hn : t.length + l.length ≤ 1000) {p : Bs} (hp : ∀ c ∈ l, c.path ≠ p) : get (play t l) p = get t p := by
  obtain ⟨a1, _, a3⟩ := play_any hl ht hn
  refine get_same a1 ht fun f hf => ?_
  rw [a3]
  constructor
  · rintro (⟨c, hc, _, rfl⟩ | h)
    · exact absurd hf (hp c hc)
    · exact h.1
  · exact fun h => .inr ⟨h, fun c hc e => hp c hc (by rw [← e]; exact hf)⟩
end Go.Proofs.YtahcokfoifdlmaaGreatDoor.Tr
namespace Go.Proofs.YtahcokfoifdlmaaGreatDoor.Tr
open Go Wr

/-- so many files, what is left, and why it failed; those behind a fault are empty -/
def rd : Nat → Bs → Nat → List Fl × Bs × Nat
  | 0, b, e => ([], b, e)
  | n + 1, b, e =>
    let s := stepText b e 200
    let u := stepText s.2.1 s.2.2 65536
    let r := rd n u.2.1 u.2.2
    (⟨s.1, u.1⟩ :: r.1, r.2)
theorem step_ok (b : Bs) (most : Int) : stepText b 0 most = ((textOf b most).1, b.drop (textOf b most).2.1, (textOf b most).2.2) := rfl
end Go.Proofs.YtahcokfoifdlmaaGreatDoor.Tr
namespace Go.Proofs.YtahcokfoifdlmaaGreatDoor.Tr
open Go Wr

/-- a patch -/
structure Pch where
  ids : List Bs
  author : Bs
  note : Bs
  chs : List Ch
deriving DecidableEq
def txt (s : Bs) : Bs := form s.length ++ s
def fCh (c : Ch) : Bs := txt c.path ++ (form (if c.gone then 1 else 0) ++ txt c.text)
def pform (p : Pch) : Bs := form p.ids.length ++ (p.ids.flatMap txt ++ (txt p.author ++ (txt p.note ++ (form p.chs.length ++ p.chs.flatMap fCh))))
/-- are ids right, behind one? -/
def igo : Option Bs → List Bs → Bool
  | _, [] => true
  | p, q :: l => decide (q.length = 32) && above p q && igo (some q) l
def pright (p : Pch) : Bool := decide (p.ids.length ≤ 16) && decide (p.author.length ≤ 100) && decide (p.note.length ≤ 1000) && decide (p.chs.length ≤ 100) && igo none p.ids && cgo none p.chs && decide ((pform p).length ≤ 131072)
theorem pright_is {p : Pch} (h : pright p = true) : p.ids.length ≤ 16 ∧ p.author.length ≤ 100 ∧ p.note.length ≤ 1000 ∧ p.chs.length ≤ 100 ∧ igo none p.ids = true ∧ cgo none p.chs = true ∧ (pform p).length ≤ 131072 := by
  simp only [pright, Bool.and_eq_true, decide_eq_true_eq] at h
  exact ⟨h.1.1.1.1.1.1, h.1.1.1.1.1.2, h.1.1.1.1.2, h.1.1.1.2, h.1.1.2, h.1.2, h.2⟩
theorem igo_len : ∀ {q : Option Bs} {l : List Bs}, igo q l = true → ∀ x ∈ l, x.length = 32
  | _, [], _, x, h => by cases h
  | q, p :: l, h, x, hx => by
    simp only [igo, Bool.and_eq_true, decide_eq_true_eq] at h
    rcases List.mem_cons.1 hx with rfl | hx
    · exact h.1.1
    · exact igo_len h.2 x hx
/-- a patch of no kind -/
abbrev noPch : Pch := ⟨[], [], [], []⟩
/-- so many ids, as they are read -/
def rdIds : Nat → Bs → Nat → List Bs × Bs × Nat
  | 0, b, e => ([], b, e)
  | n + 1, b, e =>
    let s := stepText b e 32
    let r := rdIds n s.2.1 s.2.2
    (s.1 :: r.1, r.2)
/-- so many changes, as they are read, and whether a number was odd -/
def rdChs : Nat → Bs → Nat → (List Ch × Bool) × Bs × Nat
  | 0, b, e => (([], false), b, e)
  | n + 1, b, e =>
    let s := stepText b e 200
    let g := stepNum s.2.1 s.2.2
    let x := stepText g.2.1 g.2.2 65536
    let r := rdChs n x.2.1 x.2.2
    ((⟨s.1, decide (g.1 = 1), x.1⟩ :: r.1.1, decide (1 < g.1) || r.1.2), r.2)
def pdecode (b : Bs) : Pch × Nat :=
  if 131072 < b.length then (noPch, 4) else
  let n := stepNum b 0
  if 16 < n.1 then (noPch, 4) else
  let i := rdIds n.1 n.2.1 n.2.2
  let a := stepText i.2.1 i.2.2 100
  let o := stepText a.2.1 a.2.2 1000
  let m := stepNum o.2.1 o.2.2
  if 100 < m.1 then (noPch, 4) else
  let c := rdChs m.1 m.2.1 m.2.2
  if endOf c.2.1 c.2.2 ≠ 0 then (noPch, endOf c.2.1 c.2.2)
  else if c.1.2 || !pright ⟨i.1, a.1, o.1, c.1.1⟩ then (noPch, 3) else (⟨i.1, a.1, o.1, c.1.1⟩, 0)
end Go.Proofs.YtahcokfoifdlmaaGreatDoor.Tr
namespace Go.Proofs.YtahcokfoifdlmaaGreatDoor.Tr
open Go Go.RowKit Go.WideShapes Go.ChangeShapes Go.ChangeAt Go.ChangeMaps Go.Deep Kt Lw Li Df

abbrev tC : TypeId := 32
/-- a change's cells -/
def chC (f : Ch) : List Value := [.string ⟨f.path.toArray⟩, .bool f.gone, .string ⟨f.text.toArray⟩]
theorem chC_len (r : Ch) : (chC r).length = 3 := rfl
/-- changes in a row of the call's own -/
def OwC (w : World) (B : Nat) (v : Value) (L : List Ch) : Prop := w.ownsRow B tC 3 v L.length (L.flatMap chC)
/-- '.slice A n c' reads as these changes -/
def Chs (w : World) (A : Option Addr) (c : Nat) (L : List Ch) : Prop :=
  L.length ≤ c ∧ (0 < L.length → ∃ b o, A = some ⟨b, o, none⟩ ∧ b < w.heap.size ∧ ∀ j r, L[j]? = some r → w.rangeAt b (o + 3 * j) (chC r))
theorem OwC.nil (w : World) (B : Nat) : OwC w B (.slice none 0 0) [] := World.ownsRow_nil _ _ _ _
theorem Chs.nil (w : World) (A : Option Addr) (c : Nat) : Chs w A c [] := ⟨Nat.zero_le _, fun h => by simp at h⟩
theorem Chs.keep {w w' : World} {A : Option Addr} {c : Nat} {L : List Ch} (h : Chs w A c L) (hb : Below w.heap.size w w') : Chs w' A c L :=
  ⟨h.1, fun hn => by
    obtain ⟨b, o, rfl, hlt, he⟩ := h.2 hn
    exact ⟨b, o, rfl, Nat.lt_of_lt_of_le hlt hb.size, fun j e hj i v hi => (World.cell?_of_block (a := ⟨b, o + 3 * j + i, none⟩) (hb.block b hlt)).trans (he j e hj i v hi)⟩⟩
theorem OwC.fls {w : World} {B : Nat} {v : Value} {L : List Ch} (h : OwC w B v L) : ∃ A c, v = .slice A L.length c ∧ Chs w A c L := by
  have h' := h
  rcases h.2 with ⟨rfl, h0⟩ | ⟨g, cap, cur, rfl, hB, hg, hnc, hcm, hs, ht⟩
  · have e : L = [] := List.eq_nil_of_length_eq_zero h0
    subst e
    exact ⟨none, 0, rfl, Chs.nil _ _ _⟩
  · refine ⟨_, cap, rfl, hnc, fun _ => ⟨g, 0, rfl, (Array.getElem?_eq_some_iff.1 hg).1, fun j e hj k u hk => ?_⟩⟩
    have hjl : j < L.length := (List.getElem?_eq_some_iff.1 hj).1
    have hk7 : k < 3 := (List.getElem?_eq_some_iff.1 hk).1
    have := World.ownsRow.cellAt (cap := cap) h' (3 * j + k) (by omega)
    rw [Nat.zero_add, this, flat_at chC 3 chC_len L j k e hj hk7]
    exact hk
theorem OwC.below {w w' : World} {B : Nat} {v : Value} {L : List Ch} (h : OwC w B v L) {B' : Nat} (hb : Below B' w w') (hv : ∀ g, v.ownBlock = some g → g < B') : OwC w' B v L := by
  refine ⟨h.1, ?_⟩
  rcases h.2 with ⟨h1, h2⟩ | ⟨g, cap, cur, hv', h1, h2, h3⟩
  · exact .inl ⟨h1, h2⟩
  · exact .inr ⟨g, cap, cur, hv', h1, (hb.block g (hv g (by rw [hv']; rfl))).trans h2, h3⟩
theorem OwC.keep {w w' : World} {B : Nat} {v : Value} {L : List Ch} (h : OwC w B v L) (hb : Below w.heap.size w w') : OwC w' B v L := h.below hb fun g hg => (World.ownsRow.lt h g hg).2
theorem OwC.grown {w w' : World} {B : Nat} {v : Value} {L : List Ch} {r : Option Nat} (h : OwC w B v L) (hg : w.grownBy w' r) (hr : ∀ g, v.ownBlock = some g → some g ≠ r) : OwC w' B v L := by
  refine ⟨h.1, ?_⟩
  rcases h.2 with ⟨h1, h2⟩ | ⟨g, cap, cur, hv', h1, h2, h3⟩
  · exact .inl ⟨h1, h2⟩
  · exact .inr ⟨g, cap, cur, hv', h1, (hg.block g (Array.getElem?_eq_some_iff.1 h2).1 (hr g (by rw [hv']; rfl))).trans h2, h3⟩
theorem OwC.base {w : World} {B B' : Nat} {v : Value} {L : List Ch} (h : OwC w B v L) (hb : B' ≤ B) : OwC w B' v L :=
  ⟨h.1, h.2.imp id fun ⟨g, cap, cur, hv', h1, h2⟩ => ⟨g, cap, cur, hv', Nat.le_trans hb h1, h2⟩⟩
theorem OwC.drewN {w : World} {B : Nat} {v : Value} {L : List Ch} (h : OwC w B v L) (n : Nat) : OwC (w.drewN n) B v L := h
theorem OwC.drew {w : World} {B : Nat} {v : Value} {L : List Ch} (h : OwC w B v L) : OwC w.drew B v L := h
/-- a block of other cells is none of the row's -/
theorem OwC.ne {w : World} {B g : Nat} {t : TypeId} {cs : List Value} {v : Value} {L : List Ch} (hrow : Row w g t cs) (ht : t ≠ tC) (h : OwC w B v L) : ∀ b, v.ownBlock = some b → b ≠ g := by
  intro b hb e
  subst e
  rcases h.2 with ⟨rfl, _⟩ | ⟨g', cap, cur, rfl, _, hg', _⟩
  · cases hb
  · simp only [Value.ownBlock, Option.some.injEq] at hb
    subst hb
    unfold Row at hrow
    rw [hg'] at hrow
    simp only [Option.some.injEq, Obj.cells.injEq] at hrow
    exact ht hrow.2.1.symm
theorem infoCh : (Tryz.prog.info? 32).map (fun i => (i.zero, i.size, i.bytes)) = some (some (.agg #[.string ⟨#[]⟩, .bool false, .string ⟨#[]⟩]), 3, 40) := by kernel_rfl
/-- append of one change -/
theorem wp_pushC {o : Oper} {a : Act} {K : Act → World → Prop} {Q : Exit → Act → World → Prop} {W : World} (s x : Operand)
    (ho : o.op = .call { callee := .builtin .append, args := #[s, x], argTypes := #[23, 23] })
    (B : Nat) (w0 : World) (v : Value) (L : List Ch) (e : Ch) (cs : Array Value) (hs : a.eval s = v) (hx : a.eval x = .slice (some ⟨W.heap.size, 0, none⟩) 1 1) (hc : cs = (chC e).toArray)
    (hown : OwC W B v L) (hlen : L.length + 1 ≤ 1000000000) (hb : Below B w0 W) (hbase : B ≤ W.heap.size)
    (h : ∀ v' w', OwC w' B v' (L ++ [e]) → Below B w0 w' → W.grownBy w' v.ownBlock → K (a.put o.dst v') w') : o.wp Tryz.prog a (W.alloc (.cells cs tC)) K Q := by
  obtain ⟨i0, hi0, hz0, hz1, hz2⟩ := info_parts infoCh
  subst hc
  refine wp_append_own _ s x 23 ho B tC i0 (.agg #[.string ⟨#[]⟩, .bool false, .string ⟨#[]⟩]) 3 40 Tryz.underlying23 hi0 hz0 hz1 hz2 rfl (by omega) v L.length (L.flatMap chC) hs (World.ownsRow.alloc hown _)
    ⟨W.heap.size, 0, none⟩ 1 1 (chC e) hx rfl (fun j u hu => ?_) ?_ (by unfold maxLen; omega) (by omega) (by simp; omega) (fun v' w' h1 h2 _ => ?_)
  · rw [Addr.add_mid, (Row.fresh W tC (chC e).toArray).cell]
    simpa using hu
  · intro u hu
    simp only [chC, List.mem_cons, List.not_mem_nil, or_false] at hu
    rcases hu with rfl | rfl | rfl <;> rfl
  · have hg := grownBy_back _ h2
    refine h v' w' ?_ (hb.grown hg hbase fun k hk => (World.ownsRow.lt hown k hk).1) hg
    unfold OwC
    rw [List.flatMap_append, List.length_append]
    simpa using h1
theorem wpList_pushC {ops : Array Oper} {rest : List Oper} {o : Oper} {a : Act} {Q : Exit → Act → World → Prop} {W : World} (hgd : o.guard = none) (s x : Operand)
    (ho : o.op = .call { callee := .builtin .append, args := #[s, x], argTypes := #[23, 23] })
    (B : Nat) (w0 : World) (v : Value) (L : List Ch) (e : Ch) (cs : Array Value) (hs : a.eval s = v) (hx : a.eval x = .slice (some ⟨W.heap.size, 0, none⟩) 1 1) (hc : cs = (chC e).toArray)
    (hown : OwC W B v L) (hlen : L.length + 1 ≤ 1000000000) (hb : Below B w0 W) (hbase : B ≤ W.heap.size)
    (h : ∀ v' w', OwC w' B v' (L ++ [e]) → Below B w0 w' → W.grownBy w' v.ownBlock → wpList Tryz.prog ops Q rest (a.put o.dst v') w') : wpList Tryz.prog ops Q (o :: rest) a (W.alloc (.cells cs tC)) :=
  wpList_plain hgd fun _ hK => wp_pushC s x ho B w0 v L e cs hs hx hc hown hlen hb hbase fun v' w' h1 h2 h3 => hK _ _ (h v' w' h1 h2 h3)
/-- the change number k, in a world behind -/
theorem Chs.at {w w' : World} {A : Option Addr} {c : Nat} {L : List Ch} (h : Chs w A c L) (hb : Below w.heap.size w w') {k : Nat} (hk : k < L.length) :
    ∃ b o f, A = some ⟨b, o, none⟩ ∧ b < w.heap.size ∧ L[k]? = some f ∧ L.drop k = f :: L.drop (k + 1) ∧ w'.cell? ⟨b, o + k * 3, none⟩ = some (.string ⟨f.path.toArray⟩) ∧ w'.cell? ⟨b, o + k * 3 + 1, none⟩ = some (.bool f.gone) ∧ w'.cell? ⟨b, o + k * 3 + 2, none⟩ = some (.string ⟨f.text.toArray⟩) := by
  obtain ⟨b, o, rfl, hlt, he⟩ := h.2 (by omega)
  have h1 := he k _ (List.getElem?_eq_getElem hk)
  rw [Nat.mul_comm] at h1
  have h3 : ∀ i v, (chC L[k])[i]? = some v → w'.cell? ⟨b, o + k * 3 + i, none⟩ = some v := fun i v hi => (World.cell?_of_block (a := ⟨b, o + k * 3 + i, none⟩) (hb.block b hlt)).trans (h1 i v hi)
  exact ⟨b, o, _, rfl, hlt, List.getElem?_eq_getElem hk, List.drop_eq_getElem_cons hk, h3 0 _ rfl, h3 1 _ rfl, h3 2 _ rfl⟩
section
variable {H : Type} {enc : TypeId × Value → H}
set_option maxRecDepth 100000 in
theorem open_changes {W : World} {base : Nat} {v : Value} {d : DataW H} {ps : List MemPlace}
    (hval : Value.okWide Tryz.prog W .any base 23 v) (h : DataW.Trod enc Tryz.prog W 0 (fun _ => true) true 23 v d ps) :
    ∃ (L : List Ch) (A : Option Addr) (c : Nat), v = .slice A L.length c ∧ (Chs W A c L ∧ ∀ f ∈ L, f.path.length ≤ maxLen ∧ f.text.length ≤ maxLen) ∧ L.length ≤ maxLen := by
  obtain ⟨a1, len, cap, rfl⟩ := okWide_slice Tryz.underlying23 hval
  obtain ⟨fuel, hf⟩ := h
  rcases open_slice Tryz.underlying23 hf with ⟨hcs, _⟩ | ⟨a, len', cap', m, n, D, Pl, hcs, _, hl, hm, hmm, _, hi⟩
  · simp [Value.cells] at hcs
    obtain ⟨rfl, rfl, rfl⟩ := hcs
    exact ⟨[], none, 0, rfl, ⟨Chs.nil _ _ _, fun f hf => by cases hf⟩, Nat.zero_le _⟩
  · simp [Value.cells] at hcs
    obtain ⟨rfl, rfl, rfl⟩ := hcs
    simp only [if_true] at hmm
    subst hmm
    have hC : Tryz.prog.cellsOf 32 = 3 := by kernel_rfl
    have cB : Tryz.prog.cellsOf 4 = 1 := by kernel_rfl
    have cS : Tryz.prog.cellsOf 9 = 1 := by kernel_rfl
    rw [hC] at hi
    have hel : ∀ i, i < len → ∃ e : Ch, ∀ k u, (chC e)[k]? = some u → W.cell? ((a.add (i * 3)).add k) = some u := by
      intro i hil
      obtain ⟨cs', hc, ht⟩ := hi i (by omega)
      obtain ⟨_, hcl, hat⟩ := World.cells?_some hc
      obtain ⟨y0, y1, y2, n', _, _, h0, h1, h2⟩ := trod_struct3 Tryz.underlying32 ht
      simp only [cS, cB] at h0 h1 h2
      obtain ⟨p, e0, _, hp⟩ := DataW.trod_string Tryz.underlying9 h0
      obtain ⟨gb, e1, _⟩ := DataW.trod_bool Tryz.underlying4 h1
      obtain ⟨x, e2, _, hx⟩ := DataW.trod_string Tryz.underlying9 h2
      have k0 := one_at _ _ _ e0
      have k1 := one_at _ _ _ e1
      have k2 := one_at _ _ _ e2
      refine ⟨⟨p.data.toList, gb, x.data.toList⟩, fun k u hk => ?_⟩
      have hk2 : k < 3 := (List.getElem?_eq_some_iff.1 hk).1
      rw [hat k hk2]
      rcases k with _ | _ | _ | k
      · rw [k0, ← hk]; rfl
      · rw [k1, ← hk]; rfl
      · rw [k2, ← hk]; rfl
      · omega
    have hlen : ∀ i, i < len → ∀ e : Ch, (∀ k u, (chC e)[k]? = some u → W.cell? ((a.add (i * 3)).add k) = some u) → e.path.length ≤ maxLen ∧ e.text.length ≤ maxLen := by
      intro i hil e he
      obtain ⟨cs', hc, ht⟩ := hi i (by omega)
      obtain ⟨_, hcl, hat⟩ := World.cells?_some hc
      obtain ⟨y0, y1, y2, n', _, _, h0, h1, h2⟩ := trod_struct3 Tryz.underlying32 ht
      simp only [cS, cB] at h0 h1 h2
      obtain ⟨p, e0, _, hp⟩ := DataW.trod_string Tryz.underlying9 h0
      obtain ⟨gb, e1, _⟩ := DataW.trod_bool Tryz.underlying4 h1
      obtain ⟨x, e2, _, hx⟩ := DataW.trod_string Tryz.underlying9 h2
      have k0 := one_at _ _ _ e0
      have k1 := one_at _ _ _ e1
      have k2 := one_at _ _ _ e2
      have g0 := he 0 _ rfl
      have g1 := he 2 _ rfl
      rw [hat 0 (by omega), k0] at g0
      rw [hat 2 (by omega), k2] at g1
      simp only [Option.some.injEq, Value.string.injEq] at g0 g1
      have q0 := congrArg ByteArray.size g0
      have q1 := congrArg ByteArray.size g1
      exact ⟨by rw [show e.path.length = (ByteArray.mk e.path.toArray).size from rfl, ← q0]; exact hp, by rw [show e.text.length = (ByteArray.mk e.text.toArray).size from rfl, ← q1]; exact hx⟩
    obtain ⟨L, hLl, hQ⟩ := list_of _ len hel
    refine ⟨L, some a, m, by rw [hLl], ⟨⟨by omega, fun hn => ?_⟩, fun f hf => ?_⟩, by omega⟩
    · obtain ⟨ab, ao, spot⟩ := a
      obtain ⟨e0, hc0⟩ := hel 0 (by omega)
      have hspot : spot = none := by simpa [Addr.add] using World.cell?_spot (hc0 0 _ rfl)
      subst hspot
      have hlt : ab < W.heap.size := by
        have := hc0 0 _ rfl
        rw [Addr.add_mid, Addr.add_mid] at this
        exact World.block_lt_of_cell? W _ this
      refine ⟨ab, ao, rfl, hlt, fun j e hj k u hk => ?_⟩
      have := hQ j e hj k u hk
      rw [Addr.add_mid, Addr.add_mid] at this
      rw [Nat.mul_comm 3 j]
      exact this
    · obtain ⟨j, hj⟩ := List.getElem?_of_mem hf
      exact hlen j (by rw [← hLl]; exact (List.getElem?_eq_some_iff.1 hj).1) f (hQ j f hj)
end
end Go.Proofs.YtahcokfoifdlmaaGreatDoor.Tr
namespace Go.Proofs.YtahcokfoifdlmaaGreatDoor.Tr
open Go Go.RowKit Go.WideShapes Go.ChangeShapes Go.ChangeAt Go.ChangeMaps Go.Deep Kt Lw Li Df

section
variable {H : Type} {enc : TypeId × Value → H} {P : Program}
/-- what a patch is in memory -/
def PchV (p : Pch) (Ai Ac : Option Addr) (ci cc : Nat) : Value := .agg #[.slice Ai p.ids.length ci, .string ⟨p.author.toArray⟩, .string ⟨p.note.toArray⟩, .slice Ac p.chs.length cc]
end
end Go.Proofs.YtahcokfoifdlmaaGreatDoor.Tr
namespace Go.Proofs.YtahcokfoifdlmaaGreatDoor.Tr
open Go Go.RowKit Kt Lw Li Lx Df Wr Kf

/-- what holds of an operation's value once it is done -/
def PhiP (p x : Bs) (n g B : Nat) : Nat → Value → World → Prop
  | 0, v, _ => v = .pointer (some ⟨g, 0, none⟩)
  | 1, v, _ => v = .string ⟨p.toArray⟩
  | 2, v, w => Is w (fun _ => True) v p
  | 3, v, w => Is w (fun _ => True) v (txt p)
  | 4, v, _ => v = .int .u64 (n : Int)
  | 5, v, w => Is w (fun _ => True) v (txt p ++ form n)
  | 6, v, _ => v = .pointer (some ⟨g, 2, none⟩)
  | 7, v, _ => v = .string ⟨x.toArray⟩
  | 8, v, w => Is w (fun _ => True) v x
  | 9, v, w => Own w B 5 v (txt p ++ (form n ++ txt x))
  | _, _, _ => True
theorem PhiP.keep {p x : Bs} {n g B k : Nat} {v : Value} {w w' : World} (h : PhiP p x n g B k v w) (hb : Below w.heap.size w w') : PhiP p x n g B k v w' := by
  unfold PhiP at h ⊢
  split at h <;> first | exact h | exact h.below hb | exact h.kept hb
def frP (r : Value) (p1 x2 w3 y4 y5 : Value) (v : Nat → Value) : Act := { tmps := List.toArray (r :: p1 :: x2 :: w3 :: y4 :: y5 :: v 6 :: v 7 :: v 8 :: v 9 :: v 10 :: v 11 :: v 12 :: v 13 :: v 14 :: v 15 :: []), defers := [] }
/-- what holds of all that is done so far -/
structure DnP (p x : Bs) (n g B : Nat) (w1 : World) (listed : Array Bool) (v : Nat → Value) (x2 : Value) (w : World) : Prop where
  low : Below w1.heap.size w1 w
  phi : ∀ k, k < 10 → listed.getD k false = true → PhiP p x n g B k (v (k + 6)) w
  fin : listed.getD 10 false = true → Own w B 5 x2 (txt p ++ (form n ++ txt x))
theorem DnP.step {p x : Bs} {n g B : Nat} {w1 : World} {listed : Array Bool} {v : Nat → Value} {x2 : Value} {w : World} (h : DnP p x n g B w1 listed v x2 w) (k : Nat) (hk : k < 10) {nv : Value} {w' : World} (hb : Below w.heap.size w w') (hn : PhiP p x n g B k nv w') :
    DnP p x n g B w1 (listed.setIfInBounds k true) (updX v (k + 6) nv) x2 w' := by
  refine ⟨h.low.trans (hb.mono h.low.size), fun j hj hl => ?_, fun hl => ?_⟩
  · by_cases e : j = k
    · subst e; rw [updX_same]; exact hn
    · rw [updX_other _ _ _ _ (by omega)]
      rw [getD_set_ne false (fun h => e h.symm)] at hl
      exact (h.phi j hj hl).keep hb
  · rw [getD_set_ne false (by omega)] at hl
    exact (h.fin hl).kept hb
theorem DnP.last {p x : Bs} {n g B : Nat} {w1 : World} {listed : Array Bool} {v : Nat → Value} {x2 : Value} {w : World} (h : DnP p x n g B w1 listed v x2 w) {nv : Value} (hn : Own w B 5 nv (txt p ++ (form n ++ txt x))) :
    DnP p x n g B w1 (listed.setIfInBounds 10 true) v nv w :=
  ⟨h.low, fun j hj hl => h.phi j hj (by rw [getD_set_ne false (by omega)] at hl; exact hl), fun _ => hn⟩
set_option maxRecDepth 100000 in
set_option maxHeartbeats 8000000 in
theorem change4_any {B : Code} (hB : B = (findR 4 (Tryz.f49.body.getD .skip)).getD .skip) {Q : Exit → Act → World → Prop} (p x : Bs) (n g q : Nat) (r y4 y5 x0 : Value) (w1 : World) (hq : q ≤ w1.heap.size)
    (hp : p.length ≤ 200) (hx : x.length ≤ 65536) (hn : n < 18446744073709551616)
    (hc : ∀ wz, Below w1.heap.size w1 wz → wz.cell? ⟨g, 0, none⟩ = some (.string ⟨p.toArray⟩) ∧ wz.cell? ⟨g, 2, none⟩ = some (.string ⟨x.toArray⟩))
    (hQ : ∀ (v : Nat → Value) (x2 : Value) (wz : World), Own wz q 5 x2 (txt p ++ (form n ++ txt x)) → Below w1.heap.size w1 wz → Q .normal (frP r (.pointer (some ⟨g, 0, none⟩)) x2 (.int .u64 (n : Int)) y4 y5 v) wz) :
    B.wp Tryz.prog Q (frP r (.pointer (some ⟨g, 0, none⟩)) x0 (.int .u64 (n : Int)) y4 y5 (fun _ => undef)) w1 := by
  have hf10 := form_ten (n := p.length) (by omega)
  have hfn := form_ten hn
  have hpl : (txt p).length = (form p.length).length + p.length := by unfold txt; rw [List.length_append]
  have HT1 := hide (fun (wz : World) A c (hs : Sl wz (fun _ => True) A c p) => text_put [] p none 0 A c (fun _ => True) (fun _ => True) wz (Sl.nil _ _ _ _) hs (by simp; omega))
  have HT2 := hide (fun (wz : World) A0 c0 (h0 : Sl wz (fun _ => True) A0 c0 (txt p)) => num_any (txt p) n A0 c0 (fun _ => True) wz h0 hn (by omega))
  have HT3 := hide (fun (wz : World) A0 c0 A c (h0 : Sl wz (fun _ => True) A0 c0 (txt p ++ form n)) (hs : Sl wz (fun _ => True) A c x) => text_put (txt p ++ form n) x A0 c0 A c (fun _ => True) (fun _ => True) wz h0 hs (by rw [List.length_append]; omega))
  have e2 : (txt p ++ form n) ++ (form x.length ++ x) = txt p ++ (form n ++ txt x) := by rw [List.append_assoc]; rfl
  rw [e2] at HT3
  have HC := hide hc
  have HK := hide hQ
  have HS := hide hq
  clear hf10 hfn hpl e2 hp hx hc hQ hq hn
  rw [hB]
  refine Rv.wp_region_inv (fun listed a' w' => ∃ v x2, a' = frP r (.pointer (some ⟨g, 0, none⟩)) x2 (.int .u64 (n : Int)) y4 y5 v ∧ DnP p x n g q w1 listed v x2 w') (by kernel_rfl) (by kernel_rfl) ?start ?step ?fin
  case start =>
    refine ⟨fun _ => undef, _, rfl, ⟨(Below.refl _ w1).drew, fun k hk hl => ?_, fun hl => ?_⟩⟩
    · rw [repX_false] at hl; cases hl
    · rw [repX_false] at hl; cases hl
  case fin =>
    rintro listed a' w' ⟨v, x2, rfl, hd⟩ hl
    exact HK.out v x2 w' (hd.fin (hl 10 (by simp))) hd.low
  case step =>
    rintro listed a' w' i op ⟨v, x2, rfl, hd⟩ hop hsz hdep K hK
    have hi : i < 11 := by have := (List.getElem?_eq_some_iff.1 hop).1; simpa using this
    have HKK := hide (show ∀ k nv wz, k < 10 → i = k → Below w'.heap.size w' wz → PhiP p x n g q k nv wz → K (frP r (.pointer (some ⟨g, 0, none⟩)) x2 (.int .u64 (n : Int)) y4 y5 (updX v (k + 6) nv)) wz from
      fun k nv wz hk hik hbz hph => hK _ _ ⟨_, _, rfl, by rw [hik]; exact hd.step k hk hbz hph⟩)
    obtain ⟨c0, c2⟩ := HC.out w' hd.low
    have Hd := hide hd
    have Hdep := hide hdep
    have HhK := hide hK
    clear hd hdep hK HC
    have hcase : i = 0 ∨ i = 1 ∨ i = 2 ∨ i = 3 ∨ i = 4 ∨ i = 5 ∨ i = 6 ∨ i = 7 ∨ i = 8 ∨ i = 9 ∨ i = 10 := by omega
    rcases hcase with rfl | rfl | rfl | rfl | rfl | rfl | rfl | rfl | rfl | rfl | rfl
    · simp only [List.getElem?_cons_zero, Option.some.injEq] at hop
      subst hop
      unfold frP
      go_simp
      have hk := HKK.out 0 (.pointer (some ⟨g, 0, none⟩)) _ (by omega) rfl (Below.refl _ _) rfl
      simp only [frP, updX, Nat.reduceAdd, Nat.reduceEqDiff, ↓reduceIte] at hk
      exact hk
    · simp only [List.getElem?_cons_zero, List.getElem?_cons_succ, Option.some.injEq] at hop
      subst hop
      have h0 : v 6 = .pointer (some ⟨g, 0, none⟩) := Hd.out.phi 0 (by omega) (Hdep.out 0 (by kernel_rfl))
      unfold frP
      go_simp
      have hk := HKK.out 1 (.string ⟨p.toArray⟩) _ (by omega) rfl (Below.refl _ _) rfl
      simp only [frP, updX, Nat.reduceAdd, Nat.reduceEqDiff, ↓reduceIte, h0] at hk
      exact hk
    · simp only [List.getElem?_cons_zero, List.getElem?_cons_succ, Option.some.injEq] at hop
      subst hop
      have h1 : v 7 = .string ⟨p.toArray⟩ := Hd.out.phi 1 (by omega) (Hdep.out 1 (by kernel_rfl))
      obtain ⟨cap, ob, hrun, hsl⟩ := conv_txt p w'
      have Hsl := hide hsl
      clear hsl
      unfold frP
      go_simp
      have hk := HKK.out 2 (.slice (some ⟨w'.heap.size, 0, none⟩) p.length cap) _ (by omega) rfl ((Below.refl _ _).drew.alloc (Nat.le_refl _) ob) ⟨_, _, rfl, Hsl.out⟩
      simp only [frP, updX, Nat.reduceAdd, Nat.reduceEqDiff, ↓reduceIte, h1] at hk
      exact hk
    · simp only [List.getElem?_cons_zero, List.getElem?_cons_succ, Option.some.injEq] at hop
      subst hop
      obtain ⟨A2, k2, h2, hs2⟩ : Is w' (fun _ => True) (v 8) p := Hd.out.phi 2 (by omega) (Hdep.out 2 (by kernel_rfl))
      have hT := HT1.out w' A2 k2 hs2
      clear hs2
      generalize hpl : p.length = pl at h2
      rw [hpl] at hT
      unfold frP
      go_simp
      refine hT.mono ?_
      rintro y w2 ⟨v2, rfl, hown2, hb2⟩
      have hk := HKK.out 3 (v2) _ (by omega) rfl hb2 (show Is w2 (fun _ => True) v2 (txt p) from by have := (Is.own hown2).imp (Q := fun _ => True) fun _ _ _ => trivial; rw [List.nil_append, ← hpl] at this; exact this)
      simp only [frP, updX, Nat.reduceAdd, Nat.reduceEqDiff, ↓reduceIte, h2] at hk
      exact hk
    · simp only [List.getElem?_cons_zero, List.getElem?_cons_succ, Option.some.injEq] at hop
      subst hop
      unfold frP
      go_simp
      have hk := HKK.out 4 (.int .u64 (n : Int)) _ (by omega) rfl (Below.refl _ _) rfl
      simp only [frP, updX, Nat.reduceAdd, Nat.reduceEqDiff, ↓reduceIte] at hk
      exact hk
    · simp only [List.getElem?_cons_zero, List.getElem?_cons_succ, Option.some.injEq] at hop
      subst hop
      obtain ⟨A3, k3, h3, hs3⟩ : Is w' (fun _ => True) (v 9) (txt p) := Hd.out.phi 3 (by omega) (Hdep.out 3 (by kernel_rfl))
      have h4 : v 10 = .int .u64 (n : Int) := Hd.out.phi 4 (by omega) (Hdep.out 4 (by kernel_rfl))
      have hT := HT2.out w' A3 k3 hs3
      clear hs3
      generalize (txt p).length = n3 at h3 hT
      unfold frP
      go_simp
      refine hT.mono ?_
      rintro y w2 ⟨v2, rfl, hown2, hb2⟩
      have hk := HKK.out 5 (v2) _ (by omega) rfl hb2 (show Is w2 (fun _ => True) v2 (txt p ++ form n) from (Is.own hown2).imp (Q := fun _ => True) fun _ _ _ => trivial)
      simp only [frP, updX, Nat.reduceAdd, Nat.reduceEqDiff, ↓reduceIte, h3, h4] at hk
      exact hk
    · simp only [List.getElem?_cons_zero, List.getElem?_cons_succ, Option.some.injEq] at hop
      subst hop
      unfold frP
      go_simp
      have hk := HKK.out 6 (.pointer (some ⟨g, 2, none⟩)) _ (by omega) rfl (Below.refl _ _) rfl
      simp only [frP, updX, Nat.reduceAdd, Nat.reduceEqDiff, ↓reduceIte] at hk
      exact hk
    · simp only [List.getElem?_cons_zero, List.getElem?_cons_succ, Option.some.injEq] at hop
      subst hop
      have h0 : v 12 = .pointer (some ⟨g, 2, none⟩) := Hd.out.phi 6 (by omega) (Hdep.out 6 (by kernel_rfl))
      unfold frP
      go_simp
      have hk := HKK.out 7 (.string ⟨x.toArray⟩) _ (by omega) rfl (Below.refl _ _) rfl
      simp only [frP, updX, Nat.reduceAdd, Nat.reduceEqDiff, ↓reduceIte, h0] at hk
      exact hk
    · simp only [List.getElem?_cons_zero, List.getElem?_cons_succ, Option.some.injEq] at hop
      subst hop
      have h1 : v 13 = .string ⟨x.toArray⟩ := Hd.out.phi 7 (by omega) (Hdep.out 7 (by kernel_rfl))
      obtain ⟨cap, ob, hrun, hsl⟩ := conv_txt x w'
      have Hsl := hide hsl
      clear hsl
      unfold frP
      go_simp
      have hk := HKK.out 8 (.slice (some ⟨w'.heap.size, 0, none⟩) x.length cap) _ (by omega) rfl ((Below.refl _ _).drew.alloc (Nat.le_refl _) ob) ⟨_, _, rfl, Hsl.out⟩
      simp only [frP, updX, Nat.reduceAdd, Nat.reduceEqDiff, ↓reduceIte, h1] at hk
      exact hk
    · simp only [List.getElem?_cons_zero, List.getElem?_cons_succ, Option.some.injEq] at hop
      subst hop
      obtain ⟨A3, k3, h3, hs3⟩ : Is w' (fun _ => True) (v 11) (txt p ++ form n) := Hd.out.phi 5 (by omega) (Hdep.out 5 (by kernel_rfl))
      obtain ⟨A6, k6, h6, hs6⟩ : Is w' (fun _ => True) (v 14) x := Hd.out.phi 8 (by omega) (Hdep.out 8 (by kernel_rfl))
      have hT := HT3.out w' A3 k3 A6 k6 hs3 hs6
      clear hs3 hs6
      generalize (txt p ++ form n).length = n3 at h3 hT
      generalize x.length = n6 at h6 hT
      unfold frP
      go_simp
      refine hT.mono ?_
      rintro y w2 ⟨v2, rfl, hown2, hb2⟩
      have hk := HKK.out 9 (v2) _ (by omega) rfl hb2 (show Own w2 q 5 v2 (txt p ++ (form n ++ txt x)) from own_based hown2 (by have := Hd.out.low.size; have := HS.out; omega))
      simp only [frP, updX, Nat.reduceAdd, Nat.reduceEqDiff, ↓reduceIte, h3, h6] at hk
      exact hk
    · simp only [List.getElem?_cons_zero, List.getElem?_cons_succ, Option.some.injEq] at hop
      subst hop
      have h7 : Own w' q 5 (v 15) (txt p ++ (form n ++ txt x)) := Hd.out.phi 9 (by omega) (Hdep.out 9 (by kernel_rfl))
      have hk := HhK.out (frP r (.pointer (some ⟨g, 0, none⟩)) (v 15) (.int .u64 (n : Int)) y4 y5 v) w' ⟨_, _, rfl, Hd.out.last h7⟩
      unfold frP at hk ⊢
      go_simp
      exact hk
set_option maxRecDepth 100000 in
set_option maxHeartbeats 8000000 in
theorem change_any (c : Ch) (w : World) (hp : c.path.length ≤ 200) (hx : c.text.length ≤ 65536) :
    Calls Tryz.prog 49 #[.agg #[.string ⟨c.path.toArray⟩, .bool c.gone, .string ⟨c.text.toArray⟩]] w fun y w' => ∃ v, y = .returned v ∧ Own w' w.heap.size 5 v (fCh c) ∧ Below w.heap.size w w' := by
  obtain ⟨p, gn, x⟩ := c
  simp only at hp hx ⊢
  obtain ⟨g, hg⟩ : ∃ g, g = w.heap.size := ⟨_, rfl⟩
  obtain ⟨w1, hw1⟩ : ∃ w1, w1 = w.alloc (.cells #[.string ⟨p.toArray⟩, .bool gn, .string ⟨x.toArray⟩] tC) := ⟨_, rfl⟩
  have hb1 : Below w.heap.size w w1 := by rw [hw1]; exact (Below.refl _ w).alloc (Nat.le_refl _) _
  have hrow := Row.fresh w tC #[.string ⟨p.toArray⟩, .bool gn, .string ⟨x.toArray⟩]
  rw [← hw1, ← hg] at hrow
  have c1 : w1.cell? ⟨g, 1, none⟩ = some (.bool gn) := hrow.cell 1
  have HC := hide (show ∀ wz, Below w1.heap.size w1 wz → wz.cell? ⟨g, 0, none⟩ = some (.string ⟨p.toArray⟩) ∧ wz.cell? ⟨g, 2, none⟩ = some (.string ⟨x.toArray⟩) from fun wz hz => by
    have hr := hrow.below hz hrow.lt
    exact ⟨hr.cell 0, hr.cell 2⟩)
  have HF := hide (show ∀ wz, Below w1.heap.size w1 wz → Below w.heap.size w wz from fun wz h => hb1.trans (h.mono hb1.size))
  have HS := hide hb1.size
  have Hp := hide hp
  have Hx := hide hx
  have W1 := hide hw1
  have G1 := hide hg
  clear hb1 hrow hw1 hg hp hx
  generalize hB : (findR 4 (Tryz.f49.body.getD .skip)).getD .skip = B4
  have hcov : IntKind.u64.wrap (1 : Int) = 1 := by decide
  cases gn with
  | false =>
    have HCh := hide (fun (x0 r y4 y5 : Value) (Q : Exit → Act → World → Prop) hQ => change4_any (Q := Q) hB.symm p x 0 g w.heap.size r y4 y5 x0 w1 HS.out Hp.out Hx.out (by omega) HC.out hQ)
    go_enter Tryz.func49, Tryz.ntmps49
    generalize hR : Code.region 4 _ _ = B5
    have hBB : B4 = B5 := by rw [← hB, ← hR]; kernel_rfl
    subst hBB
    go_wp2_with (first | rw [← W1.out, ← G1.out] | fail)
    rename_i KK hKK
    refine HCh.out _ _ _ _ _ ?_
    intro v x2 wz hown hlow
    have Hown := hide hown
    have Hlow := hide hlow
    clear hown hlow
    refine hKK _ _ ?_
    clear hKK KK HCh
    unfold frP
    go_wp2
    go_ret
    exact ⟨_, rfl, Hown.out, HF.out _ Hlow.out⟩
  | true =>
    have HCh := hide (fun (x0 r y4 y5 : Value) (Q : Exit → Act → World → Prop) hQ => change4_any (Q := Q) hB.symm p x 1 g w.heap.size r y4 y5 x0 w1 HS.out Hp.out Hx.out (by omega) HC.out hQ)
    go_enter Tryz.func49, Tryz.ntmps49
    generalize hR : Code.region 4 _ _ = B5
    have hBB : B4 = B5 := by rw [← hB, ← hR]; kernel_rfl
    subst hBB
    go_wp2_with (first | rw [← W1.out, ← G1.out] | fail)
    rename_i KK hKK
    refine HCh.out _ _ _ _ _ ?_
    intro v x2 wz hown hlow
    have Hown := hide hown
    have Hlow := hide hlow
    clear hown hlow
    refine hKK _ _ ?_
    clear hKK KK HCh
    unfold frP
    go_wp2
    go_ret
    exact ⟨_, rfl, Hown.out, HF.out _ Hlow.out⟩
end Go.Proofs.YtahcokfoifdlmaaGreatDoor.Tr
