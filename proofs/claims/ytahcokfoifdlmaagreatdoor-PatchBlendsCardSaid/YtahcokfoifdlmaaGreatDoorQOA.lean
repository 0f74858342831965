/-
  Two trees' paths, one behind the other; what becomes of a path, by what three trees have there. On lists alone: no program is named here.
-/
import Derived.Test.YtahcokfoifdlmaaGreatDoorQNA
import Derived.Test.YtahcokfoifdlmaaGreatDoorQPB
namespace Go.Proofs.YtahcokfoifdlmaaGreatDoor.Tr
open Go

/-- the first path of two trees -/
def fst2 : List Fl → List Fl → Bs
  | [], [] => []
  | [], g :: _ => g.path
  | f :: _, [] => f.path
  | f :: _, g :: _ => if lt g.path f.path then g.path else f.path
/-- how many files of a tree have a path, at its start -/
def beg (t : List Fl) (p : Bs) : Nat :=
  match t with
  | [] => 0
  | f :: _ => if f.path = p then 1 else 0
theorem beg_le (t : List Fl) (p : Bs) : beg t p ≤ t.length := by
  cases t with
  | nil => exact Nat.le_refl _
  | cons f t =>
    unfold beg
    simp only [List.length_cons]
    split <;> omega
theorem beg_mem (x : List Fl) (p z : Bs) : (∃ f ∈ x, f.path = z) ↔ (beg x p = 1 ∧ z = p) ∨ ∃ f ∈ x.drop (beg x p), f.path = z := by
  cases x with
  | nil => simp [beg]
  | cons f x =>
    by_cases h : f.path = p
    · have e : beg (f :: x) p = 1 := if_pos h
      rw [e, List.drop_succ_cons, List.drop_zero]
      constructor
      · rintro ⟨g, hg, rfl⟩
        rcases List.mem_cons.1 hg with rfl | hg
        · exact .inl ⟨rfl, h⟩
        · exact .inr ⟨g, hg, rfl⟩
      · rintro (⟨_, rfl⟩ | ⟨g, hg, rfl⟩)
        · exact ⟨f, by simp, h⟩
        · exact ⟨g, by simp [hg], rfl⟩
    · have e : beg (f :: x) p = 0 := if_neg h
      rw [e, List.drop_zero]
      constructor
      · exact fun h => .inr h
      · rintro (⟨h, _⟩ | h)
        · cases h
        · exact h
theorem beg_low {q : Option Bs} {x : List Fl} {p : Bs} (hg : go q x = true) (hp : ∀ f r, x = f :: r → f.path = p ∨ lt p f.path = true) : ∀ f ∈ x.drop (beg x p), lt p f.path = true := by
  cases x with
  | nil => intro f hf; simp at hf
  | cons f x =>
    simp only [go, Bool.and_eq_true] at hg
    have ht := go_above hg.2
    intro g hgm
    by_cases h : f.path = p
    · have e : beg (f :: x) p = 1 := if_pos h
      rw [e, List.drop_succ_cons, List.drop_zero] at hgm
      have := (ht g hgm).1
      rw [h] at this
      exact this
    · have e : beg (f :: x) p = 0 := if_neg h
      rw [e, List.drop_zero] at hgm
      have hl : lt p f.path = true := (hp f x rfl).resolve_left h
      rcases List.mem_cons.1 hgm with rfl | hgm
      · exact hl
      · exact lt_trans hl (ht g hgm).1
theorem fst2_left {x y : List Fl} : ∀ f r, x = f :: r → f.path = fst2 x y ∨ lt (fst2 x y) f.path = true := by
  rintro f r rfl
  cases y with
  | nil => exact .inl rfl
  | cons g y =>
    by_cases hl : lt g.path f.path = true
    · rw [show fst2 (f :: r) (g :: y) = g.path from if_pos hl]; exact .inr hl
    · rw [show fst2 (f :: r) (g :: y) = f.path from if_neg hl]; exact .inl rfl
theorem fst2_right {x y : List Fl} : ∀ f r, y = f :: r → f.path = fst2 x y ∨ lt (fst2 x y) f.path = true := by
  rintro g r rfl
  cases x with
  | nil => exact .inl rfl
  | cons f x =>
    by_cases hl : lt g.path f.path = true
    · rw [show fst2 (f :: x) (g :: r) = g.path from if_pos hl]; exact .inl rfl
    · rw [show fst2 (f :: x) (g :: r) = f.path from if_neg hl]
      rcases lt_tri f.path g.path with h1 | h1 | h1
      · exact .inr h1
      · exact .inl h1.symm
      · exact absurd h1 hl
theorem fst2_some {x y : List Fl} (h : x ≠ [] ∨ y ≠ []) : beg x (fst2 x y) = 1 ∨ beg y (fst2 x y) = 1 := by
  cases x with
  | nil =>
    cases y with
    | nil => exact absurd rfl (h.elim id id)
    | cons g y => right; exact if_pos rfl
  | cons f x =>
    cases y with
    | nil => left; exact if_pos rfl
    | cons g y =>
      by_cases hl : lt g.path f.path = true
      · right
        have e : fst2 (f :: x) (g :: y) = g.path := if_pos hl
        rw [e]; exact if_pos rfl
      · left
        have e : fst2 (f :: x) (g :: y) = f.path := if_neg hl
        rw [e]; exact if_pos rfl
/-- the paths of two trees: the first one, and those of what is left -/
theorem both_next {q r : Option Bs} {x y : List Fl} (hx : go q x = true) (hy : go r y = true) (h : x ≠ [] ∨ y ≠ []) :
    both x y = fst2 x y :: both (x.drop (beg x (fst2 x y))) (y.drop (beg y (fst2 x y))) := by
  have l1 := beg_low hx (fst2_left (y := y))
  have l2 := beg_low hy (fst2_right (x := x))
  have hs := fst2_some h
  have m1 := beg_mem x (fst2 x y)
  have m2 := beg_mem y (fst2 x y)
  generalize fst2 x y = p at *
  generalize beg x p = i at *
  generalize beg y p = k at *
  refine asc_ext (asc_both _ _) (q := none) (r := none) ?_ fun z => ?_
  · simp only [asc, Bool.and_eq_true]
    refine ⟨rfl, asc_weak (asc_both _ _) fun z hz => ?_⟩
    rcases mem_both.1 hz with ⟨f, hf, rfl⟩ | ⟨f, hf, rfl⟩
    · exact l1 f hf
    · exact l2 f hf
  · rw [mem_both, m1, m2, List.mem_cons, mem_both]
    constructor
    · rintro ((⟨_, h⟩ | h) | (⟨_, h⟩ | h))
      · exact .inl h
      · exact .inr (.inl h)
      · exact .inl h
      · exact .inr (.inr h)
    · rintro (h | h | h)
      · rcases hs with hs | hs
        · exact .inl (.inl ⟨hs, h⟩)
        · exact .inr (.inl ⟨hs, h⟩)
      · exact .inl (.inr h)
      · exact .inr (.inr h)
theorem both_nil : both [] [] = [] := rfl
section
variable (mg : Bs → Bs → Bs → Bs × Nat)
/-- what becomes of what three trees have at a path, and whether it clashes -/
def tog (o a b : Bs × Bool) : (Bs × Bool) × Bool :=
  if a = b ∨ b = o then (a, false)
  else if a = o then (b, false)
  else if a.2 = false then (b, true)
  else if b.2 = false then (a, true)
  else if 65536 < (mg o.1 a.1 b.1).1.length then ((if lt a.1 b.1 then b.1 else a.1, true), true)
  else (((mg o.1 a.1 b.1).1, true), decide (0 < (mg o.1 a.1 b.1).2))
theorem tog_one (o a b : List Fl) (p : Bs) :
    one mg o a b p = ((tog mg (get o p) (get a p) (get b p)).1.1, (tog mg (get o p) (get a p) (get b p)).1.2, (tog mg (get o p) (get a p) (get b p)).2) := by
  have ea := @get_empty a p
  have eb := @get_empty b p
  unfold one tog
  generalize get o p = x at *
  generalize get a p = y at *
  generalize get b p = z at *
  by_cases h1 : y = z ∨ z = x
  · rw [if_pos h1, if_pos h1]
  · rw [if_neg h1, if_neg h1]
    by_cases h2 : y = x
    · rw [if_pos h2, if_pos h2]
    · rw [if_neg h2, if_neg h2]
      by_cases h3 : y.2 = false
      · rw [if_pos h3, if_pos h3]
        have : z.2 = true := by
          cases hz : z.2 with
          | true => rfl
          | false => exact absurd ((ea h3).trans (eb hz).symm) fun e => h1 (.inl e)
        rw [this]
      · rw [if_neg h3, if_neg h3]
        by_cases h4 : z.2 = false
        · rw [if_pos h4, if_pos h4]
          have : y.2 = true := by cases hy : y.2 with
            | true => rfl
            | false => exact absurd hy h3
          rw [this]
        · rw [if_neg h4, if_neg h4]
          split <;> rfl
end
theorem outs_snoc (h : Bs → Bs × Bool × Bool) (p : Bs) : ∀ l : List Bs, outs h (l ++ [p]) = outs h l ++ (if (h p).2.1 then [⟨p, (h p).1⟩] else [])
  | [] => by
    cases hh : (h p).2.1 <;> simp [outs, hh]
  | q :: l => by
    rw [List.cons_append, outs, outs, outs_snoc h p l]
    split <;> rfl
theorem odds_snoc (h : Bs → Bs × Bool × Bool) (p : Bs) (l : List Bs) : odds h (l ++ [p]) = odds h l ++ (if (h p).2.2 then [p] else []) := by
  unfold odds
  rw [List.filter_append, List.filter_cons, List.filter_nil]
/-- the files so far, with a path more -/
theorem take_yes (h : Bs → Bs × Bool × Bool) (p : Bs) (l : List Bs) (hp : (h p).2.1 = true) (hn : ((outs h l).take 1000).length < 1000) :
    (outs h (l ++ [p])).take 1000 = (outs h l).take 1000 ++ [⟨p, (h p).1⟩] := by
  rw [outs_snoc, if_pos hp]
  rw [List.length_take] at hn
  rw [List.take_of_length_le (l := outs h l) (by omega), List.take_of_length_le]
  simp only [List.length_append, List.length_cons, List.length_nil]
  omega
theorem take_full (h : Bs → Bs × Bool × Bool) (p : Bs) (l : List Bs) (hn : ¬ ((outs h l).take 1000).length < 1000) :
    (outs h (l ++ [p])).take 1000 = (outs h l).take 1000 := by
  rw [outs_snoc]
  rw [List.length_take] at hn
  rw [List.take_append_of_le_length (by omega)]
theorem take_no (h : Bs → Bs × Bool × Bool) (p : Bs) (l : List Bs) (hp : (h p).2.1 = false) : (outs h (l ++ [p])).take 1000 = (outs h l).take 1000 := by
  rw [outs_snoc, hp]
  simp
theorem odds_yes (h : Bs → Bs × Bool × Bool) (p : Bs) (l : List Bs) (hp : (h p).2.2 = true) : odds h (l ++ [p]) = odds h l ++ [p] := by rw [odds_snoc, if_pos hp]
theorem odds_no (h : Bs → Bs × Bool × Bool) (p : Bs) (l : List Bs) (hp : (h p).2.2 = false) : odds h (l ++ [p]) = odds h l := by rw [odds_snoc, hp]; simp
end Go.Proofs.YtahcokfoifdlmaaGreatDoor.Tr
namespace Go.Proofs.YtahcokfoifdlmaaGreatDoor.Tr
open Go

/-- so much of two trees is looked at: these paths -/
structure Btw (a b : List Fl) (i k : Nat) (D : List Bs) : Prop where
  go_a : go none a = true
  go_b : go none b = true
  all : both a b = D ++ both (a.drop i) (b.drop k)
  in_a : ∀ f ∈ a.take i, f.path ∈ D
  in_b : ∀ f ∈ b.take k, f.path ∈ D
theorem Btw.start {a b : List Fl} (ha : go none a = true) (hb : go none b = true) : Btw a b 0 0 [] :=
  ⟨ha, hb, rfl, fun f hf => by simp at hf, fun f hf => by simp at hf⟩
theorem asc_split : ∀ {q : Option Bs} {D : List Bs} {p : Bs} {l : List Bs}, asc q (D ++ p :: l) = true → ∀ x ∈ D, lt x p = true
  | _, [], _, _, _, x, hx => by cases hx
  | q, d :: D, p, l, h, x, hx => by
    rw [List.cons_append] at h
    simp only [asc, Bool.and_eq_true] at h
    rcases List.mem_cons.1 hx with rfl | hx
    · exact asc_above h.2 p (by simp)
    · exact asc_split h.2 x hx
theorem go_tail : ∀ {q : Option Bs} {t : List Fl} (k : Nat), go q t = true → ∃ r, go r (t.drop k) = true
  | q, t, 0, h => ⟨q, h⟩
  | _, [], _ + 1, _ => ⟨none, rfl⟩
  | _, f :: t, k + 1, h => by
    simp only [go, Bool.and_eq_true] at h
    exact go_tail (t := t) k h.2
/-- none of what is done has the next path -/
theorem Btw.fresh {a b : List Fl} {i k : Nat} {D : List Bs} {p : Bs} {l : List Bs} (h : Btw a b i k D) (hp : both (a.drop i) (b.drop k) = p :: l) : (∀ f ∈ a.take i, f.path ≠ p) ∧ (∀ f ∈ b.take k, f.path ≠ p) := by
  have hs := asc_both a b
  rw [h.all, hp] at hs
  have := asc_split hs
  exact ⟨fun f hf e => lt_ne (this _ (h.in_a f hf)) e, fun f hf e => lt_ne (this _ (h.in_b f hf)) e⟩
theorem get_here {t : List Fl} {q : Option Bs} {k : Nat} {f : Fl} (ht : go q t = true) (hf : t[k]? = some f) : get t f.path = (f.text, true) := get_is ht (List.mem_of_getElem? hf)
theorem get_away {t : List Fl} {k : Nat} {p : Bs} (h1 : ∀ f ∈ t.take k, f.path ≠ p) (h2 : ∀ f ∈ t.drop k, f.path ≠ p) : get t p = ([], false) :=
  get_none fun f hf => by
    rw [← List.take_append_drop k t] at hf
    rcases List.mem_append.1 hf with h | h
    · exact h1 f h
    · exact h2 f h
theorem take_next {t : List Fl} {k : Nat} {f : Fl} (hf : t[k]? = some f) : t.take (k + 1) = t.take k ++ [f] ∧ t.drop k = f :: t.drop (k + 1) := by
  obtain ⟨hk, e⟩ := List.getElem?_eq_some_iff.1 hf
  subst e
  exact ⟨List.take_succ_eq_append_getElem hk, List.drop_eq_getElem_cons hk⟩
theorem above_rest {t : List Fl} {q : Option Bs} {f : Fl} {r : List Fl} (h : go q t = true) (e : t = f :: r) : ∀ g ∈ r, lt f.path g.path = true := by
  subst e
  simp only [go, Bool.and_eq_true] at h
  exact fun g hg => (go_above h.2 g hg).1
/-- a file that goes -/
theorem Btw.gone {a b : List Fl} {i k : Nat} {D : List Bs} (h : Btw a b i k D) {f : Fl} (hf : a[i]? = some f) (hl : ∀ g, b[k]? = some g → lt f.path g.path = true) :
    Btw a b (i + 1) k (D ++ [f.path]) ∧ chOf a b f.path = some ⟨f.path, true, []⟩ := by
  obtain ⟨t1, t2⟩ := take_next hf
  obtain ⟨qa, ga⟩ := go_tail i h.go_a
  obtain ⟨qb, gb⟩ := go_tail k h.go_b
  have hlow : ∀ g ∈ b.drop k, lt f.path g.path = true := fun g hg => by
    cases hb : b[k]? with
    | none =>
      have : b.drop k = [] := List.drop_eq_nil_iff.2 (List.getElem?_eq_none_iff.1 hb)
      rw [this] at hg; cases hg
    | some g0 =>
      have h0 := hl g0 hb
      obtain ⟨_, e⟩ := take_next hb
      have hr := above_rest gb e
      rw [e] at hg
      rcases List.mem_cons.1 hg with rfl | hg
      · exact h0
      · exact lt_trans h0 (hr g hg)
  have hfst : fst2 (a.drop i) (b.drop k) = f.path := by
    rw [t2]
    cases hb : b.drop k with
    | nil => rfl
    | cons g0 r =>
      have := hlow g0 (by rw [hb]; simp)
      exact if_neg (by rw [lt_asymm this]; decide)
  have hnx := both_next ga gb (.inl (by rw [t2]; simp))
  rw [hfst] at hnx
  have hb1 : beg (a.drop i) f.path = 1 := by rw [t2]; exact if_pos rfl
  have hb2 : beg (b.drop k) f.path = 0 := by
    cases hb : b.drop k with
    | nil => rfl
    | cons g0 r => exact if_neg fun e => lt_ne (hlow g0 (by rw [hb]; simp)) e.symm
  rw [hb1, hb2, List.drop_drop, List.drop_zero] at hnx
  obtain ⟨f1, f2⟩ := h.fresh hnx
  refine ⟨⟨h.go_a, h.go_b, by rw [h.all, hnx]; simp, fun x hx => ?_, fun x hx => ?_⟩, ?_⟩
  · rw [t1] at hx
    rcases List.mem_append.1 hx with hx | hx
    · exact List.mem_append.2 (.inl (h.in_a x hx))
    · rw [List.mem_singleton.1 hx]; simp
  · exact List.mem_append.2 (.inl (h.in_b x hx))
  · unfold chOf
    rw [get_here h.go_a hf, get_away f2 fun g hg e => lt_ne (hlow g hg) e.symm, if_neg (by simp)]
    rfl
/-- a file that both have -/
theorem Btw.same {a b : List Fl} {i k : Nat} {D : List Bs} (h : Btw a b i k D) {f g : Fl} (hf : a[i]? = some f) (hg : b[k]? = some g) (he : f.path = g.path) :
    Btw a b (i + 1) (k + 1) (D ++ [g.path]) ∧ chOf a b g.path = if f.text = g.text then none else some ⟨g.path, false, g.text⟩ := by
  obtain ⟨t1, t2⟩ := take_next hf
  obtain ⟨u1, u2⟩ := take_next hg
  obtain ⟨qa, ga⟩ := go_tail i h.go_a
  obtain ⟨qb, gb⟩ := go_tail k h.go_b
  have hfst : fst2 (a.drop i) (b.drop k) = g.path := by
    rw [t2, u2]
    show (if lt g.path f.path then g.path else f.path) = g.path
    rw [he, lt_irr, if_neg (by decide)]
  have hnx := both_next ga gb (.inl (by rw [t2]; simp))
  rw [hfst] at hnx
  have hb1 : beg (a.drop i) g.path = 1 := by rw [t2]; exact if_pos he
  have hb2 : beg (b.drop k) g.path = 1 := by rw [u2]; exact if_pos rfl
  rw [hb1, hb2, List.drop_drop, List.drop_drop] at hnx
  refine ⟨⟨h.go_a, h.go_b, by rw [h.all, hnx]; simp, fun x hx => ?_, fun x hx => ?_⟩, ?_⟩
  · rw [t1] at hx
    rcases List.mem_append.1 hx with hx | hx
    · exact List.mem_append.2 (.inl (h.in_a x hx))
    · rw [List.mem_singleton.1 hx, he]; simp
  · rw [u1] at hx
    rcases List.mem_append.1 hx with hx | hx
    · exact List.mem_append.2 (.inl (h.in_b x hx))
    · rw [List.mem_singleton.1 hx]; simp
  · unfold chOf
    have e1 := get_here h.go_a hf
    rw [he] at e1
    rw [e1, get_here h.go_b hg]
    by_cases ht : f.text = g.text
    · rw [if_pos (by rw [ht]), if_pos ht]
    · rw [if_neg (fun e => ht (Prod.mk.inj e).1), if_neg ht]; rfl
/-- a file that comes -/
theorem Btw.came {a b : List Fl} {i k : Nat} {D : List Bs} (h : Btw a b i k D) {g : Fl} (hg : b[k]? = some g) (hl : ∀ f, a[i]? = some f → lt g.path f.path = true) :
    Btw a b i (k + 1) (D ++ [g.path]) ∧ chOf a b g.path = some ⟨g.path, false, g.text⟩ := by
  obtain ⟨u1, u2⟩ := take_next hg
  obtain ⟨qa, ga⟩ := go_tail i h.go_a
  obtain ⟨qb, gb⟩ := go_tail k h.go_b
  have hlow : ∀ f ∈ a.drop i, lt g.path f.path = true := fun f hf => by
    cases ha : a[i]? with
    | none =>
      have : a.drop i = [] := List.drop_eq_nil_iff.2 (List.getElem?_eq_none_iff.1 ha)
      rw [this] at hf; cases hf
    | some f0 =>
      have h0 := hl f0 ha
      obtain ⟨_, e⟩ := take_next ha
      have hr := above_rest ga e
      rw [e] at hf
      rcases List.mem_cons.1 hf with rfl | hf
      · exact h0
      · exact lt_trans h0 (hr f hf)
  have hfst : fst2 (a.drop i) (b.drop k) = g.path := by
    rw [u2]
    cases ha : a.drop i with
    | nil => rfl
    | cons f0 r => exact if_pos (hlow f0 (by rw [ha]; simp))
  have hnx := both_next ga gb (.inr (by rw [u2]; simp))
  rw [hfst] at hnx
  have hb2 : beg (b.drop k) g.path = 1 := by rw [u2]; exact if_pos rfl
  have hb1 : beg (a.drop i) g.path = 0 := by
    cases ha : a.drop i with
    | nil => rfl
    | cons f0 r => exact if_neg fun e => lt_ne (hlow f0 (by rw [ha]; simp)) e.symm
  rw [hb1, hb2, List.drop_zero, List.drop_drop] at hnx
  obtain ⟨f1, f2⟩ := h.fresh hnx
  refine ⟨⟨h.go_a, h.go_b, by rw [h.all, hnx]; simp, fun x hx => ?_, fun x hx => ?_⟩, ?_⟩
  · exact List.mem_append.2 (.inl (h.in_a x hx))
  · rw [u1] at hx
    rcases List.mem_append.1 hx with hx | hx
    · exact List.mem_append.2 (.inl (h.in_b x hx))
    · rw [List.mem_singleton.1 hx]; simp
  · unfold chOf
    rw [get_here h.go_b hg, get_away f1 fun f hf e => lt_ne (hlow f hf) e.symm, if_neg (by simp)]
    rfl
theorem Btw.full {a b : List Fl} {i k : Nat} {D : List Bs} (h : Btw a b i k D) (hi : a.length ≤ i) (hk : b.length ≤ k) : D.filterMap (chOf a b) = betw a b := by
  unfold betw
  rw [h.all, List.drop_eq_nil_iff.2 hi, List.drop_eq_nil_iff.2 hk, both_nil, List.append_nil]
theorem chOf_snoc {a b : List Fl} {D : List Bs} {p : Bs} : (D ++ [p]).filterMap (chOf a b) = D.filterMap (chOf a b) ++ (chOf a b p).toList := by
  rw [List.filterMap_append]
  congr 1
end Go.Proofs.YtahcokfoifdlmaaGreatDoor.Tr
