/-
  Two trees' paths, one behind the other; what becomes of a path, by what three trees have there. On lists alone: no program is named here.
-/
import Derived.Test.YtabgkfkjnpcbkaaDoorQTX
namespace Go.Proofs.YtabgkfkjnpcbkaaDoor.Tr
open Go

/-- the first path of two trees -/
def fst2 : List Fl → List Fl → Bs
  | [], [] => []
  | [], g :: _ => g.path
  | f :: _, [] => f.path
  | f :: _, g :: _ => if lt g.path f.path then g.path else f.path
/-- how many files of a tree have a path, at its start -/
def beg (t : List Fl) (p : Bs) : Nat :=
  match t with
  | [] => 0
  | f :: _ => if f.path = p then 1 else 0
theorem beg_le (t : List Fl) (p : Bs) : beg t p ≤ t.length := by
  cases t with
  | nil => exact Nat.le_refl _
  | cons f t =>
    unfold beg
    simp only [List.length_cons]
    split <;> omega
theorem beg_mem (x : List Fl) (p z : Bs) : (∃ f ∈ x, f.path = z) ↔ (beg x p = 1 ∧ z = p) ∨ ∃ f ∈ x.drop (beg x p), f.path = z := by
  cases x with
  | nil => simp [beg]
  | cons f x =>
    by_cases h : f.path = p
    · have e : beg (f :: x) p = 1 := if_pos h
      rw [e, List.drop_succ_cons, List.drop_zero]
      constructor
      · rintro ⟨g, hg, rfl⟩
        rcases List.mem_cons.1 hg with rfl | hg
        · exact .inl ⟨rfl, h⟩
        · exact .inr ⟨g, hg, rfl⟩
      · rintro (⟨_, rfl⟩ | ⟨g, hg, rfl⟩)
        · exact ⟨f, by simp, h⟩
        · exact ⟨g, by simp [hg], rfl⟩
    · have e : beg (f :: x) p = 0 := if_neg h
      rw [e, List.drop_zero]
      constructor
      · exact fun h => .inr h
      · rintro (⟨h, _⟩ | h)
        · cases h
        · exact h
theorem beg_low {q : Option Bs} {x : List Fl} {p : Bs} (hg : go q x = true) (hp : ∀ f r, x = f :: r → f.path = p ∨ lt p f.path = true) : ∀ f ∈ x.drop (beg x p), lt p f.path = true := by
  cases x with
  | nil => intro f hf; simp at hf
  | cons f x =>
    simp only [go, Bool.and_eq_true] at hg
    have ht := go_above hg.2
    intro g hgm
    by_cases h : f.path = p
    · have e : beg (f :: x) p = 1 := if_pos h
      rw [e, List.drop_succ_cons, List.drop_zero] at hgm
      have := (ht g hgm).1
      rw [h] at this
      exact this
    · have e : beg (f :: x) p = 0 := if_neg h
      rw [e, List.drop_zero] at hgm
      have hl : lt p f.path = true := (hp f x rfl).resolve_left h
      rcases List.mem_cons.1 hgm with rfl | hgm
      · exact hl
      · exact lt_trans hl (ht g hgm).1
theorem fst2_left {x y : List Fl} : ∀ f r, x = f :: r → f.path = fst2 x y ∨ lt (fst2 x y) f.path = true := by
  rintro f r rfl
  cases y with
  | nil => exact .inl rfl
  | cons g y =>
    by_cases hl : lt g.path f.path = true
    · rw [show fst2 (f :: r) (g :: y) = g.path from if_pos hl]; exact .inr hl
    · rw [show fst2 (f :: r) (g :: y) = f.path from if_neg hl]; exact .inl rfl
theorem fst2_right {x y : List Fl} : ∀ f r, y = f :: r → f.path = fst2 x y ∨ lt (fst2 x y) f.path = true := by
  rintro g r rfl
  cases x with
  | nil => exact .inl rfl
  | cons f x =>
    by_cases hl : lt g.path f.path = true
    · rw [show fst2 (f :: x) (g :: r) = g.path from if_pos hl]; exact .inl rfl
    · rw [show fst2 (f :: x) (g :: r) = f.path from if_neg hl]
      rcases lt_tri f.path g.path with h1 | h1 | h1
      · exact .inr h1
      · exact .inl h1.symm
      · exact absurd h1 hl
theorem fst2_some {x y : List Fl} (h : x ≠ [] ∨ y ≠ []) : beg x (fst2 x y) = 1 ∨ beg y (fst2 x y) = 1 := by
  cases x with
  | nil =>
    cases y with
    | nil => exact absurd rfl (h.elim id id)
    | cons g y => right; exact if_pos rfl
  | cons f x =>
    cases y with
    | nil => left; exact if_pos rfl
    | cons g y =>
      by_cases hl : lt g.path f.path = true
      · right
        have e : fst2 (f :: x) (g :: y) = g.path := if_pos hl
        rw [e]; exact if_pos rfl
      · left
        have e : fst2 (f :: x) (g :: y) = f.path := if_neg hl
        rw [e]; exact if_pos rfl
/-- the paths of two trees: the first one, and those of what is left -/
theorem both_next {q r : Option Bs} {x y : List Fl} (hx : go q x = true) (hy : go r y = true) (h : x ≠ [] ∨ y ≠ []) :
    both x y = fst2 x y :: both (x.drop (beg x (fst2 x y))) (y.drop (beg y (fst2 x y))) := by
  have l1 := beg_low hx (fst2_left (y := y))
  have l2 := beg_low hy (fst2_right (x := x))
  have hs := fst2_some h
  have m1 := beg_mem x (fst2 x y)
  have m2 := beg_mem y (fst2 x y)
  generalize fst2 x y = p at *
  generalize beg x p = i at *
  generalize beg y p = k at *
  refine asc_ext (asc_both _ _) (q := none) (r := none) ?_ fun z => ?_
  · simp only [asc, Bool.and_eq_true]
    refine ⟨rfl, asc_weak (asc_both _ _) fun z hz => ?_⟩
    rcases mem_both.1 hz with ⟨f, hf, rfl⟩ | ⟨f, hf, rfl⟩
    · exact l1 f hf
    · exact l2 f hf
  · rw [mem_both, m1, m2, List.mem_cons, mem_both]
    constructor
    · rintro ((⟨_, h⟩ | h) | (⟨_, h⟩ | h))
      · exact .inl h
      · exact .inr (.inl h)
      · exact .inl h
      · exact .inr (.inr h)
    · rintro (h | h | h)
      · rcases hs with hs | hs
        · exact .inl (.inl ⟨hs, h⟩)
        · exact .inr (.inl ⟨hs, h⟩)
      · exact .inl (.inr h)
      · exact .inr (.inr h)
theorem both_nil : both [] [] = [] := rfl
section
variable (mg : Bs → Bs → Bs → Bs × Nat)
/-- what becomes of what three trees have at a path, and whether it clashes -/
def tog (o a b : Bs × Bool) : (Bs × Bool) × Bool :=
  if a = b ∨ b = o then (a, false)
  else if a = o then (b, false)
  else if a.2 = false then (b, true)
  else if b.2 = false then (a, true)
  else if 65536 < (mg o.1 a.1 b.1).1.length then ((if lt a.1 b.1 then b.1 else a.1, true), true)
  else (((mg o.1 a.1 b.1).1, true), decide (0 < (mg o.1 a.1 b.1).2))
theorem tog_one (o a b : List Fl) (p : Bs) :
    one mg o a b p = ((tog mg (get o p) (get a p) (get b p)).1.1, (tog mg (get o p) (get a p) (get b p)).1.2, (tog mg (get o p) (get a p) (get b p)).2) := by
  have ea := @get_empty a p
  have eb := @get_empty b p
  unfold one tog
  generalize get o p = x at *
  generalize get a p = y at *
  generalize get b p = z at *
  by_cases h1 : y = z ∨ z = x
  · rw [if_pos h1, if_pos h1]
  · rw [if_neg h1, if_neg h1]
    by_cases h2 : y = x
    · rw [if_pos h2, if_pos h2]
    · rw [if_neg h2, if_neg h2]
      by_cases h3 : y.2 = false
      · rw [if_pos h3, if_pos h3]
        have : z.2 = true := by
          cases hz : z.2 with
          | true => rfl
          | false => exact absurd ((ea h3).trans (eb hz).symm) fun e => h1 (.inl e)
        rw [this]
      · rw [if_neg h3, if_neg h3]
        by_cases h4 : z.2 = false
        · rw [if_pos h4, if_pos h4]
          have : y.2 = true := by cases hy : y.2 with
            | true => rfl
            | false => exact absurd hy h3
          rw [this]
        · rw [if_neg h4, if_neg h4]
          split <;> rfl
end
theorem outs_snoc (h : Bs → Bs × Bool × Bool) (p : Bs) : ∀ l : List Bs, outs h (l ++ [p]) = outs h l ++ (if (h p).2.1 then [⟨p, (h p).1⟩] else [])
  | [] => by
    cases hh : (h p).2.1 <;> simp [outs, hh]
  | q :: l => by
    rw [List.cons_append, outs, outs, outs_snoc h p l]
    split <;> rfl
theorem odds_snoc (h : Bs → Bs × Bool × Bool) (p : Bs) (l : List Bs) : odds h (l ++ [p]) = odds h l ++ (if (h p).2.2 then [p] else []) := by
  unfold odds
  rw [List.filter_append, List.filter_cons, List.filter_nil]
/-- the files so far, with a path more -/
theorem take_yes (h : Bs → Bs × Bool × Bool) (p : Bs) (l : List Bs) (hp : (h p).2.1 = true) (hn : ((outs h l).take 1000).length < 1000) :
    (outs h (l ++ [p])).take 1000 = (outs h l).take 1000 ++ [⟨p, (h p).1⟩] := by
  rw [outs_snoc, if_pos hp]
  rw [List.length_take] at hn
  rw [List.take_of_length_le (l := outs h l) (by omega), List.take_of_length_le]
  simp only [List.length_append, List.length_cons, List.length_nil]
  omega
theorem take_full (h : Bs → Bs × Bool × Bool) (p : Bs) (l : List Bs) (hn : ¬ ((outs h l).take 1000).length < 1000) :
    (outs h (l ++ [p])).take 1000 = (outs h l).take 1000 := by
  rw [outs_snoc]
  rw [List.length_take] at hn
  rw [List.take_append_of_le_length (by omega)]
theorem take_no (h : Bs → Bs × Bool × Bool) (p : Bs) (l : List Bs) (hp : (h p).2.1 = false) : (outs h (l ++ [p])).take 1000 = (outs h l).take 1000 := by
  rw [outs_snoc, hp]
  simp
theorem odds_yes (h : Bs → Bs × Bool × Bool) (p : Bs) (l : List Bs) (hp : (h p).2.2 = true) : odds h (l ++ [p]) = odds h l ++ [p] := by rw [odds_snoc, if_pos hp]
theorem odds_no (h : Bs → Bs × Bool × Bool) (p : Bs) (l : List Bs) (hp : (h p).2.2 = false) : odds h (l ++ [p]) = odds h l := by rw [odds_snoc, hp]; simp
end Go.Proofs.YtabgkfkjnpcbkaaDoor.Tr
