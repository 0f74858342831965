/-
  What is between two trees, as it is found side by side. On lists alone: no program is named here.
-/
import Derived.Test.YtabgkfkjnpcbkaaDoorQPB
import Derived.Test.YtabgkfkjnpcbkaaDoorOA
namespace Go.Proofs.YtabgkfkjnpcbkaaDoor.Tr
open Go

/-- so much of two trees is looked at: these paths -/
structure Btw (a b : List Fl) (i k : Nat) (D : List Bs) : Prop where
  go_a : go none a = true
  go_b : go none b = true
  all : both a b = D ++ both (a.drop i) (b.drop k)
  in_a : ∀ f ∈ a.take i, f.path ∈ D
  in_b : ∀ f ∈ b.take k, f.path ∈ D
theorem Btw.start {a b : List Fl} (ha : go none a = true) (hb : go none b = true) : Btw a b 0 0 [] :=
  ⟨ha, hb, rfl, fun f hf => by simp at hf, fun f hf => by simp at hf⟩
theorem asc_split : ∀ {q : Option Bs} {D : List Bs} {p : Bs} {l : List Bs}, asc q (D ++ p :: l) = true → ∀ x ∈ D, lt x p = true
  | _, [], _, _, _, x, hx => by cases hx
  | q, d :: D, p, l, h, x, hx => by
    rw [List.cons_append] at h
    simp only [asc, Bool.and_eq_true] at h
    rcases List.mem_cons.1 hx with rfl | hx
    · exact asc_above h.2 p (by simp)
    · exact asc_split h.2 x hx
theorem go_tail : ∀ {q : Option Bs} {t : List Fl} (k : Nat), go q t = true → ∃ r, go r (t.drop k) = true
  | q, t, 0, h => ⟨q, h⟩
  | _, [], _ + 1, _ => ⟨none, rfl⟩
  | _, f :: t, k + 1, h => by
    simp only [go, Bool.and_eq_true] at h
    exact go_tail (t := t) k h.2
/-- none of what is done has the next path -/
theorem Btw.fresh {a b : List Fl} {i k : Nat} {D : List Bs} {p : Bs} {l : List Bs} (h : Btw a b i k D) (hp : both (a.drop i) (b.drop k) = p :: l) : (∀ f ∈ a.take i, f.path ≠ p) ∧ (∀ f ∈ b.take k, f.path ≠ p) := by
  have hs := asc_both a b
  rw [h.all, hp] at hs
  have := asc_split hs
  exact ⟨fun f hf e => lt_ne (this _ (h.in_a f hf)) e, fun f hf e => lt_ne (this _ (h.in_b f hf)) e⟩
theorem get_here {t : List Fl} {q : Option Bs} {k : Nat} {f : Fl} (ht : go q t = true) (hf : t[k]? = some f) : get t f.path = (f.text, true) := get_is ht (List.mem_of_getElem? hf)
theorem get_away {t : List Fl} {k : Nat} {p : Bs} (h1 : ∀ f ∈ t.take k, f.path ≠ p) (h2 : ∀ f ∈ t.drop k, f.path ≠ p) : get t p = ([], false) :=
  get_none fun f hf => by
    rw [← List.take_append_drop k t] at hf
    rcases List.mem_append.1 hf with h | h
    · exact h1 f h
    · exact h2 f h
theorem take_next {t : List Fl} {k : Nat} {f : Fl} (hf : t[k]? = some f) : t.take (k + 1) = t.take k ++ [f] ∧ t.drop k = f :: t.drop (k + 1) := by
  obtain ⟨hk, e⟩ := List.getElem?_eq_some_iff.1 hf
  subst e
  exact ⟨List.take_succ_eq_append_getElem hk, List.drop_eq_getElem_cons hk⟩
theorem above_rest {t : List Fl} {q : Option Bs} {f : Fl} {r : List Fl} (h : go q t = true) (e : t = f :: r) : ∀ g ∈ r, lt f.path g.path = true := by
  subst e
  simp only [go, Bool.and_eq_true] at h
  exact fun g hg => (go_above h.2 g hg).1
/-- a file that goes -/
theorem Btw.gone {a b : List Fl} {i k : Nat} {D : List Bs} (h : Btw a b i k D) {f : Fl} (hf : a[i]? = some f) (hl : ∀ g, b[k]? = some g → lt f.path g.path = true) :
    Btw a b (i + 1) k (D ++ [f.path]) ∧ chOf a b f.path = some ⟨f.path, true, []⟩ := by
  obtain ⟨t1, t2⟩ := take_next hf
  obtain ⟨qa, ga⟩ := go_tail i h.go_a
  obtain ⟨qb, gb⟩ := go_tail k h.go_b
  have hlow : ∀ g ∈ b.drop k, lt f.path g.path = true := fun g hg => by
    cases hb : b[k]? with
    | none =>
      have : b.drop k = [] := List.drop_eq_nil_iff.2 (List.getElem?_eq_none_iff.1 hb)
      rw [this] at hg; cases hg
    | some g0 =>
      have h0 := hl g0 hb
      obtain ⟨_, e⟩ := take_next hb
      have hr := above_rest gb e
      rw [e] at hg
      rcases List.mem_cons.1 hg with rfl | hg
      · exact h0
      · exact lt_trans h0 (hr g hg)
  have hfst : fst2 (a.drop i) (b.drop k) = f.path := by
    rw [t2]
    cases hb : b.drop k with
    | nil => rfl
    | cons g0 r =>
      have := hlow g0 (by rw [hb]; simp)
      exact if_neg (by rw [lt_asymm this]; decide)
  have hnx := both_next ga gb (.inl (by rw [t2]; simp))
  rw [hfst] at hnx
  have hb1 : beg (a.drop i) f.path = 1 := by rw [t2]; exact if_pos rfl
  have hb2 : beg (b.drop k) f.path = 0 := by
    cases hb : b.drop k with
    | nil => rfl
    | cons g0 r => exact if_neg fun e => lt_ne (hlow g0 (by rw [hb]; simp)) e.symm
  rw [hb1, hb2, List.drop_drop, List.drop_zero] at hnx
  obtain ⟨f1, f2⟩ := h.fresh hnx
  refine ⟨⟨h.go_a, h.go_b, by rw [h.all, hnx]; simp, fun x hx => ?_, fun x hx => ?_⟩, ?_⟩
  · rw [t1] at hx
    rcases List.mem_append.1 hx with hx | hx
    · exact List.mem_append.2 (.inl (h.in_a x hx))
    · rw [List.mem_singleton.1 hx]; simp
  · exact List.mem_append.2 (.inl (h.in_b x hx))
  · unfold chOf
    rw [get_here h.go_a hf, get_away f2 fun g hg e => lt_ne (hlow g hg) e.symm, if_neg (by simp)]
    rfl
/-- a file that both have -/
theorem Btw.same {a b : List Fl} {i k : Nat} {D : List Bs} (h : Btw a b i k D) {f g : Fl} (hf : a[i]? = some f) (hg : b[k]? = some g) (he : f.path = g.path) :
    Btw a b (i + 1) (k + 1) (D ++ [g.path]) ∧ chOf a b g.path = if f.text = g.text then none else some ⟨g.path, false, g.text⟩ := by
  obtain ⟨t1, t2⟩ := take_next hf
  obtain ⟨u1, u2⟩ := take_next hg
  obtain ⟨qa, ga⟩ := go_tail i h.go_a
  obtain ⟨qb, gb⟩ := go_tail k h.go_b
  have hfst : fst2 (a.drop i) (b.drop k) = g.path := by
    rw [t2, u2]
    show (if lt g.path f.path then g.path else f.path) = g.path
    rw [he, lt_irr, if_neg (by decide)]
  have hnx := both_next ga gb (.inl (by rw [t2]; simp))
  rw [hfst] at hnx
  have hb1 : beg (a.drop i) g.path = 1 := by rw [t2]; exact if_pos he
  have hb2 : beg (b.drop k) g.path = 1 := by rw [u2]; exact if_pos rfl
  rw [hb1, hb2, List.drop_drop, List.drop_drop] at hnx
  refine ⟨⟨h.go_a, h.go_b, by rw [h.all, hnx]; simp, fun x hx => ?_, fun x hx => ?_⟩, ?_⟩
  · rw [t1] at hx
    rcases List.mem_append.1 hx with hx | hx
    · exact List.mem_append.2 (.inl (h.in_a x hx))
    · rw [List.mem_singleton.1 hx, he]; simp
  · rw [u1] at hx
    rcases List.mem_append.1 hx with hx | hx
    · exact List.mem_append.2 (.inl (h.in_b x hx))
    · rw [List.mem_singleton.1 hx]; simp
  · unfold chOf
    have e1 := get_here h.go_a hf
    rw [he] at e1
    rw [e1, get_here h.go_b hg]
    by_cases ht : f.text = g.text
    · rw [if_pos (by rw [ht]), if_pos ht]
    · rw [if_neg (fun e => ht (Prod.mk.inj e).1), if_neg ht]; rfl
/-- a file that comes -/
theorem Btw.came {a b : List Fl} {i k : Nat} {D : List Bs} (h : Btw a b i k D) {g : Fl} (hg : b[k]? = some g) (hl : ∀ f, a[i]? = some f → lt g.path f.path = true) :
    Btw a b i (k + 1) (D ++ [g.path]) ∧ chOf a b g.path = some ⟨g.path, false, g.text⟩ := by
  obtain ⟨u1, u2⟩ := take_next hg
  obtain ⟨qa, ga⟩ := go_tail i h.go_a
  obtain ⟨qb, gb⟩ := go_tail k h.go_b
  have hlow : ∀ f ∈ a.drop i, lt g.path f.path = true := fun f hf => by
    cases ha : a[i]? with
    | none =>
      have : a.drop i = [] := List.drop_eq_nil_iff.2 (List.getElem?_eq_none_iff.1 ha)
      rw [this] at hf; cases hf
    | some f0 =>
      have h0 := hl f0 ha
      obtain ⟨_, e⟩ := take_next ha
      have hr := above_rest ga e
      rw [e] at hf
      rcases List.mem_cons.1 hf with rfl | hf
      · exact h0
      · exact lt_trans h0 (hr f hf)
  have hfst : fst2 (a.drop i) (b.drop k) = g.path := by
    rw [u2]
    cases ha : a.drop i with
    | nil => rfl
    | cons f0 r => exact if_pos (hlow f0 (by rw [ha]; simp))
  have hnx := both_next ga gb (.inr (by rw [u2]; simp))
  rw [hfst] at hnx
  have hb2 : beg (b.drop k) g.path = 1 := by rw [u2]; exact if_pos rfl
  have hb1 : beg (a.drop i) g.path = 0 := by
    cases ha : a.drop i with
    | nil => rfl
    | cons f0 r => exact if_neg fun e => lt_ne (hlow f0 (by rw [ha]; simp)) e.symm
  rw [hb1, hb2, List.drop_zero, List.drop_drop] at hnx
  obtain ⟨f1, f2⟩ := h.fresh hnx
  refine ⟨⟨h.go_a, h.go_b, by rw [h.all, hnx]; simp, fun x hx => ?_, fun x hx => ?_⟩, ?_⟩
  · exact List.mem_append.2 (.inl (h.in_a x hx))
  · rw [u1] at hx
    rcases List.mem_append.1 hx with hx | hx
    · exact List.mem_append.2 (.inl (h.in_b x hx))
    · rw [List.mem_singleton.1 hx]; simp
  · unfold chOf
    rw [get_here h.go_b hg, get_away f1 fun f hf e => lt_ne (hlow f hf) e.symm, if_neg (by simp)]
    rfl
theorem Btw.full {a b : List Fl} {i k : Nat} {D : List Bs} (h : Btw a b i k D) (hi : a.length ≤ i) (hk : b.length ≤ k) : D.filterMap (chOf a b) = betw a b := by
  unfold betw
  rw [h.all, List.drop_eq_nil_iff.2 hi, List.drop_eq_nil_iff.2 hk, both_nil, List.append_nil]
theorem chOf_snoc {a b : List Fl} {D : List Bs} {p : Bs} : (D ++ [p]).filterMap (chOf a b) = D.filterMap (chOf a b) ++ (chOf a b p).toList := by
  rw [List.filterMap_append]
  congr 1
end Go.Proofs.YtabgkfkjnpcbkaaDoor.Tr
