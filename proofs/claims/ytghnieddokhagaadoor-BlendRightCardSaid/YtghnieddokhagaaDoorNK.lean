/-
  Two sides' trees, together, on lists: the tree is right, and what clashes rises.
-/
import Derived.Test.YtghnieddokhagaaDoorQTA
import Derived.Test.YtghnieddokhagaaDoorQMF
import Derived.Test.YtghnieddokhagaaDoorNF
namespace Go.Proofs.YtghnieddokhagaaDoor.Tr
open Go Go.Proofs.YtghnieddokhagaaDoor.Li Go.Proofs.YtghnieddokhagaaDoor.Df Al

theorem get_is_some {t : List Fl} {q : Option Bs} (hg : go q t = true) {f : Fl} (hf : f ∈ t) : (get t f.path).2 = true := by rw [get_is hg hf]
theorem trees_right_all {o a b : List Fl} (ha : fine a = true) (hb : fine b = true) :
    right (trees mgT o a b).1 = true ∧ go none (trees mgT o a b).1 = true ∧ (∀ f ∈ a, (get b f.path).2 = true → (get (trees mgT o a b).1 f.path).2 = true) ∧
    (∀ p ∈ (trees mgT o a b).2, ((get a p).2 = true ∨ (get b p).2 = true) ∧ (get (trees mgT o a b).1 p).2 = true) ∧ asc none (trees mgT o a b).2 = true := by
  obtain ⟨g1, l1, _⟩ := fine_is ha
  obtain ⟨g2, l2, _⟩ := fine_is hb
  have hg := trees_go mgT (o := o) g1 g2
  have hl1 := outs_len (one mgT o a b) (both a b)
  have hl2 := both_len a b
  rw [trees_is mgT o (show a.length + b.length ≤ 1000 by omega)]
  have hin : ∀ p ∈ both a b, (one mgT o a b p).2.1 = true → (get (outs (one mgT o a b) (both a b)) p).2 = true := fun p hp h => by rw [get_outs hg hp h]
  refine ⟨?_, hg, fun f hf h => hin _ (mem_both.2 (.inl ⟨f, hf, rfl⟩)) (one_both mgT (get_is_some g1 hf) h), fun p hp => ?_, asc_filter _ (asc_both a b)⟩
  · unfold right
    rw [hg, Bool.true_and, decide_eq_true_iff]
    show (outs (one mgT o a b) (both a b)).length ≤ 1000
    omega
  · obtain ⟨h1, h2⟩ := List.mem_filter.1 (show p ∈ (both a b).filter _ from hp)
    refine ⟨?_, hin p h1 (one_clash mgT h2)⟩
    rcases mem_both.1 h1 with ⟨f, hf, rfl⟩ | ⟨f, hf, rfl⟩
    · exact .inl (get_is_some g1 hf)
    · exact .inr (get_is_some g2 hf)
/-- what rises, step by step -/
theorem asc_at : ∀ {q : Option Bs} {l : List Bs}, asc q l = true → ∀ i, i + 1 < l.length → lt (l.getD i []) (l.getD (i + 1) []) = true
  | _, [], _, i, h => by simp at h
  | _, [_], _, i, h => by simp at h
  | _, p :: r :: l, h, 0, _ => by
    simp only [asc, Bool.and_eq_true] at h
    exact h.2.1
  | _, p :: r :: l, h, i + 1, hi => by
    simp only [asc, Bool.and_eq_true] at h
    have := asc_at (q := some p) (l := r :: l) (by simp only [asc, Bool.and_eq_true]; exact h.2) i (by simpa using hi)
    simpa using this
end Go.Proofs.YtghnieddokhagaaDoor.Tr
