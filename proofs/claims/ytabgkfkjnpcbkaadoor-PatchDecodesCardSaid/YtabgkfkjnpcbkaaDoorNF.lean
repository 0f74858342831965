/-
  The law of two trees, together: a right tree of a size that is looked at.
-/
import Derived.BigQuiet
import Derived.Test.YtabgkfkjnpcbkaaDoorQTH
import Derived.Test.YtabgkfkjnpcbkaaDoorTF
namespace Go.Proofs.YtabgkfkjnpcbkaaDoor.Tr
open Go Go.RowKit Kt Lw Li Lx Df

def fine (t : List Fl) : Bool := fewB t && right t
theorem fine_is {t : List Fl} (h : fine t = true) : go none t = true ∧ t.length ≤ 12 ∧ (∀ f ∈ t, f.path.length + f.text.length ≤ 600) := by
  unfold fine at h
  rw [Bool.and_eq_true] at h
  refine ⟨?_, few_is h.1⟩
  have h2 := h.2
  unfold right at h2
  simp only [Bool.and_eq_true] at h2
  exact h2.1
end Go.Proofs.YtabgkfkjnpcbkaaDoor.Tr
