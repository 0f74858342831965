/-
  trees: is a tree right?
-/
import Derived.BigQuiet
import Derived.Test.YtahcokfoifdlmaaGreatDoorQTO
import Derived.Lib.MinMaxS
namespace Go.Proofs.YtahcokfoifdlmaaGreatDoor.Tr
open Go Go.RowKit Kt Lw Li Lx

theorem can_lt {p : Bs} (h : can p = true) : lt [] p = true ∧ p.length ≤ 200 := by
  cases p with
  | nil => exact absurd h (by decide)
  | cons c r =>
    refine ⟨rfl, ?_⟩
    unfold can at h
    rw [Bool.and_eq_true, decide_eq_true_eq] at h
    exact h.1
end Go.Proofs.YtahcokfoifdlmaaGreatDoor.Tr
