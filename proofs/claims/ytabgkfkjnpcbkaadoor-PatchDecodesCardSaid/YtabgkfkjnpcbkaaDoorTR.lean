/-
  trees: is a tree right?
-/
import Derived.BigQuiet
import Derived.Test.YtabgkfkjnpcbkaaDoorQTO
import Derived.Lib.MinMaxS
namespace Go.Proofs.YtabgkfkjnpcbkaaDoor.Tr
open Go Go.RowKit Kt Lw Li Lx

theorem can_lt {p : Bs} (h : can p = true) : lt [] p = true ∧ p.length ≤ 200 := by
  cases p with
  | nil => exact absurd h (by decide)
  | cons c r =>
    refine ⟨rfl, ?_⟩
    unfold can at h
    rw [Bool.and_eq_true, decide_eq_true_eq] at h
    exact h.1
theorem go_path {q : Option Bs} {p : Bs} {x : Bs} {t : List Fl} (h : can p = false) : go q (⟨p, x⟩ :: t) = false := by
  rw [go, h]; simp
theorem run_leq (p q : Bs) (w : World) : (binOp .leq 9 (.string ⟨p.toArray⟩) (.string ⟨q.toArray⟩)).run Tryd.prog w = .ok (.bool (!lt q p)) w := by
  have h : (Op.bytesLess p q || p == q) = !lt q p := by
    rcases lt_tri p q with h | h | h
    · rw [lt_asymm h, show Op.bytesLess p q = true from h]; rfl
    · subst h; rw [lt_irr]; simp
    · rw [h, show Op.bytesLess p q = false from lt_asymm h, show (p == q) = false by rw [beq_eq_false_iff_ne]; exact (lt_ne h).symm]; rfl
  rw [← h]
  clear h
  show (Op.stringOp .leq ⟨p.toArray⟩ ⟨q.toArray⟩).run Tryd.prog w = _
  simp only [Op.stringOp, Lib.toList_data]
  rfl
end Go.Proofs.YtabgkfkjnpcbkaaDoor.Tr
