/-
  Own rows of texts, and cells elsewhere.
-/
import Derived.Test.YtfmmececocilhaaDoorHEs
namespace Go.Proofs.YtfmmececocilhaaDoor.Hu
open Go Go.RowKit Kt Lw Li Df

theorem owt_off {w : World} {B : Nat} {v : Value} {l : Ls} (h : OwT w B tS v l) {g i : Nat} (hg : ∀ b, v.ownBlock = some b → b ≠ g) (u : Value) : OwT (w.setCell ⟨g, i, none⟩ u) B tS v l := by
  refine ⟨h.1, ?_⟩
  rcases h.2 with ⟨h1, h2⟩ | ⟨g', cap, cur, hv', h1, h2, h3⟩
  · exact .inl ⟨h1, h2⟩
  · exact .inr ⟨g', cap, cur, hv', h1, (Below.heap_setCell w ⟨g, i, none⟩ u g' (hg g' (by rw [hv']; rfl))).trans h2, h3⟩
theorem row_ne {w : World} {B g : Nat} {t : TypeId} {cs : List Value} {v : Value} {l : Ls} (hrow : Row w g t cs) (ht : t ≠ tS) (h : OwT w B tS v l) : ∀ b, v.ownBlock = some b → b ≠ g := by
  intro b hb e
  subst e
  rcases h.2 with ⟨rfl, _⟩ | ⟨g', cap, cur, rfl, _, hg', _⟩
  · cases hb
  · simp only [Value.ownBlock, Option.some.injEq] at hb
    subst hb
    unfold Row at hrow
    rw [hg'] at hrow
    simp only [Option.some.injEq, Obj.cells.injEq] at hrow
    exact ht hrow.2.1.symm
theorem owt_base {w : World} {B B' : Nat} {v : Value} {l : Ls} (h : OwT w B tS v l) (hb : B' ≤ B) : OwT w B' tS v l :=
  ⟨h.1, h.2.imp id fun ⟨g, cap, cur, hv', h1, h2⟩ => ⟨g, cap, cur, hv', Nat.le_trans hb h1, h2⟩⟩
theorem owt_form {w : World} {B : Nat} {v : Value} {l : Ls} (h : OwT w B tS v l) : ∃ A n c, v = .slice A n c := by
  obtain ⟨A, c, h, _⟩ := h.vs
  exact ⟨A, _, c, h⟩
theorem tH_ne : tH ≠ tS := by decide
end Go.Proofs.YtfmmececocilhaaDoor.Hu
