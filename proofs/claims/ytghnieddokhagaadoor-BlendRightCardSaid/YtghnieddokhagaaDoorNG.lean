/-
  The laws of two trees, together: BlendTells, over whatever tells of the example and of the program's own answer.
-/
import Derived.BigQuiet
import Derived.Test.YtghnieddokhagaaDoorQJ4
import Derived.Test.YtghnieddokhagaaDoorNF
import Derived.Test.YtghnieddokhagaaDoorQTH
import Derived.Test.YtghnieddokhagaaDoorQWS
namespace Go.Proofs.YtghnieddokhagaaDoor.Tr
open Go Go.RowKit Kt Lw Li Lx Df Al

theorem same_own {w : World} {B B' : Nat} {v u : Value} {L M : List Fl} (h : OwF w B v L) (h' : OwF w B' u M) (hn : L.length ≤ 1000000) :
    Calls Tryd.prog 9 #[v, u] w fun y w' => y = .returned (.bool (decide (L = M))) ∧ Below w.heap.size w w' := by
  obtain ⟨A, c, rfl, hs⟩ := h.fls
  obtain ⟨A', c', rfl, hs'⟩ := h'.fls
  exact same_any L M A A' c c' w hs hs' hn
theorem texts_own {w : World} {B B' : Nat} {v u : Value} {l r : Ls} (h : OwT w B tS v l) (h' : OwT w B' tS u r) (hl : l.length ≤ 1000000) :
    Calls Tryd.prog 10 #[v, u] w fun y w' => y = .returned (.bool (decide (l = r))) ∧ Below w.heap.size w w' := by
  obtain ⟨A, c, rfl, hs⟩ := h.vs
  obtain ⟨A', c', rfl, hs'⟩ := h'.vs
  exact texts_any l r A A' c c' _ _ w hs hs' (by omega)
theorem trees_len (o a b : List Fl) : (trees mgT o a b).1.length ≤ 1000 ∧ (trees mgT o a b).2.length ≤ a.length + b.length := by
  refine ⟨List.length_take_le _ _, Nat.le_trans (List.length_filter_le _ _) (both_len a b)⟩
theorem fine_texts {t : List Fl} (h : fine t = true) : t.length ≤ 1000000 ∧ (∀ f ∈ t, f.text.length ≤ 600) ∧ (∀ f ∈ t, f.path.length ≤ 100000) := by
  obtain ⟨_, h1, h2⟩ := fine_is h
  exact ⟨by omega, fun f hf => by have := h2 f hf; omega, fun f hf => by have := h2 f hf; omega⟩
end Go.Proofs.YtghnieddokhagaaDoor.Tr
