/-
  What lies between two short lists is short, and turns back.
-/
import Derived.Test.YtfmmececocilhaaENs
namespace Go.Proofs.Ytfmmececocilhaa.Df
open Go Go.RowKit Kt Lw Li

theorem right_len (n : Nat) : ∀ (L : List Ed) (last : Int), -1 ≤ last → right n last L = true → (L.length : Int) ≤ size L
  | [], _, _, _ => by simp [size]
  | e :: l, last, h1, hr => by
    obtain ⟨p, d, ep, ed, hpd, hlp, hne, hr'⟩ := right_head hr h1
    have := right_len n l _ (by omega) hr'
    rw [size, List.length_cons, ed]
    rcases hne with h | h
    · omega
    · have := List.length_pos_iff.2 h
      omega
/-- how large what is between is -/
theorem D_small (a b : Ls) (ha : a.length ≤ 100) (hb : b.length ≤ 100) : size (D a b) ≤ 200 ∧ (D a b).length ≤ 200 := by
  have h1 := D_size a b (Nat.le_trans (mul_le ha hb) (by omega))
  have h2 := right_len _ _ _ (by omega) (D_right a b)
  constructor <;> omega
theorem back_facts (a b : Ls) : play b 0 (turn a 0 (D a b)) = a ∧ right b.length (-1) (turn a 0 (D a b)) = true ∧ size (turn a 0 (D a b)) = size (D a b) := by
  have hr := D_right a b
  have h1 := play_turn a (D a b) 0 (-1) [] 0 0 (by omega) (by omega) hr rfl rfl
  have h2 := right_turn a (D a b) 0 (-1) 0 b.length (by omega) (by omega) hr (by rw [D_play]; simp)
  rw [List.nil_append, D_play, List.drop_zero] at h1
  exact ⟨h1, h2, size_turn a (D a b) (-1) 0 (by omega) hr⟩
end Go.Proofs.Ytfmmececocilhaa.Df
