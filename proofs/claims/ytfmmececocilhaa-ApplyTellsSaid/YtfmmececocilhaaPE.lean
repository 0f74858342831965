/-
  Lists that the program's text itself writes down; the chapter's example.
-/
import Derived.Test.YtfmmececocilhaaEM
namespace Go.Proofs.Ytfmmececocilhaa.Df
open Go Go.RowKit Kt Lw Li

theorem lit_vs (w : World) (E : TypeId) (l : Ls) : Vs (w.alloc (.cells (texts l).toArray E)) (fun _ => True) (some ⟨w.heap.size, 0, none⟩) l.length (texts l) :=
  ⟨by simp [texts], fun _ => ⟨w.heap.size, 0, rfl, trivial, fun j v hj => by
    rw [Nat.zero_add, (Row.fresh w _ _).cell]
    exact hj⟩⟩
theorem lit_es (w : World) (e : Ed) (A : Option Addr) (c : Nat) (P : Nat → Prop) (h : Vs w P A c (texts e.ins)) (E : TypeId) : Es (w.alloc (.cells (edC e (.slice A e.ins.length c)).toArray E)) (some ⟨w.heap.size, 0, none⟩) 1 [e] :=
  ⟨by simp, fun _ => ⟨w.heap.size, 0, rfl, by simp, fun j e' hj => by
    have hj0 : j = 0 := by
      have := (List.getElem?_eq_some_iff.1 hj).1
      simpa using this
    subst hj0
    simp at hj
    subst hj
    refine ⟨A, c, fun k v hk => ?_, Lw.Vs.bound (Lw.Vs.below h ((Below.refl _ w).alloc (Nat.le_refl _) _))⟩
    rw [show 0 + 3 * 0 + k = k from by omega, (Row.fresh w _ _).cell]
    exact hk⟩⟩
abbrev abc : Ls := [[97], [98], [99]]
abbrev axc : Ls := [[97], [120], [99]]
theorem D_abc : D abc axc = [⟨1, 1, [[120]]⟩] := by
  have h1 : fr abc axc = 1 := by decide
  have h2 : bk abc axc = 1 := by decide
  have h3 : mid abc 1 1 = [[98]] := by decide
  have h4 : mid axc 1 1 = [[120]] := by decide
  unfold D
  rw [h1, h2, h3, h4, if_pos (by decide), go_both, if_neg (by decide), if_pos (by rw [lcs_nil_right]; exact Nat.zero_le _), go_come, go_nil]
  rfl
end Go.Proofs.Ytfmmececocilhaa.Df
namespace Go.Proofs.Ytfmmececocilhaa.Df
open Go Go.RowKit Kt Lw Li

theorem right_len (n : Nat) : ∀ (L : List Ed) (last : Int), -1 ≤ last → right n last L = true → (L.length : Int) ≤ size L
  | [], _, _, _ => by simp [size]
  | e :: l, last, h1, hr => by
    obtain ⟨p, d, ep, ed, hpd, hlp, hne, hr'⟩ := right_head hr h1
    have := right_len n l _ (by omega) hr'
    rw [size, List.length_cons, ed]
    rcases hne with h | h
    · omega
    · have := List.length_pos_iff.2 h
      omega
/-- how large what is between is -/
theorem D_small (a b : Ls) (ha : a.length ≤ 100) (hb : b.length ≤ 100) : size (D a b) ≤ 200 ∧ (D a b).length ≤ 200 := by
  have h1 := D_size a b (Nat.le_trans (mul_le ha hb) (by omega))
  have h2 := right_len _ _ _ (by omega) (D_right a b)
  constructor <;> omega
theorem back_facts (a b : Ls) : play b 0 (turn a 0 (D a b)) = a ∧ right b.length (-1) (turn a 0 (D a b)) = true ∧ size (turn a 0 (D a b)) = size (D a b) := by
  have hr := D_right a b
  have h1 := play_turn a (D a b) 0 (-1) [] 0 0 (by omega) (by omega) hr rfl rfl
  have h2 := right_turn a (D a b) 0 (-1) 0 b.length (by omega) (by omega) hr (by rw [D_play]; simp)
  rw [List.nil_append, D_play, List.drop_zero] at h1
  exact ⟨h1, h2, size_turn a (D a b) (-1) 0 (by omega) hr⟩
end Go.Proofs.Ytfmmececocilhaa.Df
