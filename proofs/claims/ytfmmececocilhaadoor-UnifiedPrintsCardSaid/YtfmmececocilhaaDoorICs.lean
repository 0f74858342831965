/-
  A row of hunks whose last one is still written.
-/
import Derived.Test.YtfmmececocilhaaDoorHMs
namespace Go.Proofs.YtfmmececocilhaaDoor.Hu
open Go Go.RowKit Kt Lw Li Df

/-- hunks V, and behind them one, e, whose lines are vi, in the row '.slice go 0'; B: the call's own memory begins there -/
structure OH (w : World) (B go cap : Nat) (V : List (Hk × Value)) (e : Hk) (vi : Value) : Prop where
  row : w.ownsRow B tH 5 (.slice (some ⟨go, 0, none⟩) (V.length + 1) cap) (V.length + 1) (V.flatMap hkP ++ hkC e vi)
  rows : ∀ p ∈ V, OwT w B tS p.2 p.1.lines
theorem hk_flat (V : List (Hk × Value)) : (V.flatMap hkP).length = V.length * 5 := flat_len hkP 5 hkP_len V
theorem rowh_own {w : World} {B g cap n : Nat} {xs : List Value} {u : Value} {l : Ls} (h : w.ownsRow B tH 5 (.slice (some ⟨g, 0, none⟩) n cap) n xs) (hu : OwT w B tS u l) : u.ownBlock ≠ some g := by
  intro hee
  rcases hu.2 with ⟨rfl, _⟩ | ⟨g', cap', cur', rfl, _, hgg', _⟩
  · cases hee
  · simp only [Value.ownBlock, Option.some.injEq] at hee
    subst hee
    rcases h.2 with ⟨h', _⟩ | ⟨g2, cap2, cur2, h', _, hgg2, _⟩
    · cases h'
    · simp only [Value.slice.injEq, Option.some.injEq, Addr.mk.injEq, and_true, true_and] at h'
      obtain ⟨rfl, _⟩ := h'
      rw [hgg'] at hgg2
      simp [tS, tH] at hgg2
section
variable {w w' : World} {B go cap : Nat} {V : List (Hk × Value)} {e : Hk} {vi : Value}
theorem OH.lt (h : OH w B go cap V e vi) : B ≤ go ∧ go < w.heap.size ∧ V.length + 1 ≤ cap := by
  have h2 := World.ownsRow.lt h.row go rfl
  refine ⟨h2.1, h2.2, ?_⟩
  rcases h.row.2 with ⟨h', _⟩ | ⟨g2, cap2, cur2, h', _, _, h3, _⟩
  · cases h'
  · simp only [Value.slice.injEq, Option.some.injEq, Addr.mk.injEq, and_true, true_and] at h'
    obtain ⟨_, rfl⟩ := h'
    exact h3
theorem OH.keep (h : OH w B go cap V e vi) (hb : Below w.heap.size w w') : OH w' B go cap V e vi := by
  refine ⟨⟨h.row.1, ?_⟩, fun p hp => (h.rows p hp).kept hb⟩
  rcases h.row.2 with ⟨h1, h2⟩ | ⟨g, cap, cur, hv', h1, h2, h3⟩
  · exact .inl ⟨h1, h2⟩
  · exact .inr ⟨g, cap, cur, hv', h1, (hb.block g (Array.getElem?_eq_some_iff.1 h2).1).trans h2, h3⟩
theorem OH.cell (h : OH w B go cap V e vi) {N : Nat} (hN : N = V.length) (k : Nat) (hk : k < 5) : w.cell? ⟨go, N * 5 + k, none⟩ = (hkC e vi)[k]? ∧ w.frozen? ⟨go, N * 5 + k, none⟩ = false := by
  subst hN
  refine ⟨?_, World.ownsRow.frozenAt h.row _⟩
  rw [World.ownsRow.cellAt h.row _ (by omega), List.getElem?_append_right (by rw [hk_flat]; omega), hk_flat, Nat.add_sub_cancel_left]
/-- the last one is stored -/
theorem OH.set (h : OH w B go cap V e vi) {N : Nat} (hN : N = V.length) (k : Nat) (hk : k < 5) (u : Value) :
    (w.setCell ⟨go, N * 5 + k, none⟩ u).ownsRow B tH 5 (.slice (some ⟨go, 0, none⟩) (V.length + 1) cap) (V.length + 1) (V.flatMap hkP ++ (hkC e vi).set k u) ∧ ∀ (y : Value) (l : Ls), OwT w B tS y l → OwT (w.setCell ⟨go, N * 5 + k, none⟩ u) B tS y l := by
  subst hN
  obtain ⟨hst, hg⟩ := World.ownsRow.stored h.row (V.length * 5 + k) u
  refine ⟨?_, fun y l hy => World.ownsRow.kept hy hg (.inr (rowh_own h.row hy))⟩
  rw [List.set_append_right _ _ (by rw [hk_flat]; omega), hk_flat, Nat.add_sub_cancel_left] at hst
  exact hst
/-- the last one has its lines in a row of the call's own: it is one as the others -/
theorem OH.shut (h : OH w B go cap V e vi) (hv : OwT w B tS vi e.lines) : OwH w B (.slice (some ⟨go, 0, none⟩) (V.length + 1) cap) (V.map (·.1) ++ [e]) := by
  refine ⟨V ++ [(e, vi)], by simp, ?_, fun p hp => ?_⟩
  · rw [List.flatMap_append, List.length_append, List.length_map]
    exact h.row
  · rcases List.mem_append.1 hp with hp | hp
    · exact h.rows p hp
    · obtain rfl : p = (e, vi) := by simpa using hp
      exact hv
end
end Go.Proofs.YtfmmececocilhaaDoor.Hu
