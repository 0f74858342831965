/-
  A row of hunks whose last one is still written, in a copy.
-/
import Derived.Test.YtnehgogajghefaaGreatDoorHM
import Derived.Test.YtnehgogajghefaaGreatDoorIB
namespace Go.Proofs.YtnehgogajghefaaGreatDoor.Hu
open Go Go.RowKit Kt Lw Li Df

/-- hunks V, and behind them one, e, whose lines are vi, in the row '.slice go 0'; B: the call's own memory begins there -/
structure OH (w : World) (B go cap : Nat) (V : List (Hk × Value)) (e : Hk) (vi : Value) : Prop where
  row : w.ownsRow B tH 5 (.slice (some ⟨go, 0, none⟩) (V.length + 1) cap) (V.length + 1) (V.flatMap hkP ++ hkC e vi)
  rows : ∀ p ∈ V, OwT w B tS p.2 p.1.lines
theorem hk_flat (V : List (Hk × Value)) : (V.flatMap hkP).length = V.length * 5 := flat_len hkP 5 hkP_len V
theorem rowh_own {w : World} {B g cap n : Nat} {xs : List Value} {u : Value} {l : Ls} (h : w.ownsRow B tH 5 (.slice (some ⟨g, 0, none⟩) n cap) n xs) (hu : OwT w B tS u l) : u.ownBlock ≠ some g := by
  intro hee
  rcases hu.2 with ⟨rfl, _⟩ | ⟨g', cap', cur', rfl, _, hgg', _⟩
  · cases hee
  · simp only [Value.ownBlock, Option.some.injEq] at hee
    subst hee
    rcases h.2 with ⟨h', _⟩ | ⟨g2, cap2, cur2, h', _, hgg2, _⟩
    · cases h'
    · simp only [Value.slice.injEq, Option.some.injEq, Addr.mk.injEq, and_true, true_and] at h'
      obtain ⟨rfl, _⟩ := h'
      rw [hgg'] at hgg2
      simp [tS, tH] at hgg2
section
variable {w w' : World} {B go cap : Nat} {V : List (Hk × Value)} {e : Hk} {vi : Value}
theorem OH.lt (h : OH w B go cap V e vi) : B ≤ go ∧ go < w.heap.size ∧ V.length + 1 ≤ cap := by
  have h2 := World.ownsRow.lt h.row go rfl
  refine ⟨h2.1, h2.2, ?_⟩
  rcases h.row.2 with ⟨h', _⟩ | ⟨g2, cap2, cur2, h', _, _, h3, _⟩
  · cases h'
  · simp only [Value.slice.injEq, Option.some.injEq, Addr.mk.injEq, and_true, true_and] at h'
    obtain ⟨_, rfl⟩ := h'
    exact h3
theorem OH.keep (h : OH w B go cap V e vi) (hb : Below w.heap.size w w') : OH w' B go cap V e vi := by
  refine ⟨⟨h.row.1, ?_⟩, fun p hp => (h.rows p hp).kept hb⟩
  rcases h.row.2 with ⟨h1, h2⟩ | ⟨g, cap, cur, hv', h1, h2, h3⟩
  · exact .inl ⟨h1, h2⟩
  · exact .inr ⟨g, cap, cur, hv', h1, (hb.block g (Array.getElem?_eq_some_iff.1 h2).1).trans h2, h3⟩
theorem OH.cell (h : OH w B go cap V e vi) {N : Nat} (hN : N = V.length) (k : Nat) (hk : k < 5) : w.cell? ⟨go, N * 5 + k, none⟩ = (hkC e vi)[k]? ∧ w.frozen? ⟨go, N * 5 + k, none⟩ = false := by
  subst hN
  refine ⟨?_, World.ownsRow.frozenAt h.row _⟩
  rw [World.ownsRow.cellAt h.row _ (by omega), List.getElem?_append_right (by rw [hk_flat]; omega), hk_flat, Nat.add_sub_cancel_left]
/-- the last one is stored -/
theorem OH.set (h : OH w B go cap V e vi) {N : Nat} (hN : N = V.length) (k : Nat) (hk : k < 5) (u : Value) :
    (w.setCell ⟨go, N * 5 + k, none⟩ u).ownsRow B tH 5 (.slice (some ⟨go, 0, none⟩) (V.length + 1) cap) (V.length + 1) (V.flatMap hkP ++ (hkC e vi).set k u) ∧ ∀ (y : Value) (l : Ls), OwT w B tS y l → OwT (w.setCell ⟨go, N * 5 + k, none⟩ u) B tS y l := by
  subst hN
  obtain ⟨hst, hg⟩ := World.ownsRow.stored h.row (V.length * 5 + k) u
  refine ⟨?_, fun y l hy => World.ownsRow.kept hy hg (.inr (rowh_own h.row hy))⟩
  rw [List.set_append_right _ _ (by rw [hk_flat]; omega), hk_flat, Nat.add_sub_cancel_left] at hst
  exact hst
/-- the last one has its lines in a row of the call's own: it is one as the others -/
theorem OH.shut (h : OH w B go cap V e vi) (hv : OwT w B tS vi e.lines) : OwH w B (.slice (some ⟨go, 0, none⟩) (V.length + 1) cap) (V.map (·.1) ++ [e]) := by
  refine ⟨V ++ [(e, vi)], by simp, ?_, fun p hp => ?_⟩
  · rw [List.flatMap_append, List.length_append, List.length_map]
    exact h.row
  · rcases List.mem_append.1 hp with hp | hp
    · exact h.rows p hp
    · obtain rfl : p = (e, vi) := by simpa using hp
      exact hv
end
/-- the copy of the last one, in block g, with lines L so far -/
structure MK (w wr : World) (B go cap : Nat) (V : List (Hk × Value)) (e : Hk) (vi : Value) (g : Nat) (x0 x1 x2 x3 v : Value) (L : Ls) : Prop where
  out : OH wr B go cap V e vi
  row : Row wr g tH [x0, x1, x2, x3, v]
  own : OwT wr B tS v L
  apart : ∀ p ∈ V, ∀ b, v.ownBlock = some b → p.2.ownBlock ≠ some b
  ne : go ≠ g
  low : Below B w wr
  lt : B ≤ g
section
variable {w wr w1 : World} {B go cap : Nat} {V : List (Hk × Value)} {e : Hk} {vi : Value} {g : Nat} {x0 x1 x2 x3 v : Value} {L : Ls}
theorem MK.more (h : MK w wr B go cap V e vi g x0 x1 x2 x3 v L) (hb : Below wr.heap.size wr w1) : MK w w1 B go cap V e vi g x0 x1 x2 x3 v L :=
  ⟨h.out.keep hb, h.row.below hb h.row.lt, h.own.kept hb, h.apart, h.ne, h.low.trans (hb.mono (Nat.le_trans h.lt (Nat.le_of_lt h.row.lt))), h.lt⟩
theorem MK.drew (h : MK w wr B go cap V e vi g x0 x1 x2 x3 v L) : MK w wr.drew B go cap V e vi g x0 x1 x2 x3 v L := h.more ((Below.refl _ wr).drew)
theorem MK.cells (h : MK w wr B go cap V e vi g x0 x1 x2 x3 v L) : wr.cell? ⟨g, 0, none⟩ = some x0 ∧ wr.cell? ⟨g, 1, none⟩ = some x1 ∧ wr.cell? ⟨g, 2, none⟩ = some x2 ∧ wr.cell? ⟨g, 3, none⟩ = some x3 ∧ wr.cell? ⟨g, 4, none⟩ = some v :=
  ⟨h.row.cell 0, h.row.cell 1, h.row.cell 2, h.row.cell 3, h.row.cell 4⟩
theorem MK.grown (h : MK w wr B go cap V e vi g x0 x1 x2 x3 v L) (hg : wr.grownBy w1 v.ownBlock) : Row w1 g tH [x0, x1, x2, x3, v] :=
  h.row.grown hg (fun e => row_ne h.row tH_ne h.own g e.symm rfl)
/-- a line more -/
theorem MK.step (h : MK w wr B go cap V e vi g x0 x1 x2 x3 v L) {v1 : Value} {L1 : Ls} (ho : OwT w1 B tS v1 L1) (hg : wr.grownBy w1 v.ownBlock) (hbl : v1.ownBlock = v.ownBlock ∨ ∃ b, v1.ownBlock = some b ∧ wr.heap.size ≤ b) :
    MK w (w1.setCell ⟨g, 4, none⟩ v1) B go cap V e vi g x0 x1 x2 x3 v1 L1 := by
  have hr1 := h.grown hg
  have hrow1 : w1.ownsRow B tH 5 (.slice (some ⟨go, 0, none⟩) (V.length + 1) cap) (V.length + 1) (V.flatMap hkP ++ hkC e vi) := World.ownsRow.kept h.out.row hg (.inr fun he => rowh_own h.out.row h.own he.symm)
  have hrows1 : ∀ p ∈ V, OwT w1 B tS p.2 p.1.lines := fun p hp => by
    refine World.ownsRow.kept (h.out.rows p hp) hg ?_
    cases hv : v.ownBlock with
    | none =>
      cases hp2 : p.2.ownBlock with
      | none => exact .inl rfl
      | some b => exact .inr (by simp)
    | some b => exact .inr (h.apart p hp b hv)
  have hlow : Below B w w1 := h.low.grown hg (Nat.le_trans h.lt (Nat.le_of_lt h.row.lt)) fun k hk => (World.ownsRow.lt h.own k hk).1
  refine ⟨⟨?_, fun p hp => owt_off (hrows1 p hp) (row_ne hr1 tH_ne (hrows1 p hp)) _⟩, hr1.put 4 v1, owt_off ho (row_ne hr1 tH_ne ho) _, fun p hp b hb => ?_, h.ne, hlow.setCell (p := ⟨g, 4, none⟩) h.lt _, h.lt⟩
  · refine ⟨hrow1.1, ?_⟩
    rcases hrow1.2 with ⟨h1, h2⟩ | ⟨g', cap', cur, hv', h1, h2, h3⟩
    · exact .inl ⟨h1, h2⟩
    · refine .inr ⟨g', cap', cur, hv', h1, (Below.heap_setCell w1 ⟨g, 4, none⟩ v1 g' ?_).trans h2, h3⟩
      simp only [Value.slice.injEq, Option.some.injEq, Addr.mk.injEq, and_true, true_and] at hv'
      obtain ⟨rfl, _⟩ := hv'
      exact h.ne
  · rcases hbl with h1 | ⟨b', h1, h2⟩
    · exact h.apart p hp b (h1 ▸ hb)
    · intro h3
      have := (World.ownsRow.lt (h.out.rows p hp) b h3).2
      rw [h1] at hb
      injection hb with hb
      omega
/-- a number of the copy is set -/
theorem MK.num (h : MK w wr B go cap V e vi g x0 x1 x2 x3 v L) (i : Nat) (u : Value) :
    OH (wr.setCell ⟨g, i, none⟩ u) B go cap V e vi ∧ OwT (wr.setCell ⟨g, i, none⟩ u) B tS v L ∧ Row (wr.setCell ⟨g, i, none⟩ u) g tH ([x0, x1, x2, x3, v].set i u) ∧ Below B w (wr.setCell ⟨g, i, none⟩ u) := by
  refine ⟨⟨⟨h.out.row.1, ?_⟩, fun p hp => owt_off (h.out.rows p hp) (row_ne h.row tH_ne (h.out.rows p hp)) _⟩, owt_off h.own (row_ne h.row tH_ne h.own) _, h.row.put i u, h.low.setCell (p := ⟨g, i, none⟩) h.lt _⟩
  rcases h.out.row.2 with ⟨h1, h2⟩ | ⟨g', cap', cur, hv', h1, h2, h3⟩
  · exact .inl ⟨h1, h2⟩
  · refine .inr ⟨g', cap', cur, hv', h1, (Below.heap_setCell wr ⟨g, i, none⟩ u g' ?_).trans h2, h3⟩
    simp only [Value.slice.injEq, Option.some.injEq, Addr.mk.injEq, and_true, true_and] at hv'
    obtain ⟨rfl, _⟩ := hv'
    exact h.ne
end
end Go.Proofs.YtnehgogajghefaaGreatDoor.Hu
