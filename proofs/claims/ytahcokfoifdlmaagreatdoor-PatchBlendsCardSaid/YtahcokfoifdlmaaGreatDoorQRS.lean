/-
  A range over an iterator that keeps where it is in a block of cells of the caller's.
-/
import Derived.RangeFuncNested
import Derived.RangeFuncBound
import Derived.RangeFuncCalls
import Derived.RangeFuncLeaves
import Derived.RangeFuncBox
import Derived.Shelf.Abstract
import Derived.Shelf.RegionOpen
import Derived.WalkKit
import Derived.OwnWalkIn
import Derived.TacticsInMore
import Derived.LoopNIn
import Derived.LoopIn
import Derived.Test.YtahcokfoifdlmaaGreatDoorKit
import Derived.Test.YtahcokfoifdlmaaGreatDoorQEB
namespace Go.Proofs.YtahcokfoifdlmaaGreatDoor.Rs
open Go Go.RowKit

/-- a loop's two blocks: the calls that wait, and its record -/
structure Book (D : Nat) (r : Loop) (W : World) : Prop where
  loop : W.heap[D + 1]? = some (.loop r)
  wait : W.heap[D]? = some (.deferred (some []))
section
variable {D : Nat} {r r' : Loop} {A B : World}
theorem Book.put (h : Book D r A) : Book D r' (A.putObj (D + 1) (.loop r')) :=
  ⟨World.putObj_heap_same (Array.getElem?_eq_some_iff.1 h.loop).1, (World.putObj_heap_other (by omega)).trans h.wait⟩
theorem Book.keep (h : Book D r A) (hk : KeepsFrom D A B) : Book D r B := ⟨hk.same _ _ (by omega) h.loop rfl, hk.same _ _ (Nat.le_refl _) h.wait rfl⟩
end
/-- how a round's body is left -/
def left {α : Type} (D : Nat) (Kp : World → World → Prop) (I : List α → World → Prop) (Ix : Nat → List α → World → Prop) (xs : List α) (W : World) : Exit → Act → World → Prop
  | .normal, _, W' => KeepsFrom D W W' ∧ Kp W W' ∧ I xs W'
  | .exit id, _, W' => KeepsFrom D W W' ∧ Kp W W' ∧ Ix id xs W'
  | _, _, _ => False
variable {F : Fence} {n : Nat} {P : Program}
end Go.Proofs.YtahcokfoifdlmaaGreatDoor.Rs
namespace Go.Proofs.YtahcokfoifdlmaaGreatDoor.Df
open Go Go.RowKit Kt Lw Li

abbrev tI : TypeId := 3
/-- a row of numbers of the call's own, as long as it may be -/
def Nums (w : World) (B g N : Nat) (L : List Int) : Prop := w.ownsRow B tI 1 (.slice (some ⟨g, 0, none⟩) N N) N (nums .i64 L)
theorem Nums.len {w : World} {B g N : Nat} {L : List Int} (h : Nums w B g N L) : L.length = N := by
  have := h.1
  rw [nums_len] at this
  omega
theorem Nums.cell {w : World} {B g N : Nat} {L : List Int} (h : Nums w B g N L) {k : Nat} (hk : k < N) : w.cell? ⟨g, k, none⟩ = some (.int .i64 (L.getD k 0)) := by
  rw [World.ownsRow.cellAt h k (by omega), nums_at _ _ _ (by rw [h.len]; exact hk)]
theorem Nums.lt {w : World} {B g N : Nat} {L : List Int} (h : Nums w B g N L) : B ≤ g ∧ g < w.heap.size := World.ownsRow.lt h g rfl
theorem Nums.kept {w w' : World} {B g N : Nat} {L : List Int} (h : Nums w B g N L) (hb : Below w.heap.size w w') : Nums w' B g N L :=
  World.ownsRow.kept (row := none) h ⟨hb.os, hb.tape, hb.output, hb.size, fun k hk _ => hb.block k hk⟩ (.inr (by simp [Value.ownBlock]))
theorem Nums.drew {w : World} {B g N : Nat} {L : List Int} (h : Nums w B g N L) : Nums w.drew B g N L := h
theorem Nums.drewN {w : World} {B g N : Nat} {L : List Int} (h : Nums w B g N L) (n : Nat) : Nums (w.drewN n) B g N L := h
theorem Nums.put {w : World} {B g N : Nat} {L : List Int} (h : Nums w B g N L) (k : Nat) (z : Int) : Nums (w.setCell ⟨g, k, none⟩ (.int .i64 z)) B g N (L.set k z) := by
  have := (World.ownsRow.stored h k (.int .i64 z)).1
  unfold Nums nums
  rw [List.map_set]
  exact this
theorem Nums.free {w : World} {B g N : Nat} {L : List Int} (h : Nums w B g N L) (k : Nat) : w.frozen? ⟨g, k, none⟩ = false := World.ownsRow.frozenAt h k
theorem Nums.off {w : World} {B g N : Nat} {L : List Int} (h : Nums w B g N L) {b : Nat} (hb : b ≠ g) (k : Nat) (u : Value) : Nums (w.setCell ⟨b, k, none⟩ u) B g N L :=
  World.ownsRow.kept (row := some b) h (grown_put (World.grownBy.refl w (some b)) u) (.inr (by simp [Value.ownBlock]; exact fun e => hb e.symm))
theorem Nums.made (w : World) (B N : Nat) (hB : B ≤ w.heap.size) (hN : N ≤ 1000000) : Nums (w.alloc (.cells (madeCells #[.int .i64 0] N) tI)) B w.heap.size N (List.replicate N 0) := by
  have := World.ownsRow_lit (e := tI) (size := 1) (base := B) w (madeCells #[.int .i64 0] N) N hB (by unfold maxLen; omega) (by simp [madeCells])
  unfold Nums nums
  rw [List.map_replicate, ← toList_madeCells_one]
  exact this

theorem idx_inj {W i j i' j' : Nat} (hj : j < W) (hj' : j' < W) (h : i * W + j = i' * W + j') : i = i' ∧ j = j' := by
  have h1 : (i * W + j) / W = i := by rw [Nat.mul_comm, Nat.mul_add_div (by omega), Nat.div_eq_of_lt hj, Nat.add_zero]
  have h2 : (i' * W + j') / W = i' := by rw [Nat.mul_comm, Nat.mul_add_div (by omega), Nat.div_eq_of_lt hj', Nat.add_zero]
  have h3 : i = i' := by rw [← h1, ← h2, h]
  subst h3
  exact ⟨rfl, by omega⟩
theorem idx_lt {W i j m : Nat} (hi : i ≤ m) (hj : j < W) : i * W + j < (m + 1) * W := by
  have : i * W ≤ m * W := Nat.mul_le_mul_right W hi
  rw [Nat.succ_mul]
  omega
/-- the table is filled behind line i, and on line i behind place j -/
def Filled (x y : Ls) (i j : Nat) (L : List Int) : Prop :=
  ∀ i' j' : Nat, i' ≤ x.length → j' ≤ y.length → (i < i' ∨ j' = y.length ∨ (i = i' ∧ j ≤ j')) → L.getD (i' * (y.length + 1) + j') 0 = (lcs (x.drop i') (y.drop j') : Nat)
theorem set_getD (L : List Int) (k k' : Nat) (z : Int) (hk : k < L.length) : (L.set k z).getD k' 0 = if k = k' then z else L.getD k' 0 := by
  rw [List.getD_eq_getElem?_getD, List.getElem?_set, List.getD_eq_getElem?_getD]
  by_cases h : k = k'
  · subst h; simp [hk]
  · simp [h]
theorem drop_getD_cons (x : Ls) (i : Nat) (h : i < x.length) : x.drop i = x.getD i [] :: x.drop (i + 1) := by
  rw [List.drop_eq_getElem_cons h]
  simp [List.getElem?_eq_getElem h]
theorem Filled.step {x y : Ls} {i j : Nat} {L : List Int} (h : Filled x y i (j + 1) L) (hi : i < x.length) (hj : j < y.length) (hL : L.length = (x.length + 1) * (y.length + 1)) (z : Int)
    (hz : z = if x.getD i [] = y.getD j [] then L.getD ((i + 1) * (y.length + 1) + (j + 1)) 0 + 1 else max (L.getD ((i + 1) * (y.length + 1) + j) 0) (L.getD (i * (y.length + 1) + (j + 1)) 0)) :
    Filled x y i j (L.set (i * (y.length + 1) + j) z) := by
  intro i' j' hi' hj' hc
  rw [set_getD _ _ _ _ (by rw [hL]; exact idx_lt (by omega) (by omega))]
  by_cases he : i * (y.length + 1) + j = i' * (y.length + 1) + j'
  · obtain ⟨rfl, rfl⟩ := idx_inj (by omega) (by omega) he
    rw [if_pos rfl, hz, drop_getD_cons x _ hi, drop_getD_cons y _ hj, lcs_cons, h (i + 1) (j + 1) (by omega) (by omega) (.inl (by omega)), h (i + 1) j (by omega) (by omega) (.inl (by omega)), h i (j + 1) (by omega) (by omega) (.inr (.inr ⟨rfl, Nat.le_refl _⟩)),
      ← drop_getD_cons x _ hi, ← drop_getD_cons y _ hj]
    split <;> omega
  · rw [if_neg he]
    refine h i' j' hi' hj' ?_
    rcases hc with h1 | h1 | ⟨h1, h2⟩
    · exact .inl h1
    · exact .inr (.inl h1)
    · right; right
      refine ⟨h1, ?_⟩
      rcases Nat.lt_or_ge j j' with h3 | h3
      · exact h3
      · exfalso; apply he; rw [h1, show j = j' from by omega]
theorem Filled.first (x y : Ls) (N : Nat) : Filled x y x.length 0 (List.replicate N 0) := by
  intro i' j' hi' hj' hc
  have h0 : (List.replicate N (0 : Int)).getD (i' * (y.length + 1) + j') 0 = 0 := by
    rw [List.getD_eq_getElem?_getD, List.getElem?_replicate]
    split <;> rfl
  rw [h0]
  rcases hc with h1 | h1 | ⟨h1, _⟩
  · omega
  · rw [h1, List.drop_length, lcs_nil_right]; rfl
  · rw [← h1, List.drop_length, lcs_nil_left]; rfl
end Go.Proofs.YtahcokfoifdlmaaGreatDoor.Df
namespace Go.Proofs.YtahcokfoifdlmaaGreatDoor.Df
open Go Go.RowKit Kt Lw Li

theorem Filled.all {x y : Ls} {L : List Int} (h : Filled x y 0 0 L) {i' j' : Nat} (hi : i' ≤ x.length) (hj : j' ≤ y.length) : L.getD (i' * (y.length + 1) + j') 0 = (lcs (x.drop i') (y.drop j') : Nat) := by
  refine h i' j' hi hj ?_
  rcases Nat.eq_zero_or_pos i' with h0 | h0
  · exact .inr (.inr ⟨h0.symm, Nat.zero_le _⟩)
  · exact .inl h0
theorem row_ne {w : World} {B g : Nat} {t : TypeId} {cs : List Value} {v : Value} {L : List Ed} (h : Row w g t cs) (ht : t ≠ tE) (k : OwE w B v L) : some g ≠ v.ownBlock := by
  obtain ⟨V, _, hr, _⟩ := k
  intro e
  rcases hr.2 with ⟨rfl, _⟩ | ⟨g', cap', cur', rfl, _, hgg', _⟩
  · cases e
  · simp only [Value.ownBlock, Option.some.injEq] at e
    subst e
    unfold Row at h
    rw [hgg'] at h
    simp at h
    exact ht h.2.symm
theorem Nums.grown {w w' : World} {B g N : Nat} {L : List Int} {r : Option Nat} (h : Nums w B g N L) (hg : w.grownBy w' r) (hne : some g ≠ r) : Nums w' B g N L := World.ownsRow.kept h hg (.inr hne)
end Go.Proofs.YtahcokfoifdlmaaGreatDoor.Df
