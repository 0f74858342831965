/-
  The table of the longest common subsequences: rows of numbers, table.at, how it is filled.
-/
import Derived.Test.YteehbpnbephojaaEH
namespace Go.Proofs.Yteehbpnbephojaa.Df
open Go Go.RowKit Kt Lw Li

abbrev tI : TypeId := 3
abbrev tT : TypeId := 74
/-- a row of numbers of the call's own, as long as it may be -/
def Nums (w : World) (B g N : Nat) (L : List Int) : Prop := w.ownsRow B tI 1 (.slice (some ⟨g, 0, none⟩) N N) N (nums .i64 L)
theorem Nums.len {w : World} {B g N : Nat} {L : List Int} (h : Nums w B g N L) : L.length = N := by
  have := h.1
  rw [nums_len] at this
  omega
theorem Nums.cell {w : World} {B g N : Nat} {L : List Int} (h : Nums w B g N L) {k : Nat} (hk : k < N) : w.cell? ⟨g, k, none⟩ = some (.int .i64 (L.getD k 0)) := by
  rw [World.ownsRow.cellAt h k (by omega), nums_at _ _ _ (by rw [h.len]; exact hk)]
theorem Nums.lt {w : World} {B g N : Nat} {L : List Int} (h : Nums w B g N L) : B ≤ g ∧ g < w.heap.size := World.ownsRow.lt h g rfl
theorem Nums.kept {w w' : World} {B g N : Nat} {L : List Int} (h : Nums w B g N L) (hb : Below w.heap.size w w') : Nums w' B g N L :=
  World.ownsRow.kept (row := none) h ⟨hb.os, hb.tape, hb.output, hb.size, fun k hk _ => hb.block k hk⟩ (.inr (by simp [Value.ownBlock]))
theorem Nums.drew {w : World} {B g N : Nat} {L : List Int} (h : Nums w B g N L) : Nums w.drew B g N L := h
theorem Nums.drewN {w : World} {B g N : Nat} {L : List Int} (h : Nums w B g N L) (n : Nat) : Nums (w.drewN n) B g N L := h
theorem Nums.put {w : World} {B g N : Nat} {L : List Int} (h : Nums w B g N L) (k : Nat) (z : Int) : Nums (w.setCell ⟨g, k, none⟩ (.int .i64 z)) B g N (L.set k z) := by
  have := (World.ownsRow.stored h k (.int .i64 z)).1
  unfold Nums nums
  rw [List.map_set]
  exact this
theorem Nums.free {w : World} {B g N : Nat} {L : List Int} (h : Nums w B g N L) (k : Nat) : w.frozen? ⟨g, k, none⟩ = false := World.ownsRow.frozenAt h k
theorem Nums.off {w : World} {B g N : Nat} {L : List Int} (h : Nums w B g N L) {b : Nat} (hb : b ≠ g) (k : Nat) (u : Value) : Nums (w.setCell ⟨b, k, none⟩ u) B g N L :=
  World.ownsRow.kept (row := some b) h (grown_put (World.grownBy.refl w (some b)) u) (.inr (by simp [Value.ownBlock]; exact fun e => hb e.symm))
theorem Nums.made (w : World) (B N : Nat) (hB : B ≤ w.heap.size) (hN : N ≤ 1000000) : Nums (w.alloc (.cells (madeCells #[.int .i64 0] N) tI)) B w.heap.size N (List.replicate N 0) := by
  have := World.ownsRow_lit (e := tI) (size := 1) (base := B) w (madeCells #[.int .i64 0] N) N hB (by unfold maxLen; omega) (by simp [madeCells])
  unfold Nums nums
  rw [List.map_replicate, ← toList_madeCells_one]
  exact this

set_option maxHeartbeats 400000 in
theorem at_any (w : World) (B g N W i j : Nat) (L : List Int) (h : Nums w B g N L) (hN : N ≤ 1000000) (_hW : W ≤ 1000000) (_hi : i ≤ 1000000) (hj : j ≤ 1000000) (hk : i * W + j < N) :
    Calls Try.prog 40 #[.agg #[.int .i64 (W : Int), .slice (some ⟨g, 0, none⟩) N N], .int .i64 (i : Int), .int .i64 (j : Int)] w fun y w' => y = .returned (.int .i64 (L.getD (i * W + j) 0)) ∧ Below w.heap.size w w' := by
  obtain ⟨q, hq⟩ : ∃ q, q = i * W := ⟨_, rfl⟩
  have hqi : (i : Int) * (W : Int) = (q : Int) := by rw [hq]; simp
  rw [← hq] at hk ⊢
  obtain ⟨k, hkq⟩ : ∃ k, k = q + j := ⟨_, rfl⟩
  rw [← hkq] at hk ⊢
  have hkq' : (q : Int) + (j : Int) = (k : Int) := by omega
  have hq6 : q ≤ 1000000 := by omega
  have hw1 : wrap64 ((i : Int) * (W : Int)) = (q : Int) := by rw [hqi]; unfold wrap64; omega
  have hc := (h.kept ((Below.refl _ w).alloc (Nat.le_refl _) (.cells #[.int .i64 (W : Int), .slice (some ⟨g, 0, none⟩) N N] tT))).cell hk
  have hg := h.lt.2
  generalize L.getD k 0 = z at *
  clear hq hkq h
  go_enter Try.func40, Try.ntmps40
  go_wp2
  go_ret
  exact ⟨rfl, (Below.refl _ _).alloc (Nat.le_refl _) _⟩

theorem idx_inj {W i j i' j' : Nat} (hj : j < W) (hj' : j' < W) (h : i * W + j = i' * W + j') : i = i' ∧ j = j' := by
  have h1 : (i * W + j) / W = i := by rw [Nat.mul_comm, Nat.mul_add_div (by omega), Nat.div_eq_of_lt hj, Nat.add_zero]
  have h2 : (i' * W + j') / W = i' := by rw [Nat.mul_comm, Nat.mul_add_div (by omega), Nat.div_eq_of_lt hj', Nat.add_zero]
  have h3 : i = i' := by rw [← h1, ← h2, h]
  subst h3
  exact ⟨rfl, by omega⟩
theorem idx_lt {W i j m : Nat} (hi : i ≤ m) (hj : j < W) : i * W + j < (m + 1) * W := by
  have : i * W ≤ m * W := Nat.mul_le_mul_right W hi
  rw [Nat.succ_mul]
  omega
/-- the table is filled behind line i, and on line i behind place j -/
def Filled (x y : Ls) (i j : Nat) (L : List Int) : Prop :=
  ∀ i' j' : Nat, i' ≤ x.length → j' ≤ y.length → (i < i' ∨ j' = y.length ∨ (i = i' ∧ j ≤ j')) → L.getD (i' * (y.length + 1) + j') 0 = (lcs (x.drop i') (y.drop j') : Nat)
theorem set_getD (L : List Int) (k k' : Nat) (z : Int) (hk : k < L.length) : (L.set k z).getD k' 0 = if k = k' then z else L.getD k' 0 := by
  rw [List.getD_eq_getElem?_getD, List.getElem?_set, List.getD_eq_getElem?_getD]
  by_cases h : k = k'
  · subst h; simp [hk]
  · simp [h]
theorem drop_getD_cons (x : Ls) (i : Nat) (h : i < x.length) : x.drop i = x.getD i [] :: x.drop (i + 1) := by
  rw [List.drop_eq_getElem_cons h]
  simp [List.getElem?_eq_getElem h]
theorem Filled.step {x y : Ls} {i j : Nat} {L : List Int} (h : Filled x y i (j + 1) L) (hi : i < x.length) (hj : j < y.length) (hL : L.length = (x.length + 1) * (y.length + 1)) (z : Int)
    (hz : z = if x.getD i [] = y.getD j [] then L.getD ((i + 1) * (y.length + 1) + (j + 1)) 0 + 1 else max (L.getD ((i + 1) * (y.length + 1) + j) 0) (L.getD (i * (y.length + 1) + (j + 1)) 0)) :
    Filled x y i j (L.set (i * (y.length + 1) + j) z) := by
  intro i' j' hi' hj' hc
  rw [set_getD _ _ _ _ (by rw [hL]; exact idx_lt (by omega) (by omega))]
  by_cases he : i * (y.length + 1) + j = i' * (y.length + 1) + j'
  · obtain ⟨rfl, rfl⟩ := idx_inj (by omega) (by omega) he
    rw [if_pos rfl, hz, drop_getD_cons x _ hi, drop_getD_cons y _ hj, lcs_cons, h (i + 1) (j + 1) (by omega) (by omega) (.inl (by omega)), h (i + 1) j (by omega) (by omega) (.inl (by omega)), h i (j + 1) (by omega) (by omega) (.inr (.inr ⟨rfl, Nat.le_refl _⟩)),
      ← drop_getD_cons x _ hi, ← drop_getD_cons y _ hj]
    split <;> omega
  · rw [if_neg he]
    refine h i' j' hi' hj' ?_
    rcases hc with h1 | h1 | ⟨h1, h2⟩
    · exact .inl h1
    · exact .inr (.inl h1)
    · right; right
      refine ⟨h1, ?_⟩
      rcases Nat.lt_or_ge j j' with h3 | h3
      · exact h3
      · exfalso; apply he; rw [h1, show j = j' from by omega]
theorem Filled.first (x y : Ls) (N : Nat) : Filled x y x.length 0 (List.replicate N 0) := by
  intro i' j' hi' hj' hc
  have h0 : (List.replicate N (0 : Int)).getD (i' * (y.length + 1) + j') 0 = 0 := by
    rw [List.getD_eq_getElem?_getD, List.getElem?_replicate]
    split <;> rfl
  rw [h0]
  rcases hc with h1 | h1 | ⟨h1, _⟩
  · omega
  · rw [h1, List.drop_length, lcs_nil_right]; rfl
  · rw [← h1, List.drop_length, lcs_nil_left]; rfl
theorem Filled.line {x y : Ls} {i : Nat} {L : List Int} (h : Filled x y (i + 1) 0 L) : Filled x y i y.length L := by
  intro i' j' hi' hj' hc
  refine h i' j' hi' hj' ?_
  rcases hc with h1 | h1 | ⟨h1, h2⟩
  · rcases Nat.lt_or_ge (i + 1) i' with h3 | h3
    · exact .inl h3
    · exact .inr (.inr ⟨by omega, Nat.zero_le _⟩)
  · exact .inr (.inl h1)
  · exact .inr (.inl (by omega))

theorem infoInt : (Try.prog.info? 3).map (fun i => (i.zero, i.size, i.bytes)) = some (some (.int .i64 0), 1, 8) := by kernel_rfl
theorem make_nums (N : Nat) (hN : N ≤ 1000000) : ∃ C : Array Value, (∀ w : World, (Instr.makeSlice 50 (.int .i64 (N : Int)) (.int .i64 (N : Int))).run Try.prog w = .ok (.slice (some ⟨w.heap.size, 0, none⟩) N N) (w.alloc (.cells C tI))) ∧
    ∀ (w : World) (B : Nat), B ≤ w.heap.size → Nums (w.alloc (.cells C tI)) B w.heap.size N (List.replicate N 0) := by
  obtain ⟨i0, hi0, hz0, hz1, hz2⟩ := info_parts infoInt
  refine ⟨madeCells #[.int .i64 0] N, fun w => ?_, fun w B hB => Nums.made w B N hB hN⟩
  have hr := run_makeSlice (P := Try.prog) w 50 3 i0 (.int .i64 0) Try.underlying50 hi0 hz0 .i64 .i64 (N : Int) (N : Int) (by omega) (Int.le_refl _) (by rw [hz1]; simp; omega) (by rw [hz2]; omega) (by omega)
  rw [hz1, Int.toNat_natCast, Nat.mul_one] at hr
  exact hr

end Go.Proofs.Yteehbpnbephojaa.Df
