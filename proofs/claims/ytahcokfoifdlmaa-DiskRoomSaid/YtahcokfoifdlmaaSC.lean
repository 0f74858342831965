/-
  A disk in memory: what New, Size, Left, Dead, Bytes, Fuse and Start come to.
-/
import Derived.Test.YtahcokfoifdlmaaSA
import Derived.Test.YtahcokfoifdlmaaSB
import Derived.Test.YtahcokfoifdlmaaWC
import Derived.Test.YtahcokfoifdlmaaRegB
namespace Go.Proofs.Ytahcokfoifdlmaa.Dk
open Go Go.RowKit Kt Kg Wr

abbrev tD : TypeId := 50
abbrev tU8 : TypeId := 5
/-- a disk in block g; what it is made of are blocks of S -/
def DkIn (w : World) (S : Nat → Prop) (g : Nat) (s : St) : Prop :=
  ∃ v, Row w g tD [v, .int .i64 (s.room : Int), .int .i64 s.fuse, .bool s.dead] ∧ OwnS w (fun b => S b ∧ b ≠ g) tU8 v s.k ∧ S g ∧ ∀ k, S k → k < w.heap.size
section
variable {w w' : World} {S T : Nat → Prop} {g : Nat} {s : St}
theorem DkIn.move (h : DkIn w S g s) (hk : ∀ b, S b → w'.heap[b]? = w.heap[b]?) (hsz : w.heap.size ≤ w'.heap.size) : DkIn w' S g s := by
  obtain ⟨v, h1, h2, h3, h4⟩ := h
  exact ⟨v, (hk g h3).trans h1, h2.move fun b hb _ => hk b hb.1, h3, fun k hk => Nat.lt_of_lt_of_le (h4 k hk) hsz⟩
theorem DkIn.below (h : DkIn w S g s) (hb : Below w.heap.size w w') : DkIn w' S g s := by
  have h4 := h
  obtain ⟨_, _, _, _, h4⟩ := h4
  exact h.move (fun b hS => hb.block b (h4 b hS)) hb.size
theorem DkIn.oth (h : DkIn w S g s) (ho : Oth T w w') (hd : ∀ k, S k → ¬ T k) : DkIn w' S g s := by
  have h4 := h
  obtain ⟨_, _, _, _, h4⟩ := h4
  exact h.move (fun b hS => ho.block b (h4 b hS) (hd b hS)) ho.size
theorem DkIn.lt (h : DkIn w S g s) : ∀ k, S k → k < w.heap.size := by obtain ⟨_, _, _, _, h4⟩ := h; exact h4
theorem DkIn.at (h : DkIn w S g s) : S g := by obtain ⟨_, _, _, h3, _⟩ := h; exact h3
theorem DkIn.drew (h : DkIn w S g s) : DkIn w.drew S g s := h
end

set_option maxHeartbeats 1000000 in
set_option maxRecDepth 100000 in
theorem size_any {w : World} {S : Nat → Prop} {g : Nat} {s : St} (h : DkIn w S g s) :
    Calls Try.prog 14 #[.pointer (some ⟨g, 0, none⟩)] w fun y w' => y = .returned (.int .i64 (s.k.length : Nat)) ∧ w = w' := by
  obtain ⟨v, hr, ho, _⟩ := h
  obtain ⟨A, c, rfl, _⟩ := ho.sl
  have c0 : w.cell? ⟨g, 0, none⟩ = some (.slice A s.k.length c) := hr.cell 0
  clear hr ho
  go_enter Try.func14, Try.ntmps14
  go_wp2
  go_ret
  exact ⟨rfl, rfl⟩
set_option maxHeartbeats 1000000 in
set_option maxRecDepth 100000 in
theorem dead_any {w : World} {S : Nat → Prop} {g : Nat} {s : St} (h : DkIn w S g s) :
    Calls Try.prog 13 #[.pointer (some ⟨g, 0, none⟩)] w fun y w' => y = .returned (.bool s.dead) ∧ w = w' := by
  obtain ⟨v, hr, ho, _⟩ := h
  have c0 : w.cell? ⟨g, 3, none⟩ = some (.bool s.dead) := hr.cell 3
  clear hr ho
  go_enter Try.func13, Try.ntmps13
  go_wp2
  go_ret
  exact ⟨rfl, rfl⟩
set_option maxHeartbeats 1000000 in
set_option maxRecDepth 100000 in
theorem left_any {w : World} {S : Nat → Prop} {g : Nat} {s : St} (h : DkIn w S g s) (hf : s.fit) :
    Calls Try.prog 15 #[.pointer (some ⟨g, 0, none⟩)] w fun y w' => y = .returned (.int .i64 ((s.room - s.k.length : Nat) : Int)) ∧ ∃ n, w' = w.drewN n := by
  have hz : ∀ n, Calls Try.prog 14 #[.pointer (some ⟨g, 0, none⟩)] (w.drewN n) fun y w' => y = .returned (.int .i64 (s.k.length : Nat)) ∧ w.drewN n = w' := fun n => size_any (show DkIn (w.drewN n) S g s from h)
  obtain ⟨v, hr, ho, _⟩ := h
  have c0 : w.cell? ⟨g, 1, none⟩ = some (.int .i64 (s.room : Int)) := hr.cell 1
  obtain ⟨h1, h2, _⟩ := hf
  obtain ⟨N, hN⟩ : ∃ N, N = s.k.length := ⟨_, rfl⟩
  obtain ⟨M, hM⟩ : ∃ N, N = s.room := ⟨_, rfl⟩
  rw [← hN] at hz h1 ⊢
  rw [← hM] at c0 h1 h2 ⊢
  have hsub : ((M - N : Nat) : Int) = (M : Int) - (N : Int) := by omega
  rw [hsub]
  have hw : IntKind.i64.wrap ((M : Int) - (N : Int)) = (M : Int) - (N : Int) := IntWalk.i64_in _ (by omega)
  have Hz := hide hz
  clear hr ho hN hM hsub hz
  go_enter Try.func15, Try.ntmps15
  go_wp2
  refine Rg.wp_region_ord (fun w' => w'.cell? ⟨g, 1, none⟩ = some (.int .i64 (M : Int))) [(0, true), (1, true), (2, true), (3, true), (4, true), (5, false), (6, true), (7, true)] (by kernel_rfl) (by kernel_rfl) ?_
  simp only [Rg.pick, List.map_cons, List.map_nil, List.getD_cons_zero, List.getD_cons_succ]
  iterate 5 (refine Rg.ord_quiet (v := ?_) rfl (fun w' hS => ?_) c0 ?_; rotate_left; (go_simp; with_reducible rfl); simp only [Act.put, List.setIfInBounds_toArray, List.set_cons_succ, List.set_cons_zero])
  refine Rg.ord_loud rfl (fun K hK => ?_)
  go_simp
  refine (Hz.out 1).mono ?_
  rintro y w1 ⟨rfl, rfl⟩
  refine hK _ _ (fun _ => c0) ?_
  clear hK K
  iterate 2 (refine Rg.ord_quiet (v := ?_) rfl (fun w' hS => ?_) c0 ?_; rotate_left; (go_simp; with_reducible rfl); simp only [Act.put, List.setIfInBounds_toArray, List.set_cons_succ, List.set_cons_zero])
  refine Rg.ord_nil ?_
  go_wp2
  go_ret
  exact ⟨by simp, 1, rfl⟩
set_option maxHeartbeats 1000000 in
set_option maxRecDepth 100000 in
theorem bytes_call {w : World} {S : Nat → Prop} {g : Nat} {s : St} (h : DkIn w S g s) (hf : s.fit) :
    Calls Try.prog 17 #[.pointer (some ⟨g, 0, none⟩)] w fun y w' => ∃ v, y = .returned v ∧ Own w' w.heap.size tU8 v s.k ∧ Below w.heap.size w w' := by
  obtain ⟨v, hr, ho, _⟩ := h
  obtain ⟨A, c, rfl, hs⟩ := ho.sl
  have c0 : w.cell? ⟨g, 0, none⟩ = some (.slice A s.k.length c) := hr.cell 0
  have HC := hide (clone_any s.k A c _ w hs (by have := hf.1; have := hf.2.1; omega))
  clear hr ho hs
  go_enter Try.func17, Try.ntmps17
  go_wp2_with fail
  refine HC.out.mono ?_
  rintro y w1 ⟨v, rfl, h1, h2⟩
  have H1 := hide h1
  have H2 := hide h2
  clear h1 h2 HC c0
  go_wp2
  go_ret
  exact ⟨_, rfl, H1.out, H2.out⟩
set_option maxHeartbeats 1000000 in
set_option maxRecDepth 100000 in
theorem fuse_any {w : World} {S : Nat → Prop} {g : Nat} {s : St} (h : DkIn w S g s) (n : Int) :
    Calls Try.prog 19 #[.pointer (some ⟨g, 0, none⟩), .int .i64 n] w fun y w' => y = .returned (.tuple #[]) ∧ DkIn w' S g (fused s n) ∧ Oth S w w' := by
  obtain ⟨v, hr, ho, h3, h4⟩ := h
  have f0 := hr.free 2
  have c0 : w.cell? ⟨g, 2, none⟩ = some (.int .i64 s.fuse) := hr.cell 2
  have key : ∀ F, F = (if n < -1 then -1 else n) → DkIn (w.setCell ⟨g, 2, none⟩ (.int .i64 F)) S g (fused s n) ∧ Oth S w (w.setCell ⟨g, 2, none⟩ (.int .i64 F)) := by
    intro F hF
    have h1 := hr.put 2 (.int .i64 F)
    have h2 := (Oth.refl S w).put (g := g) (i := 2) (.inl h3) (.int .i64 F)
    refine ⟨⟨v, ?_, ho.move fun b hb _ => Below.heap_setCell w ⟨g, 2, none⟩ _ b hb.2, h3, fun k hk => Nat.lt_of_lt_of_le (h4 k hk) h2.size⟩, h2⟩
    rw [hF] at h1 ⊢
    exact h1
  have Key := hide key
  clear hr ho h3 h4 key
  by_cases hn : n < -1
  · have hm : (if n > -1 then n else -1) = -1 := if_neg (by omega)
    have Hn := hide hn
    clear hn
    go_enter Try.func19, Try.ntmps19
    go_wp2
    refine bodyPost_end (results_none rfl _ _ _) rfl ?_
    exact ⟨rfl, Key.out _ (if_pos Hn.out).symm⟩
  · go_enter Try.func19, Try.ntmps19
    go_wp2
    refine bodyPost_end (results_none rfl _ _ _) rfl ?_
    exact ⟨rfl, Key.out _ (if_neg (by omega)).symm⟩
set_option maxHeartbeats 1000000 in
set_option maxRecDepth 100000 in
theorem start_any {w : World} {S : Nat → Prop} {g : Nat} {s : St} (h : DkIn w S g s) :
    Calls Try.prog 18 #[.pointer (some ⟨g, 0, none⟩)] w fun y w' => y = .returned (.tuple #[]) ∧ DkIn w' S g (begun s) ∧ Oth S w w' := by
  obtain ⟨v, hr, ho, h3, h4⟩ := h
  have f0 := hr.free 2
  have c0 : w.cell? ⟨g, 2, none⟩ = some (.int .i64 s.fuse) := hr.cell 2
  have h1 := hr.put 2 (.int .i64 (-1))
  have c1 : (w.setCell ⟨g, 2, none⟩ (.int .i64 (-1))).cell? ⟨g, 3, none⟩ = some (.bool s.dead) := h1.cell 3
  have f1 := h1.free 3
  have key : DkIn ((w.setCell ⟨g, 2, none⟩ (.int .i64 (-1))).setCell ⟨g, 3, none⟩ (.bool false)) S g (begun s) ∧ Oth S w ((w.setCell ⟨g, 2, none⟩ (.int .i64 (-1))).setCell ⟨g, 3, none⟩ (.bool false)) := by
    have h2 := ((Oth.refl S w).put (g := g) (i := 2) (.inl h3) (.int .i64 (-1))).put (g := g) (i := 3) (.inl h3) (.bool false)
    exact ⟨⟨v, h1.put 3 (.bool false), ho.move fun b hb _ => (Below.heap_setCell _ ⟨g, 3, none⟩ _ b hb.2).trans (Below.heap_setCell w ⟨g, 2, none⟩ _ b hb.2), h3, fun k hk => Nat.lt_of_lt_of_le (h4 k hk) h2.size⟩, h2⟩
  have Key := hide key
  clear hr ho h3 h4 key h1
  go_enter Try.func18, Try.ntmps18
  go_wp2
  refine bodyPost_end (results_none rfl _ _ _) rfl ?_
  exact ⟨rfl, Key.out⟩
set_option maxHeartbeats 1000000 in
set_option maxRecDepth 100000 in
theorem new_yes (n : Nat) (hn : n ≤ 16777216) (w : World) :
    Calls Try.prog 10 #[.int .i64 (n : Int)] w fun y w' => ∃ g, y = .returned (.tuple #[.pointer (some ⟨g, 0, none⟩), .int .i64 0]) ∧ DkIn w' (· = g) g (new n) ∧ g = w.heap.size ∧ Below w.heap.size w w' := by
  go_enter Try.func10, Try.ntmps10
  go_wp2
  refine bodyPost_ret (results_tmp2 rfl _ _ _) rfl ⟨w.heap.size, rfl, ⟨_, Row.fresh w tD #[.slice none 0 0, .int .i64 (n : Int), .int .i64 (-1), .bool false], OwnS.nil _ _ _, rfl, fun k hk => ?_⟩, rfl, (Below.refl _ w).alloc (Nat.le_refl _) _⟩
  rw [hk, World.size_alloc]
  exact Nat.lt_succ_self _
set_option maxHeartbeats 1000000 in
set_option maxRecDepth 100000 in
theorem new_no (n : Int) (hn : n < 0 ∨ 16777216 < n) (w : World) :
    Calls Try.prog 10 #[.int .i64 n] w fun y w' => y = .returned (.tuple #[.pointer none, .int .i64 1]) ∧ w' = w := by
  by_cases h : n < 0
  · go_enter Try.func10, Try.ntmps10
    go_wp2
    exact bodyPost_ret (results_tmp2 rfl _ _ _) rfl ⟨rfl, rfl⟩
  · have h2 : 16777216 < n := hn.resolve_left h
    clear hn
    go_enter Try.func10, Try.ntmps10
    go_wp2
    exact bodyPost_ret (results_tmp2 rfl _ _ _) rfl ⟨rfl, rfl⟩
end Go.Proofs.Ytahcokfoifdlmaa.Dk
