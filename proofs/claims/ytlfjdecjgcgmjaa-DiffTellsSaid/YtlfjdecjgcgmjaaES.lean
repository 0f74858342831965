/-
  The reference's Common.
-/
import Derived.Test.YtlfjdecjgcgmjaaEL
namespace Go.Proofs.Ytlfjdecjgcgmjaa.Df
open Go Go.RowKit Kt Lw Li

/-- the row behind i lines, as far as place k -/
def Lined (x y : Ls) (i k : Nat) (L : List Int) : Prop := ∀ j, j ≤ k → L.getD j 0 = (lcs (x.take i) (y.take j) : Nat)
theorem take_snoc (x : Ls) (i : Nat) (h : i < x.length) : x.take (i + 1) = x.take i ++ [x.getD i []] := by
  rw [List.take_succ_eq_append_getElem h]
  simp [List.getElem?_eq_getElem h]
theorem Lined.first (x y : Ls) (k N : Nat) : Lined x y 0 k (List.replicate N 0) := by
  intro j _
  rw [List.take_zero, lcs_nil_left, List.getD_eq_getElem?_getD, List.getElem?_replicate]
  split <;> rfl
theorem Lined.start (x y : Ls) (i N : Nat) : Lined x y i 0 (List.replicate N 0) := by
  intro j hj
  obtain rfl : j = 0 := by omega
  rw [List.take_zero, lcs_nil_right, List.getD_eq_getElem?_getD, List.getElem?_replicate]
  split <;> rfl
theorem lcs_step (x y : Ls) {i k : Nat} (hi : i < x.length) (hk : k < y.length) : lcs (x.take (i + 1)) (y.take (k + 1)) =
    if x.getD i [] = y.getD k [] then lcs (x.take i) (y.take k) + 1 else max (lcs (x.take (i + 1)) (y.take k)) (lcs (x.take i) (y.take (k + 1))) := by
  rw [take_snoc x i hi, take_snoc y k hk, lcs_snoc, ← take_snoc y k hk, ← take_snoc x i hi]
  split
  · rfl
  · exact Nat.max_comm _ _
theorem Lined.step {x y : Ls} {i k : Nat} {L : List Int} (h : Lined x y i k L) (hk : k + 1 < L.length) (z : Int) (hz : z = (lcs (x.take i) (y.take (k + 1)) : Nat)) : Lined x y i (k + 1) (L.set (k + 1) z) := by
  intro j hj
  rw [set_getD _ _ _ _ hk]
  split
  · rename_i e; rw [hz, e]
  · exact h j (by omega)
theorem set_set' (L : List Int) (k : Nat) (a b : Int) : (L.set k a).set k b = L.set k b := by simp

set_option maxHeartbeats 2000000 in
set_option maxRecDepth 100000 in
theorem common_any (x y : Ls) (A A' : Option Addr) (c c' : Nat) (P P' : Nat → Prop) (w : World) (hs : Vs w P A c (texts x)) (hs' : Vs w P' A' c' (texts y)) (hx : x.length ≤ 1000) (hy : y.length ≤ 1000) :
    Calls Try.prog 18 #[.slice A x.length c, .slice A' y.length c'] w fun e w' => e = .returned (.int .i64 (lcs x y : Nat)) ∧ Below w.heap.size w w' := by
  have Hs := hide hs.bound
  have Hs' := hide hs'.bound
  obtain ⟨m, hm⟩ : ∃ m, m = x.length := ⟨_, rfl⟩
  obtain ⟨n, hn⟩ : ∃ n, n = y.length := ⟨_, rfl⟩
  rw [← hm] at hx ⊢
  rw [← hn] at hy ⊢
  have Hm := hide hm
  have Hn := hide hn
  obtain ⟨W, hW⟩ : ∃ W, W = n + 1 := ⟨_, rfl⟩
  have hW' : (n : Int) + 1 = (W : Int) := by omega
  have HW := hide hW
  obtain ⟨C, hmake, hC⟩ := make_nums W (by omega)
  have HC := hide hC
  clear hs hs' hm hn hW hC
  go_enter Try.func18, Try.ntmps18
  go_wp2
  go_loopw [5, 6] (fun r vi wr => ∃ (i g : Nat) (L : List Int), i ≤ m ∧ vi = .int .i64 i ∧ r = .slice (some ⟨g, 0, none⟩) W W ∧ Nums wr w.heap.size g W L ∧ Lined x y i n L ∧ Below w.heap.size w wr) (fun _ vi _ => m - (intOf vi).toNat)
  case atStart => exact ⟨0, _, _, Nat.zero_le _, rfl, rfl, HC.out w _ (Nat.le_refl _), Lined.first x y n W, (Below.refl _ _).alloc (Nat.le_refl _) _⟩
  case round =>
    obtain ⟨i, g, L, hi, rfl, rfl, hnu, hli, hb⟩ := hrel
    have Hli := hide hli
    by_cases hi' : i < m
    · have Hmu := hide (HC.out wr w.heap.size hb.size)
      have Hnu := hide (hnu.kept ((Below.refl _ wr).alloc (Nat.le_refl _) (.cells C tI)))
      have Hb := hide (hb.alloc hb.size (.cells C tI))
      have Hgg := hide hnu.lt
      clear hnu hli hb
      go_wp2
      obtain ⟨g2, hg2⟩ : ∃ g2, g2 = wr.heap.size := ⟨_, rfl⟩
      obtain ⟨w2, hw2⟩ : ∃ w2, w2 = wr.alloc (.cells C tI) := ⟨_, rfl⟩
      rw [← hw2] at Hmu Hnu Hb ⊢
      rw [← hg2] at Hmu Hgg ⊢
      have Hgn := hide (show g ≠ g2 by have := Hgg.out; omega)
      clear hg2 hw2
      go_loopw [8] (fun vk w3 => ∃ (k : Nat) (L2 : List Int), k ≤ n ∧ vk = .int .i64 k ∧ Nums w3 w.heap.size g2 W L2 ∧ Lined x y (i + 1) k L2 ∧ Nums w3 w.heap.size g W L ∧ Below w.heap.size w w3) (fun vk _ => n - (intOf vk).toNat)
      case atStart => exact ⟨0, _, Nat.zero_le _, rfl, Hmu.out, Lined.start x y (i + 1) W, Hnu.out, Hb.out⟩
      case round =>
        obtain ⟨k, L2, hk, rfl, hmu, hli2, hnu, hb⟩ := hrel
        have Hmu2 := hide hmu
        have Hnu2 := hide hnu
        have Hli2 := hide hli2
        have Hb2 := hide hb
        have Hlen2 := hide hmu.len
        clear hmu hnu hli2 hb
        by_cases hk' : k < n
        · have Hst := hide (lcs_step x y (i := i) (k := k) (by have := Hm.out; omega) (by have := Hn.out; omega))
          have cu := Hmu2.out.cell (k := k) (by have := HW.out; omega)
          have cv := Hnu2.out.cell (k := k + 1) (by have := HW.out; omega)
          have ct := Hnu2.out.cell (k := k) (by have := HW.out; omega)
          have cn := Hmu2.out.cell (k := k + 1) (by have := HW.out; omega)
          rw [Hli2.out k (Nat.le_refl _)] at cu
          rw [Hli.out (k + 1) hk'] at cv
          rw [Hli.out k (by omega)] at ct
          have hu6 := lcs_le_right (x.take (i + 1)) (y.take k)
          have hv6 := lcs_le_right (x.take i) (y.take (k + 1))
          have ht6 := lcs_le_right (x.take i) (y.take k)
          have hl1 : (y.take k).length ≤ k := List.length_take_le _ _
          have hl2 : (y.take (k + 1)).length ≤ k + 1 := List.length_take_le _ _
          have hu7 : lcs (x.take (i + 1)) (y.take k) ≤ 1000 := by omega
          have hv7 : lcs (x.take i) (y.take (k + 1)) ≤ 1000 := by omega
          have ht7 : lcs (x.take i) (y.take k) ≤ 1000 := by omega
          have hkW : k + 1 < W := by have := HW.out; omega
          generalize lcs (x.take (i + 1)) (y.take k) = u at *
          generalize lcs (x.take i) (y.take (k + 1)) = v at *
          generalize lcs (x.take i) (y.take k) = t at *
          generalize L2.getD (k + 1) 0 = zz at *
          obtain ⟨best, hbe⟩ : ∃ best : Nat, best = max u v := ⟨_, rfl⟩
          have hbest : (if u < v then (v : Int) else (u : Int)) = (best : Int) := by split <;> omega
          have Hbe := hide hbe
          obtain ⟨k1, hk1⟩ : ∃ k1, k1 = k + 1 := ⟨_, rfl⟩
          rw [← hk1] at cv cn hkW
          have hw1 : IntKind.i64.wrap ((k : Int) + 1) = (k1 : Int) := by rw [IntWalk.i64_in _ (by omega)]; omega
          have fn := Hmu2.out.free k1
          have Hk1 := hide hk1
          have hkW0 : k < W := by omega
          clear hu6 hv6 ht6 hl1 hl2 hbe hk1
          go_wp2
          refine Rg.wp_region_ord (fun w' => w'.cell? ⟨g2, k, none⟩ = some (.int .i64 (u : Int)) ∧ w'.cell? ⟨g, k1, none⟩ = some (.int .i64 (v : Int))) [(0, true), (1, true), (2, true), (3, true), (4, true), (5, true), (6, true), (7, true), (8, true), (9, true), (10, true), (11, true), (12, true), (13, true), (14, false)] (by kernel_rfl) (by kernel_rfl) ?_
          simp only [Rg.pick, List.map_cons, List.map_nil, List.getD_cons_zero, List.getD_cons_succ]
          iterate 14 (refine Rg.ord_quiet (v := ?_) rfl (fun w' hS => ?_) ⟨cu, cv⟩ ?_; rotate_left; (obtain ⟨s0, s1⟩ := hS; go_simp; with_reducible rfl); simp only [Act.put, List.setIfInBounds_toArray, List.set_cons_succ, List.set_cons_zero])
          refine Rg.ord_loud rfl (fun K hK => ?_)
          go_simp
          refine hK _ _ (fun hf => absurd (show Rg.sink _ 14 = true from by kernel_rfl) (by rw [hf]; decide)) ?_
          clear hK K hw1 hbest
          refine Rg.ord_nil ?_
          have Hmu5 := hide ((Hmu2.out.put k1 (best : Int)).drew)
          have Hnu5 := hide ((Hnu2.out.off (Ne.symm Hgn.out) k1 (.int .i64 (best : Int))).drew)
          have Hb5 := hide ((below_put Hb2.out (g := g2) (i := k1) Hmu2.out.lt.1 (.int .i64 (best : Int))).drew)
          obtain ⟨w5, hw5⟩ : ∃ w5, w5 = (wr.setCell ⟨g2, k1, none⟩ (.int .i64 (best : Int))).drew := ⟨_, rfl⟩
          rw [← hw5] at Hmu5 Hnu5 Hb5 ⊢
          have Hct := hide (show w5.cell? ⟨g, k, none⟩ = some (.int .i64 (t : Int)) by
            rw [Hnu5.out.cell (k := k) hkW0, ← ct, Hnu2.out.cell (k := k) hkW0])
          clear hw5 cu cv ct cn fn
          obtain ⟨ba, oa, rfl, ca⟩ := Hs.out.text Hb5.out (k := i) (by have := Hm.out; omega)
          obtain ⟨bb, ob, rfl, cb⟩ := Hs'.out.text Hb5.out (k := k) (by have := Hn.out; omega)
          obtain ⟨X, hX⟩ : ∃ X, X = x.getD i [] := ⟨_, rfl⟩
          obtain ⟨Y, hY⟩ : ∃ Y, Y = y.getD k [] := ⟨_, rfl⟩
          rw [← hX] at ca Hst
          rw [← hY] at cb Hst
          clear hX hY
          by_cases hXY : X = Y
          · have hbq : (X == Y) = true := by rw [hXY]; exact beq_self_eq_true _
            have Hl3 := hide (show Lined x y (i + 1) (k + 1) ((L2.set k1 (best : Int)).set k1 ((t : Int) + 1)) by
              rw [set_set', Hk1.out]
              exact Hli2.out.step (by rw [Hlen2.out]; have := Hk1.out; omega) _ (by rw [Hst.out, if_pos hXY]; rfl))
            clear hXY
            go_wp2
            go_quiet (fail)
            have Hmu6 := hide (Hmu5.out.drewN nq)
            have Hnu6 := hide (Hnu5.out.drewN nq)
            have Hb6 := hide (below_drewN Hb5.out nq)
            have ct6 : (w5.drewN nq).cell? ⟨g, k, none⟩ = some (.int .i64 (t : Int)) := Hct.out
            obtain ⟨w6, hw6⟩ : ∃ w6, w6 = w5.drewN nq := ⟨_, rfl⟩
            rw [← hw6] at Hmu6 Hnu6 Hb6 ct6 ⊢
            clear hw6 ca cb
            have cn6 := Hmu6.out.cell (k := k1) hkW
            have fn6 := Hmu6.out.free k1
            have hk1' : (k : Int) + 1 = (k1 : Int) := by have := Hk1.out; omega
            go_wp2
            exact ⟨⟨k + 1, _, by omega, by rw [show ((k + 1 : Nat) : Int) = (k1 : Int) by have := Hk1.out; omega], Hmu6.out.put k1 _, Hl3.out, Hnu6.out.off (Ne.symm Hgn.out) _ _, below_put Hb6.out (g := g2) (i := k1) Hmu6.out.lt.1 _⟩, by simp [intOf]; have := Hk1.out; omega⟩
          · have hbq : (X == Y) = false := by rw [beq_eq_false_iff_ne]; exact hXY
            have Hl3 := hide (show Lined x y (i + 1) (k + 1) (L2.set k1 (best : Int)) by
              rw [Hk1.out]
              exact Hli2.out.step (by rw [Hlen2.out]; have := Hk1.out; omega) _ (by rw [Hst.out, if_neg hXY, Hbe.out]))
            clear hXY
            go_wp2
            go_quiet (fail)
            go_wp2
            exact ⟨⟨k + 1, _, by omega, by go_num, Hmu5.out.drewN _, Hl3.out, Hnu5.out.drewN _, below_drewN Hb5.out _⟩, by simp [intOf]; omega⟩
        · obtain rfl : k = n := by omega
          go_wp2
          exact ⟨⟨i + 1, g2, L2, by omega, by go_num, rfl, Hmu2.out, Hli2.out, Hb2.out⟩, by simp [intOf]; omega⟩
    · obtain rfl : i = m := by omega
      have cz := hnu.cell (k := n) (by have := HW.out; omega)
      have hz := Hli.out n (Nat.le_refl _)
      rw [hz, Hm.out, Hn.out, List.take_length, List.take_length, ← Hn.out] at cz
      have hnW : n < W := by have := HW.out; omega
      have Hb := hide hb
      clear hnu hli hb hz
      go_wp2
      go_ret
      exact ⟨rfl, Hb.out⟩
end Go.Proofs.Ytlfjdecjgcgmjaa.Df
