/-
  diff.longest.
-/
import Derived.Test.YtofccahgmkifjaaQ9
namespace Go.Proofs.Ytofccahgmkifjaa.Df
open Go Go.RowKit Kt Lw Li

theorem sizeT : (Try.prog.info? tT).map (·.size) = some 2 := by kernel_rfl
set_option maxHeartbeats 2000000 in
set_option maxRecDepth 100000 in
theorem longest_any (x y : Ls) (A A' : Option Addr) (c c' : Nat) (P P' : Nat → Prop) (w : World) (hs : Vs w P A c (texts x)) (hs' : Vs w P' A' c' (texts y)) (hx : x.length ≤ 100000) (hy : y.length ≤ 100000)
    (hxy : (x.length + 1) * (y.length + 1) ≤ 1000000) :
    Calls Try.prog 63 #[.slice A x.length c, .slice A' y.length c'] w fun e w' => ∃ g L, e = .returned (.agg #[.int .i64 ((y.length + 1 : Nat) : Int), .slice (some ⟨g, 0, none⟩) ((x.length + 1) * (y.length + 1)) ((x.length + 1) * (y.length + 1))]) ∧
      Nums w' w.heap.size g ((x.length + 1) * (y.length + 1)) L ∧ Filled x y 0 0 L ∧ Below w.heap.size w w' := by
  have Hs := hide hs.bound
  have Hs' := hide hs'.bound
  obtain ⟨N, hN⟩ : ∃ N, N = (x.length + 1) * (y.length + 1) := ⟨_, rfl⟩
  have Hf := hide (Filled.first x y N)
  have HN := hide hN
  obtain ⟨m, hm⟩ : ∃ m, m = x.length := ⟨_, rfl⟩
  obtain ⟨n, hn⟩ : ∃ n, n = y.length := ⟨_, rfl⟩
  rw [← hN] at hxy ⊢
  obtain ⟨W, hW⟩ : ∃ W, W = n + 1 := ⟨_, rfl⟩
  have hW' : (n : Int) + 1 = (W : Int) := by omega
  have hmul : ((m : Int) + 1) * (W : Int) = (N : Int) := by rw [hN, hm, hW, hn]; simp
  rw [← hm] at hx
  rw [← hn] at hy ⊢
  rw [← hm, ← hW]
  have Hm := hide hm
  have Hn := hide hn
  have HW := hide hW
  obtain ⟨C, hmake, hC⟩ := make_nums N hxy
  have HC := hide hC
  clear hs hs' hN hm hn hC hW
  go_enter Try.func63, Try.ntmps63
  go_wp2
  have hB1 : Below w.heap.size w (w.alloc (.cells #[.int .i64 0, .slice none 0 0] tT)) := (Below.refl _ _).alloc (Nat.le_refl _) _
  have hs1 : w.heap.size ≤ (w.alloc (.cells #[.int .i64 0, .slice none 0 0] tT)).heap.size := hB1.size
  have hn1 := HC.out (w.alloc (.cells #[.int .i64 0, .slice none 0 0] tT)) w.heap.size hs1
  have hn2 := hn1.kept ((Below.refl _ _).alloc (Nat.le_refl _) (.cells #[.int .i64 (W : Int), .slice (some ⟨w.heap.size + 1, 0, none⟩) N N] tT))
  have hr2 := ((Row.fresh w tT #[.int .i64 0, .slice none 0 0]).alloc (.cells C tI)).alloc (.cells #[.int .i64 (W : Int), .slice (some ⟨w.heap.size + 1, 0, none⟩) N N] tT)
  have ht2 := Row.fresh ((w.alloc (.cells #[.int .i64 0, .slice none 0 0] tT)).alloc (.cells C tI)) tT #[.int .i64 (W : Int), .slice (some ⟨w.heap.size + 1, 0, none⟩) N N]
  have hB2 := (hB1.alloc hs1 (.cells C tI)).alloc (by simp; omega) (.cells #[.int .i64 (W : Int), .slice (some ⟨w.heap.size + 1, 0, none⟩) N N] tT)
  simp only [World.size_alloc] at hn2 ht2
  obtain ⟨g, hg⟩ : ∃ g, g = w.heap.size + 1 := ⟨_, rfl⟩
  obtain ⟨gt, hgt⟩ : ∃ gt, gt = w.heap.size + 1 + 1 := ⟨_, rfl⟩
  obtain ⟨B, hB⟩ : ∃ B, B = w.heap.size := ⟨_, rfl⟩
  rw [← hgt] at ht2 ⊢
  rw [← hg] at hn2 ht2 hr2 hB2 ⊢
  have Hne := hide (show B ≠ g ∧ B ≠ gt ∧ g ≠ gt ∧ B ≤ g ∧ B ≤ gt by refine ⟨?_, ?_, ?_, ?_, ?_⟩ <;> omega)
  obtain ⟨w3, hw3⟩ : ∃ w3, w3 = ((w.alloc (.cells #[.int .i64 0, .slice none 0 0] tT)).alloc (.cells C tI)).alloc (.cells #[.int .i64 (W : Int), .slice (some ⟨g, 0, none⟩) N N] tT) := ⟨_, rfl⟩
  rw [← hw3] at hn2 ht2 hr2 hB2 ⊢
  rw [← hB] at hn2 hr2 hB2 ⊢
  have HB := hide hB
  have HBw := hide (show B ≤ w.heap.size by omega)
  clear hn1 hB1 hs1 hg hgt hB HC hmake hmul hw3
  have Hn2 := hide hn2
  have Hr2 := hide hr2
  have Ht2 := hide ht2
  have HB2 := hide hB2
  clear hn2 hr2 ht2 hB2
  go_loopw [6] (fun i wr => ∃ (k : Nat) (z : Int) (L : List Int), k ≤ m ∧ i = .int .i64 z ∧ z + 1 = (k : Int) ∧ Nums wr B g N L ∧ Filled x y k 0 L ∧ Row wr gt tT [.int .i64 (W : Int), .slice (some ⟨g, 0, none⟩) N N] ∧ Row wr B tT [.int .i64 0, .slice none 0 0] ∧ Below B w wr) (fun i _ => (intOf i + 1).toNat)
  case atStart => exact ⟨m, _, _, Nat.le_refl _, rfl, by omega, Hn2.out, by rw [Hm.out]; exact Hf.out, Ht2.out, Hr2.out, HB2.out⟩
  case round =>
    obtain ⟨k, z, L, hk, rfl, hz, hnu, hfi, hrt, hrr, hb⟩ := hrel
    have Hnu := hide hnu
    have Hfi := hide hfi
    have Hrt := hide hrt
    have Hrr := hide hrr
    have Hb := hide hb
    have ct0 := hrt.cell 0
    have ct1 := hrt.cell 1
    simp only [List.getElem?_cons_zero, List.getElem?_cons_succ] at ct0 ct1
    clear hnu hfi hrt hrr hb
    by_cases hk0 : k = 0
    · obtain rfl : z = -1 := by omega
      obtain rfl := hk0
      clear hz
      have cr0 := Hrr.out.cell 0
      have cr1 := Hrr.out.cell 1
      have fr0 := Hrr.out.free 0
      have fr1 := Hrr.out.free 1
      simp only [List.getElem?_cons_zero, List.getElem?_cons_succ] at cr0 cr1
      go_wp2
      have hrf := (Hrr.out.put 0 (.int .i64 (W : Int))).put 1 (.slice (some ⟨g, 0, none⟩) N N)
      have hnf : Nums ((wr.setCell ⟨B, 0, none⟩ (.int .i64 (W : Int))).setCell ⟨B, 1, none⟩ (.slice (some ⟨g, 0, none⟩) N N)) B g N L := (Hnu.out.off Hne.out.1 _ _).off Hne.out.1 _ _
      have hbf := below_put (below_put Hb.out (g := B) (i := 0) (Nat.le_refl _) (.int .i64 (W : Int))) (g := B) (i := 1) (Nat.le_refl _) (.slice (some ⟨g, 0, none⟩) N N)
      refine bodyPost_ret (results_cell_row rfl _ _ B tT #[.int .i64 (W : Int), .slice (some ⟨g, 0, none⟩) N N] (0, 0) _ rfl hrf Try.underlying101 rfl sizeT) rfl ⟨g, rfl, L, ?_, Hfi.out, ?_⟩
      · rw [← HB.out]; exact hnf
      · rw [← HB.out]; exact hbf
    · obtain ⟨i, rfl⟩ : ∃ i : Nat, z = i := ⟨z.toNat, by omega⟩
      obtain rfl : k = i + 1 := by omega
      clear hz hk0 ct0 ct1
      go_wp2
      go_loopw [7] (fun j w2 => ∃ (l : Nat) (z : Int) (L : List Int), l ≤ n ∧ j = .int .i64 z ∧ z + 1 = (l : Int) ∧ Nums w2 B g N L ∧ Filled x y i l L ∧ Row w2 gt tT [.int .i64 (W : Int), .slice (some ⟨g, 0, none⟩) N N] ∧ Row w2 B tT [.int .i64 0, .slice none 0 0] ∧ Below B w w2) (fun j _ => (intOf j + 1).toNat)
      case atStart => exact ⟨n, _, _, Nat.le_refl _, rfl, by omega, Hnu.out, by rw [Hn.out]; exact Hfi.out.line, Hrt.out, Hrr.out, Hb.out⟩
      case round =>
        obtain ⟨l, z, L2, hl, rfl, hz, hnu, hfi, hrt, hrr, hb⟩ := hrel
        have Hnu2 := hide hnu
        have Hfi2 := hide hfi
        have Hrt2 := hide hrt
        have Hrr2 := hide hrr
        have Hb2 := hide hb
        have ct0 := hrt.cell 0
        have ct1 := hrt.cell 1
        simp only [List.getElem?_cons_zero, List.getElem?_cons_succ] at ct0 ct1
        clear hnu hfi hrt hrr hb
        by_cases hl0 : l = 0
        · obtain rfl : z = -1 := by omega
          obtain rfl := hl0
          clear hz
          go_wp2
          exact ⟨⟨i, (i : Int) - 1, L2, by omega, rfl, by omega, Hnu2.out, Hfi2.out, Hrt2.out, Hrr2.out, Hb2.out⟩, by simp only [intOf]; omega⟩
        · obtain ⟨j, rfl⟩ : ∃ j : Nat, z = j := ⟨z.toNat, by omega⟩
          obtain rfl : l = j + 1 := by omega
          clear hz hl0
          obtain ⟨i1, hi1⟩ : ∃ i1, i1 = i + 1 := ⟨_, rfl⟩
          obtain ⟨j1, hj1⟩ : ∃ j1, j1 = j + 1 := ⟨_, rfl⟩
          have hiN : i + 1 ≤ m := hk
          have hjN : j + 1 ≤ n := hl
          have hw1 : IntKind.i64.wrap ((i : Int) + 1) = (i1 : Int) := by rw [IntWalk.i64_in _ (by omega)]; omega
          have hw2 : IntKind.i64.wrap ((j : Int) + 1) = (j1 : Int) := by rw [IntWalk.i64_in _ (by omega)]; omega
          have ix1 : i1 * W + j < N := by rw [HN.out, ← Hm.out, ← Hn.out, ← HW.out]; exact idx_lt (by omega) (by have := HW.out; omega)
          have ix2 : i * W + j1 < N := by rw [HN.out, ← Hm.out, ← Hn.out, ← HW.out]; exact idx_lt (by omega) (by have := HW.out; omega)
          have ix3 : i1 * W + j1 < N := by rw [HN.out, ← Hm.out, ← Hn.out, ← HW.out]; exact idx_lt (by omega) (by have := HW.out; omega)
          have ix4 : i * W + j < N := by rw [HN.out, ← Hm.out, ← Hn.out, ← HW.out]; exact idx_lt (by omega) (by have := HW.out; omega)
          have hW6 : W ≤ 1000000 := by have := HW.out; omega
          have hu := Hfi2.out i1 j (by have := Hm.out; omega) (by have := Hn.out; omega) (.inl (by omega))
          have hv := Hfi2.out i j1 (by have := Hm.out; omega) (by have := Hn.out; omega) (.inr (.inr ⟨rfl, by omega⟩))
          have ht := Hfi2.out i1 j1 (by have := Hm.out; omega) (by have := Hn.out; omega) (.inl (by omega))
          rw [← Hn.out, ← HW.out] at hu hv ht
          have hu6 := lcs_le_left (x.drop i1) (y.drop j)
          have hv6 := lcs_le_left (x.drop i) (y.drop j1)
          have ht6 := lcs_le_left (x.drop i1) (y.drop j1)
          rw [List.length_drop, ← Hm.out] at hu6 hv6 ht6
          have Hstep := hide (fun z hz => Hfi2.out.step (by have := Hm.out; omega) (by have := Hn.out; omega) (by rw [Hnu2.out.len, HN.out]) z hz)
          rw [← Hn.out, ← HW.out, ← hi1, ← hj1, hu, hv, ht] at Hstep
          have Hc1 := hide (fun (w : World) (h : Nums w B g N L2) => at_any w B g N W i1 j L2 h hxy hW6 (by omega) (by omega) ix1)
          have Hc2 := hide (fun (w : World) (h : Nums w B g N L2) => at_any w B g N W i j1 L2 h hxy hW6 (by omega) (by omega) ix2)
          have Hc3 := hide (fun (w : World) (h : Nums w B g N L2) => at_any w B g N W i1 j1 L2 h hxy hW6 (by omega) (by omega) ix3)
          rw [hu] at Hc1
          rw [hv] at Hc2
          rw [ht] at Hc3
          generalize lcs (x.drop i1) (y.drop j) = u at *
          generalize lcs (x.drop i) (y.drop j1) = v at *
          generalize lcs (x.drop i1) (y.drop j1) = t at *
          obtain ⟨q, hq⟩ : ∃ q, q = i * W := ⟨_, rfl⟩
          have hqi : (i : Int) * (W : Int) = (q : Int) := by rw [hq]; simp
          rw [← hq] at Hstep ix4
          obtain ⟨kk, hkk⟩ : ∃ kk, kk = q + j := ⟨_, rfl⟩
          rw [← hkk] at Hstep ix4
          have hkk' : (q : Int) + (j : Int) = (kk : Int) := by omega
          have Hq := hide hqi
          have Hkk := hide hkk'
          have Hix := hide ix4
          have Hij := hide (show (i : Int) + 1 = i1 ∧ (j : Int) + 1 = j1 by constructor <;> omega)
          have ht7 : t ≤ 100000 := by omega
          clear hu hv ht hu6 hv6 ht6 ix1 ix2 ix3 ix4 hi1 hj1 hq hkk hqi hkk'
          go_wp2
          refine Rg.wp_region_ord (fun w' => w'.cell? ⟨gt, 0, none⟩ = some (.int .i64 (W : Int)) ∧ w'.cell? ⟨gt, 1, none⟩ = some (.slice (some ⟨g, 0, none⟩) N N)) [(0, true), (1, true), (2, true), (3, true), (5, true), (6, true), (7, true), (8, true), (4, false), (9, false), (10, true), (11, true)] (by kernel_rfl) (by kernel_rfl) ?_
          simp only [Rg.pick, List.map_cons, List.map_nil, List.getD_cons_zero, List.getD_cons_succ]
          iterate 8 (refine Rg.ord_quiet (v := ?_) rfl (fun w' hS => ?_) ⟨ct0, ct1⟩ ?_; rotate_left; (obtain ⟨s0, s1⟩ := hS; go_simp; with_reducible rfl); simp only [Act.put, List.setIfInBounds_toArray, List.set_cons_succ, List.set_cons_zero])
          refine Rg.ord_loud rfl (fun K hK => ?_)
          go_simp
          refine (Hc1.out _ Hnu2.out.drew).mono ?_
          rintro e w4 ⟨rfl, hb4⟩
          have hbw : Below w4.heap.size w4 w4 := Below.refl _ _
          have Hnu4 := hide (Hnu2.out.drew.kept hb4)
          have Hrt4 := hide (Hrt2.out.drew.below hb4 Hrt2.out.lt)
          have Hrr4 := hide (Hrr2.out.drew.below hb4 Hrr2.out.lt)
          have Hb4 := hide (Hb2.out.drew.trans (hb4.mono (Nat.le_trans HBw.out Hb2.out.size)))
          clear hb4 ct0 ct1 hbw
          have ct0 := Hrt4.out.cell 0
          have ct1 := Hrt4.out.cell 1
          simp only [List.getElem?_cons_zero, List.getElem?_cons_succ] at ct0 ct1
          refine hK _ _ (fun _ => ⟨ct0, ct1⟩) ?_
          clear hK K
          refine Rg.ord_loud rfl (fun K hK => ?_)
          go_simp
          refine (Hc2.out _ Hnu4.out).mono ?_
          rintro e w5 ⟨rfl, hb5⟩
          have Hnu5 := hide (Hnu4.out.kept hb5)
          have Hrt5 := hide (Hrt4.out.below hb5 Hrt4.out.lt)
          have Hrr5 := hide (Hrr4.out.below hb5 Hrr4.out.lt)
          have Hb5 := hide (Hb4.out.trans (hb5.mono (Nat.le_trans HBw.out Hb4.out.size)))
          clear hb5 ct0 ct1
          have ct0 := Hrt5.out.cell 0
          have ct1 := Hrt5.out.cell 1
          simp only [List.getElem?_cons_zero, List.getElem?_cons_succ] at ct0 ct1
          refine hK _ _ (fun _ => ⟨ct0, ct1⟩) ?_
          clear hK K
          obtain ⟨best, hbe⟩ : ∃ best : Nat, best = max u v := ⟨_, rfl⟩
          have hbest : (if u < v then (v : Int) else (u : Int)) = (best : Int) := by split <;> omega
          have Hbe := hide (show max (u : Int) (v : Int) = (best : Int) by omega)
          clear hbe
          iterate 2 (refine Rg.ord_quiet (v := ?_) rfl (fun w' hS => ?_) ⟨ct0, ct1⟩ ?_; rotate_left; (obtain ⟨s0, s1⟩ := hS; go_simp; with_reducible rfl); simp only [Act.put, List.setIfInBounds_toArray, List.set_cons_succ, List.set_cons_zero])
          refine Rg.ord_nil ?_
          clear hw1 hw2 hbest
          have hbb : Below w.heap.size w w5 := by rw [← HB.out]; exact Hb5.out
          obtain ⟨ba, oa, rfl, ca⟩ := Hs.out.text hbb (k := i) (by have := Hm.out; omega)
          obtain ⟨bb, ob, rfl, cb⟩ := Hs'.out.text hbb (k := j) (by have := Hn.out; omega)
          obtain ⟨X, hX⟩ : ∃ X, X = x.getD i [] := ⟨_, rfl⟩
          obtain ⟨Y, hY⟩ : ∃ Y, Y = y.getD j [] := ⟨_, rfl⟩
          rw [← hX] at ca Hstep
          rw [← hY] at cb Hstep
          clear hbb hX hY
          have him : i < m := hk
          have hjn : j < n := hl
          by_cases hxy' : X = Y
          · have hbq : (X == Y) = true := by rw [hxy']; exact beq_self_eq_true _
            have Hst := hide (Hstep.out ((t : Int) + 1) (if_pos hxy').symm)
            clear hxy' Hstep
            go_wp2
            go_quiet (fail)
            have ij1 := Hij.out.1
            have ij2 := Hij.out.2
            go_wp2_with fail
            refine (Hc3.out _ (Hnu5.out.drewN nq)).mono ?_
            rintro e w6 ⟨rfl, hb6⟩
            have Hnu6 := hide ((Hnu5.out.drewN nq).kept hb6)
            have Hrt6 := hide ((Hrt5.out.drewN nq).below hb6 Hrt5.out.lt)
            have Hrr6 := hide ((Hrr5.out.drewN nq).below hb6 Hrr5.out.lt)
            have Hb6 := hide ((below_drewN Hb5.out nq).trans (hb6.mono (Nat.le_trans HBw.out Hb5.out.size)))
            clear hb6 ct0 ct1 ca cb
            have ct0 := Hrt6.out.cell 0
            have ct1 := Hrt6.out.cell 1
            simp only [List.getElem?_cons_zero, List.getElem?_cons_succ] at ct0 ct1
            have cg := Hnu6.out.cell Hix.out
            have fg := Hnu6.out.free kk
            have hqi := Hq.out
            have hkk' := Hkk.out
            have hixx := Hix.out
            go_wp2
            exact ⟨⟨j, (j : Int) - 1, L2.set kk ((t : Int) + 1), by omega, rfl, by omega, Hnu6.out.put kk _, Hst.out, Hrt6.out.off (Ne.symm Hne.out.2.2.1) _, Hrr6.out.off Hne.out.1 _, below_put Hb6.out (g := g) (i := kk) Hne.out.2.2.2.1 _⟩, by simp only [intOf]; omega⟩
          · have hbq : (X == Y) = false := by rw [beq_eq_false_iff_ne]; exact hxy'
            have Hst := hide (Hstep.out (best : Int) (by rw [if_neg hxy', Hbe.out]))
            clear hxy' Hstep
            go_wp2
            go_quiet (fail)
            have hnu6 := Hnu5.out.drewN nq
            have Hrt6 := hide (Hrt5.out.drewN nq)
            have Hrr6 := hide (Hrr5.out.drewN nq)
            have Hb6 := hide (below_drewN Hb5.out nq)
            obtain ⟨w6, hw6⟩ : ∃ w6, w6 = w5.drewN nq := ⟨_, rfl⟩
            rw [← hw6] at hnu6 Hrt6 Hrr6 Hb6 ⊢
            have Hnu6 := hide hnu6
            clear hw6 hnu6 ct0 ct1 ca cb
            have ct0 := Hrt6.out.cell 0
            have ct1 := Hrt6.out.cell 1
            simp only [List.getElem?_cons_zero, List.getElem?_cons_succ] at ct0 ct1
            have cg := Hnu6.out.cell Hix.out
            have fg := Hnu6.out.free kk
            have hqi := Hq.out
            have hkk' := Hkk.out
            have hixx := Hix.out
            go_wp2
            exact ⟨⟨j, (j : Int) - 1, L2.set kk (best : Int), by omega, rfl, by omega, Hnu6.out.put kk _, Hst.out, Hrt6.out.off (Ne.symm Hne.out.2.2.1) _, Hrr6.out.off Hne.out.1 _, below_put Hb6.out (g := g) (i := kk) Hne.out.2.2.2.1 _⟩, by simp only [intOf]; omega⟩
end Go.Proofs.Ytofccahgmkifjaa.Df
namespace Go.Proofs.Ytofccahgmkifjaa.Df
open Go Go.RowKit Kt Lw Li

theorem go_at_end {x y : Ls} {i j : Nat} (hi : x.length ≤ i) (hj : y.length ≤ j) (pos del : Nat) (ins : Ls) : go (x.drop i) (y.drop j) pos del ins = emit pos del ins := by
  rw [List.drop_of_length_le hi, List.drop_of_length_le hj, go_nil]
theorem go_at_same {x y : Ls} {i j : Nat} (hi : i < x.length) (hj : j < y.length) (h : x.getD i [] = y.getD j []) (pos del : Nat) (ins : Ls) :
    go (x.drop i) (y.drop j) pos del ins = emit pos del ins ++ go (x.drop (i + 1)) (y.drop (j + 1)) (pos + del + 1) 0 [] := by
  rw [drop_getD_cons x i hi, drop_getD_cons y j hj, go_both, if_pos h]
theorem go_at_gone {x y : Ls} {i j : Nat} (hi : i < x.length) (h : y.length ≤ j ∨ (j < y.length ∧ x.getD i [] ≠ y.getD j [] ∧ lcs (x.drop i) (y.drop (j + 1)) ≤ lcs (x.drop (i + 1)) (y.drop j))) (pos del : Nat) (ins : Ls) :
    go (x.drop i) (y.drop j) pos del ins = go (x.drop (i + 1)) (y.drop j) pos (del + 1) ins := by
  rcases h with h | ⟨hj, hne, hl⟩
  · rw [List.drop_of_length_le h, drop_getD_cons x i hi, go_gone]
  · rw [drop_getD_cons x i hi, drop_getD_cons y j hj] at *
    rw [go_both, if_neg hne, if_pos hl]
theorem go_at_come {x y : Ls} {i j : Nat} (hj : j < y.length) (h : x.length ≤ i ∨ (i < x.length ∧ x.getD i [] ≠ y.getD j [] ∧ ¬ lcs (x.drop i) (y.drop (j + 1)) ≤ lcs (x.drop (i + 1)) (y.drop j))) (pos del : Nat) (ins : Ls) :
    go (x.drop i) (y.drop j) pos del ins = go (x.drop i) (y.drop (j + 1)) pos del (ins ++ [y.getD j []]) := by
  rcases h with h | ⟨hi, hne, hl⟩
  · rw [List.drop_of_length_le h, drop_getD_cons y j hj, go_come]
  · rw [drop_getD_cons x i hi, drop_getD_cons y j hj] at *
    rw [go_both, if_neg hne, if_neg hl]
theorem take_more (y : Ls) {q j : Nat} (hq : q ≤ j) (hj : j < y.length) : (y.drop q).take (j + 1 - q) = (y.drop q).take (j - q) ++ [y.getD j []] := by
  rw [show j + 1 - q = j - q + 1 from by omega, List.take_add_one, List.getElem?_drop, show q + (j - q) = j from by omega]
  simp [List.getElem?_eq_getElem hj]

theorem Filled.all {x y : Ls} {L : List Int} (h : Filled x y 0 0 L) {i' j' : Nat} (hi : i' ≤ x.length) (hj : j' ≤ y.length) : L.getD (i' * (y.length + 1) + j') 0 = (lcs (x.drop i') (y.drop j') : Nat) := by
  refine h i' j' hi hj ?_
  rcases Nat.eq_zero_or_pos i' with h0 | h0
  · exact .inr (.inr ⟨h0.symm, Nat.zero_le _⟩)
  · exact .inl h0
theorem row_ne {w : World} {B g : Nat} {t : TypeId} {cs : List Value} {v : Value} {L : List Ed} (h : Row w g t cs) (ht : t ≠ tE) (k : OwE w B v L) : some g ≠ v.ownBlock := by
  obtain ⟨V, _, hr, _⟩ := k
  intro e
  rcases hr.2 with ⟨rfl, _⟩ | ⟨g', cap', cur', rfl, _, hgg', _⟩
  · cases e
  · simp only [Value.ownBlock, Option.some.injEq] at e
    subst e
    unfold Row at h
    rw [hgg'] at h
    simp at h
    exact ht h.2.symm
theorem nums_ne {w : World} {B B' g N : Nat} {v : Value} {L : List Ed} {l : List Int} (h : Nums w B' g N l) (k : OwE w B v L) : some g ≠ v.ownBlock := by
  rcases h.2 with ⟨e, _⟩ | ⟨g', cap', cur', e, _, hgg', _⟩
  · cases e
  · simp only [Value.slice.injEq, Option.some.injEq, Addr.mk.injEq, and_true, true_and] at e
    obtain ⟨rfl, _⟩ := e
    exact row_ne (cs := cur'.toList) (t := tI) (by unfold Row; simpa using hgg') (by decide) k
theorem Nums.grown {w w' : World} {B g N : Nat} {L : List Int} {r : Option Nat} (h : Nums w B g N L) (hg : w.grownBy w' r) (hne : some g ≠ r) : Nums w' B g N L := World.ownsRow.kept h hg (.inr hne)
theorem emit_len (pos del : Nat) (ins : Ls) : (emit pos del ins).length ≤ 1 := by unfold emit; split <;> simp
theorem emitI_cast (f p i : Nat) (hp : p ≤ i) (I : Ls) : emitI ((f : Int) + p) ((i : Int) - p) I = emit (f + p) (i - p) I := by
  rw [← emitI_nat, Int.natCast_add, Int.ofNat_sub hp]
set_option maxHeartbeats 2000000 in
set_option maxRecDepth 100000 in
theorem walk_any (f : Nat) (x y : Ls) (A A' : Option Addr) (c c' : Nat) (P P' : Nat → Prop) (w : World) (hs : Vs w P A c (texts x)) (hs' : Vs w P' A' c' (texts y)) (hx : x.length ≤ 100000) (hy : y.length ≤ 100000)
    (hxy : (x.length + 1) * (y.length + 1) ≤ 1000000) (hf : f ≤ 1000000) :
    Calls Try.prog 46 #[.int .i64 (f : Int), .slice A x.length c, .slice A' y.length c'] w fun e w' => ∃ v, e = .returned v ∧ OwE w' w.heap.size v (go x y f 0 []) ∧ Below w.heap.size w w' := by
  have Hlo := hide (longest_any x y A A' c c' P P' w hs hs' hx hy hxy)
  have Hs := hide hs.bound
  have Hs' := hide hs'.bound
  have hcap := hs'.1
  rw [texts_len] at hcap
  obtain ⟨N, hN⟩ : ∃ N, N = (x.length + 1) * (y.length + 1) := ⟨_, rfl⟩
  have HN := hide hN
  obtain ⟨m, hm⟩ : ∃ m, m = x.length := ⟨_, rfl⟩
  obtain ⟨n, hn⟩ : ∃ n, n = y.length := ⟨_, rfl⟩
  rw [← hN] at hxy Hlo
  obtain ⟨W, hW⟩ : ∃ W, W = n + 1 := ⟨_, rfl⟩
  rw [← hm] at hx Hlo ⊢
  rw [← hn] at hy hcap Hlo ⊢
  rw [← hW] at Hlo
  have Hm := hide hm
  have Hn := hide hn
  have HW := hide hW
  clear hs hs' hN hm hn hW
  go_enter Try.func46, Try.ntmps46
  go_wp2_with fail
  refine Hlo.out.mono ?_
  rintro e w1 ⟨g, L, rfl, hnu, hfi, hb1⟩
  go_wp2
  have Hfi := hide hfi
  have hnu2 := hnu.kept ((Below.refl _ _).alloc (Nat.le_refl _) (.cells #[.int .i64 (W : Int), .slice (some ⟨g, 0, none⟩) N N] tT))
  have ht2 := Row.fresh w1 tT #[.int .i64 (W : Int), .slice (some ⟨g, 0, none⟩) N N]
  have hb2 := hb1.alloc hb1.size (.cells #[.int .i64 (W : Int), .slice (some ⟨g, 0, none⟩) N N] tT)
  obtain ⟨w2, hw2⟩ : ∃ w2, w2 = w1.alloc (.cells #[.int .i64 (W : Int), .slice (some ⟨g, 0, none⟩) N N] tT) := ⟨_, rfl⟩
  have hsz := hb1.size
  obtain ⟨gt, hgt⟩ : ∃ gt, gt = w1.heap.size := ⟨_, rfl⟩
  have hgg := hnu.lt
  rw [← hw2] at hnu2 ht2 hb2 ⊢
  rw [← hgt] at ht2 hsz hgg ⊢
  have Hne := hide (show g ≠ gt ∧ w.heap.size ≤ g ∧ w.heap.size ≤ gt by refine ⟨?_, ?_, ?_⟩ <;> omega)
  have Hnu2 := hide hnu2
  have Ht2 := hide ht2
  have Hb2 := hide hb2
  clear hnu hfi hb1 hnu2 ht2 hb2 hw2 hsz hgt hgg
  go_loopw [7, 9, 10, 11, 12] (fun v vi vj vp vq wr => ∃ (i j p q : Nat) (out : List Ed) (v0 : Value), v0 = v ∧ vi = .int .i64 i ∧ vj = .int .i64 j ∧ vp = .int .i64 p ∧ vq = .int .i64 q ∧ (i ≤ m ∧ j ≤ n ∧ p ≤ i ∧ q ≤ j ∧ out.length ≤ i) ∧
    out ++ go (x.drop i) (y.drop j) (f + p) (i - p) ((y.drop q).take (j - q)) = go x y f 0 [] ∧ OwE wr w.heap.size v0 out ∧ Nums wr w.heap.size g N L ∧ Row wr gt tT [.int .i64 (W : Int), .slice (some ⟨g, 0, none⟩) N N] ∧ Below w.heap.size w wr) (fun _ vi vj _ _ _ => m + n - (intOf vi).toNat - (intOf vj).toNat)
  case atStart => exact ⟨0, 0, 0, 0, [], _, rfl, rfl, rfl, rfl, rfl, ⟨by omega, by omega, by omega, by omega, by simp⟩, by simp, OwE.nil _ _, Hnu2.out, Ht2.out, Hb2.out⟩
  case round =>
    obtain ⟨i, j, p, q, out, v, rfl, rfl, rfl, rfl, rfl, ⟨hi, hj, hp, hq, hol⟩, hout, hown, hnu, hrt, hb⟩ := hrel
    have Hout := hide hout
    have Hown := hide hown
    have Hnu := hide hnu
    have Hrt := hide hrt
    have Hb := hide hb
    have ct0 := hrt.cell 0
    have ct1 := hrt.cell 1
    simp only [List.getElem?_cons_zero, List.getElem?_cons_succ] at ct0 ct1
    have hcut := fun w => run_cut2 w A' n c' q j hq (by omega)
    obtain ⟨A2, hA2⟩ : ∃ A2, (if c' = q then A' else A'.map (·.add q)) = A2 := ⟨_, rfl⟩
    have hvs := vs_cut Hs'.out (i := q) (j := j) hq (by have := Hn.out; omega)
    rw [hA2] at hvs
    simp only [hA2] at hcut
    have hlen : ((y.drop q).take (j - q)).length = j - q := by rw [List.length_take, List.length_drop]; have := Hn.out; omega
    rw [← hlen] at hcut
    obtain ⟨I, hI⟩ : ∃ I, I = (y.drop q).take (j - q) := ⟨_, rfl⟩
    rw [← hI] at hvs hlen hcut Hout
    have Hvs := hide (Lw.Vs.below hvs hb)
    have HI := hide hI
    have Hlen := hide hlen
    have Hcut := hide hcut
    clear hout hown hnu hrt hb hvs hA2 hI hlen hcut
    by_cases hi' : i < m
    · have di : decide (i < m) = true := decide_eq_true hi'
      by_cases hj' : j < n
      · have dj : decide (j < n) = true := decide_eq_true hj'
        have hjn : ((j : Int) == (n : Int)) = false := by rw [beq_eq_false_iff_ne]; omega
        obtain ⟨ba, oa, rfl, ca⟩ := Hs.out.text Hb.out (k := i) (by have := Hm.out; omega)
        obtain ⟨bb, ob, rfl, cb⟩ := Hs'.out.text Hb.out (k := j) (by have := Hn.out; omega)
        obtain ⟨X, hX⟩ : ∃ X, X = x.getD i [] := ⟨_, rfl⟩
        obtain ⟨Y, hY⟩ : ∃ Y, Y = y.getD j [] := ⟨_, rfl⟩
        rw [← hX] at ca
        rw [← hY] at cb
        by_cases hXY : X = Y
        · have hbq : (X == Y) = true := by rw [hXY]; exact beq_self_eq_true _
          have Hgo := hide (go_at_same (x := x) (y := y) (i := i) (j := j) (by have := Hm.out; omega) (by have := Hn.out; omega) (by rw [← hX, ← hY]; exact hXY) (f + p) (i - p) I)
          clear hX hY hXY
          go_wp2
          go_quiet (fail)
          have hown3 := Hown.out.drewN nq
          have hnu3 := Hnu.out.drewN nq
          have hrt3 := Hrt.out.drewN nq
          have hb3 := below_drewN Hb.out nq
          have hvs3 : Vs (wr.drewN nq) (fun b => b < w.heap.size) A2 (c' - q) (texts I) := Hvs.out
          obtain ⟨w3, hw3⟩ : ∃ w3, w3 = wr.drewN nq := ⟨_, rfl⟩
          rw [← hw3] at hown3 hnu3 hrt3 hb3 hvs3 ⊢
          have Hown3 := hide hown3
          have Hnu3 := hide hnu3
          have Hrt3 := hide hrt3
          have Hb3 := hide hb3
          have Hvs3 := hide hvs3
          clear ct0 ct1
          have ct0 := hrt3.cell 0
          have ct1 := hrt3.cell 1
          simp only [List.getElem?_cons_zero, List.getElem?_cons_succ] at ct0 ct1
          clear hown3 hnu3 hrt3 hb3 hvs3 hw3 Hown Hnu Hrt Hb Hvs
          clear ca cb
          have Hout2 := hide (show (out ++ emitI ((f : Int) + p) ((i : Int) - p) I) ++ go (x.drop (i + 1)) (y.drop (j + 1)) (f + (i + 1)) (i + 1 - (i + 1)) ((y.drop (j + 1)).take (j + 1 - (j + 1))) = go x y f 0 [] by
            rw [← Hout.out, Hgo.out, emitI_cast f p i hp, List.append_assoc, Nat.sub_self, Nat.sub_self, List.take_zero, show f + p + (i - p) + 1 = f + (i + 1) from by omega])
          have Hol := hide (show (out ++ emitI ((f : Int) + p) ((i : Int) - p) I).length ≤ i + 1 by
            rw [emitI_cast f p i hp, List.length_append]; have := emit_len (f + p) (i - p) I; omega)
          have hcut := Hcut.out
          go_wp2_with fail
          refine (add_any w.heap.size v out ((f : Int) + p) ((i : Int) - p) I A2 _ _ _ Hown3.out Hvs3.out Hb3.out.size (by omega) (by have := Hlen.out; omega)).mono ?_
          rintro e w4 ⟨v4, rfl, hown4, hb4, hg4⟩
          have Hown4 := hide hown4
          have Hnu4 := hide (Hnu3.out.grown hg4 (nums_ne Hnu3.out Hown3.out))
          have Hrt4 := hide (Hrt3.out.grown hg4 (row_ne Hrt3.out (by decide) Hown3.out))
          have Hb4 := hide (Hb3.out.trans hb4)
          clear hown4 hg4 hb4 hcut
          go_wp2
          exact ⟨⟨i + 1, j + 1, i + 1, j + 1, _, v4, rfl, by go_num, by go_num, by go_num, by go_num, ⟨by omega, by omega, by omega, by omega, Hol.out⟩, Hout2.out, Hown4.out, Hnu4.out, Hrt4.out, Hb4.out⟩, by simp [intOf]; omega⟩
        · have hbq : (X == Y) = false := by rw [beq_eq_false_iff_ne]; exact hXY
          rw [hX, hY] at hXY
          have Hne' := hide hXY
          clear hX hY hXY
          have hu := Hfi.out.all (i' := i + 1) (j' := j) (by have := Hm.out; omega) (by have := Hn.out; omega)
          have hv := Hfi.out.all (i' := i) (j' := j + 1) (by have := Hm.out; omega) (by have := Hn.out; omega)
          rw [← Hn.out, ← HW.out] at hu hv
          have hW6 : W ≤ 1000000 := by have := HW.out; omega
          have ix1 : (i + 1) * W + j < N := by rw [HN.out, ← Hm.out, ← Hn.out, ← HW.out]; exact idx_lt (by omega) (by have := HW.out; omega)
          have ix2 : i * W + (j + 1) < N := by rw [HN.out, ← Hm.out, ← Hn.out, ← HW.out]; exact idx_lt (by omega) (by have := HW.out; omega)
          have Hc1 := hide (fun (w1 : World) (h : Nums w1 w.heap.size g N L) => at_any w1 w.heap.size g N W (i + 1) j L h hxy hW6 (by omega) (by omega) ix1)
          have Hc2 := hide (fun (w1 : World) (h : Nums w1 w.heap.size g N L) => at_any w1 w.heap.size g N W i (j + 1) L h hxy hW6 (by omega) (by omega) ix2)
          rw [hu] at Hc1
          rw [hv] at Hc2
          obtain ⟨i1, hi1⟩ : ∃ i1, i1 = i + 1 := ⟨_, rfl⟩
          obtain ⟨j1, hj1⟩ : ∃ j1, j1 = j + 1 := ⟨_, rfl⟩
          have hw1 : IntKind.i64.wrap ((i : Int) + 1) = (i1 : Int) := by rw [IntWalk.i64_in _ (by omega)]; omega
          have hw2 : IntKind.i64.wrap ((j : Int) + 1) = (j1 : Int) := by rw [IntWalk.i64_in _ (by omega)]; omega
          rw [← hi1] at Hc1
          rw [← hj1] at Hc2
          have Hij := hide (show (i : Int) + 1 = i1 ∧ (j : Int) + 1 = j1 by constructor <;> omega)
          have Hl1 := hide (go_at_gone (x := x) (y := y) (i := i) (j := j) (by have := Hm.out; omega) · (f + p) (i - p) I)
          have Hl2 := hide (go_at_come (x := x) (y := y) (i := i) (j := j) (by have := Hn.out; omega) · (f + p) (i - p) I)
          rw [← hi1, ← hj1] at Hl1 Hl2
          have HL1 := hide (fun (h : lcs (x.drop i) (y.drop j1) ≤ lcs (x.drop i1) (y.drop j)) => Hl1.out (.inr ⟨by have := Hn.out; omega, Hne'.out, h⟩))
          have HL2 := hide (fun (h : ¬ lcs (x.drop i) (y.drop j1) ≤ lcs (x.drop i1) (y.drop j)) => Hl2.out (.inr ⟨by have := Hm.out; omega, Hne'.out, h⟩))
          clear Hl1 Hl2
          generalize lcs (x.drop i1) (y.drop j) = u at *
          generalize lcs (x.drop i) (y.drop j1) = z at *
          clear hu hv ix1 ix2
          go_wp2
          go_quiet (fail)
          have hown3 := Hown.out.drewN nq
          have hnu3 := Hnu.out.drewN nq
          have hrt3 := Hrt.out.drewN nq
          have hb3 := below_drewN Hb.out nq
          have hvs3 : Vs (wr.drewN nq) (fun b => b < w.heap.size) A2 (c' - q) (texts I) := Hvs.out
          obtain ⟨w3, hw3⟩ : ∃ w3, w3 = wr.drewN nq := ⟨_, rfl⟩
          rw [← hw3] at hown3 hnu3 hrt3 hb3 hvs3 ⊢
          have Hown3 := hide hown3
          have Hnu3 := hide hnu3
          have Hrt3 := hide hrt3
          have Hb3 := hide hb3
          have Hvs3 := hide hvs3
          clear ct0 ct1
          have ct0 := hrt3.cell 0
          have ct1 := hrt3.cell 1
          simp only [List.getElem?_cons_zero, List.getElem?_cons_succ] at ct0 ct1
          clear hown3 hnu3 hrt3 hb3 hvs3 hw3 Hown Hnu Hrt Hb Hvs
          clear ca cb Hcut
          by_cases hl : z ≤ u
          · have dl : decide (z ≤ u) = true := decide_eq_true hl
            have Hout2 := hide (show out ++ go (x.drop (i + 1)) (y.drop j) (f + p) (i + 1 - p) ((y.drop q).take (j - q)) = go x y f 0 [] by
              rw [← Hout.out, HL1.out hl, HI.out, show i + 1 - p = i - p + 1 from by omega, hi1])
            clear hi1 hj1
            go_wp2
            refine Rg.wp_region_ord (fun w' => w'.cell? ⟨gt, 0, none⟩ = some (.int .i64 (W : Int)) ∧ w'.cell? ⟨gt, 1, none⟩ = some (.slice (some ⟨g, 0, none⟩) N N)) [(0, true), (1, true), (2, true), (3, true), (4, true), (5, true), (6, true), (7, true), (8, true), (9, true), (10, true), (11, true), (12, true), (13, true), (15, true), (16, true), (17, true), (18, true), (14, false), (19, false), (20, true), (21, true), (22, true), (23, true)] (by kernel_rfl) (by kernel_rfl) ?_
            simp only [Rg.pick, List.map_cons, List.map_nil, List.getD_cons_zero, List.getD_cons_succ]
            iterate 5 (refine Rg.ord_quiet (v := ?_) rfl (fun w' hS => ?_) ⟨ct0, ct1⟩ ?_; rotate_left; (obtain ⟨s0, s1⟩ := hS; go_simp; with_reducible rfl); simp only [Act.put, List.setIfInBounds_toArray, List.set_cons_succ, List.set_cons_zero])
            iterate 5 (refine Rg.ord_guarded (v := ?_) (by rfl) (fun w' hS => ?_) ⟨ct0, ct1⟩ ?_; rotate_left; (obtain ⟨s0, s1⟩ := hS; go_simp; with_reducible rfl); simp only [Act.put, List.setIfInBounds_toArray, List.set_cons_succ, List.set_cons_zero])
            iterate 8 (refine Rg.ord_guarded (v := ?_) (by rfl) (fun w' hS => ?_) ⟨ct0, ct1⟩ ?_; rotate_left; (obtain ⟨s0, s1⟩ := hS; go_simp; with_reducible rfl); simp only [Act.put, List.setIfInBounds_toArray, List.set_cons_succ, List.set_cons_zero])
            refine Rg.ord_loud (by rfl) (fun K hK => ?_)
            go_simp
            refine (Hc1.out _ Hnu3.out.drew).mono ?_
            rintro e w4 ⟨rfl, hbx⟩
            have Hnu4 := hide (Hnu3.out.drew.kept hbx)
            have Hrt4 := hide (Hrt3.out.drew.below hbx Hrt3.out.lt)
            have Hown4 := hide (Hown3.out.drew.keep hbx)
            have Hb4 := hide (Hb3.out.drew.trans (hbx.mono Hb3.out.size))
            clear hbx ct0 ct1
            have ct0 := Hrt4.out.cell 0
            have ct1 := Hrt4.out.cell 1
            simp only [List.getElem?_cons_zero, List.getElem?_cons_succ] at ct0 ct1
            refine hK _ _ (fun _ => ⟨ct0, ct1⟩) ?_
            clear hK K
            refine Rg.ord_loud (by rfl) (fun K hK => ?_)
            go_simp
            refine (Hc2.out _ Hnu4.out).mono ?_
            rintro e w5 ⟨rfl, hbx⟩
            have Hnu5 := hide (Hnu4.out.kept hbx)
            have Hrt5 := hide (Hrt4.out.below hbx Hrt4.out.lt)
            have Hown5 := hide (Hown4.out.keep hbx)
            have Hb5 := hide (Hb4.out.trans (hbx.mono Hb4.out.size))
            clear hbx ct0 ct1
            have ct0 := Hrt5.out.cell 0
            have ct1 := Hrt5.out.cell 1
            simp only [List.getElem?_cons_zero, List.getElem?_cons_succ] at ct0 ct1
            refine hK _ _ (fun _ => ⟨ct0, ct1⟩) ?_
            clear hK K
            iterate 2 (refine Rg.ord_guarded (v := ?_) (by rfl) (fun w' hS => ?_) ⟨ct0, ct1⟩ ?_; rotate_left; (obtain ⟨s0, s1⟩ := hS; go_simp; with_reducible rfl); simp only [Act.put, List.setIfInBounds_toArray, List.set_cons_succ, List.set_cons_zero])
            iterate 2 (refine Rg.ord_quiet (v := ?_) rfl (fun w' hS => ?_) ⟨ct0, ct1⟩ ?_; rotate_left; (obtain ⟨s0, s1⟩ := hS; go_simp; with_reducible rfl); simp only [Act.put, List.setIfInBounds_toArray, List.set_cons_succ, List.set_cons_zero])
            refine Rg.ord_nil ?_
            clear hw1 hw2
            go_wp2
            exact ⟨⟨i + 1, j, p, q, out, v, rfl, by go_num, rfl, rfl, rfl, ⟨by omega, by omega, by omega, by omega, by omega⟩, Hout2.out, Hown5.out, Hnu5.out, Hrt5.out, Hb5.out⟩, by simp [intOf]; omega⟩
          · have dl : decide (z ≤ u) = false := decide_eq_false hl
            have Hout2 := hide (show out ++ go (x.drop i) (y.drop (j + 1)) (f + p) (i - p) ((y.drop q).take (j + 1 - q)) = go x y f 0 [] by
              rw [← Hout.out, HL2.out hl, HI.out, take_more y hq (by have := Hn.out; omega), hj1])
            clear hi1 hj1
            go_wp2
            refine Rg.wp_region_ord (fun w' => w'.cell? ⟨gt, 0, none⟩ = some (.int .i64 (W : Int)) ∧ w'.cell? ⟨gt, 1, none⟩ = some (.slice (some ⟨g, 0, none⟩) N N)) [(0, true), (1, true), (2, true), (3, true), (4, true), (5, true), (6, true), (7, true), (8, true), (9, true), (10, true), (11, true), (12, true), (13, true), (15, true), (16, true), (17, true), (18, true), (14, false), (19, false), (20, true), (21, true), (22, true), (23, true)] (by kernel_rfl) (by kernel_rfl) ?_
            simp only [Rg.pick, List.map_cons, List.map_nil, List.getD_cons_zero, List.getD_cons_succ]
            iterate 5 (refine Rg.ord_quiet (v := ?_) rfl (fun w' hS => ?_) ⟨ct0, ct1⟩ ?_; rotate_left; (obtain ⟨s0, s1⟩ := hS; go_simp; with_reducible rfl); simp only [Act.put, List.setIfInBounds_toArray, List.set_cons_succ, List.set_cons_zero])
            iterate 5 (refine Rg.ord_guarded (v := ?_) (by rfl) (fun w' hS => ?_) ⟨ct0, ct1⟩ ?_; rotate_left; (obtain ⟨s0, s1⟩ := hS; go_simp; with_reducible rfl); simp only [Act.put, List.setIfInBounds_toArray, List.set_cons_succ, List.set_cons_zero])
            iterate 8 (refine Rg.ord_guarded (v := ?_) (by rfl) (fun w' hS => ?_) ⟨ct0, ct1⟩ ?_; rotate_left; (obtain ⟨s0, s1⟩ := hS; go_simp; with_reducible rfl); simp only [Act.put, List.setIfInBounds_toArray, List.set_cons_succ, List.set_cons_zero])
            refine Rg.ord_loud (by rfl) (fun K hK => ?_)
            go_simp
            refine (Hc1.out _ Hnu3.out.drew).mono ?_
            rintro e w4 ⟨rfl, hbx⟩
            have Hnu4 := hide (Hnu3.out.drew.kept hbx)
            have Hrt4 := hide (Hrt3.out.drew.below hbx Hrt3.out.lt)
            have Hown4 := hide (Hown3.out.drew.keep hbx)
            have Hb4 := hide (Hb3.out.drew.trans (hbx.mono Hb3.out.size))
            clear hbx ct0 ct1
            have ct0 := Hrt4.out.cell 0
            have ct1 := Hrt4.out.cell 1
            simp only [List.getElem?_cons_zero, List.getElem?_cons_succ] at ct0 ct1
            refine hK _ _ (fun _ => ⟨ct0, ct1⟩) ?_
            clear hK K
            refine Rg.ord_loud (by rfl) (fun K hK => ?_)
            go_simp
            refine (Hc2.out _ Hnu4.out).mono ?_
            rintro e w5 ⟨rfl, hbx⟩
            have Hnu5 := hide (Hnu4.out.kept hbx)
            have Hrt5 := hide (Hrt4.out.below hbx Hrt4.out.lt)
            have Hown5 := hide (Hown4.out.keep hbx)
            have Hb5 := hide (Hb4.out.trans (hbx.mono Hb4.out.size))
            clear hbx ct0 ct1
            have ct0 := Hrt5.out.cell 0
            have ct1 := Hrt5.out.cell 1
            simp only [List.getElem?_cons_zero, List.getElem?_cons_succ] at ct0 ct1
            refine hK _ _ (fun _ => ⟨ct0, ct1⟩) ?_
            clear hK K
            iterate 2 (refine Rg.ord_guarded (v := ?_) (by rfl) (fun w' hS => ?_) ⟨ct0, ct1⟩ ?_; rotate_left; (obtain ⟨s0, s1⟩ := hS; go_simp; with_reducible rfl); simp only [Act.put, List.setIfInBounds_toArray, List.set_cons_succ, List.set_cons_zero])
            iterate 2 (refine Rg.ord_quiet (v := ?_) rfl (fun w' hS => ?_) ⟨ct0, ct1⟩ ?_; rotate_left; (obtain ⟨s0, s1⟩ := hS; go_simp; with_reducible rfl); simp only [Act.put, List.setIfInBounds_toArray, List.set_cons_succ, List.set_cons_zero])
            refine Rg.ord_nil ?_
            clear hw1 hw2
            go_wp2
            exact ⟨⟨i, j + 1, p, q, out, v, rfl, rfl, by go_num, rfl, rfl, ⟨by omega, by omega, by omega, by omega, by omega⟩, Hout2.out, Hown5.out, Hnu5.out, Hrt5.out, Hb5.out⟩, by simp [intOf]; omega⟩
      · have dj : decide (j < n) = false := decide_eq_false hj'
        obtain rfl : j = n := by omega
        have Hgo := hide (go_at_gone (x := x) (y := y) (i := i) (j := j) (by have := Hm.out; omega) (.inl (by have := Hn.out; omega)) (f + p) (i - p) I)
        have Hout2 := hide (show out ++ go (x.drop (i + 1)) (y.drop j) (f + p) (i + 1 - p) ((y.drop q).take (j - q)) = go x y f 0 [] by
          rw [← Hout.out, Hgo.out, HI.out, show i + 1 - p = i - p + 1 from by omega])
        go_wp2
        go_quiet (fail)
        have hown3 := Hown.out.drewN nq
        have hnu3 := Hnu.out.drewN nq
        have hrt3 := Hrt.out.drewN nq
        have hb3 := below_drewN Hb.out nq
        have hvs3 : Vs (wr.drewN nq) (fun b => b < w.heap.size) A2 (c' - q) (texts I) := Hvs.out
        obtain ⟨w3, hw3⟩ : ∃ w3, w3 = wr.drewN nq := ⟨_, rfl⟩
        rw [← hw3] at hown3 hnu3 hrt3 hb3 hvs3 ⊢
        have Hown3 := hide hown3
        have Hnu3 := hide hnu3
        have Hrt3 := hide hrt3
        have Hb3 := hide hb3
        have Hvs3 := hide hvs3
        clear ct0 ct1
        have ct0 := hrt3.cell 0
        have ct1 := hrt3.cell 1
        simp only [List.getElem?_cons_zero, List.getElem?_cons_succ] at ct0 ct1
        clear hown3 hnu3 hrt3 hb3 hvs3 hw3 Hown Hnu Hrt Hb Hvs
        clear Hcut
        go_wp2
        go_quiet (fail)
        go_wp2
        exact ⟨⟨i + 1, j, p, q, out, v, rfl, by go_num, rfl, rfl, rfl, ⟨by omega, by omega, by omega, by omega, by omega⟩, Hout2.out, Hown3.out.drewN _, Hnu3.out.drewN _, Hrt3.out.drewN _, below_drewN Hb3.out _⟩, by simp [intOf]; omega⟩
    · have di : decide (i < m) = false := decide_eq_false hi'
      obtain rfl : i = m := by omega
      by_cases hj' : j < n
      · have dj : decide (j < n) = true := decide_eq_true hj'
        have hjn : ((j : Int) == (n : Int)) = false := by rw [beq_eq_false_iff_ne]; omega
        have Hgo := hide (go_at_come (x := x) (y := y) (i := i) (j := j) (by have := Hn.out; omega) (.inl (by have := Hm.out; omega)) (f + p) (i - p) I)
        have Hout2 := hide (show out ++ go (x.drop i) (y.drop (j + 1)) (f + p) (i - p) ((y.drop q).take (j + 1 - q)) = go x y f 0 [] by
          rw [← Hout.out, Hgo.out, HI.out, take_more y hq (by have := Hn.out; omega)])
        go_wp2
        go_quiet (fail)
        have hown3 := Hown.out.drewN nq
        have hnu3 := Hnu.out.drewN nq
        have hrt3 := Hrt.out.drewN nq
        have hb3 := below_drewN Hb.out nq
        have hvs3 : Vs (wr.drewN nq) (fun b => b < w.heap.size) A2 (c' - q) (texts I) := Hvs.out
        obtain ⟨w3, hw3⟩ : ∃ w3, w3 = wr.drewN nq := ⟨_, rfl⟩
        rw [← hw3] at hown3 hnu3 hrt3 hb3 hvs3 ⊢
        have Hown3 := hide hown3
        have Hnu3 := hide hnu3
        have Hrt3 := hide hrt3
        have Hb3 := hide hb3
        have Hvs3 := hide hvs3
        clear ct0 ct1
        have ct0 := hrt3.cell 0
        have ct1 := hrt3.cell 1
        simp only [List.getElem?_cons_zero, List.getElem?_cons_succ] at ct0 ct1
        clear hown3 hnu3 hrt3 hb3 hvs3 hw3 Hown Hnu Hrt Hb Hvs
        clear Hcut
        go_wp2
        go_quiet (fail)
        go_wp2
        exact ⟨⟨i, j + 1, p, q, out, v, rfl, rfl, by go_num, rfl, rfl, ⟨by omega, by omega, by omega, by omega, by omega⟩, Hout2.out, Hown3.out.drewN _, Hnu3.out.drewN _, Hrt3.out.drewN _, below_drewN Hb3.out _⟩, by simp [intOf]; omega⟩
      · obtain rfl : j = n := by omega
        have Hout2 := hide (show out ++ emitI ((f : Int) + p) ((i : Int) - p) I = go x y f 0 [] by
          rw [← Hout.out, go_at_end (by have := Hm.out; omega) (by have := Hn.out; omega), emitI_cast f p i hp])
        have hcut := Hcut.out
        go_wp2_with fail
        refine (add_any w.heap.size v out ((f : Int) + p) ((i : Int) - p) I A2 _ _ _ Hown.out Hvs.out Hb.out.size (by omega) (by have := Hlen.out; omega)).mono ?_
        rintro e w4 ⟨v4, rfl, hown4, hb4, hg4⟩
        have Hown4 := hide hown4
        have Hnu4 := hide (Hnu.out.grown hg4 (nums_ne Hnu.out Hown.out))
        have Hrt4 := hide (Hrt.out.grown hg4 (row_ne Hrt.out (by decide) Hown.out))
        have Hb4 := hide (Hb.out.trans hb4)
        clear hown4 hg4 hb4 hcut
        go_wp2
        go_ret
        exact ⟨v4, rfl, by rw [← Hout2.out]; exact Hown4.out, Hb4.out⟩
end Go.Proofs.Ytofccahgmkifjaa.Df
