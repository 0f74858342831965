/-
  The reference's fits.
-/
import Derived.Test.YtnehgogajghefaaDoorVL
namespace Go.Proofs.YtnehgogajghefaaDoor.Un
open Go Go.RowKit Kt Lw Li Df Hu

theorem _root_.Go.Proofs.YtnehgogajghefaaDoor.Hu.gmem0 {l : Ls} {i : Nat} (h : i < l.length) : l.getD i [] ∈ l := by simp [List.getElem?_eq_getElem h]
set_option maxRecDepth 100000 in
set_option maxHeartbeats 2000000 in
theorem fits_any (a an b bn : Int) (ls : Ls) (x : List UInt8) (A : Option Addr) (c : Nat) (P : Nat → Prop) (w : World) (hs : Vs w P A c (texts ls)) (hn : ls.length ≤ 100000) (hx : x.length ≤ 1000000) (hxne : x ≠ []) (hne : ∀ y ∈ ls, y ≠ []) (F : Bool) (hF : F = true ↔ fitB an bn ls x) :
    Calls Tryd.prog 15 #[.agg #[.int .i64 a, .int .i64 an, .int .i64 b, .int .i64 bn, .slice A ls.length c], .string ⟨x.toArray⟩] w fun y w' => y = .returned (.bool F) ∧ Below w.heap.size w w' := by
  have HC := hide (fun w' => refClosed_any x w' (by omega))
  have Hs := hide hs.bound
  have Hf := hide (show fitB an bn ls x ↔ closed x = true ∧ (sg x = 32 ∨ sg x = 45 ∨ sg x = 43) ∧ ¬ (sg x = 45 ∧ sg (ls.getLast?.getD []) = 43) ∧ (many 45 (ls ++ [x]) : Int) ≤ an ∧ (many 43 (ls ++ [x]) : Int) ≤ bn from Iff.rfl)
  have Hne := hide hne
  have HFy := hide hF
  have HFn := hide (show ¬ fitB an bn ls x → F = false from fun h => by
    cases F with
    | false => rfl
    | true => exact absurd (hF.1 rfl) h)
  obtain ⟨N, hN⟩ : ∃ N, N = ls.length := ⟨_, rfl⟩
  rw [← hN] at hn ⊢
  have HN := hide hN
  obtain ⟨w1, hw1⟩ : ∃ w1, w1 = w.alloc (.cells #[.int .i64 a, .int .i64 an, .int .i64 b, .int .i64 bn, .slice A N c] tH) := ⟨_, rfl⟩
  have hb1 : Below w.heap.size w w1 := by rw [hw1]; exact (Below.refl _ w).alloc (Nat.le_refl _) _
  obtain ⟨q, hq⟩ : ∃ q, q = w.heap.size := ⟨_, rfl⟩
  have hrow : Row w1 q tH [.int .i64 a, .int .i64 an, .int .i64 b, .int .i64 bn, .slice A N c] := by rw [hw1, hq]; exact Row.fresh w tH _
  have Hb1 := hide hb1
  have Hrow := hide hrow
  clear hs hne hF hN hb1 hrow
  cases hcl : closed x with
  | false =>
    rw [hcl] at HC
    have HF := hide (HFn.out fun h => by rw [(Hf.out.1 h).1] at hcl; cases hcl)
    go_enter Tryd.func15, Tryd.ntmps15
    go_wp2_with fail
    rw [← hw1]
    refine (HC.out w1).mono ?_
    rintro y w2 ⟨rfl, rfl⟩
    clear hw1 HC hcl
    go_wp2
    go_ret
    exact ⟨by rw [HF.out]; rfl, Hb1.out⟩
  | true =>
  rw [hcl] at HC
  have hsz := Hu.size_of x
  have hx1 : 1 ≤ x.length := List.length_pos_iff.2 hxne
  have hg := Hu.get_at x 0 (by rw [hsz]; exact hx1)
  rw [sg_get] at hg
  obtain ⟨s, hse⟩ : ∃ s, s = sg x := ⟨_, rfl⟩
  rw [← hse] at hg Hf
  have Hcl := hide hcl
  clear hse hxne hcl
  by_cases hsg : s = 32 ∨ s = 45 ∨ s = 43
  · rcases hsg with rfl | rfl | rfl
    · skip
      go_enter Tryd.func15, Tryd.ntmps15
      go_wp2_with fail
      rw [← hw1]
      refine (HC.out w1).mono ?_
      rintro y w2 ⟨rfl, rfl⟩
      have c4 := Hrow.out.cell 4
      simp only [List.getElem?_cons_zero, List.getElem?_cons_succ] at c4
      rw [hq] at c4
      have c4 : (w2.alloc (.cells #[] 9)).cell? ⟨w.heap.size, 4, none⟩ = some (.slice A N c) := cell_keep ((Below.refl _ _).alloc (Nat.le_refl _) _) c4
      clear hw1 HC
      go_wp2_with (first
        | (refine wpList_catT rfl (.tmp 27) (.tmp 29) 29 rfl Tryd.underlying29 Df.infoText w2.heap.size w2 _ [] ls _ A c rfl (by rw [← HN.out]; rfl) (OwT.lit w2 w2.heap.size 9 [] _ rfl (Nat.le_refl _) (by simp [maxLen])) (Lw.Vs.below Hs.out (Hb1.out.alloc Hb1.out.size _)) (by rw [← HN.out]; simp; omega) ((Below.refl _ _).alloc (Nat.le_refl _) _) (by simp) ?_
           intro v4 w4 hown4 hb4 _
           rw [List.nil_append] at hown4
           have Hown4 := hide hown4
           have Hb4 := hide hb4
           clear hown4 hb4)
        | (refine wpList_pushT rfl (.tmp 30) (.tmp 32) rfl w2.heap.size w2 v4 ls x _ rfl rfl rfl Hown4.out (by have := HN.out; omega) Hb4.out Hb4.out.size ?_
           intro v5 w5 hown5 hb5 _ _
           obtain ⟨A5, c5, rfl, hx5⟩ := OwT.vs hown5
           simp only [List.length_append, List.length_singleton, ← HN.out]
           have Hx5 := hide hx5.bound
           have Hb5 := hide hb5
           clear hown5 hb5 hx5))
      all_goals
        have hrow5 : Row w5 q tH [.int .i64 a, .int .i64 an, .int .i64 b, .int .i64 bn, .slice A N c] := Hrow.out.below Hb5.out Hrow.out.lt
        have d1 := hrow5.drew.cell 1
        have d3 := hrow5.drew.cell 3
        simp only [List.getElem?_cons_zero, List.getElem?_cons_succ] at d1 d3
        rw [hq] at d1 d3
        have hm1 := refMany_any 45 (by decide) (ls ++ [x]) A5 c5 _ w5.drew (Lw.Vs.below Hx5.out (Below.refl _ w5).drew) (by rw [List.length_append, List.length_singleton, ← HN.out]; omega)
        have hm2 := refMany_any 43 (by decide) (ls ++ [x]) A5 c5 _ w5.drew (Lw.Vs.below Hx5.out (Below.refl _ w5).drew) (by rw [List.length_append, List.length_singleton, ← HN.out]; omega)
        obtain ⟨m1, hm1e⟩ : ∃ m, m = many 45 (ls ++ [x]) := ⟨_, rfl⟩
        obtain ⟨m2, hm2e⟩ : ∃ m, m = many 43 (ls ++ [x]) := ⟨_, rfl⟩
        rw [← hm1e] at hm1
        rw [← hm2e] at hm2
        rw [← hm1e, ← hm2e] at Hf
        simp only [List.length_append, List.length_singleton, ← HN.out] at hm1 hm2
        have HM1 := hide (show Calls Tryd.prog 14 #[.slice A5 (N + 1) c5, .int .u8 45] w5.drew fun y w'' => y = .returned (.int .i64 (m1 : Int)) ∧ w'' = w5.drew from hm1)
        have HM2 := hide (show Calls Tryd.prog 14 #[.slice A5 (N + 1) c5, .int .u8 43] w5.drew fun y w'' => y = .returned (.int .i64 (m2 : Int)) ∧ w'' = w5.drew from hm2)
        clear hm1 hm2 hm1e hm2e hrow5
        have hb9 : Below w.heap.size w w5.drew := (Hb1.out.trans (Hb5.out.mono Hb1.out.size)).drew
        by_cases k1 : (m1 : Int) ≤ an
        · have f1 : decide ((m1 : Int) ≤ an) = true := decide_eq_true k1
          have HE := hide (show F = decide ((m2 : Int) ≤ bn) from by rw [Bool.eq_iff_iff, decide_eq_true_iff, HFy.out, Hf.out]; exact ⟨fun h => h.2.2.2.2, fun h => ⟨Hcl.out, by decide, fun h => absurd h.1 (by decide), k1, h⟩⟩)
          refine Rg.wp_region_ord (fun w' => w' = w5.drew) [(0, true), (2, true), (3, true), (1, false), (4, true), (5, true), (6, true), (8, true), (9, true), (7, false), (10, true), (11, true), (12, true)] (by kernel_rfl) (by kernel_rfl) ?_
          simp only [Rg.pick, List.map_cons, List.map_nil, List.getD_cons_zero, List.getD_cons_succ]
          iterate 3 (refine Rg.ord_quiet (v := ?_) rfl (fun w' hS => ?_) rfl ?_; rotate_left; (subst hS; go_simp; with_reducible rfl); simp only [Act.put, List.setIfInBounds_toArray, List.set_cons_succ, List.set_cons_zero])
          refine Rg.ord_loud (by rfl) (fun K hK => ?_)
          go_simp
          refine HM1.out.mono ?_
          rintro y9 w9 ⟨rfl, rfl⟩
          refine hK _ _ (fun _ => rfl) ?_
          clear hK K
          iterate 2 (refine Rg.ord_quiet (v := ?_) rfl (fun w' hS => ?_) rfl ?_; rotate_left; (subst hS; go_simp; with_reducible rfl); simp only [Act.put, List.setIfInBounds_toArray, List.set_cons_succ, List.set_cons_zero])
          iterate 3 (refine Rg.ord_guarded (v := ?_) (by rfl) (fun w' hS => ?_) rfl ?_; rotate_left; (subst hS; go_simp; with_reducible rfl); simp only [Act.put, List.setIfInBounds_toArray, List.set_cons_succ, List.set_cons_zero])
          refine Rg.ord_loud (by rfl) (fun K hK => ?_)
          go_simp
          refine HM2.out.mono ?_
          rintro y9 w9 ⟨rfl, rfl⟩
          refine hK _ _ (fun _ => rfl) ?_
          clear hK K
          iterate 1 (refine Rg.ord_guarded (v := ?_) (by rfl) (fun w' hS => ?_) rfl ?_; rotate_left; (subst hS; go_simp; with_reducible rfl); simp only [Act.put, List.setIfInBounds_toArray, List.set_cons_succ, List.set_cons_zero])
          iterate 2 (refine Rg.ord_quiet (v := ?_) rfl (fun w' hS => ?_) rfl ?_; rotate_left; (subst hS; go_simp; with_reducible rfl); simp only [Act.put, List.setIfInBounds_toArray, List.set_cons_succ, List.set_cons_zero])
          refine Rg.ord_nil ?_
          go_wp2
          go_ret
          exact ⟨by rw [HE.out]; rfl, hb9⟩
        · have f1 : decide ((m1 : Int) ≤ an) = false := decide_eq_false k1
          have HE := hide (HFn.out fun h => k1 (Hf.out.1 h).2.2.2.1)
          refine Rg.wp_region_ord (fun w' => w' = w5.drew) [(0, true), (2, true), (3, true), (1, false), (4, true), (5, true), (6, true), (8, true), (9, true), (7, true), (10, true), (11, true), (12, true)] (by kernel_rfl) (by kernel_rfl) ?_
          simp only [Rg.pick, List.map_cons, List.map_nil, List.getD_cons_zero, List.getD_cons_succ]
          iterate 3 (refine Rg.ord_quiet (v := ?_) rfl (fun w' hS => ?_) rfl ?_; rotate_left; (subst hS; go_simp; with_reducible rfl); simp only [Act.put, List.setIfInBounds_toArray, List.set_cons_succ, List.set_cons_zero])
          refine Rg.ord_loud (by rfl) (fun K hK => ?_)
          go_simp
          refine HM1.out.mono ?_
          rintro y9 w9 ⟨rfl, rfl⟩
          refine hK _ _ (fun _ => rfl) ?_
          clear hK K
          iterate 2 (refine Rg.ord_quiet (v := ?_) rfl (fun w' hS => ?_) rfl ?_; rotate_left; (subst hS; go_simp; with_reducible rfl); simp only [Act.put, List.setIfInBounds_toArray, List.set_cons_succ, List.set_cons_zero])
          iterate 3 (refine Rg.ord_passed (by rfl) rfl ?_; simp only [Act.put, List.setIfInBounds_toArray, List.set_cons_succ, List.set_cons_zero])
          iterate 1 (refine Rg.ord_passed (by rfl) rfl ?_; simp only [Act.put, List.setIfInBounds_toArray, List.set_cons_succ, List.set_cons_zero])
          iterate 1 (refine Rg.ord_passed (by rfl) rfl ?_; simp only [Act.put, List.setIfInBounds_toArray, List.set_cons_succ, List.set_cons_zero])
          iterate 2 (refine Rg.ord_quiet (v := ?_) rfl (fun w' hS => ?_) rfl ?_; rotate_left; (subst hS; go_simp; with_reducible rfl); simp only [Act.put, List.setIfInBounds_toArray, List.set_cons_succ, List.set_cons_zero])
          refine Rg.ord_nil ?_
          go_wp2
          go_ret
          exact ⟨by rw [HE.out]; rfl, hb9⟩
    · by_cases hN0 : N = 0
      · have Hla := hide (show sg (ls.getLast?.getD []) = 0 from by rw [List.length_eq_zero_iff.1 (HN.out.symm.trans hN0)]; rfl)
        have dN : decide ((1 : Int) < (N : Int) + 1) = false := decide_eq_false (by omega)
        have dN2 : decide (0 < N) = false := decide_eq_false (by omega)
        have dN3 : ¬ 0 < N := by omega
        clear hN0
        go_enter Tryd.func15, Tryd.ntmps15
        go_wp2_with fail
        rw [← hw1]
        refine (HC.out w1).mono ?_
        rintro y w2 ⟨rfl, rfl⟩
        have c4 := Hrow.out.cell 4
        simp only [List.getElem?_cons_zero, List.getElem?_cons_succ] at c4
        rw [hq] at c4
        have c4 : (w2.alloc (.cells #[] 9)).cell? ⟨w.heap.size, 4, none⟩ = some (.slice A N c) := cell_keep ((Below.refl _ _).alloc (Nat.le_refl _) _) c4
        clear hw1 HC
        go_wp2_with (first
          | (refine wpList_catT rfl (.tmp 27) (.tmp 29) 29 rfl Tryd.underlying29 Df.infoText w2.heap.size w2 _ [] ls _ A c rfl (by rw [← HN.out]; rfl) (OwT.lit w2 w2.heap.size 9 [] _ rfl (Nat.le_refl _) (by simp [maxLen])) (Lw.Vs.below Hs.out (Hb1.out.alloc Hb1.out.size _)) (by rw [← HN.out]; simp; omega) ((Below.refl _ _).alloc (Nat.le_refl _) _) (by simp) ?_
             intro v4 w4 hown4 hb4 _
             rw [List.nil_append] at hown4
             have Hown4 := hide hown4
             have Hb4 := hide hb4
             clear hown4 hb4)
          | (refine wpList_pushT rfl (.tmp 30) (.tmp 32) rfl w2.heap.size w2 v4 ls x _ rfl rfl rfl Hown4.out (by have := HN.out; omega) Hb4.out Hb4.out.size ?_
             intro v5 w5 hown5 hb5 _ _
             obtain ⟨A5, c5, rfl, hx5⟩ := OwT.vs hown5
             simp only [List.length_append, List.length_singleton, ← HN.out]
             have Hx5 := hide hx5.bound
             have Hb5 := hide hb5
             clear hown5 hb5 hx5))
        have hrow5 : Row w5 q tH [.int .i64 a, .int .i64 an, .int .i64 b, .int .i64 bn, .slice A N c] := Hrow.out.below Hb5.out Hrow.out.lt
        have d1 := hrow5.drew.cell 1
        have d3 := hrow5.drew.cell 3
        simp only [List.getElem?_cons_zero, List.getElem?_cons_succ] at d1 d3
        rw [hq] at d1 d3
        have hm1 := refMany_any 45 (by decide) (ls ++ [x]) A5 c5 _ w5.drew (Lw.Vs.below Hx5.out (Below.refl _ w5).drew) (by rw [List.length_append, List.length_singleton, ← HN.out]; omega)
        have hm2 := refMany_any 43 (by decide) (ls ++ [x]) A5 c5 _ w5.drew (Lw.Vs.below Hx5.out (Below.refl _ w5).drew) (by rw [List.length_append, List.length_singleton, ← HN.out]; omega)
        obtain ⟨m1, hm1e⟩ : ∃ m, m = many 45 (ls ++ [x]) := ⟨_, rfl⟩
        obtain ⟨m2, hm2e⟩ : ∃ m, m = many 43 (ls ++ [x]) := ⟨_, rfl⟩
        rw [← hm1e] at hm1
        rw [← hm2e] at hm2
        rw [← hm1e, ← hm2e] at Hf
        simp only [List.length_append, List.length_singleton, ← HN.out] at hm1 hm2
        have HM1 := hide (show Calls Tryd.prog 14 #[.slice A5 (N + 1) c5, .int .u8 45] w5.drew fun y w'' => y = .returned (.int .i64 (m1 : Int)) ∧ w'' = w5.drew from hm1)
        have HM2 := hide (show Calls Tryd.prog 14 #[.slice A5 (N + 1) c5, .int .u8 43] w5.drew fun y w'' => y = .returned (.int .i64 (m2 : Int)) ∧ w'' = w5.drew from hm2)
        clear hm1 hm2 hm1e hm2e hrow5
        have hb9 : Below w.heap.size w w5.drew := (Hb1.out.trans (Hb5.out.mono Hb1.out.size)).drew
        by_cases k1 : (m1 : Int) ≤ an
        · have f1 : decide ((m1 : Int) ≤ an) = true := decide_eq_true k1
          have HE := hide (show F = decide ((m2 : Int) ≤ bn) from by rw [Bool.eq_iff_iff, decide_eq_true_iff, HFy.out, Hf.out]; exact ⟨fun h => h.2.2.2.2, fun h => ⟨Hcl.out, by decide, fun h => absurd h.2 (by rw [Hla.out]; decide), k1, h⟩⟩)
          refine Rg.wp_region_ord (fun w' => w' = w5.drew) [(0, true), (2, true), (3, true), (1, false), (4, true), (5, true), (6, true), (8, true), (9, true), (7, false), (10, true), (11, true), (12, true)] (by kernel_rfl) (by kernel_rfl) ?_
          simp only [Rg.pick, List.map_cons, List.map_nil, List.getD_cons_zero, List.getD_cons_succ]
          iterate 3 (refine Rg.ord_quiet (v := ?_) rfl (fun w' hS => ?_) rfl ?_; rotate_left; (subst hS; go_simp; with_reducible rfl); simp only [Act.put, List.setIfInBounds_toArray, List.set_cons_succ, List.set_cons_zero])
          refine Rg.ord_loud (by rfl) (fun K hK => ?_)
          go_simp
          refine HM1.out.mono ?_
          rintro y9 w9 ⟨rfl, rfl⟩
          refine hK _ _ (fun _ => rfl) ?_
          clear hK K
          iterate 2 (refine Rg.ord_quiet (v := ?_) rfl (fun w' hS => ?_) rfl ?_; rotate_left; (subst hS; go_simp; with_reducible rfl); simp only [Act.put, List.setIfInBounds_toArray, List.set_cons_succ, List.set_cons_zero])
          iterate 3 (refine Rg.ord_guarded (v := ?_) (by rfl) (fun w' hS => ?_) rfl ?_; rotate_left; (subst hS; go_simp; with_reducible rfl); simp only [Act.put, List.setIfInBounds_toArray, List.set_cons_succ, List.set_cons_zero])
          refine Rg.ord_loud (by rfl) (fun K hK => ?_)
          go_simp
          refine HM2.out.mono ?_
          rintro y9 w9 ⟨rfl, rfl⟩
          refine hK _ _ (fun _ => rfl) ?_
          clear hK K
          iterate 1 (refine Rg.ord_guarded (v := ?_) (by rfl) (fun w' hS => ?_) rfl ?_; rotate_left; (subst hS; go_simp; with_reducible rfl); simp only [Act.put, List.setIfInBounds_toArray, List.set_cons_succ, List.set_cons_zero])
          iterate 2 (refine Rg.ord_quiet (v := ?_) rfl (fun w' hS => ?_) rfl ?_; rotate_left; (subst hS; go_simp; with_reducible rfl); simp only [Act.put, List.setIfInBounds_toArray, List.set_cons_succ, List.set_cons_zero])
          refine Rg.ord_nil ?_
          go_wp2
          go_ret
          exact ⟨by rw [HE.out]; rfl, hb9⟩
        · have f1 : decide ((m1 : Int) ≤ an) = false := decide_eq_false k1
          have HE := hide (HFn.out fun h => k1 (Hf.out.1 h).2.2.2.1)
          refine Rg.wp_region_ord (fun w' => w' = w5.drew) [(0, true), (2, true), (3, true), (1, false), (4, true), (5, true), (6, true), (8, true), (9, true), (7, true), (10, true), (11, true), (12, true)] (by kernel_rfl) (by kernel_rfl) ?_
          simp only [Rg.pick, List.map_cons, List.map_nil, List.getD_cons_zero, List.getD_cons_succ]
          iterate 3 (refine Rg.ord_quiet (v := ?_) rfl (fun w' hS => ?_) rfl ?_; rotate_left; (subst hS; go_simp; with_reducible rfl); simp only [Act.put, List.setIfInBounds_toArray, List.set_cons_succ, List.set_cons_zero])
          refine Rg.ord_loud (by rfl) (fun K hK => ?_)
          go_simp
          refine HM1.out.mono ?_
          rintro y9 w9 ⟨rfl, rfl⟩
          refine hK _ _ (fun _ => rfl) ?_
          clear hK K
          iterate 2 (refine Rg.ord_quiet (v := ?_) rfl (fun w' hS => ?_) rfl ?_; rotate_left; (subst hS; go_simp; with_reducible rfl); simp only [Act.put, List.setIfInBounds_toArray, List.set_cons_succ, List.set_cons_zero])
          iterate 3 (refine Rg.ord_passed (by rfl) rfl ?_; simp only [Act.put, List.setIfInBounds_toArray, List.set_cons_succ, List.set_cons_zero])
          iterate 1 (refine Rg.ord_passed (by rfl) rfl ?_; simp only [Act.put, List.setIfInBounds_toArray, List.set_cons_succ, List.set_cons_zero])
          iterate 1 (refine Rg.ord_passed (by rfl) rfl ?_; simp only [Act.put, List.setIfInBounds_toArray, List.set_cons_succ, List.set_cons_zero])
          iterate 2 (refine Rg.ord_quiet (v := ?_) rfl (fun w' hS => ?_) rfl ?_; rotate_left; (subst hS; go_simp; with_reducible rfl); simp only [Act.put, List.setIfInBounds_toArray, List.set_cons_succ, List.set_cons_zero])
          refine Rg.ord_nil ?_
          go_wp2
          go_ret
          exact ⟨by rw [HE.out]; rfl, hb9⟩
      · obtain ⟨j, hj⟩ : ∃ j, N = j + 1 := ⟨N - 1, by omega⟩
        have hjl : j < ls.length := by rw [← HN.out]; omega
        have hgl : ls.getLast?.getD [] = ls.getD j [] := by rw [List.getLast?_eq_getElem?, ← HN.out, hj, List.getD_eq_getElem?_getD]; rfl
        have hyne := Hne.out _ (Hu.gmem0 hjl)
        have Hgd0 := hide (show (ls ++ [x]).getD j [] = ls.getD j [] from by rw [List.getD_eq_getElem?_getD, List.getD_eq_getElem?_getD, List.getElem?_append_left hjl])
        obtain ⟨y, hy⟩ : ∃ y, y = ls.getD j [] := ⟨_, rfl⟩
        have Hgd := hide (Hgd0.out.trans hy.symm)
        rw [← hy] at hyne hgl
        have hszy := Hu.size_of y
        have hy1 : 1 ≤ y.length := List.length_pos_iff.2 hyne
        have hgy := Hu.get_at y 0 (by rw [hszy]; exact hy1)
        rw [sg_get] at hgy
        obtain ⟨t, hte⟩ : ∃ t, t = sg y := ⟨_, rfl⟩
        rw [← hte] at hgy
        have Hla := hide (show sg (ls.getLast?.getD []) = t from by rw [hgl, hte])
        have dN : decide ((1 : Int) < (N : Int) + 1) = true := decide_eq_true (by omega)
        have hw2 : IntKind.i64.wrap ((N : Int) + 1 - 2) = (j : Int) := by rw [IntWalk.i64_in _ (by omega)]; omega
        have hjN : j < N + 1 := by omega
        have dN2 : decide (0 < N) = true := decide_eq_true (by omega)
        have dN3 : 0 < N := by omega
        clear hN0
        have Hj := hide hj
        clear hgl hyne hy hte hjl hj
        by_cases ht : t = 43
        · subst ht
          have HE := hide (HFn.out fun h => (Hf.out.1 h).2.2.1 ⟨rfl, Hla.out⟩)
          go_enter Tryd.func15, Tryd.ntmps15
          go_wp2_with fail
          rw [← hw1]
          refine (HC.out w1).mono ?_
          rintro y w2 ⟨rfl, rfl⟩
          have c4 := Hrow.out.cell 4
          simp only [List.getElem?_cons_zero, List.getElem?_cons_succ] at c4
          rw [hq] at c4
          have c4 : (w2.alloc (.cells #[] 9)).cell? ⟨w.heap.size, 4, none⟩ = some (.slice A N c) := cell_keep ((Below.refl _ _).alloc (Nat.le_refl _) _) c4
          clear hw1 HC
          go_wp2_with (first
            | (refine wpList_catT rfl (.tmp 27) (.tmp 29) 29 rfl Tryd.underlying29 Df.infoText w2.heap.size w2 _ [] ls _ A c rfl (by rw [← HN.out]; rfl) (OwT.lit w2 w2.heap.size 9 [] _ rfl (Nat.le_refl _) (by simp [maxLen])) (Lw.Vs.below Hs.out (Hb1.out.alloc Hb1.out.size _)) (by rw [← HN.out]; simp; omega) ((Below.refl _ _).alloc (Nat.le_refl _) _) (by simp) ?_
               intro v4 w4 hown4 hb4 _
               rw [List.nil_append] at hown4
               have Hown4 := hide hown4
               have Hb4 := hide hb4
               clear hown4 hb4)
            | (refine wpList_pushT rfl (.tmp 30) (.tmp 32) rfl w2.heap.size w2 v4 ls x _ rfl rfl rfl Hown4.out (by have := HN.out; omega) Hb4.out Hb4.out.size ?_
               intro v5 w5 hown5 hb5 _ _
               obtain ⟨A5, c5, rfl, hx5⟩ := OwT.vs hown5
               obtain ⟨bl, ol, hA5, cy⟩ := hx5.bound.text (Below.refl _ w5) (k := j) (by rw [List.length_append, List.length_singleton, ← HN.out]; omega)
               subst hA5
               rw [Hgd.out] at cy
               simp only [List.length_append, List.length_singleton, ← HN.out]
               have Hx5 := hide hx5.bound
               have Hb5 := hide hb5
               clear hown5 hb5 hx5))
          go_ret
          exact ⟨by rw [HE.out]; rfl, Hb1.out.trans (Hb5.out.mono Hb1.out.size)⟩
        · have i43 : ((t.toNat : Int) == 43) = false := u8_ne ht
          go_enter Tryd.func15, Tryd.ntmps15
          go_wp2_with fail
          rw [← hw1]
          refine (HC.out w1).mono ?_
          rintro y w2 ⟨rfl, rfl⟩
          have c4 := Hrow.out.cell 4
          simp only [List.getElem?_cons_zero, List.getElem?_cons_succ] at c4
          rw [hq] at c4
          have c4 : (w2.alloc (.cells #[] 9)).cell? ⟨w.heap.size, 4, none⟩ = some (.slice A N c) := cell_keep ((Below.refl _ _).alloc (Nat.le_refl _) _) c4
          clear hw1 HC
          go_wp2_with (first
            | (refine wpList_catT rfl (.tmp 27) (.tmp 29) 29 rfl Tryd.underlying29 Df.infoText w2.heap.size w2 _ [] ls _ A c rfl (by rw [← HN.out]; rfl) (OwT.lit w2 w2.heap.size 9 [] _ rfl (Nat.le_refl _) (by simp [maxLen])) (Lw.Vs.below Hs.out (Hb1.out.alloc Hb1.out.size _)) (by rw [← HN.out]; simp; omega) ((Below.refl _ _).alloc (Nat.le_refl _) _) (by simp) ?_
               intro v4 w4 hown4 hb4 _
               rw [List.nil_append] at hown4
               have Hown4 := hide hown4
               have Hb4 := hide hb4
               clear hown4 hb4)
            | (refine wpList_pushT rfl (.tmp 30) (.tmp 32) rfl w2.heap.size w2 v4 ls x _ rfl rfl rfl Hown4.out (by have := HN.out; omega) Hb4.out Hb4.out.size ?_
               intro v5 w5 hown5 hb5 _ _
               obtain ⟨A5, c5, rfl, hx5⟩ := OwT.vs hown5
               obtain ⟨bl, ol, hA5, cy⟩ := hx5.bound.text (Below.refl _ w5) (k := j) (by rw [List.length_append, List.length_singleton, ← HN.out]; omega)
               subst hA5
               rw [Hgd.out] at cy
               simp only [List.length_append, List.length_singleton, ← HN.out]
               have Hx5 := hide hx5.bound
               have Hb5 := hide hb5
               clear hown5 hb5 hx5))
          have hrow5 : Row w5 q tH [.int .i64 a, .int .i64 an, .int .i64 b, .int .i64 bn, .slice A N c] := Hrow.out.below Hb5.out Hrow.out.lt
          have d1 := hrow5.drew.cell 1
          have d3 := hrow5.drew.cell 3
          simp only [List.getElem?_cons_zero, List.getElem?_cons_succ] at d1 d3
          rw [hq] at d1 d3
          have hm1 := refMany_any 45 (by decide) (ls ++ [x]) (some ⟨bl, ol, none⟩) c5 _ w5.drew (Lw.Vs.below Hx5.out (Below.refl _ w5).drew) (by rw [List.length_append, List.length_singleton, ← HN.out]; omega)
          have hm2 := refMany_any 43 (by decide) (ls ++ [x]) (some ⟨bl, ol, none⟩) c5 _ w5.drew (Lw.Vs.below Hx5.out (Below.refl _ w5).drew) (by rw [List.length_append, List.length_singleton, ← HN.out]; omega)
          obtain ⟨m1, hm1e⟩ : ∃ m, m = many 45 (ls ++ [x]) := ⟨_, rfl⟩
          obtain ⟨m2, hm2e⟩ : ∃ m, m = many 43 (ls ++ [x]) := ⟨_, rfl⟩
          rw [← hm1e] at hm1
          rw [← hm2e] at hm2
          rw [← hm1e, ← hm2e] at Hf
          simp only [List.length_append, List.length_singleton, ← HN.out] at hm1 hm2
          have HM1 := hide (show Calls Tryd.prog 14 #[.slice (some ⟨bl, ol, none⟩) (N + 1) c5, .int .u8 45] w5.drew fun y w'' => y = .returned (.int .i64 (m1 : Int)) ∧ w'' = w5.drew from hm1)
          have HM2 := hide (show Calls Tryd.prog 14 #[.slice (some ⟨bl, ol, none⟩) (N + 1) c5, .int .u8 43] w5.drew fun y w'' => y = .returned (.int .i64 (m2 : Int)) ∧ w'' = w5.drew from hm2)
          clear hm1 hm2 hm1e hm2e hrow5
          have hb9 : Below w.heap.size w w5.drew := (Hb1.out.trans (Hb5.out.mono Hb1.out.size)).drew
          by_cases k1 : (m1 : Int) ≤ an
          · have f1 : decide ((m1 : Int) ≤ an) = true := decide_eq_true k1
            have HE := hide (show F = decide ((m2 : Int) ≤ bn) from by rw [Bool.eq_iff_iff, decide_eq_true_iff, HFy.out, Hf.out]; exact ⟨fun h => h.2.2.2.2, fun h => ⟨Hcl.out, by decide, fun h => ht (Hla.out.symm.trans h.2), k1, h⟩⟩)
            refine Rg.wp_region_ord (fun w' => w' = w5.drew) [(0, true), (2, true), (3, true), (1, false), (4, true), (5, true), (6, true), (8, true), (9, true), (7, false), (10, true), (11, true), (12, true)] (by kernel_rfl) (by kernel_rfl) ?_
            simp only [Rg.pick, List.map_cons, List.map_nil, List.getD_cons_zero, List.getD_cons_succ]
            iterate 3 (refine Rg.ord_quiet (v := ?_) rfl (fun w' hS => ?_) rfl ?_; rotate_left; (subst hS; go_simp; with_reducible rfl); simp only [Act.put, List.setIfInBounds_toArray, List.set_cons_succ, List.set_cons_zero])
            refine Rg.ord_loud (by rfl) (fun K hK => ?_)
            go_simp
            refine HM1.out.mono ?_
            rintro y9 w9 ⟨rfl, rfl⟩
            refine hK _ _ (fun _ => rfl) ?_
            clear hK K
            iterate 2 (refine Rg.ord_quiet (v := ?_) rfl (fun w' hS => ?_) rfl ?_; rotate_left; (subst hS; go_simp; with_reducible rfl); simp only [Act.put, List.setIfInBounds_toArray, List.set_cons_succ, List.set_cons_zero])
            iterate 3 (refine Rg.ord_guarded (v := ?_) (by rfl) (fun w' hS => ?_) rfl ?_; rotate_left; (subst hS; go_simp; with_reducible rfl); simp only [Act.put, List.setIfInBounds_toArray, List.set_cons_succ, List.set_cons_zero])
            refine Rg.ord_loud (by rfl) (fun K hK => ?_)
            go_simp
            refine HM2.out.mono ?_
            rintro y9 w9 ⟨rfl, rfl⟩
            refine hK _ _ (fun _ => rfl) ?_
            clear hK K
            iterate 1 (refine Rg.ord_guarded (v := ?_) (by rfl) (fun w' hS => ?_) rfl ?_; rotate_left; (subst hS; go_simp; with_reducible rfl); simp only [Act.put, List.setIfInBounds_toArray, List.set_cons_succ, List.set_cons_zero])
            iterate 2 (refine Rg.ord_quiet (v := ?_) rfl (fun w' hS => ?_) rfl ?_; rotate_left; (subst hS; go_simp; with_reducible rfl); simp only [Act.put, List.setIfInBounds_toArray, List.set_cons_succ, List.set_cons_zero])
            refine Rg.ord_nil ?_
            go_wp2
            go_ret
            exact ⟨by rw [HE.out]; rfl, hb9⟩
          · have f1 : decide ((m1 : Int) ≤ an) = false := decide_eq_false k1
            have HE := hide (HFn.out fun h => k1 (Hf.out.1 h).2.2.2.1)
            refine Rg.wp_region_ord (fun w' => w' = w5.drew) [(0, true), (2, true), (3, true), (1, false), (4, true), (5, true), (6, true), (8, true), (9, true), (7, true), (10, true), (11, true), (12, true)] (by kernel_rfl) (by kernel_rfl) ?_
            simp only [Rg.pick, List.map_cons, List.map_nil, List.getD_cons_zero, List.getD_cons_succ]
            iterate 3 (refine Rg.ord_quiet (v := ?_) rfl (fun w' hS => ?_) rfl ?_; rotate_left; (subst hS; go_simp; with_reducible rfl); simp only [Act.put, List.setIfInBounds_toArray, List.set_cons_succ, List.set_cons_zero])
            refine Rg.ord_loud (by rfl) (fun K hK => ?_)
            go_simp
            refine HM1.out.mono ?_
            rintro y9 w9 ⟨rfl, rfl⟩
            refine hK _ _ (fun _ => rfl) ?_
            clear hK K
            iterate 2 (refine Rg.ord_quiet (v := ?_) rfl (fun w' hS => ?_) rfl ?_; rotate_left; (subst hS; go_simp; with_reducible rfl); simp only [Act.put, List.setIfInBounds_toArray, List.set_cons_succ, List.set_cons_zero])
            iterate 3 (refine Rg.ord_passed (by rfl) rfl ?_; simp only [Act.put, List.setIfInBounds_toArray, List.set_cons_succ, List.set_cons_zero])
            iterate 1 (refine Rg.ord_passed (by rfl) rfl ?_; simp only [Act.put, List.setIfInBounds_toArray, List.set_cons_succ, List.set_cons_zero])
            iterate 1 (refine Rg.ord_passed (by rfl) rfl ?_; simp only [Act.put, List.setIfInBounds_toArray, List.set_cons_succ, List.set_cons_zero])
            iterate 2 (refine Rg.ord_quiet (v := ?_) rfl (fun w' hS => ?_) rfl ?_; rotate_left; (subst hS; go_simp; with_reducible rfl); simp only [Act.put, List.setIfInBounds_toArray, List.set_cons_succ, List.set_cons_zero])
            refine Rg.ord_nil ?_
            go_wp2
            go_ret
            exact ⟨by rw [HE.out]; rfl, hb9⟩
    · skip
      go_enter Tryd.func15, Tryd.ntmps15
      go_wp2_with fail
      rw [← hw1]
      refine (HC.out w1).mono ?_
      rintro y w2 ⟨rfl, rfl⟩
      have c4 := Hrow.out.cell 4
      simp only [List.getElem?_cons_zero, List.getElem?_cons_succ] at c4
      rw [hq] at c4
      have c4 : (w2.alloc (.cells #[] 9)).cell? ⟨w.heap.size, 4, none⟩ = some (.slice A N c) := cell_keep ((Below.refl _ _).alloc (Nat.le_refl _) _) c4
      clear hw1 HC
      go_wp2_with (first
        | (refine wpList_catT rfl (.tmp 27) (.tmp 29) 29 rfl Tryd.underlying29 Df.infoText w2.heap.size w2 _ [] ls _ A c rfl (by rw [← HN.out]; rfl) (OwT.lit w2 w2.heap.size 9 [] _ rfl (Nat.le_refl _) (by simp [maxLen])) (Lw.Vs.below Hs.out (Hb1.out.alloc Hb1.out.size _)) (by rw [← HN.out]; simp; omega) ((Below.refl _ _).alloc (Nat.le_refl _) _) (by simp) ?_
           intro v4 w4 hown4 hb4 _
           rw [List.nil_append] at hown4
           have Hown4 := hide hown4
           have Hb4 := hide hb4
           clear hown4 hb4)
        | (refine wpList_pushT rfl (.tmp 30) (.tmp 32) rfl w2.heap.size w2 v4 ls x _ rfl rfl rfl Hown4.out (by have := HN.out; omega) Hb4.out Hb4.out.size ?_
           intro v5 w5 hown5 hb5 _ _
           obtain ⟨A5, c5, rfl, hx5⟩ := OwT.vs hown5
           simp only [List.length_append, List.length_singleton, ← HN.out]
           have Hx5 := hide hx5.bound
           have Hb5 := hide hb5
           clear hown5 hb5 hx5))
      all_goals
        have hrow5 : Row w5 q tH [.int .i64 a, .int .i64 an, .int .i64 b, .int .i64 bn, .slice A N c] := Hrow.out.below Hb5.out Hrow.out.lt
        have d1 := hrow5.drew.cell 1
        have d3 := hrow5.drew.cell 3
        simp only [List.getElem?_cons_zero, List.getElem?_cons_succ] at d1 d3
        rw [hq] at d1 d3
        have hm1 := refMany_any 45 (by decide) (ls ++ [x]) A5 c5 _ w5.drew (Lw.Vs.below Hx5.out (Below.refl _ w5).drew) (by rw [List.length_append, List.length_singleton, ← HN.out]; omega)
        have hm2 := refMany_any 43 (by decide) (ls ++ [x]) A5 c5 _ w5.drew (Lw.Vs.below Hx5.out (Below.refl _ w5).drew) (by rw [List.length_append, List.length_singleton, ← HN.out]; omega)
        obtain ⟨m1, hm1e⟩ : ∃ m, m = many 45 (ls ++ [x]) := ⟨_, rfl⟩
        obtain ⟨m2, hm2e⟩ : ∃ m, m = many 43 (ls ++ [x]) := ⟨_, rfl⟩
        rw [← hm1e] at hm1
        rw [← hm2e] at hm2
        rw [← hm1e, ← hm2e] at Hf
        simp only [List.length_append, List.length_singleton, ← HN.out] at hm1 hm2
        have HM1 := hide (show Calls Tryd.prog 14 #[.slice A5 (N + 1) c5, .int .u8 45] w5.drew fun y w'' => y = .returned (.int .i64 (m1 : Int)) ∧ w'' = w5.drew from hm1)
        have HM2 := hide (show Calls Tryd.prog 14 #[.slice A5 (N + 1) c5, .int .u8 43] w5.drew fun y w'' => y = .returned (.int .i64 (m2 : Int)) ∧ w'' = w5.drew from hm2)
        clear hm1 hm2 hm1e hm2e hrow5
        have hb9 : Below w.heap.size w w5.drew := (Hb1.out.trans (Hb5.out.mono Hb1.out.size)).drew
        by_cases k1 : (m1 : Int) ≤ an
        · have f1 : decide ((m1 : Int) ≤ an) = true := decide_eq_true k1
          have HE := hide (show F = decide ((m2 : Int) ≤ bn) from by rw [Bool.eq_iff_iff, decide_eq_true_iff, HFy.out, Hf.out]; exact ⟨fun h => h.2.2.2.2, fun h => ⟨Hcl.out, by decide, fun h => absurd h.1 (by decide), k1, h⟩⟩)
          refine Rg.wp_region_ord (fun w' => w' = w5.drew) [(0, true), (2, true), (3, true), (1, false), (4, true), (5, true), (6, true), (8, true), (9, true), (7, false), (10, true), (11, true), (12, true)] (by kernel_rfl) (by kernel_rfl) ?_
          simp only [Rg.pick, List.map_cons, List.map_nil, List.getD_cons_zero, List.getD_cons_succ]
          iterate 3 (refine Rg.ord_quiet (v := ?_) rfl (fun w' hS => ?_) rfl ?_; rotate_left; (subst hS; go_simp; with_reducible rfl); simp only [Act.put, List.setIfInBounds_toArray, List.set_cons_succ, List.set_cons_zero])
          refine Rg.ord_loud (by rfl) (fun K hK => ?_)
          go_simp
          refine HM1.out.mono ?_
          rintro y9 w9 ⟨rfl, rfl⟩
          refine hK _ _ (fun _ => rfl) ?_
          clear hK K
          iterate 2 (refine Rg.ord_quiet (v := ?_) rfl (fun w' hS => ?_) rfl ?_; rotate_left; (subst hS; go_simp; with_reducible rfl); simp only [Act.put, List.setIfInBounds_toArray, List.set_cons_succ, List.set_cons_zero])
          iterate 3 (refine Rg.ord_guarded (v := ?_) (by rfl) (fun w' hS => ?_) rfl ?_; rotate_left; (subst hS; go_simp; with_reducible rfl); simp only [Act.put, List.setIfInBounds_toArray, List.set_cons_succ, List.set_cons_zero])
          refine Rg.ord_loud (by rfl) (fun K hK => ?_)
          go_simp
          refine HM2.out.mono ?_
          rintro y9 w9 ⟨rfl, rfl⟩
          refine hK _ _ (fun _ => rfl) ?_
          clear hK K
          iterate 1 (refine Rg.ord_guarded (v := ?_) (by rfl) (fun w' hS => ?_) rfl ?_; rotate_left; (subst hS; go_simp; with_reducible rfl); simp only [Act.put, List.setIfInBounds_toArray, List.set_cons_succ, List.set_cons_zero])
          iterate 2 (refine Rg.ord_quiet (v := ?_) rfl (fun w' hS => ?_) rfl ?_; rotate_left; (subst hS; go_simp; with_reducible rfl); simp only [Act.put, List.setIfInBounds_toArray, List.set_cons_succ, List.set_cons_zero])
          refine Rg.ord_nil ?_
          go_wp2
          go_ret
          exact ⟨by rw [HE.out]; rfl, hb9⟩
        · have f1 : decide ((m1 : Int) ≤ an) = false := decide_eq_false k1
          have HE := hide (HFn.out fun h => k1 (Hf.out.1 h).2.2.2.1)
          refine Rg.wp_region_ord (fun w' => w' = w5.drew) [(0, true), (2, true), (3, true), (1, false), (4, true), (5, true), (6, true), (8, true), (9, true), (7, true), (10, true), (11, true), (12, true)] (by kernel_rfl) (by kernel_rfl) ?_
          simp only [Rg.pick, List.map_cons, List.map_nil, List.getD_cons_zero, List.getD_cons_succ]
          iterate 3 (refine Rg.ord_quiet (v := ?_) rfl (fun w' hS => ?_) rfl ?_; rotate_left; (subst hS; go_simp; with_reducible rfl); simp only [Act.put, List.setIfInBounds_toArray, List.set_cons_succ, List.set_cons_zero])
          refine Rg.ord_loud (by rfl) (fun K hK => ?_)
          go_simp
          refine HM1.out.mono ?_
          rintro y9 w9 ⟨rfl, rfl⟩
          refine hK _ _ (fun _ => rfl) ?_
          clear hK K
          iterate 2 (refine Rg.ord_quiet (v := ?_) rfl (fun w' hS => ?_) rfl ?_; rotate_left; (subst hS; go_simp; with_reducible rfl); simp only [Act.put, List.setIfInBounds_toArray, List.set_cons_succ, List.set_cons_zero])
          iterate 3 (refine Rg.ord_passed (by rfl) rfl ?_; simp only [Act.put, List.setIfInBounds_toArray, List.set_cons_succ, List.set_cons_zero])
          iterate 1 (refine Rg.ord_passed (by rfl) rfl ?_; simp only [Act.put, List.setIfInBounds_toArray, List.set_cons_succ, List.set_cons_zero])
          iterate 1 (refine Rg.ord_passed (by rfl) rfl ?_; simp only [Act.put, List.setIfInBounds_toArray, List.set_cons_succ, List.set_cons_zero])
          iterate 2 (refine Rg.ord_quiet (v := ?_) rfl (fun w' hS => ?_) rfl ?_; rotate_left; (subst hS; go_simp; with_reducible rfl); simp only [Act.put, List.setIfInBounds_toArray, List.set_cons_succ, List.set_cons_zero])
          refine Rg.ord_nil ?_
          go_wp2
          go_ret
          exact ⟨by rw [HE.out]; rfl, hb9⟩
  · have h32 : ¬ s = 32 := fun h => hsg (.inl h)
    have h45 : ¬ s = 45 := fun h => hsg (.inr (.inl h))
    have h43 : ¬ s = 43 := fun h => hsg (.inr (.inr h))
    have i32 : ((s.toNat : Int) == 32) = false := u8_ne h32
    have e32 : ((s.toNat : Int) != 32) = true := by rw [bne, i32]; rfl
    have i43 : ((s.toNat : Int) == 43) = false := u8_ne h43
    have e43 : ((s.toNat : Int) != 43) = true := by rw [bne, i43]; rfl
    have i45 : ((s.toNat : Int) == 45) = false := u8_ne h45
    have e45 : ((s.toNat : Int) != 45) = true := by rw [bne, i45]; rfl
    have HF := hide (HFn.out fun h => hsg (Hf.out.1 h).2.1)
    clear hsg
    go_enter Tryd.func15, Tryd.ntmps15
    go_wp2_with fail
    rw [← hw1]
    refine (HC.out w1).mono ?_
    rintro y w2 ⟨rfl, rfl⟩
    clear hw1 HC
    go_wp2
    go_ret
    exact ⟨by rw [HF.out]; rfl, Hb1.out⟩
end Go.Proofs.YtnehgogajghefaaDoor.Un
