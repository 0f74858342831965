/-
  The reference's Parse.
-/
import Derived.Test.YtnehgogajghefaaDoorVN
import Derived.Test.YtnehgogajghefaaDoorVM
import Derived.Test.YtnehgogajghefaaDoorLS
import Derived.Test.YtnehgogajghefaaDoorUK
namespace Go.Proofs.YtnehgogajghefaaDoor.Un
open Go Go.RowKit Kt Lw Li Df Hu

theorem lns_mem_le {s x : List UInt8} (h : x ∈ lns s) : x.length ≤ s.length := by
  have h1 := lns_flat s
  have h2 : ∀ (l : Ls), x ∈ l → x.length ≤ l.flatten.length := by
    intro l
    induction l with
    | nil => intro h; cases h
    | cons y l ih =>
      intro h
      rw [List.flatten_cons, List.length_append]
      rcases List.mem_cons.1 h with rfl | h
      · omega
      · have := ih h; omega
  have := h2 _ h
  rwa [h1] at this
theorem drop_at {X : Ls} {i : Nat} (h : i < X.length) : X.drop i = X.getD i [] :: X.drop (i + 1) := by
  rw [List.drop_eq_getElem_cons h, List.getD_eq_getElem?_getD, List.getElem?_eq_getElem h]; rfl
theorem parse_fin (s : List UInt8) : parse s = fin (run ⟨[], 0, 0⟩ (lns s) 0) := rfl
theorem HS.text {w wp wr : World} {g : Nat} {x0 x1 x2 x3 : Value} {L : Ls} {gv cap : Nat} (h : HS w wp wr g x0 x1 x2 x3 (.slice (some ⟨gv, 0, none⟩) L.length cap) L) {k : Nat} (_hk : k < L.length) (y : List UInt8) :
    HS w wp (wr.setCell ⟨gv, k, none⟩ (.string ⟨y.toArray⟩)) g x0 x1 x2 x3 (.slice (some ⟨gv, 0, none⟩) L.length cap) (L.set k y) := by
  have hl := World.ownsRow.lt h.own gv rfl
  have hne := h.ne gv rfl
  refine ⟨h.row.off (Ne.symm hne) _, ?_, ?_, h.low.setCell (p := ⟨gv, k, none⟩) (by have := h.lt; show w.heap.size ≤ gv; omega) _, h.lt⟩
  · have h1 := (World.ownsRow.stored h.own k (.string ⟨y.toArray⟩)).1
    unfold OwT
    rw [List.length_set, show texts (L.set k y) = (texts L).set k (.string ⟨y.toArray⟩) from by simp [texts, List.map_set]]
    exact h1
  · refine ⟨h.far.os, h.far.tape, h.far.output, by simpa using h.far.size, fun i hi hne' => (Below.heap_setCell wr ⟨gv, k, none⟩ _ i (by show i ≠ gv; omega)).trans (h.far.block i hi hne')⟩
set_option maxRecDepth 100000 in
set_option maxHeartbeats 8000000 in
theorem refParse_any (s : List UInt8) (w : World) (hl : s.length ≤ 1000) :
    Calls Tryd.prog 6 #[.string ⟨s.toArray⟩] w fun y w' => ∃ v, y = .returned (.tuple #[v, .int .i64 ((parse s).2.1 : Int), .int .i64 ((parse s).2.2 : Int)]) ∧ OwH w' w.heap.size v (parse s).1 ∧ Below w.heap.size w w' := by
  have HSp := hide (refSplit_any s w (by omega))
  have HP := hide (parse_fin s)
  obtain ⟨R, hR⟩ : ∃ R, R = run ⟨[], 0, 0⟩ (lns s) 0 := ⟨_, rfl⟩
  rw [← hR] at HP
  have hxl : ∀ x ∈ lns s, x.length ≤ 1000 := fun x hx => Nat.le_trans (lns_mem_le hx) hl
  have hxo : ∀ x ∈ lns s, lns x = [x] := lns_ones s
  have hN := lns_len_le s
  obtain ⟨X, hX⟩ : ∃ X, X = lns s := ⟨_, rfl⟩
  rw [← hX] at HSp hR hxl hxo hN
  have Hxl := hide hxl
  have Hxo := hide hxo
  have HR := hide hR
  obtain ⟨N, hNe⟩ : ∃ N, N = X.length := ⟨_, rfl⟩
  have HN := hide hNe
  have hN1 : N ≤ 1000 := by omega
  clear hX hxl hxo hR hN hNe hl
  go_enter Tryd.func6, Tryd.ntmps6
  go_wp2_with fail
  refine HSp.out.mono ?_
  rintro y w1 ⟨v, rfl, hown, hb1⟩
  obtain ⟨A, c, rfl, hx⟩ := OwT.vs hown
  have Hx := hide hx.bound
  have Hb1 := hide hb1
  rw [← HN.out]
  obtain ⟨B2, hB2⟩ : ∃ B, B = w1.heap.size := ⟨_, rfl⟩
  have HB2 := hide hB2
  clear hown hb1 hx HSp hB2
  go_wp2
  go_loopw [6, 7] (fun ov iv wr => ∃ (i : Nat) (V : List Hk) (v0 : Value), v0 = ov ∧ i ≤ N ∧ iv = .int .i64 i ∧ V.length ≤ i ∧ Hid (R = run ⟨V, 0, 0⟩ (X.drop i) i) ∧ Hid (Nx V (X.drop i)) ∧ Hid (OwH wr B2 v0 V.reverse) ∧ Hid (Below B2 w1 wr)) (fun _ iv _ => N - (intOf iv).toNat)
  case atStart => exact ⟨0, [], _, rfl, Nat.zero_le _, rfl, Nat.le_refl _, HR.out, (fun _ => suffix_nil), OwH.nil _ _, by have := Below.refl w1.heap.size w1; rwa [← HB2.out] at this⟩
  case round =>
    obtain ⟨i, V, v, rfl, hi, rfl, hVi, Hrun, Hnx, Hown, Hb⟩ := hrel
    by_cases hlt : i < N
    · obtain ⟨b, o, rfl, ck⟩ := Hx.out.text (by rw [← HB2.out]; exact Hb.out) (k := i) (by rw [← HN.out]; exact hlt)
      have Hbl := hide (show b < w1.heap.size by obtain ⟨b', o', he, hp, _⟩ := Hx.out.2 (by rw [texts_len, ← HN.out]; omega); cases he; exact hp)
      have hd := drop_at (X := X) (i := i) (by rw [← HN.out]; exact hlt)
      obtain ⟨x, hxe⟩ : ∃ x, x = X.getD i [] := ⟨_, rfl⟩
      rw [← hxe] at hd ck
      have hxm : x ∈ X := by rw [hxe]; exact gmem0 (by rw [← HN.out]; exact hlt)
      rw [hd] at Hrun Hnx
      have Hd := hide hd
      have HH := hide (refHead_any x wr (by have := Hxl.out x hxm; omega))
      rw [rhead_hd] at HH
      clear hxe hxm hd
      cases hh : hd x with
      | none =>
        rw [hh] at HH
        have HF := hide (show parse s = ([], i + 1, 3) by rw [HP.out, Hrun.out]; exact out_no Hnx.out hh i)
        clear hh
        go_wp2_with fail
        refine HH.out.mono ?_
        rintro y w2 ⟨rfl, hb2⟩
        unfold headV zeroH
        go_wp2
        go_ret3
        rw [HF.out]
        exact ⟨_, rfl, OwH.nil _ _, Hb1.out.trans (((Hb.out.mono (by rw [HB2.out]; exact Hb1.out.size)).trans (hb2.mono (Nat.le_trans Hb1.out.size Hb.out.size))).alloc (by have := Hb1.out.size; have := Hb.out.size; have := hb2.size; omega) _)⟩
      | some h =>
        obtain ⟨e0, e1, e2, -⟩ := hd_some hh
        obtain ⟨ha, han, hb, hbn, hls⟩ := h
        simp only at e0 e1 e2
        subst e0
        rw [hh] at HH
        have Hrun1 := hide (show R = run (mid ha han hb hbn [] V) (X.drop (i + 1)) (i + 1) by rw [Hrun.out, out_yes hh _ i, mid_nil])
        have Hsm := hide (show 0 ≤ han ∧ 0 ≤ hbn from ⟨e1.2.1, e2.2.1⟩)
        clear hh e1 e2 Hrun
        go_wp2_with fail
        refine HH.out.mono ?_
        rintro y W0 ⟨rfl, hb2⟩
        unfold headV
        go_wp2
        obtain ⟨g, hge⟩ : ∃ g, g = W0.heap.size := ⟨_, rfl⟩
        rw [← hge]
        obtain ⟨wp, hwp⟩ : ∃ wp, wp = W0.alloc (.cells #[.int .i64 ha, .int .i64 han, .int .i64 hb, .int .i64 hbn, .slice none 0 0] tH) := ⟨_, rfl⟩
        have hs0 : HS W0 wp wp g (.int .i64 ha) (.int .i64 han) (.int .i64 hb) (.int .i64 hbn) (.slice none 0 0) [] := by
          refine ⟨by rw [hwp, hge]; exact Row.fresh W0 tH _, OwT.nil _ _ _, World.grownBy.refl _ _, by rw [hwp]; exact (Below.refl _ W0).alloc (Nat.le_refl _) _, by rw [hge]; exact Nat.le_refl _, by rw [hwp, hge]; simp⟩
        have Hb20 := hide (show Below B2 w1 W0 from Hb.out.trans (hb2.mono (by rw [HB2.out]; exact Hb.out.size)))
        have HO0 := hide (Hown.out.keep hb2)
        have HB0 := hide (show B2 ≤ g by rw [hge, HB2.out]; exact Nat.le_trans Hb20.out.size (Nat.le_refl _))
        have Hs0 := hide hs0
        rw [← hwp]
        have Hge := hide hge
        clear hwp hge hs0 ck hb2 HH
        go_loopw [7] (fun iv wr => ∃ (j : Nat) (ls : Ls) (vl : Value), j ≤ N ∧ i + 1 ≤ j ∧ iv = .int .i64 j ∧ ls.length ≤ j ∧ Hid (R = run (mid ha han hb hbn ls V) (X.drop j) j) ∧ Hid (Nx (⟨ha, han, hb, hbn, ls⟩ :: V) (X.drop j)) ∧ Hid ((∀ y ∈ ls, y ≠ []) ∧ (many 45 ls : Int) ≤ han ∧ (many 43 ls : Int) ≤ hbn) ∧ Hid (HS W0 wp wr g (.int .i64 ha) (.int .i64 han) (.int .i64 hb) (.int .i64 hbn) vl ls)) (fun iv _ => N - (intOf iv).toNat)
        case atStart => exact ⟨i + 1, [], _, by omega, Nat.le_refl _, by go_num, by simp, Hrun1.out, nx_head _ rfl _ _, ⟨(fun y hy => by cases hy), by simpa [many] using Hsm.out.1, by simpa [many] using Hsm.out.2⟩, Hs0⟩
        case round =>
          obtain ⟨j, ls, vl, hj, hij, rfl, hlj, HrunJ, HnxJ, HneJ, HSj⟩ := hrel
          obtain ⟨Al, cl, rfl, hvl⟩ := OwT.vs HSj.out.own
          have Hvl := hide hvl.bound
          have Hlj := hide hlj
          have Hhm := hide HneJ.out.2
          have hm1 := refMany_any 45 (by decide) ls Al cl _ wr.drew hvl (by omega)
          have hm2 := refMany_any 43 (by decide) ls Al cl _ wr.drew hvl (by omega)
          obtain ⟨c0, c1, c2, c3, c4, f4⟩ := HSj.out.drew.cells
          obtain ⟨m1, hm1e⟩ : ∃ m, m = many 45 ls := ⟨_, rfl⟩
          obtain ⟨m2, hm2e⟩ : ∃ m, m = many 43 ls := ⟨_, rfl⟩
          rw [← hm1e] at hm1 Hhm
          rw [← hm2e] at hm2 Hhm
          have Hm1e := hide hm1e
          have Hm2e := hide hm2e
          obtain ⟨M, hMe⟩ : ∃ M, M = ls.length := ⟨_, rfl⟩
          rw [← hMe] at hm1 hm2 c4 hlj
          have HM := hide hMe
          have HC1 := hide (show Calls Tryd.prog 14 #[.slice Al M cl, .int .u8 45] wr.drew fun y w'' => y = .returned (.int .i64 (m1 : Int)) ∧ w'' = wr.drew from hm1)
          have HC2 := hide (show Calls Tryd.prog 14 #[.slice Al M cl, .int .u8 43] wr.drew fun y w'' => y = .returned (.int .i64 (m2 : Int)) ∧ w'' = wr.drew from hm2)
          clear hm1 hm2 hm1e hm2e hMe hvl f4
          go_wp2
          by_cases k1 : (m1 : Int) < han
          · have f1 : decide ((m1 : Int) < han) = true := decide_eq_true k1
            have Hk := hide (show (m1 : Int) < han ∨ (m2 : Int) < hbn from .inl k1)
            clear k1
            refine Rg.wp_region_ord (fun w' => w' = wr.drew) [(0, true), (1, true), (3, true), (4, true), (2, false), (5, true), (6, true), (7, true), (8, true), (9, true), (10, true), (11, true), (12, true), (13, true)] (by kernel_rfl) (by kernel_rfl) ?_
            simp only [Rg.pick, List.map_cons, List.map_nil, List.getD_cons_zero, List.getD_cons_succ]
            iterate 4 (refine Rg.ord_quiet (v := ?_) rfl (fun w' hS => ?_) rfl ?_; rotate_left; (subst hS; go_simp; with_reducible rfl); simp only [Act.put, List.setIfInBounds_toArray, List.set_cons_succ, List.set_cons_zero])
            refine Rg.ord_loud (by rfl) (fun K hK => ?_)
            go_simp
            refine HC1.out.mono ?_
            rintro y9 w9 ⟨rfl, rfl⟩
            refine hK _ _ (fun _ => rfl) ?_
            clear hK K
            iterate 2 (refine Rg.ord_quiet (v := ?_) rfl (fun w' hS => ?_) rfl ?_; rotate_left; (subst hS; go_simp; with_reducible rfl); simp only [Act.put, List.setIfInBounds_toArray, List.set_cons_succ, List.set_cons_zero])
            iterate 6 (refine Rg.ord_passed (by rfl) rfl ?_; simp only [Act.put, List.setIfInBounds_toArray, List.set_cons_succ, List.set_cons_zero])
            iterate 1 (refine Rg.ord_quiet (v := ?_) rfl (fun w' hS => ?_) rfl ?_; rotate_left; (subst hS; go_simp; with_reducible rfl); simp only [Act.put, List.setIfInBounds_toArray, List.set_cons_succ, List.set_cons_zero])
            refine Rg.ord_nil ?_
            have Hs2 := hide HSj.out.drew
            have Hvl2 := hide (Lw.Vs.below Hvl.out (Below.refl _ wr).drew)
            obtain ⟨w2, hw2⟩ : ∃ w2, w2 = wr.drew := ⟨_, rfl⟩
            rw [← hw2] at Hs2 Hvl2 c0 c1 c2 c3 c4 ⊢
            clear hw2 HSj Hvl HC1 HC2 f1
            have HbA := hide (show Below B2 w1 w2 from Hb20.out.trans (Hs2.out.low.mono (by rw [← Hge.out]; exact HB0.out)))
            have Hk2 := hide (show (many 45 ls : Int) < han ∨ (many 43 ls : Int) < hbn by rw [← Hm1e.out, ← Hm2e.out]; exact Hk.out)
            by_cases hjN : j = N
            · have HF := hide (show parse s = ([], N + 1, 2) by rw [HP.out, HrunJ.out, hjN, List.drop_eq_nil_of_le (by rw [HN.out]; exact Nat.le_refl _)]; exact in_short Hk2.out V N)
              have e1 : ((j : Int) == (N : Int)) = true := by rw [beq_iff_eq, hjN]
              have HjN := hide hjN
              clear hjN c0 c1 c2 c3 c4
              go_wp2
              go_ret3
              rw [HF.out]
              exact ⟨_, by rw [HjN.out]; rfl, OwH.nil _ _, Hb1.out.trans ((HbA.out).mono (by rw [HB2.out]; exact Hb1.out.size))⟩
            · have e1 : ((j : Int) == (N : Int)) = false := by rw [beq_eq_false_iff_ne]; omega
              have hjl : j < N := by omega
              obtain ⟨b2, o2, he, ck2⟩ := Hx.out.text (by rw [← HB2.out]; exact HbA.out) (k := j) (by rw [← HN.out]; exact hjl)
              cases he
              have hd2 := drop_at (X := X) (i := j) (by rw [← HN.out]; exact hjl)
              obtain ⟨x2, hxe2⟩ : ∃ x2, x2 = X.getD j [] := ⟨_, rfl⟩
              rw [← hxe2] at hd2 ck2
              have hxm2 : x2 ∈ X := by rw [hxe2]; exact gmem0 (by rw [← HN.out]; exact hjl)
              rw [hd2] at HrunJ HnxJ
              have hx2o := Hxo.out x2 hxm2
              have hx2l := Hxl.out x2 hxm2
              have Hx2o := hide hx2o
              have hx2n := one_ne hx2o
              clear hxe2 hxm2 hd2 hjN
              by_cases hfit : fitB han hbn ls x2
              · have Hfit := hide hfit
                have hft := fits_any ha han hb hbn ls x2 Al cl _ w2.drew (Lw.Vs.below Hvl2.out (Below.refl _ w2).drew) (by have := Hlj.out; omega) (by omega) hx2n HneJ.out.1 true (iff_of_true rfl hfit)
                rw [← HM.out] at hft
                have HFt := hide hft
                clear hft hfit hx2n hx2o
                go_wp2
                refine Rc.wp_region_ord (fun w' => w'.cell? ⟨g, 0, none⟩ = some (.int .i64 ha) ∧ w'.cell? ⟨g, 1, none⟩ = some (.int .i64 han) ∧ w'.cell? ⟨g, 2, none⟩ = some (.int .i64 hb) ∧ w'.cell? ⟨g, 3, none⟩ = some (.int .i64 hbn) ∧ w'.cell? ⟨g, 4, none⟩ = some (.slice Al M cl) ∧ w'.cell? ⟨b, o + j, none⟩ = some (.string ⟨x2.toArray⟩)) [(0, true), (1, true), (2, true), (3, true), (4, true), (5, false), (6, true)] (by kernel_rfl) (by kernel_rfl) ?_
                simp only [Rg.pick, List.map_cons, List.map_nil, List.getD_cons_zero, List.getD_cons_succ]
                iterate 5 (refine Rc.ord_quiet (v := ?_) rfl (fun w' hS => ?_) ⟨c0, c1, c2, c3, c4, ck2⟩ ?_; rotate_left; (obtain ⟨s0, s1, s2, s3, s4, s5⟩ := hS; go_simp; with_reducible rfl); simp only [Act.put, List.setIfInBounds_toArray, List.set_cons_succ, List.set_cons_zero])
                refine Rc.ord_loud rfl (fun K hK => ?_)
                go_simp
                refine HFt.out.mono ?_
                rintro y9 w9 ⟨rfl, hb9⟩
                refine hK _ _ (fun _ => ⟨cell_keep hb9 c0, cell_keep hb9 c1, cell_keep hb9 c2, cell_keep hb9 c3, cell_keep hb9 c4, cell_keep hb9 ck2⟩) ?_
                clear hK K
                iterate 1 (refine Rc.ord_quiet (v := ?_) rfl (fun w' hS => ?_) ⟨cell_keep hb9 c0, cell_keep hb9 c1, cell_keep hb9 c2, cell_keep hb9 c3, cell_keep hb9 c4, cell_keep hb9 ck2⟩ ?_; rotate_left; (obtain ⟨s0, s1, s2, s3, s4, s5⟩ := hS; go_simp; with_reducible rfl); simp only [Act.put, List.setIfInBounds_toArray, List.set_cons_succ, List.set_cons_zero])
                refine Rc.ord_nil ?_
                have Hs9 := hide (Hs2.out.drew.more hb9)
                have HbB := hide (HbA.out.drew.trans (hb9.mono (by rw [HB2.out]; exact HbA.out.drew.size)))
                have ck9 := cell_keep hb9 ck2
                clear hb9 c0 c1 c2 c3 c4 ck2 HFt
                go_wp2
                have d4 := Hs9.out.drew.cells.2.2.2.2.1
                have ck9d : w9.drew.cell? ⟨b, o + j, none⟩ = some (.string ⟨x2.toArray⟩) := ck9
                obtain ⟨w10, hw10⟩ : ∃ w10, w10 = w9.drew := ⟨_, rfl⟩
                have Hs10 := hide Hs9.out.drew
                rw [← hw10] at d4 ck9d Hs10
                rw [← HM.out] at d4 Hs10
                have HbC := hide (show Below B2 w1 w10 by rw [hw10]; exact HbB.out.drew)
                refine Rc.wp_region_ord (fun w' => w'.cell? ⟨g, 4, none⟩ = some (.slice Al M cl) ∧ w'.cell? ⟨b, o + j, none⟩ = some (.string ⟨x2.toArray⟩)) [(0, true), (1, true), (2, true), (3, true), (4, true), (5, true), (6, false), (7, false), (8, true), (9, false)] (by kernel_rfl) (by kernel_rfl) ?_
                simp only [Rg.pick, List.map_cons, List.map_nil, List.getD_cons_zero, List.getD_cons_succ]
                rw [← hw10]
                clear hw10 ck9 Hs9 HbB
                iterate 6 (refine Rc.ord_quiet (v := ?_) rfl (fun w' hS => ?_) ⟨d4, ck9d⟩ ?_; rotate_left; (obtain ⟨s0, s1⟩ := hS; go_simp; with_reducible rfl); simp only [Act.put, List.setIfInBounds_toArray, List.set_cons_succ, List.set_cons_zero])
                refine Rc.ord_loud rfl (fun K hK => ?_)
                go_simp
                have hba : Below w10.heap.size w10 (w10.alloc (.cells #[.string ⟨x2.toArray⟩] tS)) := (Below.refl _ w10).alloc (Nat.le_refl _) _
                refine hK _ _ (fun _ => ⟨cell_keep hba d4, cell_keep hba ck9d⟩) ?_
                clear hK K
                refine Rc.ord_loud rfl (fun K hK => ?_)
                refine wp_pushT (.tmp 63) (.tmp 68) rfl wp.heap.size w10 (.slice Al M cl) ls x2 _ rfl rfl rfl Hs10.out.own (by have := Hlj.out; omega) (Below.refl _ _) Hs10.out.far.size ?_
                intro v7 w7 hv7 hb7 hg7 _
                have hr7 := Hs10.out.grown hg7
                have k4 := hr7.cell 4
                have f4 := hr7.free 4
                have ck7 : w7.cell? ⟨b, o + j, none⟩ = some (.string ⟨x2.toArray⟩) := (Below.cell hb7 (p := ⟨b, o + j, none⟩) (by have := Hs10.out.lt.2; have := HB0.out; have := HB2.out; have := Hbl.out; show b < _; omega)).trans ck9d
                simp only [List.getElem?_cons_zero, List.getElem?_cons_succ] at k4
                refine hK _ _ (fun _ => ⟨k4, ck7⟩) ?_
                clear hK K
                iterate 1 (refine Rc.ord_quiet (v := ?_) rfl (fun w' hS => ?_) ⟨k4, ck7⟩ ?_; rotate_left; (obtain ⟨s0, s1⟩ := hS; go_simp; with_reducible rfl); simp only [Act.put, List.setIfInBounds_toArray, List.set_cons_succ, List.set_cons_zero])
                obtain ⟨gv, cap, rfl, hgv, hgl⟩ := World.ownsRow.form hv7 (by simp)
                have hst := Hs10.out.step hv7 hg7
                have hM1 : (ls ++ [x2]).length = M + 1 := by rw [List.length_append, HM.out]; rfl
                have Hs8 := hide hst
                rw [hM1] at Hs8 ⊢
                refine Rc.ord_loud rfl (fun K hK => ?_)
                go_simp
                refine hK _ _ (fun hf => absurd (show Rc.sink _ 9 = true from by kernel_rfl) (by rw [hf]; decide)) ?_
                clear hK K
                have HbD := hide (show Below B2 w1 (w7.setCell ⟨g, 4, none⟩ (.slice (some ⟨gv, 0, none⟩) (M + 1) cap)) from Hb20.out.trans (Hs8.out.low.mono (by rw [← Hge.out]; exact HB0.out)))
                obtain ⟨w8, hw8⟩ : ∃ w8, w8 = w7.setCell ⟨g, 4, none⟩ (.slice (some ⟨gv, 0, none⟩) (M + 1) cap) := ⟨_, rfl⟩
                rw [← hw8] at Hs8 HbD ⊢
                have HM1 := hide hM1
                clear hw8 hst hv7 hb7 hg7 hr7 k4 f4 ck7 d4 ck9d hba Hs10 hM1 HbC
                refine Rc.ord_nil ?_
                have HrunK := hide (show R = run (mid ha han hb hbn (ls ++ [x2]) V) (X.drop (j + 1)) (j + 1) by rw [HrunJ.out]; exact in_yes Hk2.out Hfit.out V _ j)
                by_cases hj1 : j + 1 < N
                · obtain ⟨b3, o3, he, ck3⟩ := Hx.out.text (by rw [← HB2.out]; exact HbD.out) (k := j + 1) (by rw [← HN.out]; exact hj1)
                  cases he
                  have hd3 := drop_at (X := X) (i := j + 1) (by rw [← HN.out]; exact hj1)
                  obtain ⟨x3, hxe3⟩ : ∃ x3, x3 = X.getD (j + 1) [] := ⟨_, rfl⟩
                  rw [← hxe3] at hd3 ck3
                  have HMk := hide (mark_any w8.drew)
                  obtain ⟨u, hu⟩ : ∃ u, u = markB := ⟨_, rfl⟩
                  rw [← hu] at HMk
                  have Hd3 := hide hd3
                  have HuM := hide hu
                  have e2 : decide ((j : Int) + 1 < (N : Int)) = true := decide_eq_true (by omega)
                  have e3 : ((j : Int) + 1).toNat = j + 1 := by omega
                  have e4 : (0 : Int) ≤ (j : Int) + 1 := by omega
                  have e5 : (j : Int) + 1 < (N : Int) := by omega
                  rw [show o + (j + 1) = o + (j + 1) from rfl] at ck3
                  by_cases hxm : x3 = u
                  · subst hxm
                    obtain ⟨y, hy, hyn, hy10, hysg⟩ := fit_parts Hfit.out Hx2o.out
                    have HyE := hide hy
                    have Hy3 := hide (And.intro hyn (And.intro hy10 hysg))
                    obtain ⟨ny, hny⟩ : ∃ ny, ny = y.length := ⟨_, rfl⟩
                    have hsz2 : (ByteArray.mk x2.toArray).size = ny + 1 := by rw [hy, hny]; simp [Hu.size_of]
                    have hcut : (ByteArray.mk x2.toArray).extract 0 ny = ⟨y.toArray⟩ := by rw [hy, hny]; have := cut_mid (y ++ [10]) 0 y.length; simpa using this
                    have q4 := Hs8.out.drew.cells.2.2.2.2.1
                    have q5 : w8.drew.cell? ⟨gv, M, none⟩ = some (.string ⟨x2.toArray⟩) := by rw [← HM1.out] at Hs8; have h5 := World.ownsRow.cellAt (cap := cap) Hs8.out.own M (by rw [HM1.out]; omega); exact h5.trans (by rw [HM.out]; exact texts_last ls x2)
                    have f5 : w8.drew.frozen? ⟨gv, M, none⟩ = false := by rw [← HM1.out] at Hs8; exact World.ownsRow.frozenAt (cap := cap) Hs8.out.own M
                    have hMM : (M : Int) < (M : Int) + 1 := by omega
                    have hM2 : M ≤ 1000 := by have := Hlj.out; have := HM.out; omega
                    have hny1 : ny ≤ 1000 := by have := congrArg List.length hy; rw [List.length_append] at this; simp at this; omega
                    have hwn : IntKind.i64.wrap (ny : Int) = (ny : Int) := IntWalk.i64_in _ (by omega)
                    have hn0 : (0 : Int) ≤ (ny : Int) := by omega
                    have hnn : (ny : Int) ≤ (ny : Int) + 1 := by omega
                    clear hxe3 hd3 hu hy hyn hy10 hysg hny
                    go_wp2
                    refine Rg.wp_region_ord (fun w' => w' = w8.drew) [(0, true), (1, true), (2, true), (3, true), (4, true), (5, true), (6, true), (7, true), (8, true), (9, false), (10, true), (11, true)] (by kernel_rfl) (by kernel_rfl) ?_
                    simp only [Rg.pick, List.map_cons, List.map_nil, List.getD_cons_zero, List.getD_cons_succ]
                    iterate 5 (refine Rg.ord_quiet (v := ?_) rfl (fun w' hS => ?_) rfl ?_; rotate_left; (subst hS; go_simp; with_reducible rfl); simp only [Act.put, List.setIfInBounds_toArray, List.set_cons_succ, List.set_cons_zero])
                    iterate 4 (refine Rg.ord_guarded (v := ?_) (by rfl) (fun w' hS => ?_) rfl ?_; rotate_left; (subst hS; go_simp; with_reducible rfl); simp only [Act.put, List.setIfInBounds_toArray, List.set_cons_succ, List.set_cons_zero])
                    refine Rg.ord_loud (by rfl) (fun K hK => ?_)
                    go_simp
                    refine HMk.out.mono ?_
                    rintro y9 w9 ⟨rfl, rfl⟩
                    refine hK _ _ (fun _ => rfl) ?_
                    clear hK K
                    iterate 1 (refine Rg.ord_guarded (v := ?_) (by rfl) (fun w' hS => ?_) rfl ?_; rotate_left; (subst hS; go_simp; with_reducible rfl); simp only [Act.put, List.setIfInBounds_toArray, List.set_cons_succ, List.set_cons_zero])
                    iterate 1 (refine Rg.ord_quiet (v := ?_) rfl (fun w' hS => ?_) rfl ?_; rotate_left; (subst hS; go_simp; with_reducible rfl); simp only [Act.put, List.setIfInBounds_toArray, List.set_cons_succ, List.set_cons_zero])
                    refine Rg.ord_nil ?_
                    go_wp2
                    refine Rc.wp_region_ord (fun w' => w'.cell? ⟨g, 4, none⟩ = some (.slice (some ⟨gv, 0, none⟩) (M + 1) cap) ∧ w'.cell? ⟨gv, M, none⟩ = some (.string ⟨x2.toArray⟩)) [(0, true), (1, true), (2, true), (3, true), (4, true), (5, true), (6, true), (7, true), (8, true), (9, true), (10, true), (11, true), (12, true), (13, true), (14, true), (15, true), (16, true), (17, false)] (by kernel_rfl) (by kernel_rfl) ?_
                    simp only [Rg.pick, List.map_cons, List.map_nil, List.getD_cons_zero, List.getD_cons_succ]
                    iterate 17 (refine Rc.ord_quiet (v := ?_) rfl (fun w' hS => ?_) ⟨q4, q5⟩ ?_; rotate_left; (obtain ⟨s0, s1⟩ := hS; go_simp; with_reducible rfl); simp only [Act.put, List.setIfInBounds_toArray, List.set_cons_succ, List.set_cons_zero])
                    refine Rc.ord_loud rfl (fun K hK => ?_)
                    go_simp
                    refine hK _ _ (fun hf => absurd (show Rc.sink _ 17 = true from by kernel_rfl) (by rw [hf]; decide)) ?_
                    clear hK K
                    refine Rc.ord_nil ?_
                    have hsT : HS W0 wp (w8.setCell ⟨gv, M, none⟩ (.string ⟨y.toArray⟩)).drew.drew g (.int .i64 ha) (.int .i64 han) (.int .i64 hb) (.int .i64 hbn) (.slice (some ⟨gv, 0, none⟩) (M + 1) cap) (ls ++ [y]) := by
                      rw [← HM1.out] at Hs8 ⊢
                      have h7 := (HS.text Hs8.out (k := M) (by rw [HM1.out]; omega) y).drew.drew
                      rwa [show (ls ++ [x2]).set M y = ls ++ [y] from by rw [HM.out]; simp] at h7
                    have HsT := hide hsT
                    clear hsT
                    obtain ⟨w11, hw11⟩ : ∃ w11, w11 = (w8.setCell ⟨gv, M, none⟩ (.string ⟨y.toArray⟩)).drew.drew := ⟨_, rfl⟩
                    rw [← hw11] at HsT ⊢
                    clear hw11 q4 q5 f5 Hs8
                    go_wp2
                    refine ⟨⟨j + 1 + 1, ls ++ [y], _, by omega, by omega, by go_num, by simp; have := Hlj.out; omega, hide (show R = run (mid ha han hb hbn (ls ++ [y]) V) (X.drop (j + 1 + 1)) (j + 1 + 1) by rw [HrunK.out, Hd3.out, HyE.out, HuM.out]; exact in_mark ha han hb hbn ls y Hy3.out.1 V _ _), hide (nx_mark ha han hb hbn ls Hy3.out.2.1 V _), ⟨fun z hz => ?_, ?_, ?_⟩, HsT⟩, by simp [intOf]; omega⟩
                    · rcases List.mem_append.1 hz with hz | hz
                      · exact HneJ.out.1 z hz
                      · rw [List.mem_singleton.1 hz]; exact Hy3.out.1
                    · have h8 := Hfit.out.2.2.2.1; rw [many_append] at h8 ⊢; rw [many_one 45 _ _ Hy3.out.2.2]; exact h8
                    · have h8 := Hfit.out.2.2.2.2; rw [many_append] at h8 ⊢; rw [many_one 43 _ _ Hy3.out.2.2]; exact h8
                  · have q1 : (x3 == u) = false := by rw [beq_eq_false_iff_ne]; exact hxm
                    have q2 : (x3 != u) = true := by rw [bne_iff_ne]; exact hxm
                    have HxM := hide hxm
                    clear hxe3 hd3 hu
                    go_wp2
                    refine Rg.wp_region_ord (fun w' => w' = w8.drew) [(0, true), (1, true), (2, true), (3, true), (4, true), (5, true), (6, true), (7, true), (8, true), (9, false), (10, true), (11, true)] (by kernel_rfl) (by kernel_rfl) ?_
                    simp only [Rg.pick, List.map_cons, List.map_nil, List.getD_cons_zero, List.getD_cons_succ]
                    iterate 5 (refine Rg.ord_quiet (v := ?_) rfl (fun w' hS => ?_) rfl ?_; rotate_left; (subst hS; go_simp; with_reducible rfl); simp only [Act.put, List.setIfInBounds_toArray, List.set_cons_succ, List.set_cons_zero])
                    iterate 4 (refine Rg.ord_guarded (v := ?_) (by rfl) (fun w' hS => ?_) rfl ?_; rotate_left; (subst hS; go_simp; with_reducible rfl); simp only [Act.put, List.setIfInBounds_toArray, List.set_cons_succ, List.set_cons_zero])
                    refine Rg.ord_loud (by rfl) (fun K hK => ?_)
                    go_simp
                    refine HMk.out.mono ?_
                    rintro y9 w9 ⟨rfl, rfl⟩
                    refine hK _ _ (fun _ => rfl) ?_
                    clear hK K
                    iterate 1 (refine Rg.ord_guarded (v := ?_) (by rfl) (fun w' hS => ?_) rfl ?_; rotate_left; (subst hS; go_simp; with_reducible rfl); simp only [Act.put, List.setIfInBounds_toArray, List.set_cons_succ, List.set_cons_zero])
                    iterate 1 (refine Rg.ord_quiet (v := ?_) rfl (fun w' hS => ?_) rfl ?_; rotate_left; (subst hS; go_simp; with_reducible rfl); simp only [Act.put, List.setIfInBounds_toArray, List.set_cons_succ, List.set_cons_zero])
                    refine Rg.ord_nil ?_
                    go_wp2
                    refine ⟨⟨j + 1, ls ++ [x2], _, by omega, by omega, by go_num, by simp; have := Hlj.out; omega, HrunK, nx_other (by rw [Hd3.out]; simp; rw [← HuM.out]; exact HxM.out), ⟨fun y hy => ?_, Hfit.out.2.2.2.1, Hfit.out.2.2.2.2⟩, hide (Hs8.out.drew)⟩, by simp [intOf]; omega⟩
                    rcases List.mem_append.1 hy with hy | hy
                    · exact HneJ.out.1 y hy
                    · rw [List.mem_singleton.1 hy]; exact one_ne Hx2o.out
                · have e2 : decide ((j : Int) + 1 < (N : Int)) = false := decide_eq_false (by omega)
                  go_wp2
                  refine Rg.wp_region_ord (fun w' => w' = w8.drew) [(0, true), (1, true), (2, true), (3, true), (4, true), (5, true), (6, true), (7, true), (8, true), (9, true), (10, true), (11, true)] (by kernel_rfl) (by kernel_rfl) ?_
                  simp only [Rg.pick, List.map_cons, List.map_nil, List.getD_cons_zero, List.getD_cons_succ]
                  iterate 5 (refine Rg.ord_quiet (v := ?_) rfl (fun w' hS => ?_) rfl ?_; rotate_left; (subst hS; go_simp; with_reducible rfl); simp only [Act.put, List.setIfInBounds_toArray, List.set_cons_succ, List.set_cons_zero])
                  iterate 6 (refine Rg.ord_passed (by rfl) rfl ?_; simp only [Act.put, List.setIfInBounds_toArray, List.set_cons_succ, List.set_cons_zero])
                  iterate 1 (refine Rg.ord_quiet (v := ?_) rfl (fun w' hS => ?_) rfl ?_; rotate_left; (subst hS; go_simp; with_reducible rfl); simp only [Act.put, List.setIfInBounds_toArray, List.set_cons_succ, List.set_cons_zero])
                  refine Rg.ord_nil ?_
                  go_wp2
                  refine ⟨⟨j + 1, ls ++ [x2], _, by omega, by omega, by go_num, by simp; have := Hlj.out; omega, HrunK, nx_other (by rw [List.drop_eq_nil_of_le (by rw [← HN.out]; omega)]; simp), ⟨fun y hy => ?_, Hfit.out.2.2.2.1, Hfit.out.2.2.2.2⟩, hide (Hs8.out.drew)⟩, by simp [intOf]; omega⟩
                  rcases List.mem_append.1 hy with hy | hy
                  · exact HneJ.out.1 y hy
                  · rw [List.mem_singleton.1 hy]; exact one_ne Hx2o.out
              · have HF := hide (show parse s = ([], j + 1, 3) by rw [HP.out, HrunJ.out]; exact in_no Hk2.out hfit HnxJ.out j)
                have hft := fits_any ha han hb hbn ls x2 Al cl _ w2.drew (Lw.Vs.below Hvl2.out (Below.refl _ w2).drew) (by have := Hlj.out; omega) (by omega) hx2n HneJ.out.1 false (iff_of_false (by decide) hfit)
                rw [← HM.out] at hft
                have HFt := hide hft
                clear hft hfit hx2n hx2o
                go_wp2
                refine Rc.wp_region_ord (fun w' => w'.cell? ⟨g, 0, none⟩ = some (.int .i64 ha) ∧ w'.cell? ⟨g, 1, none⟩ = some (.int .i64 han) ∧ w'.cell? ⟨g, 2, none⟩ = some (.int .i64 hb) ∧ w'.cell? ⟨g, 3, none⟩ = some (.int .i64 hbn) ∧ w'.cell? ⟨g, 4, none⟩ = some (.slice Al M cl) ∧ w'.cell? ⟨b, o + j, none⟩ = some (.string ⟨x2.toArray⟩)) [(0, true), (1, true), (2, true), (3, true), (4, true), (5, false), (6, true)] (by kernel_rfl) (by kernel_rfl) ?_
                simp only [Rg.pick, List.map_cons, List.map_nil, List.getD_cons_zero, List.getD_cons_succ]
                iterate 5 (refine Rc.ord_quiet (v := ?_) rfl (fun w' hS => ?_) ⟨c0, c1, c2, c3, c4, ck2⟩ ?_; rotate_left; (obtain ⟨s0, s1, s2, s3, s4, s5⟩ := hS; go_simp; with_reducible rfl); simp only [Act.put, List.setIfInBounds_toArray, List.set_cons_succ, List.set_cons_zero])
                refine Rc.ord_loud rfl (fun K hK => ?_)
                go_simp
                refine HFt.out.mono ?_
                rintro y9 w9 ⟨rfl, hb9⟩
                refine hK _ _ (fun _ => ⟨cell_keep hb9 c0, cell_keep hb9 c1, cell_keep hb9 c2, cell_keep hb9 c3, cell_keep hb9 c4, cell_keep hb9 ck2⟩) ?_
                clear hK K
                iterate 1 (refine Rc.ord_quiet (v := ?_) rfl (fun w' hS => ?_) ⟨cell_keep hb9 c0, cell_keep hb9 c1, cell_keep hb9 c2, cell_keep hb9 c3, cell_keep hb9 c4, cell_keep hb9 ck2⟩ ?_; rotate_left; (obtain ⟨s0, s1, s2, s3, s4, s5⟩ := hS; go_simp; with_reducible rfl); simp only [Act.put, List.setIfInBounds_toArray, List.set_cons_succ, List.set_cons_zero])
                refine Rc.ord_nil ?_
                have Hs9 := hide (Hs2.out.drew.more hb9)
                have HbB := hide (HbA.out.drew.trans (hb9.mono (by rw [HB2.out]; exact HbA.out.drew.size)))
                have ck9 := cell_keep hb9 ck2
                clear hb9 c0 c1 c2 c3 c4 ck2 HFt
                go_wp2
                go_ret3
                rw [HF.out]
                exact ⟨_, rfl, OwH.nil _ _, Hb1.out.trans ((HbB.out).mono (by rw [HB2.out]; exact Hb1.out.size))⟩
          · have f1 : decide ((m1 : Int) < han) = false := decide_eq_false k1
            by_cases k2 : (m2 : Int) < hbn
            · have f2 : decide ((m2 : Int) < hbn) = true := decide_eq_true k2
              have Hk := hide (show (m1 : Int) < han ∨ (m2 : Int) < hbn from .inr k2)
              clear k1 k2
              refine Rg.wp_region_ord (fun w' => w' = wr.drew) [(0, true), (1, true), (3, true), (4, true), (2, false), (5, true), (6, true), (7, true), (8, true), (10, true), (11, true), (9, false), (12, true), (13, true)] (by kernel_rfl) (by kernel_rfl) ?_
              simp only [Rg.pick, List.map_cons, List.map_nil, List.getD_cons_zero, List.getD_cons_succ]
              iterate 4 (refine Rg.ord_quiet (v := ?_) rfl (fun w' hS => ?_) rfl ?_; rotate_left; (subst hS; go_simp; with_reducible rfl); simp only [Act.put, List.setIfInBounds_toArray, List.set_cons_succ, List.set_cons_zero])
              refine Rg.ord_loud (by rfl) (fun K hK => ?_)
              go_simp
              refine HC1.out.mono ?_
              rintro y9 w9 ⟨rfl, rfl⟩
              refine hK _ _ (fun _ => rfl) ?_
              clear hK K
              iterate 2 (refine Rg.ord_quiet (v := ?_) rfl (fun w' hS => ?_) rfl ?_; rotate_left; (subst hS; go_simp; with_reducible rfl); simp only [Act.put, List.setIfInBounds_toArray, List.set_cons_succ, List.set_cons_zero])
              iterate 4 (refine Rg.ord_guarded (v := ?_) (by rfl) (fun w' hS => ?_) rfl ?_; rotate_left; (subst hS; go_simp; with_reducible rfl); simp only [Act.put, List.setIfInBounds_toArray, List.set_cons_succ, List.set_cons_zero])
              refine Rg.ord_loud (by rfl) (fun K hK => ?_)
              go_simp
              refine HC2.out.mono ?_
              rintro y9 w9 ⟨rfl, rfl⟩
              refine hK _ _ (fun _ => rfl) ?_
              clear hK K
              iterate 1 (refine Rg.ord_guarded (v := ?_) (by rfl) (fun w' hS => ?_) rfl ?_; rotate_left; (subst hS; go_simp; with_reducible rfl); simp only [Act.put, List.setIfInBounds_toArray, List.set_cons_succ, List.set_cons_zero])
              iterate 1 (refine Rg.ord_quiet (v := ?_) rfl (fun w' hS => ?_) rfl ?_; rotate_left; (subst hS; go_simp; with_reducible rfl); simp only [Act.put, List.setIfInBounds_toArray, List.set_cons_succ, List.set_cons_zero])
              refine Rg.ord_nil ?_
              have Hs2 := hide HSj.out.drew
              have Hvl2 := hide (Lw.Vs.below Hvl.out (Below.refl _ wr).drew)
              obtain ⟨w2, hw2⟩ : ∃ w2, w2 = wr.drew := ⟨_, rfl⟩
              rw [← hw2] at Hs2 Hvl2 c0 c1 c2 c3 c4 ⊢
              clear hw2 HSj Hvl HC1 HC2 f1
              have HbA := hide (show Below B2 w1 w2 from Hb20.out.trans (Hs2.out.low.mono (by rw [← Hge.out]; exact HB0.out)))
              have Hk2 := hide (show (many 45 ls : Int) < han ∨ (many 43 ls : Int) < hbn by rw [← Hm1e.out, ← Hm2e.out]; exact Hk.out)
              by_cases hjN : j = N
              · have HF := hide (show parse s = ([], N + 1, 2) by rw [HP.out, HrunJ.out, hjN, List.drop_eq_nil_of_le (by rw [HN.out]; exact Nat.le_refl _)]; exact in_short Hk2.out V N)
                have e1 : ((j : Int) == (N : Int)) = true := by rw [beq_iff_eq, hjN]
                have HjN := hide hjN
                clear hjN c0 c1 c2 c3 c4
                go_wp2
                go_ret3
                rw [HF.out]
                exact ⟨_, by rw [HjN.out]; rfl, OwH.nil _ _, Hb1.out.trans ((HbA.out).mono (by rw [HB2.out]; exact Hb1.out.size))⟩
              · have e1 : ((j : Int) == (N : Int)) = false := by rw [beq_eq_false_iff_ne]; omega
                have hjl : j < N := by omega
                obtain ⟨b2, o2, he, ck2⟩ := Hx.out.text (by rw [← HB2.out]; exact HbA.out) (k := j) (by rw [← HN.out]; exact hjl)
                cases he
                have hd2 := drop_at (X := X) (i := j) (by rw [← HN.out]; exact hjl)
                obtain ⟨x2, hxe2⟩ : ∃ x2, x2 = X.getD j [] := ⟨_, rfl⟩
                rw [← hxe2] at hd2 ck2
                have hxm2 : x2 ∈ X := by rw [hxe2]; exact gmem0 (by rw [← HN.out]; exact hjl)
                rw [hd2] at HrunJ HnxJ
                have hx2o := Hxo.out x2 hxm2
                have hx2l := Hxl.out x2 hxm2
                have Hx2o := hide hx2o
                have hx2n := one_ne hx2o
                clear hxe2 hxm2 hd2 hjN
                by_cases hfit : fitB han hbn ls x2
                · have Hfit := hide hfit
                  have hft := fits_any ha han hb hbn ls x2 Al cl _ w2.drew (Lw.Vs.below Hvl2.out (Below.refl _ w2).drew) (by have := Hlj.out; omega) (by omega) hx2n HneJ.out.1 true (iff_of_true rfl hfit)
                  rw [← HM.out] at hft
                  have HFt := hide hft
                  clear hft hfit hx2n hx2o
                  go_wp2
                  refine Rc.wp_region_ord (fun w' => w'.cell? ⟨g, 0, none⟩ = some (.int .i64 ha) ∧ w'.cell? ⟨g, 1, none⟩ = some (.int .i64 han) ∧ w'.cell? ⟨g, 2, none⟩ = some (.int .i64 hb) ∧ w'.cell? ⟨g, 3, none⟩ = some (.int .i64 hbn) ∧ w'.cell? ⟨g, 4, none⟩ = some (.slice Al M cl) ∧ w'.cell? ⟨b, o + j, none⟩ = some (.string ⟨x2.toArray⟩)) [(0, true), (1, true), (2, true), (3, true), (4, true), (5, false), (6, true)] (by kernel_rfl) (by kernel_rfl) ?_
                  simp only [Rg.pick, List.map_cons, List.map_nil, List.getD_cons_zero, List.getD_cons_succ]
                  iterate 5 (refine Rc.ord_quiet (v := ?_) rfl (fun w' hS => ?_) ⟨c0, c1, c2, c3, c4, ck2⟩ ?_; rotate_left; (obtain ⟨s0, s1, s2, s3, s4, s5⟩ := hS; go_simp; with_reducible rfl); simp only [Act.put, List.setIfInBounds_toArray, List.set_cons_succ, List.set_cons_zero])
                  refine Rc.ord_loud rfl (fun K hK => ?_)
                  go_simp
                  refine HFt.out.mono ?_
                  rintro y9 w9 ⟨rfl, hb9⟩
                  refine hK _ _ (fun _ => ⟨cell_keep hb9 c0, cell_keep hb9 c1, cell_keep hb9 c2, cell_keep hb9 c3, cell_keep hb9 c4, cell_keep hb9 ck2⟩) ?_
                  clear hK K
                  iterate 1 (refine Rc.ord_quiet (v := ?_) rfl (fun w' hS => ?_) ⟨cell_keep hb9 c0, cell_keep hb9 c1, cell_keep hb9 c2, cell_keep hb9 c3, cell_keep hb9 c4, cell_keep hb9 ck2⟩ ?_; rotate_left; (obtain ⟨s0, s1, s2, s3, s4, s5⟩ := hS; go_simp; with_reducible rfl); simp only [Act.put, List.setIfInBounds_toArray, List.set_cons_succ, List.set_cons_zero])
                  refine Rc.ord_nil ?_
                  have Hs9 := hide (Hs2.out.drew.more hb9)
                  have HbB := hide (HbA.out.drew.trans (hb9.mono (by rw [HB2.out]; exact HbA.out.drew.size)))
                  have ck9 := cell_keep hb9 ck2
                  clear hb9 c0 c1 c2 c3 c4 ck2 HFt
                  go_wp2
                  have d4 := Hs9.out.drew.cells.2.2.2.2.1
                  have ck9d : w9.drew.cell? ⟨b, o + j, none⟩ = some (.string ⟨x2.toArray⟩) := ck9
                  obtain ⟨w10, hw10⟩ : ∃ w10, w10 = w9.drew := ⟨_, rfl⟩
                  have Hs10 := hide Hs9.out.drew
                  rw [← hw10] at d4 ck9d Hs10
                  rw [← HM.out] at d4 Hs10
                  have HbC := hide (show Below B2 w1 w10 by rw [hw10]; exact HbB.out.drew)
                  refine Rc.wp_region_ord (fun w' => w'.cell? ⟨g, 4, none⟩ = some (.slice Al M cl) ∧ w'.cell? ⟨b, o + j, none⟩ = some (.string ⟨x2.toArray⟩)) [(0, true), (1, true), (2, true), (3, true), (4, true), (5, true), (6, false), (7, false), (8, true), (9, false)] (by kernel_rfl) (by kernel_rfl) ?_
                  simp only [Rg.pick, List.map_cons, List.map_nil, List.getD_cons_zero, List.getD_cons_succ]
                  rw [← hw10]
                  clear hw10 ck9 Hs9 HbB
                  iterate 6 (refine Rc.ord_quiet (v := ?_) rfl (fun w' hS => ?_) ⟨d4, ck9d⟩ ?_; rotate_left; (obtain ⟨s0, s1⟩ := hS; go_simp; with_reducible rfl); simp only [Act.put, List.setIfInBounds_toArray, List.set_cons_succ, List.set_cons_zero])
                  refine Rc.ord_loud rfl (fun K hK => ?_)
                  go_simp
                  have hba : Below w10.heap.size w10 (w10.alloc (.cells #[.string ⟨x2.toArray⟩] tS)) := (Below.refl _ w10).alloc (Nat.le_refl _) _
                  refine hK _ _ (fun _ => ⟨cell_keep hba d4, cell_keep hba ck9d⟩) ?_
                  clear hK K
                  refine Rc.ord_loud rfl (fun K hK => ?_)
                  refine wp_pushT (.tmp 63) (.tmp 68) rfl wp.heap.size w10 (.slice Al M cl) ls x2 _ rfl rfl rfl Hs10.out.own (by have := Hlj.out; omega) (Below.refl _ _) Hs10.out.far.size ?_
                  intro v7 w7 hv7 hb7 hg7 _
                  have hr7 := Hs10.out.grown hg7
                  have k4 := hr7.cell 4
                  have f4 := hr7.free 4
                  have ck7 : w7.cell? ⟨b, o + j, none⟩ = some (.string ⟨x2.toArray⟩) := (Below.cell hb7 (p := ⟨b, o + j, none⟩) (by have := Hs10.out.lt.2; have := HB0.out; have := HB2.out; have := Hbl.out; show b < _; omega)).trans ck9d
                  simp only [List.getElem?_cons_zero, List.getElem?_cons_succ] at k4
                  refine hK _ _ (fun _ => ⟨k4, ck7⟩) ?_
                  clear hK K
                  iterate 1 (refine Rc.ord_quiet (v := ?_) rfl (fun w' hS => ?_) ⟨k4, ck7⟩ ?_; rotate_left; (obtain ⟨s0, s1⟩ := hS; go_simp; with_reducible rfl); simp only [Act.put, List.setIfInBounds_toArray, List.set_cons_succ, List.set_cons_zero])
                  obtain ⟨gv, cap, rfl, hgv, hgl⟩ := World.ownsRow.form hv7 (by simp)
                  have hst := Hs10.out.step hv7 hg7
                  have hM1 : (ls ++ [x2]).length = M + 1 := by rw [List.length_append, HM.out]; rfl
                  have Hs8 := hide hst
                  rw [hM1] at Hs8 ⊢
                  refine Rc.ord_loud rfl (fun K hK => ?_)
                  go_simp
                  refine hK _ _ (fun hf => absurd (show Rc.sink _ 9 = true from by kernel_rfl) (by rw [hf]; decide)) ?_
                  clear hK K
                  have HbD := hide (show Below B2 w1 (w7.setCell ⟨g, 4, none⟩ (.slice (some ⟨gv, 0, none⟩) (M + 1) cap)) from Hb20.out.trans (Hs8.out.low.mono (by rw [← Hge.out]; exact HB0.out)))
                  obtain ⟨w8, hw8⟩ : ∃ w8, w8 = w7.setCell ⟨g, 4, none⟩ (.slice (some ⟨gv, 0, none⟩) (M + 1) cap) := ⟨_, rfl⟩
                  rw [← hw8] at Hs8 HbD ⊢
                  have HM1 := hide hM1
                  clear hw8 hst hv7 hb7 hg7 hr7 k4 f4 ck7 d4 ck9d hba Hs10 hM1 HbC
                  refine Rc.ord_nil ?_
                  have HrunK := hide (show R = run (mid ha han hb hbn (ls ++ [x2]) V) (X.drop (j + 1)) (j + 1) by rw [HrunJ.out]; exact in_yes Hk2.out Hfit.out V _ j)
                  by_cases hj1 : j + 1 < N
                  · obtain ⟨b3, o3, he, ck3⟩ := Hx.out.text (by rw [← HB2.out]; exact HbD.out) (k := j + 1) (by rw [← HN.out]; exact hj1)
                    cases he
                    have hd3 := drop_at (X := X) (i := j + 1) (by rw [← HN.out]; exact hj1)
                    obtain ⟨x3, hxe3⟩ : ∃ x3, x3 = X.getD (j + 1) [] := ⟨_, rfl⟩
                    rw [← hxe3] at hd3 ck3
                    have HMk := hide (mark_any w8.drew)
                    obtain ⟨u, hu⟩ : ∃ u, u = markB := ⟨_, rfl⟩
                    rw [← hu] at HMk
                    have Hd3 := hide hd3
                    have HuM := hide hu
                    have e2 : decide ((j : Int) + 1 < (N : Int)) = true := decide_eq_true (by omega)
                    have e3 : ((j : Int) + 1).toNat = j + 1 := by omega
                    have e4 : (0 : Int) ≤ (j : Int) + 1 := by omega
                    have e5 : (j : Int) + 1 < (N : Int) := by omega
                    rw [show o + (j + 1) = o + (j + 1) from rfl] at ck3
                    by_cases hxm : x3 = u
                    · subst hxm
                      obtain ⟨y, hy, hyn, hy10, hysg⟩ := fit_parts Hfit.out Hx2o.out
                      have HyE := hide hy
                      have Hy3 := hide (And.intro hyn (And.intro hy10 hysg))
                      obtain ⟨ny, hny⟩ : ∃ ny, ny = y.length := ⟨_, rfl⟩
                      have hsz2 : (ByteArray.mk x2.toArray).size = ny + 1 := by rw [hy, hny]; simp [Hu.size_of]
                      have hcut : (ByteArray.mk x2.toArray).extract 0 ny = ⟨y.toArray⟩ := by rw [hy, hny]; have := cut_mid (y ++ [10]) 0 y.length; simpa using this
                      have q4 := Hs8.out.drew.cells.2.2.2.2.1
                      have q5 : w8.drew.cell? ⟨gv, M, none⟩ = some (.string ⟨x2.toArray⟩) := by rw [← HM1.out] at Hs8; have h5 := World.ownsRow.cellAt (cap := cap) Hs8.out.own M (by rw [HM1.out]; omega); exact h5.trans (by rw [HM.out]; exact texts_last ls x2)
                      have f5 : w8.drew.frozen? ⟨gv, M, none⟩ = false := by rw [← HM1.out] at Hs8; exact World.ownsRow.frozenAt (cap := cap) Hs8.out.own M
                      have hMM : (M : Int) < (M : Int) + 1 := by omega
                      have hM2 : M ≤ 1000 := by have := Hlj.out; have := HM.out; omega
                      have hny1 : ny ≤ 1000 := by have := congrArg List.length hy; rw [List.length_append] at this; simp at this; omega
                      have hwn : IntKind.i64.wrap (ny : Int) = (ny : Int) := IntWalk.i64_in _ (by omega)
                      have hn0 : (0 : Int) ≤ (ny : Int) := by omega
                      have hnn : (ny : Int) ≤ (ny : Int) + 1 := by omega
                      clear hxe3 hd3 hu hy hyn hy10 hysg hny
                      go_wp2
                      refine Rg.wp_region_ord (fun w' => w' = w8.drew) [(0, true), (1, true), (2, true), (3, true), (4, true), (5, true), (6, true), (7, true), (8, true), (9, false), (10, true), (11, true)] (by kernel_rfl) (by kernel_rfl) ?_
                      simp only [Rg.pick, List.map_cons, List.map_nil, List.getD_cons_zero, List.getD_cons_succ]
                      iterate 5 (refine Rg.ord_quiet (v := ?_) rfl (fun w' hS => ?_) rfl ?_; rotate_left; (subst hS; go_simp; with_reducible rfl); simp only [Act.put, List.setIfInBounds_toArray, List.set_cons_succ, List.set_cons_zero])
                      iterate 4 (refine Rg.ord_guarded (v := ?_) (by rfl) (fun w' hS => ?_) rfl ?_; rotate_left; (subst hS; go_simp; with_reducible rfl); simp only [Act.put, List.setIfInBounds_toArray, List.set_cons_succ, List.set_cons_zero])
                      refine Rg.ord_loud (by rfl) (fun K hK => ?_)
                      go_simp
                      refine HMk.out.mono ?_
                      rintro y9 w9 ⟨rfl, rfl⟩
                      refine hK _ _ (fun _ => rfl) ?_
                      clear hK K
                      iterate 1 (refine Rg.ord_guarded (v := ?_) (by rfl) (fun w' hS => ?_) rfl ?_; rotate_left; (subst hS; go_simp; with_reducible rfl); simp only [Act.put, List.setIfInBounds_toArray, List.set_cons_succ, List.set_cons_zero])
                      iterate 1 (refine Rg.ord_quiet (v := ?_) rfl (fun w' hS => ?_) rfl ?_; rotate_left; (subst hS; go_simp; with_reducible rfl); simp only [Act.put, List.setIfInBounds_toArray, List.set_cons_succ, List.set_cons_zero])
                      refine Rg.ord_nil ?_
                      go_wp2
                      refine Rc.wp_region_ord (fun w' => w'.cell? ⟨g, 4, none⟩ = some (.slice (some ⟨gv, 0, none⟩) (M + 1) cap) ∧ w'.cell? ⟨gv, M, none⟩ = some (.string ⟨x2.toArray⟩)) [(0, true), (1, true), (2, true), (3, true), (4, true), (5, true), (6, true), (7, true), (8, true), (9, true), (10, true), (11, true), (12, true), (13, true), (14, true), (15, true), (16, true), (17, false)] (by kernel_rfl) (by kernel_rfl) ?_
                      simp only [Rg.pick, List.map_cons, List.map_nil, List.getD_cons_zero, List.getD_cons_succ]
                      iterate 17 (refine Rc.ord_quiet (v := ?_) rfl (fun w' hS => ?_) ⟨q4, q5⟩ ?_; rotate_left; (obtain ⟨s0, s1⟩ := hS; go_simp; with_reducible rfl); simp only [Act.put, List.setIfInBounds_toArray, List.set_cons_succ, List.set_cons_zero])
                      refine Rc.ord_loud rfl (fun K hK => ?_)
                      go_simp
                      refine hK _ _ (fun hf => absurd (show Rc.sink _ 17 = true from by kernel_rfl) (by rw [hf]; decide)) ?_
                      clear hK K
                      refine Rc.ord_nil ?_
                      have hsT : HS W0 wp (w8.setCell ⟨gv, M, none⟩ (.string ⟨y.toArray⟩)).drew.drew g (.int .i64 ha) (.int .i64 han) (.int .i64 hb) (.int .i64 hbn) (.slice (some ⟨gv, 0, none⟩) (M + 1) cap) (ls ++ [y]) := by
                        rw [← HM1.out] at Hs8 ⊢
                        have h7 := (HS.text Hs8.out (k := M) (by rw [HM1.out]; omega) y).drew.drew
                        rwa [show (ls ++ [x2]).set M y = ls ++ [y] from by rw [HM.out]; simp] at h7
                      have HsT := hide hsT
                      clear hsT
                      obtain ⟨w11, hw11⟩ : ∃ w11, w11 = (w8.setCell ⟨gv, M, none⟩ (.string ⟨y.toArray⟩)).drew.drew := ⟨_, rfl⟩
                      rw [← hw11] at HsT ⊢
                      clear hw11 q4 q5 f5 Hs8
                      go_wp2
                      refine ⟨⟨j + 1 + 1, ls ++ [y], _, by omega, by omega, by go_num, by simp; have := Hlj.out; omega, hide (show R = run (mid ha han hb hbn (ls ++ [y]) V) (X.drop (j + 1 + 1)) (j + 1 + 1) by rw [HrunK.out, Hd3.out, HyE.out, HuM.out]; exact in_mark ha han hb hbn ls y Hy3.out.1 V _ _), hide (nx_mark ha han hb hbn ls Hy3.out.2.1 V _), ⟨fun z hz => ?_, ?_, ?_⟩, HsT⟩, by simp [intOf]; omega⟩
                      · rcases List.mem_append.1 hz with hz | hz
                        · exact HneJ.out.1 z hz
                        · rw [List.mem_singleton.1 hz]; exact Hy3.out.1
                      · have h8 := Hfit.out.2.2.2.1; rw [many_append] at h8 ⊢; rw [many_one 45 _ _ Hy3.out.2.2]; exact h8
                      · have h8 := Hfit.out.2.2.2.2; rw [many_append] at h8 ⊢; rw [many_one 43 _ _ Hy3.out.2.2]; exact h8
                    · have q1 : (x3 == u) = false := by rw [beq_eq_false_iff_ne]; exact hxm
                      have q2 : (x3 != u) = true := by rw [bne_iff_ne]; exact hxm
                      have HxM := hide hxm
                      clear hxe3 hd3 hu
                      go_wp2
                      refine Rg.wp_region_ord (fun w' => w' = w8.drew) [(0, true), (1, true), (2, true), (3, true), (4, true), (5, true), (6, true), (7, true), (8, true), (9, false), (10, true), (11, true)] (by kernel_rfl) (by kernel_rfl) ?_
                      simp only [Rg.pick, List.map_cons, List.map_nil, List.getD_cons_zero, List.getD_cons_succ]
                      iterate 5 (refine Rg.ord_quiet (v := ?_) rfl (fun w' hS => ?_) rfl ?_; rotate_left; (subst hS; go_simp; with_reducible rfl); simp only [Act.put, List.setIfInBounds_toArray, List.set_cons_succ, List.set_cons_zero])
                      iterate 4 (refine Rg.ord_guarded (v := ?_) (by rfl) (fun w' hS => ?_) rfl ?_; rotate_left; (subst hS; go_simp; with_reducible rfl); simp only [Act.put, List.setIfInBounds_toArray, List.set_cons_succ, List.set_cons_zero])
                      refine Rg.ord_loud (by rfl) (fun K hK => ?_)
                      go_simp
                      refine HMk.out.mono ?_
                      rintro y9 w9 ⟨rfl, rfl⟩
                      refine hK _ _ (fun _ => rfl) ?_
                      clear hK K
                      iterate 1 (refine Rg.ord_guarded (v := ?_) (by rfl) (fun w' hS => ?_) rfl ?_; rotate_left; (subst hS; go_simp; with_reducible rfl); simp only [Act.put, List.setIfInBounds_toArray, List.set_cons_succ, List.set_cons_zero])
                      iterate 1 (refine Rg.ord_quiet (v := ?_) rfl (fun w' hS => ?_) rfl ?_; rotate_left; (subst hS; go_simp; with_reducible rfl); simp only [Act.put, List.setIfInBounds_toArray, List.set_cons_succ, List.set_cons_zero])
                      refine Rg.ord_nil ?_
                      go_wp2
                      refine ⟨⟨j + 1, ls ++ [x2], _, by omega, by omega, by go_num, by simp; have := Hlj.out; omega, HrunK, nx_other (by rw [Hd3.out]; simp; rw [← HuM.out]; exact HxM.out), ⟨fun y hy => ?_, Hfit.out.2.2.2.1, Hfit.out.2.2.2.2⟩, hide (Hs8.out.drew)⟩, by simp [intOf]; omega⟩
                      rcases List.mem_append.1 hy with hy | hy
                      · exact HneJ.out.1 y hy
                      · rw [List.mem_singleton.1 hy]; exact one_ne Hx2o.out
                  · have e2 : decide ((j : Int) + 1 < (N : Int)) = false := decide_eq_false (by omega)
                    go_wp2
                    refine Rg.wp_region_ord (fun w' => w' = w8.drew) [(0, true), (1, true), (2, true), (3, true), (4, true), (5, true), (6, true), (7, true), (8, true), (9, true), (10, true), (11, true)] (by kernel_rfl) (by kernel_rfl) ?_
                    simp only [Rg.pick, List.map_cons, List.map_nil, List.getD_cons_zero, List.getD_cons_succ]
                    iterate 5 (refine Rg.ord_quiet (v := ?_) rfl (fun w' hS => ?_) rfl ?_; rotate_left; (subst hS; go_simp; with_reducible rfl); simp only [Act.put, List.setIfInBounds_toArray, List.set_cons_succ, List.set_cons_zero])
                    iterate 6 (refine Rg.ord_passed (by rfl) rfl ?_; simp only [Act.put, List.setIfInBounds_toArray, List.set_cons_succ, List.set_cons_zero])
                    iterate 1 (refine Rg.ord_quiet (v := ?_) rfl (fun w' hS => ?_) rfl ?_; rotate_left; (subst hS; go_simp; with_reducible rfl); simp only [Act.put, List.setIfInBounds_toArray, List.set_cons_succ, List.set_cons_zero])
                    refine Rg.ord_nil ?_
                    go_wp2
                    refine ⟨⟨j + 1, ls ++ [x2], _, by omega, by omega, by go_num, by simp; have := Hlj.out; omega, HrunK, nx_other (by rw [List.drop_eq_nil_of_le (by rw [← HN.out]; omega)]; simp), ⟨fun y hy => ?_, Hfit.out.2.2.2.1, Hfit.out.2.2.2.2⟩, hide (Hs8.out.drew)⟩, by simp [intOf]; omega⟩
                    rcases List.mem_append.1 hy with hy | hy
                    · exact HneJ.out.1 y hy
                    · rw [List.mem_singleton.1 hy]; exact one_ne Hx2o.out
                · have HF := hide (show parse s = ([], j + 1, 3) by rw [HP.out, HrunJ.out]; exact in_no Hk2.out hfit HnxJ.out j)
                  have hft := fits_any ha han hb hbn ls x2 Al cl _ w2.drew (Lw.Vs.below Hvl2.out (Below.refl _ w2).drew) (by have := Hlj.out; omega) (by omega) hx2n HneJ.out.1 false (iff_of_false (by decide) hfit)
                  rw [← HM.out] at hft
                  have HFt := hide hft
                  clear hft hfit hx2n hx2o
                  go_wp2
                  refine Rc.wp_region_ord (fun w' => w'.cell? ⟨g, 0, none⟩ = some (.int .i64 ha) ∧ w'.cell? ⟨g, 1, none⟩ = some (.int .i64 han) ∧ w'.cell? ⟨g, 2, none⟩ = some (.int .i64 hb) ∧ w'.cell? ⟨g, 3, none⟩ = some (.int .i64 hbn) ∧ w'.cell? ⟨g, 4, none⟩ = some (.slice Al M cl) ∧ w'.cell? ⟨b, o + j, none⟩ = some (.string ⟨x2.toArray⟩)) [(0, true), (1, true), (2, true), (3, true), (4, true), (5, false), (6, true)] (by kernel_rfl) (by kernel_rfl) ?_
                  simp only [Rg.pick, List.map_cons, List.map_nil, List.getD_cons_zero, List.getD_cons_succ]
                  iterate 5 (refine Rc.ord_quiet (v := ?_) rfl (fun w' hS => ?_) ⟨c0, c1, c2, c3, c4, ck2⟩ ?_; rotate_left; (obtain ⟨s0, s1, s2, s3, s4, s5⟩ := hS; go_simp; with_reducible rfl); simp only [Act.put, List.setIfInBounds_toArray, List.set_cons_succ, List.set_cons_zero])
                  refine Rc.ord_loud rfl (fun K hK => ?_)
                  go_simp
                  refine HFt.out.mono ?_
                  rintro y9 w9 ⟨rfl, hb9⟩
                  refine hK _ _ (fun _ => ⟨cell_keep hb9 c0, cell_keep hb9 c1, cell_keep hb9 c2, cell_keep hb9 c3, cell_keep hb9 c4, cell_keep hb9 ck2⟩) ?_
                  clear hK K
                  iterate 1 (refine Rc.ord_quiet (v := ?_) rfl (fun w' hS => ?_) ⟨cell_keep hb9 c0, cell_keep hb9 c1, cell_keep hb9 c2, cell_keep hb9 c3, cell_keep hb9 c4, cell_keep hb9 ck2⟩ ?_; rotate_left; (obtain ⟨s0, s1, s2, s3, s4, s5⟩ := hS; go_simp; with_reducible rfl); simp only [Act.put, List.setIfInBounds_toArray, List.set_cons_succ, List.set_cons_zero])
                  refine Rc.ord_nil ?_
                  have Hs9 := hide (Hs2.out.drew.more hb9)
                  have HbB := hide (HbA.out.drew.trans (hb9.mono (by rw [HB2.out]; exact HbA.out.drew.size)))
                  have ck9 := cell_keep hb9 ck2
                  clear hb9 c0 c1 c2 c3 c4 ck2 HFt
                  go_wp2
                  go_ret3
                  rw [HF.out]
                  exact ⟨_, rfl, OwH.nil _ _, Hb1.out.trans ((HbB.out).mono (by rw [HB2.out]; exact Hb1.out.size))⟩
            · have f2 : decide ((m2 : Int) < hbn) = false := decide_eq_false k2
              have Hk := hide (show han = m1 ∧ hbn = m2 by have := Hhm.out; omega)
              clear k1 k2
              refine Rg.wp_region_ord (fun w' => w' = wr.drew) [(0, true), (1, true), (3, true), (4, true), (2, false), (5, true), (6, true), (7, true), (8, true), (10, true), (11, true), (9, false), (12, true), (13, true)] (by kernel_rfl) (by kernel_rfl) ?_
              simp only [Rg.pick, List.map_cons, List.map_nil, List.getD_cons_zero, List.getD_cons_succ]
              iterate 4 (refine Rg.ord_quiet (v := ?_) rfl (fun w' hS => ?_) rfl ?_; rotate_left; (subst hS; go_simp; with_reducible rfl); simp only [Act.put, List.setIfInBounds_toArray, List.set_cons_succ, List.set_cons_zero])
              refine Rg.ord_loud (by rfl) (fun K hK => ?_)
              go_simp
              refine HC1.out.mono ?_
              rintro y9 w9 ⟨rfl, rfl⟩
              refine hK _ _ (fun _ => rfl) ?_
              clear hK K
              iterate 2 (refine Rg.ord_quiet (v := ?_) rfl (fun w' hS => ?_) rfl ?_; rotate_left; (subst hS; go_simp; with_reducible rfl); simp only [Act.put, List.setIfInBounds_toArray, List.set_cons_succ, List.set_cons_zero])
              iterate 4 (refine Rg.ord_guarded (v := ?_) (by rfl) (fun w' hS => ?_) rfl ?_; rotate_left; (subst hS; go_simp; with_reducible rfl); simp only [Act.put, List.setIfInBounds_toArray, List.set_cons_succ, List.set_cons_zero])
              refine Rg.ord_loud (by rfl) (fun K hK => ?_)
              go_simp
              refine HC2.out.mono ?_
              rintro y9 w9 ⟨rfl, rfl⟩
              refine hK _ _ (fun _ => rfl) ?_
              clear hK K
              iterate 1 (refine Rg.ord_guarded (v := ?_) (by rfl) (fun w' hS => ?_) rfl ?_; rotate_left; (subst hS; go_simp; with_reducible rfl); simp only [Act.put, List.setIfInBounds_toArray, List.set_cons_succ, List.set_cons_zero])
              iterate 1 (refine Rg.ord_quiet (v := ?_) rfl (fun w' hS => ?_) rfl ?_; rotate_left; (subst hS; go_simp; with_reducible rfl); simp only [Act.put, List.setIfInBounds_toArray, List.set_cons_succ, List.set_cons_zero])
              refine Rg.ord_nil ?_
              have Hs2 := hide HSj.out.drew
              have Hf2 := hide (show han = many 45 ls ∧ hbn = many 43 ls from ⟨by rw [Hk.out.1, Hm1e.out], by rw [Hk.out.2, Hm2e.out]⟩)
              obtain ⟨w2, hw2⟩ : ∃ w2, w2 = wr.drew := ⟨_, rfl⟩
              rw [← hw2] at Hs2 c0 c1 c2 c3 c4 ⊢
              rw [← HM.out] at Hs2
              clear hw2 HSj Hvl HC1 HC2 f1 f2
              have HbA := hide (show Below B2 w1 w2 from Hb20.out.trans (Hs2.out.low.mono (by rw [← Hge.out]; exact HB0.out)))
              have HOw := hide (HO0.out.keep Hs2.out.low)
              have Hvi := hide (show OwT w2 B2 tS (.slice Al M cl) ls from owt_base Hs2.out.own (by have := Hs2.out.lt.2; have := HB0.out; omega))
              go_wp2_with (refine wpList_pushH rfl (.tmp 108) (.tmp 110) rfl B2 w1 v (.slice Al M cl) V.reverse ⟨ha, han, hb, hbn, ls⟩ _ rfl rfl rfl HOw.out Hvi.out (by rw [List.length_reverse]; omega) HbA.out (by have := HbA.out.size; have := HB2.out; omega) ?_; intro v4 w4 hown4 hb4 _; have Hown4 := hide hown4; have Hb4 := hide hb4; clear hown4 hb4)
              refine ⟨⟨j, ⟨ha, han, hb, hbn, ls⟩ :: V, _, rfl, hj, rfl, by simp; omega, hide (by rw [HrunJ.out, mid_full Hf2.out.1 Hf2.out.2]), HnxJ, hide (by rw [List.reverse_cons]; exact Hown4.out), Hb4⟩, by simp [intOf]; omega⟩
    · have hiN : i = N := by omega
      have HF := hide (show parse s = (V.reverse, 0, 0) by rw [HP.out, Hrun.out, hiN, List.drop_eq_nil_of_le (by rw [HN.out]; exact Nat.le_refl _)]; exact out_end V N)
      clear hiN
      go_wp2
      go_ret3
      rw [HF.out]
      exact ⟨_, rfl, owh_base Hown.out (by rw [HB2.out]; exact Hb1.out.size), Hb1.out.trans (Hb.out.mono (by rw [HB2.out]; exact Hb1.out.size))⟩
end Go.Proofs.YtnehgogajghefaaDoor.Un
