/-
  unified: side, head.
-/
import Derived.Test.YtfmmececocilhaaDoorUD
import Derived.Lib.ItoaLen
import Derived.Test.YtfmmececocilhaaDoorRegB
namespace Go.Proofs.YtfmmececocilhaaDoor.Un
open Go Go.RowKit Kt Lw Li Df Hu

set_option maxRecDepth 100000 in
set_option maxHeartbeats 1000000 in
theorem side_any (p m : Int) (w : World) (hE : Env w) (hp : 0 ≤ p ∧ p ≤ 4503599627370496) (hm : 0 ≤ m ∧ m ≤ 4503599627370496) :
    Calls Tryd.prog 36 #[.int .i64 p, .int .i64 m] w fun y w' => y = .returned (.string ⟨(sideT p m).toArray⟩) ∧ Below w.heap.size w w' := by
  have HP := hide (place_any p m w (by omega) hm)
  have hpl : 0 ≤ plc p m ∧ plc p m ≤ 4503599627370497 := by unfold plc; omega
  have HT := hide (show sideT p m = (Lib.itoa (plc p m) ++ [44]) ++ Lib.itoa m by simp [sideT])
  have HI1 := hide (Tryd.strconv_Itoa (plc p m) (by omega) (by omega) w hE.tab)
  have HI2 := hide (fun w' (hb : Below w.heap.size w w') => Tryd.strconv_Itoa m (by omega) (by omega) w' (hE.keep hb).tab)
  have hl1 := Lib.itoa_length_le (plc p m) (by omega) (by omega)
  have hl2 := Lib.itoa_length_le m (by omega) (by omega)
  clear hE hp hm hpl
  generalize plc p m = q at *
  generalize Lib.itoa q = x at *
  generalize Lib.itoa m = y at *
  have ea := app_txt x [44]
  have eb := app_txt (x ++ [44]) y
  have hlx : (x ++ [44]).length ≤ 22 := by simp; omega
  generalize hz : x ++ [44] = z at *
  clear hz
  have hX1 : ¬ 9223372036854775807 < x.length + 1 := by omega
  have hX2 : ¬ 9223372036854775807 < z.length + y.length := by omega
  go_enter Tryd.func36, Tryd.ntmps36
  go_wp2_with fail
  refine HP.out.mono ?_
  rintro u w1 ⟨rfl, rfl⟩
  go_wp2_with fail
  refine HI1.out.mono ?_
  rintro u w2 ⟨rfl, k, os, rfl⟩
  have hb1 := grow_below w1 k os
  generalize Sort.grow (w1.drewN k) os = w2 at *
  go_wp2_with fail
  refine (HI2.out _ hb1).mono ?_
  rintro u w3 ⟨rfl, k2, os2, rfl⟩
  have hb2 := hb1.trans ((grow_below w2 k2 os2).mono hb1.size)
  generalize Sort.grow (w2.drewN k2) os2 = w3 at *
  go_wp2
  go_ret
  exact ⟨by rw [HT.out]; rfl, hb2⟩
theorem side_len {p m : Int} (hp : 0 ≤ p ∧ p ≤ 4503599627370496) (hm : 0 ≤ m ∧ m ≤ 4503599627370496) : (sideT p m).length ≤ 43 := by
  have hpl : 0 ≤ plc p m ∧ plc p m ≤ 4503599627370497 := by unfold plc; omega
  have hl1 := Lib.itoa_length_le (plc p m) (by omega) (by omega)
  have hl2 := Lib.itoa_length_le m (by omega) (by omega)
  rw [sideT, List.length_append, List.length_cons]
  omega
set_option maxRecDepth 100000 in
set_option maxHeartbeats 1000000 in
theorem head_any (a an b bn : Int) (v : Value) (_hv : v.oneCell' = true) (w : World) (hE : Env w) (ha : 0 ≤ a ∧ a ≤ 4503599627370496) (han : 0 ≤ an ∧ an ≤ 4503599627370496) (hb0 : 0 ≤ b ∧ b ≤ 4503599627370496) (hbn : 0 ≤ bn ∧ bn ≤ 4503599627370496) :
    Calls Tryd.prog 17 #[.agg #[.int .i64 a, .int .i64 an, .int .i64 b, .int .i64 bn, v]] w fun y w' => y = .returned (.string ⟨(headT a an b bn).toArray⟩) ∧ Below w.heap.size w w' := by
  go_enter Tryd.func17, Tryd.ntmps17
  go_wp2
  obtain ⟨w1, hw1⟩ : ∃ w1, w1 = w.alloc (.cells #[.int .i64 a, .int .i64 an, .int .i64 b, .int .i64 bn, v] tH) := ⟨_, rfl⟩
  have hb1 : Below w.heap.size w w1 := by rw [hw1]; exact (Below.refl _ w).alloc (Nat.le_refl _) _
  have hrow : Row w1 w.heap.size tH [.int .i64 a, .int .i64 an, .int .i64 b, .int .i64 bn, v] := by rw [hw1]; exact Row.fresh w tH _
  rw [← hw1]
  have c0 := hrow.cell 0
  have c1 := hrow.cell 1
  have c2 := hrow.cell 2
  have c3 := hrow.cell 3
  simp only [List.getElem?_cons_zero, List.getElem?_cons_succ] at c0 c1 c2 c3
  obtain ⟨g, hg⟩ : ∃ g, g = w.heap.size := ⟨_, rfl⟩
  rw [← hg] at c0 c1 c2 c3 ⊢
  have HT := hide (show headT a an b bn = (((opensB ++ sideT a an) ++ plusB) ++ sideT b bn) ++ closesB by simp [headT])
  have HS1 := hide (fun w' (hb : Below w.heap.size w w') => side_any a an w' (hE.keep hb) ha han)
  have HS2 := hide (fun w' (hb : Below w.heap.size w w') => side_any b bn w' (hE.keep hb) hb0 hbn)
  have hx := side_len ha han
  have hy := side_len hb0 hbn
  obtain ⟨x, hx'⟩ : ∃ x, x = sideT a an := ⟨_, rfl⟩
  obtain ⟨y, hy'⟩ : ∃ y, y = sideT b bn := ⟨_, rfl⟩
  rw [← hx'] at HT HS1 hx
  rw [← hy'] at HT HS2 hy
  have Hb1 := hide hb1
  have e1 := app_txt [64, 64, 32, 45] x
  have e2 := app_txt ([64, 64, 32, 45] ++ x) [32, 43]
  have e3 := app_txt (([64, 64, 32, 45] ++ x) ++ [32, 43]) y
  have e4 := app_txt ((([64, 64, 32, 45] ++ x) ++ [32, 43]) ++ y) [32, 64, 64, 10]
  obtain ⟨p1, hp1⟩ : ∃ p1, p1 = [64, 64, 32, 45] ++ x := ⟨_, rfl⟩
  have l1 : p1.length ≤ 100 := by rw [hp1]; simp; omega
  rw [← hp1] at e1 e2 e3 e4
  obtain ⟨p2, hp2⟩ : ∃ p2, p2 = p1 ++ [32, 43] := ⟨_, rfl⟩
  have l2 : p2.length ≤ 102 := by rw [hp2]; simp; omega
  rw [← hp2] at e2 e3 e4
  obtain ⟨p3, hp3⟩ : ∃ p3, p3 = p2 ++ y := ⟨_, rfl⟩
  have l3 : p3.length ≤ 200 := by rw [hp3]; simp; omega
  rw [← hp3] at e3 e4
  have HT2 := hide (show headT a an b bn = p3 ++ [32, 64, 64, 10] by rw [HT.out, hp3, hp2, hp1]; rfl)
  have X1 : ¬ 9223372036854775807 < 4 + x.length := by omega
  have X2 : ¬ 9223372036854775807 < p1.length + 2 := by omega
  have X3 : ¬ 9223372036854775807 < p2.length + y.length := by omega
  have X4 : ¬ 9223372036854775807 < p3.length + 4 := by omega
  have Hg := hide hg
  clear hE ha han hb0 hbn hw1 hb1 hrow hx' hy' hp1 hp2 hp3 hg HT
  refine Rg.wp_region_ord (fun w' => w'.cell? ⟨g, 0, none⟩ = some (.int .i64 a) ∧ w'.cell? ⟨g, 1, none⟩ = some (.int .i64 an) ∧ w'.cell? ⟨g, 2, none⟩ = some (.int .i64 b) ∧ w'.cell? ⟨g, 3, none⟩ = some (.int .i64 bn)) [(0, true), (1, true), (2, true), (3, true), (7, true), (8, true), (9, true), (10, true), (4, false), (5, true), (6, true), (11, false), (12, true), (13, true), (14, true)] (by kernel_rfl) (by kernel_rfl) ?_
  simp only [Rg.pick, List.map_cons, List.map_nil, List.getD_cons_zero, List.getD_cons_succ]
  iterate 8 (refine Rg.ord_quiet (v := ?_) rfl (fun w' hS => ?_) ⟨c0, c1, c2, c3⟩ ?_; rotate_left; (obtain ⟨s0, s1, s2, s3⟩ := hS; go_simp; with_reducible rfl); simp only [Act.put, List.setIfInBounds_toArray, List.set_cons_succ, List.set_cons_zero])
  refine Rg.ord_loud rfl (fun K hK => ?_)
  go_simp
  refine (HS1.out _ Hb1.out.drew).mono ?_
  rintro u w2 ⟨rfl, hb2⟩
  have Hb2 := hide (Hb1.out.drew.trans (hb2.mono Hb1.out.drew.size))
  have d0 := cell_keep hb2 (show w1.drew.cell? _ = _ from c0)
  have d1 := cell_keep hb2 (show w1.drew.cell? _ = _ from c1)
  have d2 := cell_keep hb2 (show w1.drew.cell? _ = _ from c2)
  have d3 := cell_keep hb2 (show w1.drew.cell? _ = _ from c3)
  refine hK _ _ (fun _ => ⟨d0, d1, d2, d3⟩) ?_
  clear hK K c0 c1 c2 c3 hb2
  try simp only [Act.put, List.setIfInBounds_toArray, List.set_cons_succ, List.set_cons_zero]
  iterate 2 (refine Rg.ord_quiet (v := ?_) rfl (fun w' hS => ?_) ⟨d0, d1, d2, d3⟩ ?_; rotate_left; (obtain ⟨s0, s1, s2, s3⟩ := hS; go_simp; with_reducible rfl); simp only [Act.put, List.setIfInBounds_toArray, List.set_cons_succ, List.set_cons_zero])
  refine Rg.ord_loud rfl (fun K hK => ?_)
  go_simp
  refine (HS2.out _ Hb2.out).mono ?_
  rintro u w3 ⟨rfl, hb3⟩
  have Hb3 := hide (Hb2.out.trans (hb3.mono Hb2.out.size))
  have f0 := cell_keep hb3 d0
  have f1 := cell_keep hb3 d1
  have f2 := cell_keep hb3 d2
  have f3 := cell_keep hb3 d3
  refine hK _ _ (fun _ => ⟨f0, f1, f2, f3⟩) ?_
  clear hK K d0 d1 d2 d3 hb3
  try simp only [Act.put, List.setIfInBounds_toArray, List.set_cons_succ, List.set_cons_zero]
  iterate 3 (refine Rg.ord_quiet (v := ?_) rfl (fun w' hS => ?_) ⟨f0, f1, f2, f3⟩ ?_; rotate_left; (obtain ⟨s0, s1, s2, s3⟩ := hS; go_simp; with_reducible rfl); simp only [Act.put, List.setIfInBounds_toArray, List.set_cons_succ, List.set_cons_zero])
  refine Rg.ord_nil ?_
  go_wp2
  go_ret
  exact ⟨by rw [HT2.out]; rfl, Hb3.out⟩
end Go.Proofs.YtfmmececocilhaaDoor.Un
