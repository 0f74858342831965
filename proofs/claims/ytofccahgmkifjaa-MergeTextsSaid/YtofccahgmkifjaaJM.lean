/-
  A region is added: where its lines are.
-/
import Derived.BigQuiet
import Derived.Test.YtofccahgmkifjaaQ6
import Derived.Test.YtofccahgmkifjaaQ2
namespace Go.Proofs.Ytofccahgmkifjaa.Al
open Go Go.RowKit Kt Lw Li Df Kf

set_option maxRecDepth 100000 in
set_option maxHeartbeats 4000000 in
theorem add_r2 {g q0 : Nat} {x y z many m0 m1 : Int} {w : World} {B : Code} {K : Act → World → Prop} {Q' : Exit → Act → World → Prop} (x1 x2 x5 x6 x7 x8 x9 x10 x11 x12 x13 x14 x15 x16 x17 x18 x19 x20 x21 x22 x23 x24 x25 x26 x27 x28 x29 x30 x31 x32 x33 x34 x35 x36 x37 x38 x39 x40 x41 x42 x43 x44 x45 x46 x47 x48 x49 x50 x51 x52 x53 x54 x55 x56 x57 x58 x59 x60 x61 x62 x63 x64 x65 x66 : Value)
    (hB : B = (findR 2 (Try.f30.body.getD .skip)).getD .skip) (c1 : w.cell? ⟨g, 1, none⟩ = some (.int .i64 x)) (c3 : w.cell? ⟨g, 3, none⟩ = some (.int .i64 y)) (c5 : w.cell? ⟨g, 5, none⟩ = some (.int .i64 z))
    (q3 : w.cell? ⟨q0, 3, none⟩ = some (.int .i64 m0)) (q5 : w.cell? ⟨q0, 5, none⟩ = some (.int .i64 m1)) (hw0 : IntKind.i64.wrap (many + m0) = many + m0) (hw1 : IntKind.i64.wrap (many + m1) = many + m1)
    (hK : ∀ (q : Nat) (u11 u12 u13 u14 u15 u16 u17 u18 u19 u20 u21 u22 u23 u24 u25 u26 u27 u28 u29 u30 u31 u32 u33 u34 u35 u36 : Value) (wx : World), w.heap.size ≤ q → Row wx q tR (rgC ⟨0, x, many, y, many + m0, z, many + m1⟩) → Below w.heap.size w wx → K { tmps := List.toArray ((.pointer (some ⟨g, 0, none⟩)) :: x1 :: x2 :: (.pointer (some ⟨q0, 0, none⟩)) :: (.int .i64 many) :: (.pointer (some ⟨q, 0, none⟩)) :: x6 :: x7 :: x8 :: x9 :: x10 :: u11 :: u12 :: u13 :: u14 :: u15 :: u16 :: u17 :: u18 :: u19 :: u20 :: u21 :: u22 :: u23 :: u24 :: u25 :: u26 :: u27 :: u28 :: u29 :: u30 :: u31 :: u32 :: u33 :: u34 :: u35 :: u36 :: x37 :: x38 :: x39 :: x40 :: x41 :: x42 :: x43 :: x44 :: x45 :: x46 :: x47 :: x48 :: x49 :: x50 :: x51 :: x52 :: x53 :: x54 :: x55 :: x56 :: x57 :: x58 :: x59 :: x60 :: x61 :: x62 :: x63 :: x64 :: x65 :: x66 :: []), defers := [] } wx) :
    Code.wp Try.prog B (Exit.then K Q') { tmps := List.toArray ((.pointer (some ⟨g, 0, none⟩)) :: x1 :: x2 :: (.pointer (some ⟨q0, 0, none⟩)) :: (.int .i64 many) :: x5 :: x6 :: x7 :: x8 :: x9 :: x10 :: x11 :: x12 :: x13 :: x14 :: x15 :: x16 :: x17 :: x18 :: x19 :: x20 :: x21 :: x22 :: x23 :: x24 :: x25 :: x26 :: x27 :: x28 :: x29 :: x30 :: x31 :: x32 :: x33 :: x34 :: x35 :: x36 :: x37 :: x38 :: x39 :: x40 :: x41 :: x42 :: x43 :: x44 :: x45 :: x46 :: x47 :: x48 :: x49 :: x50 :: x51 :: x52 :: x53 :: x54 :: x55 :: x56 :: x57 :: x58 :: x59 :: x60 :: x61 :: x62 :: x63 :: x64 :: x65 :: x66 :: []), defers := [] } w := by
  have HF := hide hK
  clear hK
  subst hB
  conv => arg 2; whnf
  refine Rd.wp_region_tree (fun w' => w'.cell? ⟨q0, 3, none⟩ = some (.int .i64 m0) ∧ w'.cell? ⟨q0, 5, none⟩ = some (.int .i64 m1)) (.take 0 (.take 1 (.take 2 (.take 3 (.take 5 (.take 6 (.take 7 (.take 8 (.take 9 (.take 10 (.take 11 (.take 12 (.take 13 (.take 15 (.take 16 (.take 17 (.take 18 (.take 19 (.take 20 (.take 21 (.take 22 (.take 23 (.fork 4 (.fork 14 (.fork 24 (.take 25 (.one 26 (.one 27 .leaf))) 26 (.one 24 (.take 25 (.one 27 .leaf)))) 26 (.one 14 (.one 24 (.take 25 (.one 27 .leaf))))) 26 (.one 4 (.one 14 (.one 24 (.take 25 (.one 27 .leaf)))))))))))))))))))))))))))) (by kernel_rfl) (by kernel_rfl) ?_
  have HB0 : Hid (Below w.heap.size w w.drew) := (Below.refl _ w).drew
  generalize hl : List.cons _ _ = l
  have H0 := congrArg (fun l => List.getD l 0 default) hl.symm
  simp only [List.getD_cons_zero] at H0
  replace H0 := hide H0
  have H1 := congrArg (fun l => List.getD l 1 default) hl.symm
  simp only [List.getD_cons_zero, List.getD_cons_succ] at H1
  replace H1 := hide H1
  have H2 := congrArg (fun l => List.getD l 2 default) hl.symm
  simp only [List.getD_cons_zero, List.getD_cons_succ] at H2
  replace H2 := hide H2
  have H3 := congrArg (fun l => List.getD l 3 default) hl.symm
  simp only [List.getD_cons_zero, List.getD_cons_succ] at H3
  replace H3 := hide H3
  have H4 := congrArg (fun l => List.getD l 4 default) hl.symm
  simp only [List.getD_cons_zero, List.getD_cons_succ] at H4
  replace H4 := hide H4
  have H5 := congrArg (fun l => List.getD l 5 default) hl.symm
  simp only [List.getD_cons_zero, List.getD_cons_succ] at H5
  replace H5 := hide H5
  have H6 := congrArg (fun l => List.getD l 6 default) hl.symm
  simp only [List.getD_cons_zero, List.getD_cons_succ] at H6
  replace H6 := hide H6
  have H7 := congrArg (fun l => List.getD l 7 default) hl.symm
  simp only [List.getD_cons_zero, List.getD_cons_succ] at H7
  replace H7 := hide H7
  have H8 := congrArg (fun l => List.getD l 8 default) hl.symm
  simp only [List.getD_cons_zero, List.getD_cons_succ] at H8
  replace H8 := hide H8
  have H9 := congrArg (fun l => List.getD l 9 default) hl.symm
  simp only [List.getD_cons_zero, List.getD_cons_succ] at H9
  replace H9 := hide H9
  have H10 := congrArg (fun l => List.getD l 10 default) hl.symm
  simp only [List.getD_cons_zero, List.getD_cons_succ] at H10
  replace H10 := hide H10
  have H11 := congrArg (fun l => List.getD l 11 default) hl.symm
  simp only [List.getD_cons_zero, List.getD_cons_succ] at H11
  replace H11 := hide H11
  have H12 := congrArg (fun l => List.getD l 12 default) hl.symm
  simp only [List.getD_cons_zero, List.getD_cons_succ] at H12
  replace H12 := hide H12
  have H13 := congrArg (fun l => List.getD l 13 default) hl.symm
  simp only [List.getD_cons_zero, List.getD_cons_succ] at H13
  replace H13 := hide H13
  have H14 := congrArg (fun l => List.getD l 14 default) hl.symm
  simp only [List.getD_cons_zero, List.getD_cons_succ] at H14
  replace H14 := hide H14
  have H15 := congrArg (fun l => List.getD l 15 default) hl.symm
  simp only [List.getD_cons_zero, List.getD_cons_succ] at H15
  replace H15 := hide H15
  have H16 := congrArg (fun l => List.getD l 16 default) hl.symm
  simp only [List.getD_cons_zero, List.getD_cons_succ] at H16
  replace H16 := hide H16
  have H17 := congrArg (fun l => List.getD l 17 default) hl.symm
  simp only [List.getD_cons_zero, List.getD_cons_succ] at H17
  replace H17 := hide H17
  have H18 := congrArg (fun l => List.getD l 18 default) hl.symm
  simp only [List.getD_cons_zero, List.getD_cons_succ] at H18
  replace H18 := hide H18
  have H19 := congrArg (fun l => List.getD l 19 default) hl.symm
  simp only [List.getD_cons_zero, List.getD_cons_succ] at H19
  replace H19 := hide H19
  have H20 := congrArg (fun l => List.getD l 20 default) hl.symm
  simp only [List.getD_cons_zero, List.getD_cons_succ] at H20
  replace H20 := hide H20
  have H21 := congrArg (fun l => List.getD l 21 default) hl.symm
  simp only [List.getD_cons_zero, List.getD_cons_succ] at H21
  replace H21 := hide H21
  have H22 := congrArg (fun l => List.getD l 22 default) hl.symm
  simp only [List.getD_cons_zero, List.getD_cons_succ] at H22
  replace H22 := hide H22
  have H23 := congrArg (fun l => List.getD l 23 default) hl.symm
  simp only [List.getD_cons_zero, List.getD_cons_succ] at H23
  replace H23 := hide H23
  have H24 := congrArg (fun l => List.getD l 24 default) hl.symm
  simp only [List.getD_cons_zero, List.getD_cons_succ] at H24
  replace H24 := hide H24
  have H25 := congrArg (fun l => List.getD l 25 default) hl.symm
  simp only [List.getD_cons_zero, List.getD_cons_succ] at H25
  replace H25 := hide H25
  have H26 := congrArg (fun l => List.getD l 26 default) hl.symm
  simp only [List.getD_cons_zero, List.getD_cons_succ] at H26
  replace H26 := hide H26
  have H27 := congrArg (fun l => List.getD l 27 default) hl.symm
  simp only [List.getD_cons_zero, List.getD_cons_succ] at H27
  replace H27 := hide H27
  clear hl
  refine Rk.tree_quiet (v := ?_) H0.out rfl (fun w' hS => ?_) ⟨q3, q5⟩ ?_; rotate_left; (obtain ⟨s3, s5⟩ := hS; go_simp; with_reducible rfl); simp only [Act.put, List.setIfInBounds_toArray, List.set_cons_succ, List.set_cons_zero]
  refine Rk.tree_quiet (v := ?_) H1.out rfl (fun w' hS => ?_) ⟨q3, q5⟩ ?_; rotate_left; (obtain ⟨s3, s5⟩ := hS; go_simp; with_reducible rfl); simp only [Act.put, List.setIfInBounds_toArray, List.set_cons_succ, List.set_cons_zero]
  refine Rk.tree_quiet (v := ?_) H2.out rfl (fun w' hS => ?_) ⟨q3, q5⟩ ?_; rotate_left; (obtain ⟨s3, s5⟩ := hS; go_simp; with_reducible rfl); simp only [Act.put, List.setIfInBounds_toArray, List.set_cons_succ, List.set_cons_zero]
  refine Rk.tree_quiet (v := ?_) H3.out rfl (fun w' hS => ?_) ⟨q3, q5⟩ ?_; rotate_left; (obtain ⟨s3, s5⟩ := hS; go_simp; with_reducible rfl); simp only [Act.put, List.setIfInBounds_toArray, List.set_cons_succ, List.set_cons_zero]
  refine Rk.tree_quiet (v := ?_) H5.out rfl (fun w' hS => ?_) ⟨q3, q5⟩ ?_; rotate_left; (obtain ⟨s3, s5⟩ := hS; go_simp; with_reducible rfl); simp only [Act.put, List.setIfInBounds_toArray, List.set_cons_succ, List.set_cons_zero]
  refine Rk.tree_quiet (v := ?_) H6.out rfl (fun w' hS => ?_) ⟨q3, q5⟩ ?_; rotate_left; (obtain ⟨s3, s5⟩ := hS; go_simp; with_reducible rfl); simp only [Act.put, List.setIfInBounds_toArray, List.set_cons_succ, List.set_cons_zero]
  refine Rk.tree_quiet (v := ?_) H7.out rfl (fun w' hS => ?_) ⟨q3, q5⟩ ?_; rotate_left; (obtain ⟨s3, s5⟩ := hS; go_simp; with_reducible rfl); simp only [Act.put, List.setIfInBounds_toArray, List.set_cons_succ, List.set_cons_zero]
  refine Rk.tree_quiet (v := ?_) H8.out rfl (fun w' hS => ?_) ⟨q3, q5⟩ ?_; rotate_left; (obtain ⟨s3, s5⟩ := hS; go_simp; with_reducible rfl); simp only [Act.put, List.setIfInBounds_toArray, List.set_cons_succ, List.set_cons_zero]
  refine Rk.tree_quiet (v := ?_) H9.out rfl (fun w' hS => ?_) ⟨q3, q5⟩ ?_; rotate_left; (obtain ⟨s3, s5⟩ := hS; go_simp; with_reducible rfl); simp only [Act.put, List.setIfInBounds_toArray, List.set_cons_succ, List.set_cons_zero]
  refine Rk.tree_quiet (v := ?_) H10.out rfl (fun w' hS => ?_) ⟨q3, q5⟩ ?_; rotate_left; (obtain ⟨s3, s5⟩ := hS; go_simp; with_reducible rfl); simp only [Act.put, List.setIfInBounds_toArray, List.set_cons_succ, List.set_cons_zero]
  refine Rk.tree_quiet (v := ?_) H11.out rfl (fun w' hS => ?_) ⟨q3, q5⟩ ?_; rotate_left; (obtain ⟨s3, s5⟩ := hS; go_simp; with_reducible rfl); simp only [Act.put, List.setIfInBounds_toArray, List.set_cons_succ, List.set_cons_zero]
  refine Rk.tree_quiet (v := ?_) H12.out rfl (fun w' hS => ?_) ⟨q3, q5⟩ ?_; rotate_left; (obtain ⟨s3, s5⟩ := hS; go_simp; with_reducible rfl); simp only [Act.put, List.setIfInBounds_toArray, List.set_cons_succ, List.set_cons_zero]
  refine Rk.tree_quiet (v := ?_) H13.out rfl (fun w' hS => ?_) ⟨q3, q5⟩ ?_; rotate_left; (obtain ⟨s3, s5⟩ := hS; go_simp; with_reducible rfl); simp only [Act.put, List.setIfInBounds_toArray, List.set_cons_succ, List.set_cons_zero]
  refine Rk.tree_quiet (v := ?_) H15.out rfl (fun w' hS => ?_) ⟨q3, q5⟩ ?_; rotate_left; (obtain ⟨s3, s5⟩ := hS; go_simp; with_reducible rfl); simp only [Act.put, List.setIfInBounds_toArray, List.set_cons_succ, List.set_cons_zero]
  refine Rk.tree_quiet (v := ?_) H16.out rfl (fun w' hS => ?_) ⟨q3, q5⟩ ?_; rotate_left; (obtain ⟨s3, s5⟩ := hS; go_simp; with_reducible rfl); simp only [Act.put, List.setIfInBounds_toArray, List.set_cons_succ, List.set_cons_zero]
  refine Rk.tree_quiet (v := ?_) H17.out rfl (fun w' hS => ?_) ⟨q3, q5⟩ ?_; rotate_left; (obtain ⟨s3, s5⟩ := hS; go_simp; with_reducible rfl); simp only [Act.put, List.setIfInBounds_toArray, List.set_cons_succ, List.set_cons_zero]
  refine Rk.tree_quiet (v := ?_) H18.out rfl (fun w' hS => ?_) ⟨q3, q5⟩ ?_; rotate_left; (obtain ⟨s3, s5⟩ := hS; go_simp; with_reducible rfl); simp only [Act.put, List.setIfInBounds_toArray, List.set_cons_succ, List.set_cons_zero]
  refine Rk.tree_quiet (v := ?_) H19.out rfl (fun w' hS => ?_) ⟨q3, q5⟩ ?_; rotate_left; (obtain ⟨s3, s5⟩ := hS; go_simp; with_reducible rfl); simp only [Act.put, List.setIfInBounds_toArray, List.set_cons_succ, List.set_cons_zero]
  refine Rk.tree_quiet (v := ?_) H20.out rfl (fun w' hS => ?_) ⟨q3, q5⟩ ?_; rotate_left; (obtain ⟨s3, s5⟩ := hS; go_simp; with_reducible rfl); simp only [Act.put, List.setIfInBounds_toArray, List.set_cons_succ, List.set_cons_zero]
  refine Rk.tree_quiet (v := ?_) H21.out rfl (fun w' hS => ?_) ⟨q3, q5⟩ ?_; rotate_left; (obtain ⟨s3, s5⟩ := hS; go_simp; with_reducible rfl); simp only [Act.put, List.setIfInBounds_toArray, List.set_cons_succ, List.set_cons_zero]
  refine Rk.tree_quiet (v := ?_) H22.out rfl (fun w' hS => ?_) ⟨q3, q5⟩ ?_; rotate_left; (obtain ⟨s3, s5⟩ := hS; go_simp; with_reducible rfl); simp only [Act.put, List.setIfInBounds_toArray, List.set_cons_succ, List.set_cons_zero]
  refine Rk.tree_quiet (v := ?_) H23.out rfl (fun w' hS => ?_) ⟨q3, q5⟩ ?_; rotate_left; (obtain ⟨s3, s5⟩ := hS; go_simp; with_reducible rfl); simp only [Act.put, List.setIfInBounds_toArray, List.set_cons_succ, List.set_cons_zero]
  obtain ⟨w0, hw0'⟩ : ∃ w0, w0 = w.drew := ⟨_, rfl⟩
  rw [← hw0'] at HB0 ⊢
  clear hw0'
  refine Rk.tree_fork H4.out rfl H26.out rfl (fun K hK => ?_) (fun K hK => ?_)
  · go_simp
    refine (rnext_any g 0 x many _ (agree c1 HB0.out)).mono ?_
    rintro y w1 ⟨rfl, hb⟩
    have HB1 := hide (HB0.out.trans (hb.mono HB0.out.size))
    refine hK _ _ (fun _ => ⟨agree q3 HB1.out, agree q5 HB1.out⟩) ?_
    clear hK K hb
    refine Rk.tree_fork H14.out rfl H26.out rfl (fun K hK => ?_) (fun K hK => ?_)
    · go_simp
      refine (rnext_any g 2 y (many + m0) _ (agree c3 HB1.out)).mono ?_
      rintro y w2 ⟨rfl, hb⟩
      have HB2 := hide (HB1.out.trans (hb.mono HB1.out.size))
      refine hK _ _ (fun _ => ⟨agree q3 HB2.out, agree q5 HB2.out⟩) ?_
      clear hK K hb
      refine Rk.tree_fork H24.out rfl H26.out rfl (fun K hK => ?_) (fun K hK => ?_)
      · go_simp
        refine (rnext_any g 4 z (many + m1) _ (agree c5 HB2.out)).mono ?_
        rintro y w3 ⟨rfl, hb⟩
        have HB3 := hide (HB2.out.trans (hb.mono HB2.out.size))
        refine hK _ _ (fun _ => ⟨agree q3 HB3.out, agree q5 HB3.out⟩) ?_
        clear hK K hb
        refine Rk.tree_quiet (v := ?_) H25.out rfl (fun w' hS => ?_) ⟨agree q3 HB3.out, agree q5 HB3.out⟩ ?_; rotate_left; (obtain ⟨s3, s5⟩ := hS; go_simp; with_reducible rfl); simp only [Act.put, List.setIfInBounds_toArray, List.set_cons_succ, List.set_cons_zero]
        refine Rk.tree_one H26.out rfl (fun K hK => ?_)
        go_simp
        have HB4 := hide (HB3.out.alloc HB3.out.size (.cells #[.int .i64 0, .int .i64 0, .int .i64 0, .int .i64 0, .int .i64 0, .int .i64 0, .int .i64 0] tR))
        have HR4 := hide (Row.fresh w3 tR #[.int .i64 0, .int .i64 0, .int .i64 0, .int .i64 0, .int .i64 0, .int .i64 0, .int .i64 0])
        have hqw : w.heap.size ≤ w3.heap.size := HB3.out.size
        obtain ⟨q, hq⟩ : ∃ q, q = w3.heap.size := ⟨_, rfl⟩
        obtain ⟨w4, hw'⟩ : ∃ w', w' = w3.alloc (.cells #[.int .i64 0, .int .i64 0, .int .i64 0, .int .i64 0, .int .i64 0, .int .i64 0, .int .i64 0] tR) := ⟨_, rfl⟩
        rw [← hw'] at HB4 HR4 ⊢
        rw [← hq] at HR4 hqw ⊢
        clear hw' hq
        refine hK _ _ (fun _ => ⟨agree q3 HB4.out, agree q5 HB4.out⟩) ?_
        clear hK K
        refine Rk.tree_one H27.out rfl (fun K hK => ?_)
        have r0 := HR4.out.cell 0
        have f0 := HR4.out.free 0
        have r1 := HR4.out.cell 1
        have f1 := HR4.out.free 1
        have r2 := HR4.out.cell 2
        have f2 := HR4.out.free 2
        have r3 := HR4.out.cell 3
        have f3 := HR4.out.free 3
        have r4 := HR4.out.cell 4
        have f4 := HR4.out.free 4
        have r5 := HR4.out.cell 5
        have f5 := HR4.out.free 5
        have r6 := HR4.out.cell 6
        have f6 := HR4.out.free 6
        simp only [List.getElem?_cons_zero, List.getElem?_cons_succ] at r0 r1 r2 r3 r4 r5 r6
        go_simp
        have hrow : Row (((((((w4.setCell ⟨q, 0, none⟩ (.int .i64 0)).setCell ⟨q, 1, none⟩ (.int .i64 x)).setCell ⟨q, 2, none⟩ (.int .i64 many)).setCell ⟨q, 3, none⟩ (.int .i64 y)).setCell ⟨q, 4, none⟩ (.int .i64 (many + m0))).setCell ⟨q, 5, none⟩ (.int .i64 z)).setCell ⟨q, 6, none⟩ (.int .i64 (many + m1))) q tR (rgC ⟨0, x, many, y, many + m0, z, many + m1⟩) := (((((((HR4.out.put 0 (.int .i64 0)).put 1 (.int .i64 x)).put 2 (.int .i64 many)).put 3 (.int .i64 y)).put 4 (.int .i64 (many + m0))).put 5 (.int .i64 z)).put 6 (.int .i64 (many + m1)))
        have hbel : Below w.heap.size w (((((((w4.setCell ⟨q, 0, none⟩ (.int .i64 0)).setCell ⟨q, 1, none⟩ (.int .i64 x)).setCell ⟨q, 2, none⟩ (.int .i64 many)).setCell ⟨q, 3, none⟩ (.int .i64 y)).setCell ⟨q, 4, none⟩ (.int .i64 (many + m0))).setCell ⟨q, 5, none⟩ (.int .i64 z)).setCell ⟨q, 6, none⟩ (.int .i64 (many + m1))) := (below_put (below_put (below_put (below_put (below_put (below_put (below_put HB4.out (g := q) (i := 0) hqw (.int .i64 0)) (g := q) (i := 1) hqw (.int .i64 x)) (g := q) (i := 2) hqw (.int .i64 many)) (g := q) (i := 3) hqw (.int .i64 y)) (g := q) (i := 4) hqw (.int .i64 (many + m0))) (g := q) (i := 5) hqw (.int .i64 z)) (g := q) (i := 6) hqw (.int .i64 (many + m1)))
        obtain ⟨wf, hwf⟩ : ∃ wf, wf = (((((((w4.setCell ⟨q, 0, none⟩ (.int .i64 0)).setCell ⟨q, 1, none⟩ (.int .i64 x)).setCell ⟨q, 2, none⟩ (.int .i64 many)).setCell ⟨q, 3, none⟩ (.int .i64 y)).setCell ⟨q, 4, none⟩ (.int .i64 (many + m0))).setCell ⟨q, 5, none⟩ (.int .i64 z)).setCell ⟨q, 6, none⟩ (.int .i64 (many + m1))) := ⟨_, rfl⟩
        rw [← hwf] at hrow hbel ⊢
        refine hK _ _ (fun _ => ⟨agree q3 hbel, agree q5 hbel⟩) (Rd.tree_leaf ?_)
        exact HF.out q _ _ _ _ _ _ _ _ _ _ _ _ _ _ _ _ _ _ _ _ _ _ _ _ _ _ wf hqw hrow hbel
      · go_simp
        have HB3 := hide (HB2.out.alloc HB2.out.size (.cells #[.int .i64 0, .int .i64 0, .int .i64 0, .int .i64 0, .int .i64 0, .int .i64 0, .int .i64 0] tR))
        have HR3 := hide (Row.fresh w2 tR #[.int .i64 0, .int .i64 0, .int .i64 0, .int .i64 0, .int .i64 0, .int .i64 0, .int .i64 0])
        have hqw : w.heap.size ≤ w2.heap.size := HB2.out.size
        obtain ⟨q, hq⟩ : ∃ q, q = w2.heap.size := ⟨_, rfl⟩
        obtain ⟨w3, hw'⟩ : ∃ w', w' = w2.alloc (.cells #[.int .i64 0, .int .i64 0, .int .i64 0, .int .i64 0, .int .i64 0, .int .i64 0, .int .i64 0] tR) := ⟨_, rfl⟩
        rw [← hw'] at HB3 HR3 ⊢
        rw [← hq] at HR3 hqw ⊢
        clear hw' hq
        refine hK _ _ (fun _ => ⟨agree q3 HB3.out, agree q5 HB3.out⟩) ?_
        clear hK K
        refine Rk.tree_one H24.out rfl (fun K hK => ?_)
        go_simp
        refine (rnext_any g 4 z (many + m1) _ (agree c5 HB3.out)).mono ?_
        rintro y w4 ⟨rfl, hb⟩
        have HB4 := hide (HB3.out.trans (hb.mono HB3.out.size))
        have HR4 := hide (HR3.out.below hb HR3.out.lt)
        refine hK _ _ (fun _ => ⟨agree q3 HB4.out, agree q5 HB4.out⟩) ?_
        clear hK K hb
        refine Rk.tree_quiet (v := ?_) H25.out rfl (fun w' hS => ?_) ⟨agree q3 HB4.out, agree q5 HB4.out⟩ ?_; rotate_left; (obtain ⟨s3, s5⟩ := hS; go_simp; with_reducible rfl); simp only [Act.put, List.setIfInBounds_toArray, List.set_cons_succ, List.set_cons_zero]
        refine Rk.tree_one H27.out rfl (fun K hK => ?_)
        have r0 := HR4.out.cell 0
        have f0 := HR4.out.free 0
        have r1 := HR4.out.cell 1
        have f1 := HR4.out.free 1
        have r2 := HR4.out.cell 2
        have f2 := HR4.out.free 2
        have r3 := HR4.out.cell 3
        have f3 := HR4.out.free 3
        have r4 := HR4.out.cell 4
        have f4 := HR4.out.free 4
        have r5 := HR4.out.cell 5
        have f5 := HR4.out.free 5
        have r6 := HR4.out.cell 6
        have f6 := HR4.out.free 6
        simp only [List.getElem?_cons_zero, List.getElem?_cons_succ] at r0 r1 r2 r3 r4 r5 r6
        go_simp
        have hrow : Row (((((((w4.setCell ⟨q, 0, none⟩ (.int .i64 0)).setCell ⟨q, 1, none⟩ (.int .i64 x)).setCell ⟨q, 2, none⟩ (.int .i64 many)).setCell ⟨q, 3, none⟩ (.int .i64 y)).setCell ⟨q, 4, none⟩ (.int .i64 (many + m0))).setCell ⟨q, 5, none⟩ (.int .i64 z)).setCell ⟨q, 6, none⟩ (.int .i64 (many + m1))) q tR (rgC ⟨0, x, many, y, many + m0, z, many + m1⟩) := (((((((HR4.out.put 0 (.int .i64 0)).put 1 (.int .i64 x)).put 2 (.int .i64 many)).put 3 (.int .i64 y)).put 4 (.int .i64 (many + m0))).put 5 (.int .i64 z)).put 6 (.int .i64 (many + m1)))
        have hbel : Below w.heap.size w (((((((w4.setCell ⟨q, 0, none⟩ (.int .i64 0)).setCell ⟨q, 1, none⟩ (.int .i64 x)).setCell ⟨q, 2, none⟩ (.int .i64 many)).setCell ⟨q, 3, none⟩ (.int .i64 y)).setCell ⟨q, 4, none⟩ (.int .i64 (many + m0))).setCell ⟨q, 5, none⟩ (.int .i64 z)).setCell ⟨q, 6, none⟩ (.int .i64 (many + m1))) := (below_put (below_put (below_put (below_put (below_put (below_put (below_put HB4.out (g := q) (i := 0) hqw (.int .i64 0)) (g := q) (i := 1) hqw (.int .i64 x)) (g := q) (i := 2) hqw (.int .i64 many)) (g := q) (i := 3) hqw (.int .i64 y)) (g := q) (i := 4) hqw (.int .i64 (many + m0))) (g := q) (i := 5) hqw (.int .i64 z)) (g := q) (i := 6) hqw (.int .i64 (many + m1)))
        obtain ⟨wf, hwf⟩ : ∃ wf, wf = (((((((w4.setCell ⟨q, 0, none⟩ (.int .i64 0)).setCell ⟨q, 1, none⟩ (.int .i64 x)).setCell ⟨q, 2, none⟩ (.int .i64 many)).setCell ⟨q, 3, none⟩ (.int .i64 y)).setCell ⟨q, 4, none⟩ (.int .i64 (many + m0))).setCell ⟨q, 5, none⟩ (.int .i64 z)).setCell ⟨q, 6, none⟩ (.int .i64 (many + m1))) := ⟨_, rfl⟩
        rw [← hwf] at hrow hbel ⊢
        refine hK _ _ (fun _ => ⟨agree q3 hbel, agree q5 hbel⟩) (Rd.tree_leaf ?_)
        exact HF.out q _ _ _ _ _ _ _ _ _ _ _ _ _ _ _ _ _ _ _ _ _ _ _ _ _ _ wf hqw hrow hbel
    · go_simp
      have HB2 := hide (HB1.out.alloc HB1.out.size (.cells #[.int .i64 0, .int .i64 0, .int .i64 0, .int .i64 0, .int .i64 0, .int .i64 0, .int .i64 0] tR))
      have HR2 := hide (Row.fresh w1 tR #[.int .i64 0, .int .i64 0, .int .i64 0, .int .i64 0, .int .i64 0, .int .i64 0, .int .i64 0])
      have hqw : w.heap.size ≤ w1.heap.size := HB1.out.size
      obtain ⟨q, hq⟩ : ∃ q, q = w1.heap.size := ⟨_, rfl⟩
      obtain ⟨w2, hw'⟩ : ∃ w', w' = w1.alloc (.cells #[.int .i64 0, .int .i64 0, .int .i64 0, .int .i64 0, .int .i64 0, .int .i64 0, .int .i64 0] tR) := ⟨_, rfl⟩
      rw [← hw'] at HB2 HR2 ⊢
      rw [← hq] at HR2 hqw ⊢
      clear hw' hq
      refine hK _ _ (fun _ => ⟨agree q3 HB2.out, agree q5 HB2.out⟩) ?_
      clear hK K
      refine Rk.tree_one H14.out rfl (fun K hK => ?_)
      go_simp
      refine (rnext_any g 2 y (many + m0) _ (agree c3 HB2.out)).mono ?_
      rintro y w3 ⟨rfl, hb⟩
      have HB3 := hide (HB2.out.trans (hb.mono HB2.out.size))
      have HR3 := hide (HR2.out.below hb HR2.out.lt)
      refine hK _ _ (fun _ => ⟨agree q3 HB3.out, agree q5 HB3.out⟩) ?_
      clear hK K hb
      refine Rk.tree_one H24.out rfl (fun K hK => ?_)
      go_simp
      refine (rnext_any g 4 z (many + m1) _ (agree c5 HB3.out)).mono ?_
      rintro y w4 ⟨rfl, hb⟩
      have HB4 := hide (HB3.out.trans (hb.mono HB3.out.size))
      have HR4 := hide (HR3.out.below hb HR3.out.lt)
      refine hK _ _ (fun _ => ⟨agree q3 HB4.out, agree q5 HB4.out⟩) ?_
      clear hK K hb
      refine Rk.tree_quiet (v := ?_) H25.out rfl (fun w' hS => ?_) ⟨agree q3 HB4.out, agree q5 HB4.out⟩ ?_; rotate_left; (obtain ⟨s3, s5⟩ := hS; go_simp; with_reducible rfl); simp only [Act.put, List.setIfInBounds_toArray, List.set_cons_succ, List.set_cons_zero]
      refine Rk.tree_one H27.out rfl (fun K hK => ?_)
      have r0 := HR4.out.cell 0
      have f0 := HR4.out.free 0
      have r1 := HR4.out.cell 1
      have f1 := HR4.out.free 1
      have r2 := HR4.out.cell 2
      have f2 := HR4.out.free 2
      have r3 := HR4.out.cell 3
      have f3 := HR4.out.free 3
      have r4 := HR4.out.cell 4
      have f4 := HR4.out.free 4
      have r5 := HR4.out.cell 5
      have f5 := HR4.out.free 5
      have r6 := HR4.out.cell 6
      have f6 := HR4.out.free 6
      simp only [List.getElem?_cons_zero, List.getElem?_cons_succ] at r0 r1 r2 r3 r4 r5 r6
      go_simp
      have hrow : Row (((((((w4.setCell ⟨q, 0, none⟩ (.int .i64 0)).setCell ⟨q, 1, none⟩ (.int .i64 x)).setCell ⟨q, 2, none⟩ (.int .i64 many)).setCell ⟨q, 3, none⟩ (.int .i64 y)).setCell ⟨q, 4, none⟩ (.int .i64 (many + m0))).setCell ⟨q, 5, none⟩ (.int .i64 z)).setCell ⟨q, 6, none⟩ (.int .i64 (many + m1))) q tR (rgC ⟨0, x, many, y, many + m0, z, many + m1⟩) := (((((((HR4.out.put 0 (.int .i64 0)).put 1 (.int .i64 x)).put 2 (.int .i64 many)).put 3 (.int .i64 y)).put 4 (.int .i64 (many + m0))).put 5 (.int .i64 z)).put 6 (.int .i64 (many + m1)))
      have hbel : Below w.heap.size w (((((((w4.setCell ⟨q, 0, none⟩ (.int .i64 0)).setCell ⟨q, 1, none⟩ (.int .i64 x)).setCell ⟨q, 2, none⟩ (.int .i64 many)).setCell ⟨q, 3, none⟩ (.int .i64 y)).setCell ⟨q, 4, none⟩ (.int .i64 (many + m0))).setCell ⟨q, 5, none⟩ (.int .i64 z)).setCell ⟨q, 6, none⟩ (.int .i64 (many + m1))) := (below_put (below_put (below_put (below_put (below_put (below_put (below_put HB4.out (g := q) (i := 0) hqw (.int .i64 0)) (g := q) (i := 1) hqw (.int .i64 x)) (g := q) (i := 2) hqw (.int .i64 many)) (g := q) (i := 3) hqw (.int .i64 y)) (g := q) (i := 4) hqw (.int .i64 (many + m0))) (g := q) (i := 5) hqw (.int .i64 z)) (g := q) (i := 6) hqw (.int .i64 (many + m1)))
      obtain ⟨wf, hwf⟩ : ∃ wf, wf = (((((((w4.setCell ⟨q, 0, none⟩ (.int .i64 0)).setCell ⟨q, 1, none⟩ (.int .i64 x)).setCell ⟨q, 2, none⟩ (.int .i64 many)).setCell ⟨q, 3, none⟩ (.int .i64 y)).setCell ⟨q, 4, none⟩ (.int .i64 (many + m0))).setCell ⟨q, 5, none⟩ (.int .i64 z)).setCell ⟨q, 6, none⟩ (.int .i64 (many + m1))) := ⟨_, rfl⟩
      rw [← hwf] at hrow hbel ⊢
      refine hK _ _ (fun _ => ⟨agree q3 hbel, agree q5 hbel⟩) (Rd.tree_leaf ?_)
      exact HF.out q _ _ _ _ _ _ _ _ _ _ _ _ _ _ _ _ _ _ _ _ _ _ _ _ _ _ wf hqw hrow hbel
  · go_simp
    have HB1 := hide (HB0.out.alloc HB0.out.size (.cells #[.int .i64 0, .int .i64 0, .int .i64 0, .int .i64 0, .int .i64 0, .int .i64 0, .int .i64 0] tR))
    have HR1 := hide (Row.fresh w0 tR #[.int .i64 0, .int .i64 0, .int .i64 0, .int .i64 0, .int .i64 0, .int .i64 0, .int .i64 0])
    have hqw : w.heap.size ≤ w0.heap.size := HB0.out.size
    obtain ⟨q, hq⟩ : ∃ q, q = w0.heap.size := ⟨_, rfl⟩
    obtain ⟨w1, hw'⟩ : ∃ w', w' = w0.alloc (.cells #[.int .i64 0, .int .i64 0, .int .i64 0, .int .i64 0, .int .i64 0, .int .i64 0, .int .i64 0] tR) := ⟨_, rfl⟩
    rw [← hw'] at HB1 HR1 ⊢
    rw [← hq] at HR1 hqw ⊢
    clear hw' hq
    refine hK _ _ (fun _ => ⟨agree q3 HB1.out, agree q5 HB1.out⟩) ?_
    clear hK K
    refine Rk.tree_one H4.out rfl (fun K hK => ?_)
    go_simp
    refine (rnext_any g 0 x many _ (agree c1 HB1.out)).mono ?_
    rintro y w2 ⟨rfl, hb⟩
    have HB2 := hide (HB1.out.trans (hb.mono HB1.out.size))
    have HR2 := hide (HR1.out.below hb HR1.out.lt)
    refine hK _ _ (fun _ => ⟨agree q3 HB2.out, agree q5 HB2.out⟩) ?_
    clear hK K hb
    refine Rk.tree_one H14.out rfl (fun K hK => ?_)
    go_simp
    refine (rnext_any g 2 y (many + m0) _ (agree c3 HB2.out)).mono ?_
    rintro y w3 ⟨rfl, hb⟩
    have HB3 := hide (HB2.out.trans (hb.mono HB2.out.size))
    have HR3 := hide (HR2.out.below hb HR2.out.lt)
    refine hK _ _ (fun _ => ⟨agree q3 HB3.out, agree q5 HB3.out⟩) ?_
    clear hK K hb
    refine Rk.tree_one H24.out rfl (fun K hK => ?_)
    go_simp
    refine (rnext_any g 4 z (many + m1) _ (agree c5 HB3.out)).mono ?_
    rintro y w4 ⟨rfl, hb⟩
    have HB4 := hide (HB3.out.trans (hb.mono HB3.out.size))
    have HR4 := hide (HR3.out.below hb HR3.out.lt)
    refine hK _ _ (fun _ => ⟨agree q3 HB4.out, agree q5 HB4.out⟩) ?_
    clear hK K hb
    refine Rk.tree_quiet (v := ?_) H25.out rfl (fun w' hS => ?_) ⟨agree q3 HB4.out, agree q5 HB4.out⟩ ?_; rotate_left; (obtain ⟨s3, s5⟩ := hS; go_simp; with_reducible rfl); simp only [Act.put, List.setIfInBounds_toArray, List.set_cons_succ, List.set_cons_zero]
    refine Rk.tree_one H27.out rfl (fun K hK => ?_)
    have r0 := HR4.out.cell 0
    have f0 := HR4.out.free 0
    have r1 := HR4.out.cell 1
    have f1 := HR4.out.free 1
    have r2 := HR4.out.cell 2
    have f2 := HR4.out.free 2
    have r3 := HR4.out.cell 3
    have f3 := HR4.out.free 3
    have r4 := HR4.out.cell 4
    have f4 := HR4.out.free 4
    have r5 := HR4.out.cell 5
    have f5 := HR4.out.free 5
    have r6 := HR4.out.cell 6
    have f6 := HR4.out.free 6
    simp only [List.getElem?_cons_zero, List.getElem?_cons_succ] at r0 r1 r2 r3 r4 r5 r6
    go_simp
    have hrow : Row (((((((w4.setCell ⟨q, 0, none⟩ (.int .i64 0)).setCell ⟨q, 1, none⟩ (.int .i64 x)).setCell ⟨q, 2, none⟩ (.int .i64 many)).setCell ⟨q, 3, none⟩ (.int .i64 y)).setCell ⟨q, 4, none⟩ (.int .i64 (many + m0))).setCell ⟨q, 5, none⟩ (.int .i64 z)).setCell ⟨q, 6, none⟩ (.int .i64 (many + m1))) q tR (rgC ⟨0, x, many, y, many + m0, z, many + m1⟩) := (((((((HR4.out.put 0 (.int .i64 0)).put 1 (.int .i64 x)).put 2 (.int .i64 many)).put 3 (.int .i64 y)).put 4 (.int .i64 (many + m0))).put 5 (.int .i64 z)).put 6 (.int .i64 (many + m1)))
    have hbel : Below w.heap.size w (((((((w4.setCell ⟨q, 0, none⟩ (.int .i64 0)).setCell ⟨q, 1, none⟩ (.int .i64 x)).setCell ⟨q, 2, none⟩ (.int .i64 many)).setCell ⟨q, 3, none⟩ (.int .i64 y)).setCell ⟨q, 4, none⟩ (.int .i64 (many + m0))).setCell ⟨q, 5, none⟩ (.int .i64 z)).setCell ⟨q, 6, none⟩ (.int .i64 (many + m1))) := (below_put (below_put (below_put (below_put (below_put (below_put (below_put HB4.out (g := q) (i := 0) hqw (.int .i64 0)) (g := q) (i := 1) hqw (.int .i64 x)) (g := q) (i := 2) hqw (.int .i64 many)) (g := q) (i := 3) hqw (.int .i64 y)) (g := q) (i := 4) hqw (.int .i64 (many + m0))) (g := q) (i := 5) hqw (.int .i64 z)) (g := q) (i := 6) hqw (.int .i64 (many + m1)))
    obtain ⟨wf, hwf⟩ : ∃ wf, wf = (((((((w4.setCell ⟨q, 0, none⟩ (.int .i64 0)).setCell ⟨q, 1, none⟩ (.int .i64 x)).setCell ⟨q, 2, none⟩ (.int .i64 many)).setCell ⟨q, 3, none⟩ (.int .i64 y)).setCell ⟨q, 4, none⟩ (.int .i64 (many + m0))).setCell ⟨q, 5, none⟩ (.int .i64 z)).setCell ⟨q, 6, none⟩ (.int .i64 (many + m1))) := ⟨_, rfl⟩
    rw [← hwf] at hrow hbel ⊢
    refine hK _ _ (fun _ => ⟨agree q3 hbel, agree q5 hbel⟩) (Rd.tree_leaf ?_)
    exact HF.out q _ _ _ _ _ _ _ _ _ _ _ _ _ _ _ _ _ _ _ _ _ _ _ _ _ _ wf hqw hrow hbel
end Go.Proofs.Ytofccahgmkifjaa.Al
