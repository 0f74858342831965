/-
  A region is added: its lines are gone through, its kind is told, it is appended.
-/
import Derived.BigQuiet
import Derived.Test.YtghnieddokhagaaQKR
import Derived.Test.YtghnieddokhagaaQReg
import Derived.Test.YtghnieddokhagaaJK
import Derived.Test.YtghnieddokhagaaQJH
import Derived.Test.YtghnieddokhagaaQEK
namespace Go.Proofs.Ytghnieddokhagaa.Al
open Go Go.RowKit Kt Kg Lw Li Df Kf

/-- the cells of lists that are parted -/
def psC (Ao : Option Addr) (no co : Nat) (x : Int) (Aa : Option Addr) (na ca : Nat) (y : Int) (Ab : Option Addr) (nb cb : Nat) (z : Int) (v : Value) : List Value :=
  [.slice Ao no co, .int .i64 x, .slice Aa na ca, .int .i64 y, .slice Ab nb cb, .int .i64 z, v]

set_option maxRecDepth 100000 in
set_option maxHeartbeats 4000000 in
theorem add_r3 {g q0 q : Nat} {Ao Aa Ab : Option Addr} {no co na ca nb cb : Nat} {w : World} {X M : Nat} {y z : Int} {v k0 : Value} {R : List Value} {B : Code} {K : Act → World → Prop} {Q' : Exit → Act → World → Prop} (x1 x2 x4 x6 x7 x8 x9 x10 x11 x12 x13 x14 x15 x16 x17 x18 x19 x20 x21 x22 x23 x24 x25 x26 x27 x28 x29 x30 x31 x32 x33 x34 x35 x36 x37 x38 x39 x40 x41 x42 x43 x44 x45 x46 x47 x48 x49 x50 x51 x52 x53 x54 x55 x56 x57 x58 x59 x60 x61 x62 x63 x64 x65 x66 : Value)
    (hB : B = (findR 3 (Try.f60.body.getD .skip)).getD .skip) (hr : Row w g tPs (psC Ao no co X Aa na ca y Ab nb cb z v)) (hq : Row w q tR (k0 :: .int .i64 X :: .int .i64 M :: R)) (hgq : q ≠ g) (hX : X + M ≤ co) (hc : X + M ≤ 1000000000)
    (hK : ∀ (u37 u38 u39 u40 u41 u42 : Value) (wx : World) , Row wx g tPs (psC Ao no co (X + M : Nat) Aa na ca y Ab nb cb z v) → w.grownBy wx (some g) → K { tmps := List.toArray ((.pointer (some ⟨g, 0, none⟩)) :: x1 :: x2 :: (.pointer (some ⟨q0, 0, none⟩)) :: x4 :: (.pointer (some ⟨q, 0, none⟩)) :: x6 :: x7 :: x8 :: x9 :: x10 :: x11 :: x12 :: x13 :: x14 :: x15 :: x16 :: x17 :: x18 :: x19 :: x20 :: x21 :: x22 :: x23 :: x24 :: x25 :: x26 :: x27 :: x28 :: x29 :: x30 :: x31 :: x32 :: x33 :: x34 :: x35 :: x36 :: (u37) :: (u38) :: (u39) :: (u40) :: (u41) :: (u42) :: x43 :: x44 :: x45 :: x46 :: x47 :: x48 :: x49 :: x50 :: x51 :: x52 :: x53 :: x54 :: x55 :: x56 :: x57 :: x58 :: x59 :: x60 :: x61 :: x62 :: x63 :: x64 :: x65 :: x66 :: []), defers := [] } wx) :
    Code.wp Try.prog B (Exit.then K Q') { tmps := List.toArray ((.pointer (some ⟨g, 0, none⟩)) :: x1 :: x2 :: (.pointer (some ⟨q0, 0, none⟩)) :: x4 :: (.pointer (some ⟨q, 0, none⟩)) :: x6 :: x7 :: x8 :: x9 :: x10 :: x11 :: x12 :: x13 :: x14 :: x15 :: x16 :: x17 :: x18 :: x19 :: x20 :: x21 :: x22 :: x23 :: x24 :: x25 :: x26 :: x27 :: x28 :: x29 :: x30 :: x31 :: x32 :: x33 :: x34 :: x35 :: x36 :: x37 :: x38 :: x39 :: x40 :: x41 :: x42 :: x43 :: x44 :: x45 :: x46 :: x47 :: x48 :: x49 :: x50 :: x51 :: x52 :: x53 :: x54 :: x55 :: x56 :: x57 :: x58 :: x59 :: x60 :: x61 :: x62 :: x63 :: x64 :: x65 :: x66 :: []), defers := [] } w := by
  have HF := hide hK
  clear hK
  have q1 := hq.cell 1
  have q2 := hq.cell 2
  simp only [List.getElem?_cons_zero, List.getElem?_cons_succ] at q1 q2
  have Hr := hide hr
  have Hq := hide hq
  clear hq hr
  subst hB
  conv => arg 2; whnf
  refine Rd.wp_region_tree (fun w' => w'.cell? ⟨q, 1, none⟩ = some (.int .i64 X) ∧ w'.cell? ⟨q, 2, none⟩ = some (.int .i64 M)) (.take 0 (.take 1 (.take 2 (.take 3 (.take 4 (.one 5 .leaf)))))) (by kernel_rfl) (by kernel_rfl) ?_
  generalize hl : List.cons _ _ = lo
  have H0 := congrArg (fun l => List.getD l 0 default) hl.symm
  simp only [List.getD_cons_zero] at H0
  replace H0 := hide H0
  have H1 := congrArg (fun l => List.getD l 1 default) hl.symm
  simp only [List.getD_cons_zero, List.getD_cons_succ] at H1
  replace H1 := hide H1
  have H2 := congrArg (fun l => List.getD l 2 default) hl.symm
  simp only [List.getD_cons_zero, List.getD_cons_succ] at H2
  replace H2 := hide H2
  have H3 := congrArg (fun l => List.getD l 3 default) hl.symm
  simp only [List.getD_cons_zero, List.getD_cons_succ] at H3
  replace H3 := hide H3
  have H4 := congrArg (fun l => List.getD l 4 default) hl.symm
  simp only [List.getD_cons_zero, List.getD_cons_succ] at H4
  replace H4 := hide H4
  have H5 := congrArg (fun l => List.getD l 5 default) hl.symm
  simp only [List.getD_cons_zero, List.getD_cons_succ] at H5
  replace H5 := hide H5
  clear hl
  refine Rk.tree_quiet (v := ?_) H0.out rfl (fun w' hS => ?_) ⟨q1, q2⟩ ?_; rotate_left; (obtain ⟨s1, s2⟩ := hS; go_simp; with_reducible rfl); simp only [Act.put, List.setIfInBounds_toArray, List.set_cons_succ, List.set_cons_zero]
  refine Rk.tree_quiet (v := ?_) H1.out rfl (fun w' hS => ?_) ⟨q1, q2⟩ ?_; rotate_left; (obtain ⟨s1, s2⟩ := hS; go_simp; with_reducible rfl); simp only [Act.put, List.setIfInBounds_toArray, List.set_cons_succ, List.set_cons_zero]
  refine Rk.tree_quiet (v := ?_) H2.out rfl (fun w' hS => ?_) ⟨q1, q2⟩ ?_; rotate_left; (obtain ⟨s1, s2⟩ := hS; go_simp; with_reducible rfl); simp only [Act.put, List.setIfInBounds_toArray, List.set_cons_succ, List.set_cons_zero]
  refine Rk.tree_quiet (v := ?_) H3.out rfl (fun w' hS => ?_) ⟨q1, q2⟩ ?_; rotate_left; (obtain ⟨s1, s2⟩ := hS; go_simp; with_reducible rfl); simp only [Act.put, List.setIfInBounds_toArray, List.set_cons_succ, List.set_cons_zero]
  refine Rk.tree_quiet (v := ?_) H4.out rfl (fun w' hS => ?_) ⟨q1, q2⟩ ?_; rotate_left; (obtain ⟨s1, s2⟩ := hS; go_simp; with_reducible rfl); simp only [Act.put, List.setIfInBounds_toArray, List.set_cons_succ, List.set_cons_zero]
  refine Rk.tree_one H5.out rfl (fun K hK => ?_)
  go_simp
  refine (rtake_any g 0 X M Ao no co w.drew tPs _ Hr.out.drew rfl rfl hX hc).mono ?_
  rintro y wx ⟨rfl, hrx, hgx⟩
  have hq' := Hq.out.drew.grown hgx (fun e => hgq (Option.some.inj e))
  refine hK _ _ (fun _ => ⟨hq'.cell 1, hq'.cell 2⟩) (Rd.tree_leaf ?_)
  exact HF.out _ _ _ _ _ _ wx hrx ⟨hgx.os, hgx.tape, hgx.output, hgx.size, hgx.block⟩
set_option maxRecDepth 100000 in
set_option maxHeartbeats 4000000 in
theorem add_r4 {g q0 q : Nat} {Ao Aa Ab : Option Addr} {no co na ca nb cb : Nat} {w : World} {Y M1 Z M2 : Nat} {x : Int} {v k0 k1 k2 : Value} {a b : Ls} {c : Cl} {P P' : Nat → Prop} {B : Code} {K : Act → World → Prop} {Q' : Exit → Act → World → Prop} (x1 x2 x4 x6 x7 x8 x9 x10 x11 x12 x13 x14 x15 x16 x17 x18 x19 x20 x21 x22 x23 x24 x25 x26 x27 x28 x29 x30 x31 x32 x33 x34 x35 x36 x37 x38 x39 x40 x41 x42 x43 x44 x45 x46 x47 x48 x49 x50 x51 x52 x53 x54 x55 x56 x57 x58 x59 x60 x61 x62 x63 x64 x65 x66 : Value)
    (hB : B = (findR 4 (Try.f60.body.getD .skip)).getD .skip) (hr : Row w g tPs (psC Ao no co x Aa na ca Y Ab nb cb Z v)) (hq : Row w q tR [k0, k1, k2, .int .i64 Y, .int .i64 M1, .int .i64 Z, .int .i64 M2]) (hgq : q ≠ g) (h0 : Row w q0 tC (clC c)) (hg0 : q0 ≠ g)
    (hva : Vs w P Aa ca (texts a)) (hvb : Vs w P' Ab cb (texts b)) (hP : ∀ b, P b → b ≠ g) (hP' : ∀ b, P' b → b ≠ g) (hna : na = a.length) (hnb : nb = b.length) (hY : Y + M1 ≤ na) (hZ : Z + M2 ≤ nb) (hca : na ≤ 1000000000) (hcb : nb ≤ 1000000000)
    (hK : ∀ (u43 u44 u45 u46 u47 u48 u49 u50 u51 u52 u53 u54 u55 u56 : Value) (wx : World) , Row wx g tPs (psC Ao no co x Aa na ca (Y + M1 : Nat) Ab nb cb (Z + M2 : Nat) v) → Row wx q tR [.int .i64 (kindOf c (cut a Y M1) (cut b Z M2)), k1, k2, .int .i64 Y, .int .i64 M1, .int .i64 Z, .int .i64 M2] → Oth (fun k => k = g ∨ k = q) w wx → K { tmps := List.toArray ((.pointer (some ⟨g, 0, none⟩)) :: x1 :: x2 :: (.pointer (some ⟨q0, 0, none⟩)) :: x4 :: (.pointer (some ⟨q, 0, none⟩)) :: x6 :: x7 :: x8 :: x9 :: x10 :: x11 :: x12 :: x13 :: x14 :: x15 :: x16 :: x17 :: x18 :: x19 :: x20 :: x21 :: x22 :: x23 :: x24 :: x25 :: x26 :: x27 :: x28 :: x29 :: x30 :: x31 :: x32 :: x33 :: x34 :: x35 :: x36 :: x37 :: x38 :: x39 :: x40 :: x41 :: x42 :: (u43) :: (u44) :: (u45) :: (u46) :: (u47) :: (u48) :: (u49) :: (u50) :: (u51) :: (u52) :: (u53) :: (u54) :: (u55) :: (u56) :: x57 :: x58 :: x59 :: x60 :: x61 :: x62 :: x63 :: x64 :: x65 :: x66 :: []), defers := [] } wx) :
    Code.wp Try.prog B (Exit.then K Q') { tmps := List.toArray ((.pointer (some ⟨g, 0, none⟩)) :: x1 :: x2 :: (.pointer (some ⟨q0, 0, none⟩)) :: x4 :: (.pointer (some ⟨q, 0, none⟩)) :: x6 :: x7 :: x8 :: x9 :: x10 :: x11 :: x12 :: x13 :: x14 :: x15 :: x16 :: x17 :: x18 :: x19 :: x20 :: x21 :: x22 :: x23 :: x24 :: x25 :: x26 :: x27 :: x28 :: x29 :: x30 :: x31 :: x32 :: x33 :: x34 :: x35 :: x36 :: x37 :: x38 :: x39 :: x40 :: x41 :: x42 :: x43 :: x44 :: x45 :: x46 :: x47 :: x48 :: x49 :: x50 :: x51 :: x52 :: x53 :: x54 :: x55 :: x56 :: x57 :: x58 :: x59 :: x60 :: x61 :: x62 :: x63 :: x64 :: x65 :: x66 :: []), defers := [] } w := by
  have HF := hide hK
  clear hK
  have q3 := hq.cell 3
  have q4 := hq.cell 4
  have q5 := hq.cell 5
  have q6 := hq.cell 6
  simp only [List.getElem?_cons_zero, List.getElem?_cons_succ] at q3 q4 q5 q6
  have hca1 := hva.1
  have hcb1 := hvb.1
  rw [texts_len, ← hna] at hca1
  rw [texts_len, ← hnb] at hcb1
  have Hr := hide hr
  have Hq := hide hq
  have H0c := hide h0
  have Hva := hide hva
  have Hvb := hide hvb
  have Hca := hide hca1
  have Hcb := hide hcb1
  have ep : Hid ((cut a Y M1).length = M1) := by unfold cut; rw [List.length_take, List.length_drop]; show Hid _; exact hide (by omega)
  have eq : Hid ((cut b Z M2).length = M2) := by unfold cut; rw [List.length_take, List.length_drop]; show Hid _; exact hide (by omega)
  have Hna := hide hna
  have Hnb := hide hnb
  clear hq hr h0 hva hvb hca1 hcb1 hna hnb
  subst hB
  conv => arg 2; whnf
  refine Rd.wp_region_tree (fun w' => w'.cell? ⟨q, 3, none⟩ = some (.int .i64 Y) ∧ w'.cell? ⟨q, 4, none⟩ = some (.int .i64 M1) ∧ w'.cell? ⟨q, 5, none⟩ = some (.int .i64 Z) ∧ w'.cell? ⟨q, 6, none⟩ = some (.int .i64 M2)) (.take 0 (.take 1 (.take 2 (.take 3 (.take 4 (.take 6 (.take 7 (.take 8 (.take 9 (.take 10 (.one 5 (.one 11 (.one 12 (.take 13 (.one 14 .leaf))))))))))))))) (by kernel_rfl) (by kernel_rfl) ?_
  generalize hl : List.cons _ _ = lo
  have H0 := congrArg (fun l => List.getD l 0 default) hl.symm
  simp only [List.getD_cons_zero] at H0
  replace H0 := hide H0
  have H1 := congrArg (fun l => List.getD l 1 default) hl.symm
  simp only [List.getD_cons_zero, List.getD_cons_succ] at H1
  replace H1 := hide H1
  have H2 := congrArg (fun l => List.getD l 2 default) hl.symm
  simp only [List.getD_cons_zero, List.getD_cons_succ] at H2
  replace H2 := hide H2
  have H3 := congrArg (fun l => List.getD l 3 default) hl.symm
  simp only [List.getD_cons_zero, List.getD_cons_succ] at H3
  replace H3 := hide H3
  have H4 := congrArg (fun l => List.getD l 4 default) hl.symm
  simp only [List.getD_cons_zero, List.getD_cons_succ] at H4
  replace H4 := hide H4
  have H5 := congrArg (fun l => List.getD l 5 default) hl.symm
  simp only [List.getD_cons_zero, List.getD_cons_succ] at H5
  replace H5 := hide H5
  have H6 := congrArg (fun l => List.getD l 6 default) hl.symm
  simp only [List.getD_cons_zero, List.getD_cons_succ] at H6
  replace H6 := hide H6
  have H7 := congrArg (fun l => List.getD l 7 default) hl.symm
  simp only [List.getD_cons_zero, List.getD_cons_succ] at H7
  replace H7 := hide H7
  have H8 := congrArg (fun l => List.getD l 8 default) hl.symm
  simp only [List.getD_cons_zero, List.getD_cons_succ] at H8
  replace H8 := hide H8
  have H9 := congrArg (fun l => List.getD l 9 default) hl.symm
  simp only [List.getD_cons_zero, List.getD_cons_succ] at H9
  replace H9 := hide H9
  have H10 := congrArg (fun l => List.getD l 10 default) hl.symm
  simp only [List.getD_cons_zero, List.getD_cons_succ] at H10
  replace H10 := hide H10
  have H11 := congrArg (fun l => List.getD l 11 default) hl.symm
  simp only [List.getD_cons_zero, List.getD_cons_succ] at H11
  replace H11 := hide H11
  have H12 := congrArg (fun l => List.getD l 12 default) hl.symm
  simp only [List.getD_cons_zero, List.getD_cons_succ] at H12
  replace H12 := hide H12
  have H13 := congrArg (fun l => List.getD l 13 default) hl.symm
  simp only [List.getD_cons_zero, List.getD_cons_succ] at H13
  replace H13 := hide H13
  have H14 := congrArg (fun l => List.getD l 14 default) hl.symm
  simp only [List.getD_cons_zero, List.getD_cons_succ] at H14
  replace H14 := hide H14
  clear hl
  refine Rk.tree_quiet (v := ?_) H0.out rfl (fun w' hS => ?_) ⟨q3, q4, q5, q6⟩ ?_; rotate_left; (obtain ⟨s3, s4, s5, s6⟩ := hS; go_simp; with_reducible rfl); simp only [Act.put, List.setIfInBounds_toArray, List.set_cons_succ, List.set_cons_zero]
  refine Rk.tree_quiet (v := ?_) H1.out rfl (fun w' hS => ?_) ⟨q3, q4, q5, q6⟩ ?_; rotate_left; (obtain ⟨s3, s4, s5, s6⟩ := hS; go_simp; with_reducible rfl); simp only [Act.put, List.setIfInBounds_toArray, List.set_cons_succ, List.set_cons_zero]
  refine Rk.tree_quiet (v := ?_) H2.out rfl (fun w' hS => ?_) ⟨q3, q4, q5, q6⟩ ?_; rotate_left; (obtain ⟨s3, s4, s5, s6⟩ := hS; go_simp; with_reducible rfl); simp only [Act.put, List.setIfInBounds_toArray, List.set_cons_succ, List.set_cons_zero]
  refine Rk.tree_quiet (v := ?_) H3.out rfl (fun w' hS => ?_) ⟨q3, q4, q5, q6⟩ ?_; rotate_left; (obtain ⟨s3, s4, s5, s6⟩ := hS; go_simp; with_reducible rfl); simp only [Act.put, List.setIfInBounds_toArray, List.set_cons_succ, List.set_cons_zero]
  refine Rk.tree_quiet (v := ?_) H4.out rfl (fun w' hS => ?_) ⟨q3, q4, q5, q6⟩ ?_; rotate_left; (obtain ⟨s3, s4, s5, s6⟩ := hS; go_simp; with_reducible rfl); simp only [Act.put, List.setIfInBounds_toArray, List.set_cons_succ, List.set_cons_zero]
  refine Rk.tree_quiet (v := ?_) H6.out rfl (fun w' hS => ?_) ⟨q3, q4, q5, q6⟩ ?_; rotate_left; (obtain ⟨s3, s4, s5, s6⟩ := hS; go_simp; with_reducible rfl); simp only [Act.put, List.setIfInBounds_toArray, List.set_cons_succ, List.set_cons_zero]
  refine Rk.tree_quiet (v := ?_) H7.out rfl (fun w' hS => ?_) ⟨q3, q4, q5, q6⟩ ?_; rotate_left; (obtain ⟨s3, s4, s5, s6⟩ := hS; go_simp; with_reducible rfl); simp only [Act.put, List.setIfInBounds_toArray, List.set_cons_succ, List.set_cons_zero]
  refine Rk.tree_quiet (v := ?_) H8.out rfl (fun w' hS => ?_) ⟨q3, q4, q5, q6⟩ ?_; rotate_left; (obtain ⟨s3, s4, s5, s6⟩ := hS; go_simp; with_reducible rfl); simp only [Act.put, List.setIfInBounds_toArray, List.set_cons_succ, List.set_cons_zero]
  refine Rk.tree_quiet (v := ?_) H9.out rfl (fun w' hS => ?_) ⟨q3, q4, q5, q6⟩ ?_; rotate_left; (obtain ⟨s3, s4, s5, s6⟩ := hS; go_simp; with_reducible rfl); simp only [Act.put, List.setIfInBounds_toArray, List.set_cons_succ, List.set_cons_zero]
  refine Rk.tree_quiet (v := ?_) H10.out rfl (fun w' hS => ?_) ⟨q3, q4, q5, q6⟩ ?_; rotate_left; (obtain ⟨s3, s4, s5, s6⟩ := hS; go_simp; with_reducible rfl); simp only [Act.put, List.setIfInBounds_toArray, List.set_cons_succ, List.set_cons_zero]
  refine Rk.tree_one H5.out rfl (fun K hK => ?_)
  go_simp
  refine (rtake_any g 2 Y M1 Aa na ca w.drew tPs _ Hr.out.drew rfl rfl (by have := Hca.out; omega) (by omega)).mono ?_
  rintro y w1 ⟨rfl, hr1, hg1⟩
  obtain ⟨A1, hA1⟩ : ∃ A1, A1 = (if ca = Y then Aa else Aa.map (·.add Y)) := ⟨_, rfl⟩
  have Hv1 := hide (vs_cut Hva.out (i := Y) (j := Y + M1) (by omega) (by have := Hna.out; omega))
  rw [← hA1] at Hv1 ⊢
  have Hr1 := hide hr1
  have Hg1 := hide (show w.grownBy w1 (some g) from ⟨hg1.os, hg1.tape, hg1.output, hg1.size, hg1.block⟩)
  have Hq1 := hide (Hq.out.grown Hg1.out (fun e => hgq (Option.some.inj e)))
  have H01 := hide (H0c.out.grown Hg1.out (fun e => hg0 (Option.some.inj e)))
  clear hA1 hr1 hg1
  refine hK _ _ (fun _ => ⟨Hq1.out.cell 3, Hq1.out.cell 4, Hq1.out.cell 5, Hq1.out.cell 6⟩) ?_
  clear hK K
  refine Rk.tree_one H11.out rfl (fun K hK => ?_)
  go_simp
  refine (rtake_any g 4 Z M2 Ab nb cb w1 tPs _ Hr1.out rfl rfl (by have := Hcb.out; omega) (by omega)).mono ?_
  rintro y w2 ⟨rfl, hr2, hg2⟩
  obtain ⟨A2, hA2⟩ : ∃ A2, A2 = (if cb = Z then Ab else Ab.map (·.add Z)) := ⟨_, rfl⟩
  have Hv2 := hide (vs_cut Hvb.out (i := Z) (j := Z + M2) (by omega) (by have := Hnb.out; omega))
  rw [← hA2] at Hv2 ⊢
  have Hr2 := hide hr2
  have Hg2 := hide (grown_two Hg1.out hg2)
  have Hq2 := hide (Hq.out.grown Hg2.out (fun e => hgq (Option.some.inj e)))
  have H02 := hide (H0c.out.grown Hg2.out (fun e => hg0 (Option.some.inj e)))
  clear hA2 hr2 hg2
  refine hK _ _ (fun _ => ⟨Hq2.out.cell 3, Hq2.out.cell 4, Hq2.out.cell 5, Hq2.out.cell 6⟩) ?_
  clear hK K
  have HK := kind_any q0 c (cut a Y M1) (cut b Z M2) A1 A2 (ca - Y) (cb - Z) _ _ w2 H02.out
    (by have h := Lw.Vs.move Hv1.out fun k hk hlt => Hg2.out.block k hlt fun e => hP k hk (Option.some.inj e)
        unfold cut; rw [Int.toNat_natCast, Int.toNat_natCast]; rwa [show Y + M1 - Y = M1 by omega] at h)
    (by have h := Lw.Vs.move Hv2.out fun k hk hlt => Hg2.out.block k hlt fun e => hP' k hk (Option.some.inj e)
        unfold cut; rw [Int.toNat_natCast, Int.toNat_natCast]; rwa [show Z + M2 - Z = M2 by omega] at h) (by rw [ep.out]; have := Hca.out; omega)
  rw [ep.out, eq.out] at HK
  obtain ⟨kd, hkd⟩ : ∃ kd, kd = kindOf c (cut a Y M1) (cut b Z M2) := ⟨_, rfl⟩
  rw [← hkd] at HK HF
  have HK := hide HK
  clear hkd
  refine Rk.tree_one H12.out rfl (fun K hK => ?_)
  go_simp
  refine HK.out.mono ?_
  rintro y w3 ⟨rfl, hb3⟩
  have Hq3 := hide (Hq2.out.below hb3 Hq2.out.lt)
  have Hr3 := hide (Hr2.out.below hb3 Hr2.out.lt)
  have Hb3 := hide hb3
  clear hb3
  refine hK _ _ (fun _ => ⟨Hq3.out.cell 3, Hq3.out.cell 4, Hq3.out.cell 5, Hq3.out.cell 6⟩) ?_
  clear hK K
  refine Rk.tree_quiet (v := ?_) H13.out rfl (fun w' hS => ?_) ⟨Hq3.out.cell 3, Hq3.out.cell 4, Hq3.out.cell 5, Hq3.out.cell 6⟩ ?_; rotate_left; (obtain ⟨s3, s4, s5, s6⟩ := hS; go_simp; with_reducible rfl); simp only [Act.put, List.setIfInBounds_toArray, List.set_cons_succ, List.set_cons_zero]
  refine Rk.tree_one H14.out rfl (fun K hK => ?_)
  have e0 := Hq3.out.cell 0
  have f0 := Hq3.out.free 0
  simp only [List.getElem?_cons_zero] at e0
  go_simp
  have Hq4 := Hq3.out.put 0 (.int .i64 kd)
  have Hr4 := Hr3.out.off (Ne.symm hgq) (i := 0) (.int .i64 kd)
  have ho4 : Oth (fun k => k = g ∨ k = q) w (w3.setCell ⟨q, 0, none⟩ (.int .i64 kd)) :=
    ((Oth.of_grown Hg2.out fun k e => .inl (Option.some.inj e).symm).trans (Oth.of_below (fun _ => False) Hb3.out) fun _ _ h => h.elim).put (.inl (.inr rfl)) _
  refine hK _ _ (fun _ => ⟨Hq4.cell 3, Hq4.cell 4, Hq4.cell 5, Hq4.cell 6⟩) (Rd.tree_leaf ?_)
  exact HF.out _ _ _ _ _ _ _ _ _ _ _ _ _ _ _ Hr4 Hq4 ho4
set_option maxRecDepth 100000 in
set_option maxHeartbeats 4000000 in
theorem add_r5 {g q0 q : Nat} {Ao Aa Ab : Option Addr} {no co na ca nb cb : Nat} {w : World} {x y z : Int} {v : Value} {l : List Rg} {r : Rg} {B0 : Nat} {B : Code} {K : Act → World → Prop} {Q' : Exit → Act → World → Prop} (x1 x2 x4 x6 x7 x8 x9 x10 x11 x12 x13 x14 x15 x16 x17 x18 x19 x20 x21 x22 x23 x24 x25 x26 x27 x28 x29 x30 x31 x32 x33 x34 x35 x36 x37 x38 x39 x40 x41 x42 x43 x44 x45 x46 x47 x48 x49 x50 x51 x52 x53 x54 x55 x56 x57 x58 x59 x60 x61 x62 x63 x64 x65 x66 : Value)
    (hB : B = (findR 5 (Try.f60.body.getD .skip)).getD .skip) (hr : Row w g tPs (psC Ao no co x Aa na ca y Ab nb cb z v)) (hq : Row w q tR (rgC r)) (hgq : q ≠ g) (ho : OwR w B0 v l) (hB0 : B0 ≤ w.heap.size) (hqv : ∀ b, v.ownBlock = some b → b ≠ q) (hl : l.length + 1 ≤ 1000000000)
    (hK : ∀ (u57 u58 u59 u60 u61 u62 u63 u64 u65 u66 : Value) (wx : World)  (v' : Value), Row wx g tPs (psC Ao no co x Aa na ca y Ab nb cb z v') → OwR wx B0 v' (l ++ [r]) → Oth (fun k => k = g ∨ v.ownBlock = some k) w wx → K { tmps := List.toArray ((.pointer (some ⟨g, 0, none⟩)) :: x1 :: x2 :: (.pointer (some ⟨q0, 0, none⟩)) :: x4 :: (.pointer (some ⟨q, 0, none⟩)) :: x6 :: x7 :: x8 :: x9 :: x10 :: x11 :: x12 :: x13 :: x14 :: x15 :: x16 :: x17 :: x18 :: x19 :: x20 :: x21 :: x22 :: x23 :: x24 :: x25 :: x26 :: x27 :: x28 :: x29 :: x30 :: x31 :: x32 :: x33 :: x34 :: x35 :: x36 :: x37 :: x38 :: x39 :: x40 :: x41 :: x42 :: x43 :: x44 :: x45 :: x46 :: x47 :: x48 :: x49 :: x50 :: x51 :: x52 :: x53 :: x54 :: x55 :: x56 :: (u57) :: (u58) :: (u59) :: (u60) :: (u61) :: (u62) :: (u63) :: (u64) :: (u65) :: (u66) :: []), defers := [] } wx) :
    Code.wp Try.prog B (Exit.then K Q') { tmps := List.toArray ((.pointer (some ⟨g, 0, none⟩)) :: x1 :: x2 :: (.pointer (some ⟨q0, 0, none⟩)) :: x4 :: (.pointer (some ⟨q, 0, none⟩)) :: x6 :: x7 :: x8 :: x9 :: x10 :: x11 :: x12 :: x13 :: x14 :: x15 :: x16 :: x17 :: x18 :: x19 :: x20 :: x21 :: x22 :: x23 :: x24 :: x25 :: x26 :: x27 :: x28 :: x29 :: x30 :: x31 :: x32 :: x33 :: x34 :: x35 :: x36 :: x37 :: x38 :: x39 :: x40 :: x41 :: x42 :: x43 :: x44 :: x45 :: x46 :: x47 :: x48 :: x49 :: x50 :: x51 :: x52 :: x53 :: x54 :: x55 :: x56 :: x57 :: x58 :: x59 :: x60 :: x61 :: x62 :: x63 :: x64 :: x65 :: x66 :: []), defers := [] } w := by
  have HF := hide hK
  clear hK
  have q0' := hq.cell 0
  have q1 := hq.cell 1
  have q2 := hq.cell 2
  have q3 := hq.cell 3
  have q4 := hq.cell 4
  have q5 := hq.cell 5
  have q6 := hq.cell 6
  have g6 := hr.cell 6
  simp only [rgC, psC, List.getElem?_cons_zero, List.getElem?_cons_succ] at q0' q1 q2 q3 q4 q5 q6 g6
  obtain ⟨Av, cv, rfl, _⟩ := ho.rgs
  have hgv := OwR.ne hr (by decide) ho
  obtain ⟨nl, hnl⟩ : ∃ nl, nl = l.length := ⟨_, rfl⟩
  have Hnl := hide hnl
  rw [← hnl] at g6
  have Hr := hide hr
  have Hq := hide hq
  have Ho := hide ho
  have Hgv := hide hgv
  have Hqv := hide hqv
  have HB0 := hide hB0
  clear hr hq ho hgv hqv hB0 hnl
  subst hB
  conv => arg 2; whnf
  refine Rd.wp_region_tree (fun w' => w'.cell? ⟨g, 6, none⟩ = some (.slice Av nl cv) ∧ w'.cell? ⟨q, 0, none⟩ = some (.int .i64 r.kind) ∧ w'.cell? ⟨q, 1, none⟩ = some (.int .i64 r.o0) ∧ w'.cell? ⟨q, 2, none⟩ = some (.int .i64 r.on) ∧ w'.cell? ⟨q, 3, none⟩ = some (.int .i64 r.a0) ∧ w'.cell? ⟨q, 4, none⟩ = some (.int .i64 r.an) ∧ w'.cell? ⟨q, 5, none⟩ = some (.int .i64 r.b0) ∧ w'.cell? ⟨q, 6, none⟩ = some (.int .i64 r.bn)) (.take 0 (.take 1 (.take 2 (.take 3 (.take 4 (.take 5 (.one 6 (.one 7 (.take 8 (.take 9 (.one 10 .leaf))))))))))) (by kernel_rfl) (by kernel_rfl) ?_
  generalize hl : List.cons _ _ = lo
  have H0 := congrArg (fun l => List.getD l 0 default) hl.symm
  simp only [List.getD_cons_zero] at H0
  replace H0 := hide H0
  have H1 := congrArg (fun l => List.getD l 1 default) hl.symm
  simp only [List.getD_cons_zero, List.getD_cons_succ] at H1
  replace H1 := hide H1
  have H2 := congrArg (fun l => List.getD l 2 default) hl.symm
  simp only [List.getD_cons_zero, List.getD_cons_succ] at H2
  replace H2 := hide H2
  have H3 := congrArg (fun l => List.getD l 3 default) hl.symm
  simp only [List.getD_cons_zero, List.getD_cons_succ] at H3
  replace H3 := hide H3
  have H4 := congrArg (fun l => List.getD l 4 default) hl.symm
  simp only [List.getD_cons_zero, List.getD_cons_succ] at H4
  replace H4 := hide H4
  have H5 := congrArg (fun l => List.getD l 5 default) hl.symm
  simp only [List.getD_cons_zero, List.getD_cons_succ] at H5
  replace H5 := hide H5
  have H6 := congrArg (fun l => List.getD l 6 default) hl.symm
  simp only [List.getD_cons_zero, List.getD_cons_succ] at H6
  replace H6 := hide H6
  have H7 := congrArg (fun l => List.getD l 7 default) hl.symm
  simp only [List.getD_cons_zero, List.getD_cons_succ] at H7
  replace H7 := hide H7
  have H8 := congrArg (fun l => List.getD l 8 default) hl.symm
  simp only [List.getD_cons_zero, List.getD_cons_succ] at H8
  replace H8 := hide H8
  have H9 := congrArg (fun l => List.getD l 9 default) hl.symm
  simp only [List.getD_cons_zero, List.getD_cons_succ] at H9
  replace H9 := hide H9
  have H10 := congrArg (fun l => List.getD l 10 default) hl.symm
  simp only [List.getD_cons_zero, List.getD_cons_succ] at H10
  replace H10 := hide H10
  have HSK : Hid (Rg.sink lo.toArray 10 = true) := by rw [← hl]; show _ = _; kernel_rfl
  clear hl
  refine Rk.tree_quiet (v := ?_) H0.out rfl (fun w' hS => ?_) ⟨g6, q0', q1, q2, q3, q4, q5, q6⟩ ?_; rotate_left; (obtain ⟨sg, s0, s1, s2, s3, s4, s5, s6⟩ := hS; go_simp; with_reducible rfl); simp only [Act.put, List.setIfInBounds_toArray, List.set_cons_succ, List.set_cons_zero]
  refine Rk.tree_quiet (v := ?_) H1.out rfl (fun w' hS => ?_) ⟨g6, q0', q1, q2, q3, q4, q5, q6⟩ ?_; rotate_left; (obtain ⟨sg, s0, s1, s2, s3, s4, s5, s6⟩ := hS; go_simp; with_reducible rfl); simp only [Act.put, List.setIfInBounds_toArray, List.set_cons_succ, List.set_cons_zero]
  refine Rk.tree_quiet (v := ?_) H2.out rfl (fun w' hS => ?_) ⟨g6, q0', q1, q2, q3, q4, q5, q6⟩ ?_; rotate_left; (obtain ⟨sg, s0, s1, s2, s3, s4, s5, s6⟩ := hS; go_simp; with_reducible rfl); simp only [Act.put, List.setIfInBounds_toArray, List.set_cons_succ, List.set_cons_zero]
  refine Rk.tree_quiet (v := ?_) H3.out rfl (fun w' hS => ?_) ⟨g6, q0', q1, q2, q3, q4, q5, q6⟩ ?_; rotate_left; (obtain ⟨sg, s0, s1, s2, s3, s4, s5, s6⟩ := hS; go_simp; with_reducible rfl); simp only [Act.put, List.setIfInBounds_toArray, List.set_cons_succ, List.set_cons_zero]
  refine Rk.tree_quiet (v := ?_) H4.out rfl (fun w' hS => ?_) ⟨g6, q0', q1, q2, q3, q4, q5, q6⟩ ?_; rotate_left; (obtain ⟨sg, s0, s1, s2, s3, s4, s5, s6⟩ := hS; go_simp; with_reducible rfl); simp only [Act.put, List.setIfInBounds_toArray, List.set_cons_succ, List.set_cons_zero]
  refine Rk.tree_quiet (v := ?_) H5.out rfl (fun w' hS => ?_) ⟨g6, q0', q1, q2, q3, q4, q5, q6⟩ ?_; rotate_left; (obtain ⟨sg, s0, s1, s2, s3, s4, s5, s6⟩ := hS; go_simp; with_reducible rfl); simp only [Act.put, List.setIfInBounds_toArray, List.set_cons_succ, List.set_cons_zero]
  refine Rk.tree_one H6.out rfl (fun K hK => ?_)
  go_simp
  have Hr1 := hide ((Hr.out.drew).alloc (.cells (rgC r).toArray tR))
  have Hq1 := hide ((Hq.out.drew).alloc (.cells (rgC r).toArray tR))
  refine hK _ _ (fun _ => ⟨by rw [Hnl.out]; exact Hr1.out.cell 6, Hq1.out.cell 0, Hq1.out.cell 1, Hq1.out.cell 2, Hq1.out.cell 3, Hq1.out.cell 4, Hq1.out.cell 5, Hq1.out.cell 6⟩) ?_
  clear hK K
  refine Rk.tree_one H7.out rfl (fun K hK => ?_)
  refine wp_pushR (W := w.drew) (.tmp 61) (.tmp 63) rfl B0 w.drew _ l r _ rfl rfl rfl (by rw [Hnl.out]; exact Ho.out.drew) hl (Below.refl _ _) HB0.out (fun v' w' h1 _ h3 => ?_)
  obtain ⟨A', c', rfl, _⟩ := h1.rgs
  obtain ⟨n', hn'⟩ : ∃ n', n' = (l ++ [r]).length := ⟨_, rfl⟩
  rw [← hn'] at h1 ⊢
  have Hr2 := hide (Hr.out.drew.grown h3 (fun e => Hgv.out g (by rw [← Hnl.out]; exact e.symm) rfl))
  have Hq2 := hide (Hq.out.drew.grown h3 (fun e => Hqv.out q (by rw [← Hnl.out]; exact e.symm) rfl))
  have Ho2 := hide h1
  have Hg2 := hide (show w.grownBy w' (Value.slice Av nl cv).ownBlock from ⟨h3.os, h3.tape, h3.output, h3.size, h3.block⟩)
  have e6 : w'.cell? ⟨g, 6, none⟩ = some (.slice Av nl cv) := by rw [Hnl.out]; exact Hr2.out.cell 6
  refine hK _ _ (fun _ => ⟨e6, Hq2.out.cell 0, Hq2.out.cell 1, Hq2.out.cell 2, Hq2.out.cell 3, Hq2.out.cell 4, Hq2.out.cell 5, Hq2.out.cell 6⟩) ?_
  clear hK K h1 h3 hn'
  simp only [Act.put, List.setIfInBounds_toArray, List.set_cons_succ, List.set_cons_zero]
  refine Rk.tree_quiet (v := ?_) H8.out rfl (fun w' hS => ?_) ⟨e6, Hq2.out.cell 0, Hq2.out.cell 1, Hq2.out.cell 2, Hq2.out.cell 3, Hq2.out.cell 4, Hq2.out.cell 5, Hq2.out.cell 6⟩ ?_; rotate_left; (obtain ⟨sg, s0, s1, s2, s3, s4, s5, s6⟩ := hS; go_simp; with_reducible rfl); simp only [Act.put, List.setIfInBounds_toArray, List.set_cons_succ, List.set_cons_zero]
  refine Rk.tree_quiet (v := ?_) H9.out rfl (fun w' hS => ?_) ⟨e6, Hq2.out.cell 0, Hq2.out.cell 1, Hq2.out.cell 2, Hq2.out.cell 3, Hq2.out.cell 4, Hq2.out.cell 5, Hq2.out.cell 6⟩ ?_; rotate_left; (obtain ⟨sg, s0, s1, s2, s3, s4, s5, s6⟩ := hS; go_simp; with_reducible rfl); simp only [Act.put, List.setIfInBounds_toArray, List.set_cons_succ, List.set_cons_zero]
  refine Rk.tree_one H10.out rfl (fun K hK => ?_)
  have f6 := Hr2.out.free 6
  go_simp
  have hgo := World.grownBy.refl w' (some g)
  have Ho3 := Ho2.out.grown (grown_put (i := 6) hgo (.slice A' n' c')) (fun k hk e => OwR.ne Hr2.out (by decide) Ho2.out k hk (Option.some.inj e))
  have Hr3 := Hr2.out.put 6 (.slice A' n' c')
  have e7 := Hq2.out.off hgq (i := 6) (.slice A' n' c')
  refine hK _ _ (fun hf => absurd HSK.out (by rw [hf]; decide)) (Rd.tree_leaf ?_)
  refine HF.out _ _ _ _ _ _ _ _ _ _ _ (.slice A' n' c') Hr3 Ho3 ?_
  exact (Oth.of_grown Hg2.out (fun k e => .inr (by rw [← Hnl.out]; exact e))).put (.inl (.inl rfl)) _
end Go.Proofs.Ytghnieddokhagaa.Al
namespace Go.Proofs.Ytghnieddokhagaa.Al
open Go Go.RowKit Kt Kg Lw Li Df Kf

set_option maxRecDepth 100000 in
set_option maxHeartbeats 4000000 in
theorem add_any {g : Nat} {Ao Aa Ab : Option Addr} {co ca cb X Y Z M M1 M2 B0 : Nat} {o a b : Ls} {w : World} {v : Value} {l : List Rg} (s : St) (c : Cl) {P P' : Nat → Prop}
    (hr : Row w g tPs (psC Ao o.length co X Aa a.length ca Y Ab b.length cb Z v)) (ho : OwR w B0 v l) (hB0 : B0 ≤ w.heap.size) (hl : l.length + 1 ≤ 1000000000)
    (hs : s = ⟨X, Y, Z, l⟩) (hM : c.to - c.fr = M) (hM1 : (M : Int) + c.m0 = M1) (hM2 : (M : Int) + c.m1 = M2) (hX : X + M ≤ o.length) (hY : Y + M1 ≤ a.length) (hZ : Z + M2 ≤ b.length)
    (hco : o.length ≤ co ∧ o.length ≤ 1000000000) (hca : a.length ≤ 1000000000) (hcb : b.length ≤ 1000000000) (hva : Vs w P Aa ca (texts a)) (hvb : Vs w P' Ab cb (texts b)) (hP : ∀ b, P b → b ≠ g ∧ b < w.heap.size) (hP' : ∀ b, P' b → b ≠ g ∧ b < w.heap.size) :
    Calls Try.prog 60 #[.pointer (some ⟨g, 0, none⟩), .agg #[.int .i64 c.fr, .int .i64 c.to, .int .i64 c.n0, .int .i64 c.m0, .int .i64 c.n1, .int .i64 c.m1]] w fun y w' => y = .returned (.tuple #[]) ∧
      ∃ v', Row w' g tPs (psC Ao o.length co (s.add a b c).x Aa a.length ca (s.add a b c).y Ab b.length cb (s.add a b c).z v') ∧ OwR w' B0 v' (s.add a b c).l ∧ Oth (fun k => k = g ∨ v.ownBlock = some k) w w' := by
  have Hadd : Hid (s.add a b c = ⟨(X + M : Nat), (Y + M1 : Nat), (Z + M2 : Nat), l ++ [⟨kindOf c (cut a Y M1) (cut b Z M2), X, M, Y, M1, Z, M2⟩]⟩) := by
    subst hs
    show _ = _
    unfold St.add
    simp only
    rw [hM, hM1, hM2]
    congr 1 <;> omega
  rw [Hadd.out]
  have hla := hva.1
  have hlb := hvb.1
  rw [texts_len] at hla hlb
  have hM' : IntKind.i64.wrap (c.to - c.fr) = (M : Int) := by rw [hM]; exact IntWalk.i64_in _ (by omega)
  have hw0 : IntKind.i64.wrap ((M : Int) + c.m0) = (M : Int) + c.m0 := IntWalk.i64_in _ (by omega)
  have hw1 : IntKind.i64.wrap ((M : Int) + c.m1) = (M : Int) + c.m1 := IntWalk.i64_in _ (by omega)
  obtain ⟨w1, hw1'⟩ : ∃ w1, w1 = w.alloc (.cells (clC c).toArray tC) := ⟨_, rfl⟩
  have hb1 : Below w.heap.size w w1 := by rw [hw1']; exact (Below.refl _ w).alloc (Nat.le_refl _) _
  have hrow0 : Row w1 w.heap.size tC (clC c) := by rw [hw1']; exact Row.fresh w tC _
  have hr1 := hr.below hb1 hr.lt
  obtain ⟨q0, hq0⟩ : ∃ q0, q0 = w.heap.size := ⟨_, rfl⟩
  have hg0 : q0 ≠ g := by have := hr.lt; omega
  rw [← hq0] at hrow0
  have k0 := hrow0.cell 0
  have k1 := hrow0.cell 1
  have k3 := hrow0.cell 3
  have k5 := hrow0.cell 5
  simp only [clC, List.getElem?_cons_zero, List.getElem?_cons_succ] at k0 k1 k3 k5
  have Hr1 := hide hr1
  have Hg := hide hr
  have Hb1 := hide hb1
  have Hrow0 := hide hrow0
  have Ho := hide ho
  have Hva := hide hva
  have Hvb := hide hvb
  have HP := hide hP
  have HP' := hide hP'
  have Hw1 := hide hw1'
  have Hq0 := hide hq0
  have HM1 := hide hM1
  have HM2 := hide hM2
  have Hl := hide hl
  have HB0 := hide hB0
  have Hn := hide (show X + M ≤ co ∧ Y + M1 ≤ a.length ∧ Z + M2 ≤ b.length ∧ X + M ≤ 1000000000 ∧ a.length ≤ 1000000000 ∧ b.length ≤ 1000000000 from ⟨by omega, hY, hZ, by omega, hca, hcb⟩)
  clear hr ho hva hvb hP hP' hw1' hq0 hb1 hr1 hrow0 hs hM hM1 hM2 hl hB0 hX hY hZ hco hca hcb
  unfold clC at Hw1
  go_enter Try.func60, Try.ntmps60
  go_wp2_with (rw [← Hw1.out, ← Hq0.out])
  rename_i Q' KK hKK
  refine add_r2 _ _ _ _ _ _ _ _ _ _ _ _ _ _ _ _ _ _ _ _ _ _ _ _ _ _ _ _ _ _ _ _ _ _ _ _ _ _ _ _ _ _ _ _ _ _ _ _ _ _ _ _ _ _ _ _ _ _ _ _ _ _ _ _ (by kernel_rfl) (Hr1.out.cell 1) (Hr1.out.cell 3) (Hr1.out.cell 5) k3 k5 hw0 hw1 ?_
  intro q u11 u12 u13 u14 u15 u16 u17 u18 u19 u20 u21 u22 u23 u24 u25 u26 u27 u28 u29 u30 u31 u32 u33 u34 u35 u36 w2 hqw hrow2 hb2
  refine hKK _ _ ?_
  clear hKK KK
  go_wp2
  have hgq : q ≠ g := by
    have := Hr1.out.lt
    omega
  have hq0q : q ≠ q0 := by
    have := Hrow0.out.lt
    omega
  have hr2 := Hr1.out.below hb2 Hr1.out.lt
  have hc2 := Hrow0.out.below hb2 Hrow0.out.lt
  have hM1r : (M : Int) + c.m0 = M1 := HM1.out
  have hM2r : (M : Int) + c.m1 = M2 := HM2.out
  rw [hM1r, hM2r] at hrow2
  have Hb2 := hide (Hb1.out.trans (hb2.mono Hb1.out.size))
  have hn := Hn.out
  rename_i KK hKK
  refine add_r3 _ _ _ _ _ _ _ _ _ _ _ _ _ _ _ _ _ _ _ _ _ _ _ _ _ _ _ _ _ _ _ _ _ _ _ _ _ _ _ _ _ _ _ _ _ _ _ _ _ _ _ _ _ _ _ _ _ _ _ _ _ _ _ _ (by kernel_rfl) hr2 hrow2 hgq hn.1 hn.2.2.2.1 ?_
  intro u37 u38 u39 u40 u41 u42 w3 hr3 hg3
  refine hKK _ _ ?_
  clear hKK KK
  go_wp2
  have hq3 := hrow2.grown hg3 (fun e => hgq (Option.some.inj e))
  have hc3 := hc2.grown hg3 (fun e => hg0 (Option.some.inj e))
  have ho3 : Oth (fun k => k = g) w w3 := (Oth.of_below (fun k => k = g) Hb2.out).trans (Oth.of_grown hg3 (fun k e => (Option.some.inj e).symm)) fun _ _ h => h
  have hva3 := Lw.Vs.move Hva.out fun k hk hlt => ho3.block k hlt (HP.out k hk).1
  have hvb3 := Lw.Vs.move Hvb.out fun k hk hlt => ho3.block k hlt (HP'.out k hk).1
  rename_i KK hKK
  refine add_r4 _ _ _ _ _ _ _ _ _ _ _ _ _ _ _ _ _ _ _ _ _ _ _ _ _ _ _ _ _ _ _ _ _ _ _ _ _ _ _ _ _ _ _ _ _ _ _ _ _ _ _ _ _ _ _ _ _ _ _ _ _ _ _ _ (by kernel_rfl) hr3 hq3 hgq hc3 hg0 hva3 hvb3 (fun k hk => (HP.out k hk).1) (fun k hk => (HP'.out k hk).1) rfl rfl hn.2.1 hn.2.2.1 hn.2.2.2.2.1 hn.2.2.2.2.2 ?_
  intro u43 u44 u45 u46 u47 u48 u49 u50 u51 u52 u53 u54 u55 u56 w4 hr4 hq4 ho4
  refine hKK _ _ ?_
  clear hKK KK
  go_wp2
  have hw1s := Hb1.out.size
  have ho4' : Oth (fun k => k = g) w w4 := ho3.trans ho4 fun k hk h => by
    rcases h with h | h
    · exact h
    · exfalso; omega
  have hgv := OwR.ne Hg.out (by decide) Ho.out
  have how : OwR w4 B0 v l := by
    refine ⟨Ho.out.1, ?_⟩
    rcases Ho.out.2 with ⟨h1, h2⟩ | ⟨g', cap, cur, hv', h1, h2, h3⟩
    · exact .inl ⟨h1, h2⟩
    · exact .inr ⟨g', cap, cur, hv', h1, (ho4'.block g' (Array.getElem?_eq_some_iff.1 h2).1 (hgv g' (by rw [hv']; rfl))).trans h2, h3⟩
  refine wp_last (add_r5 _ _ _ _ _ _ _ _ _ _ _ _ _ _ _ _ _ _ _ _ _ _ _ _ _ _ _ _ _ _ _ _ _ _ _ _ _ _ _ _ _ _ _ _ _ _ _ _ _ _ _ _ _ _ _ _ _ _ _ _ _ _ _ _ (by kernel_rfl) hr4 (r := ⟨kindOf c (cut a Y M1) (cut b Z M2), X, M, Y, M1, Z, M2⟩) hq4 hgq how (Nat.le_trans HB0.out ho4'.size) (fun k hk e => by have := (World.ownsRow.lt Ho.out k hk).2; have := Hb1.out.size; omega) Hl.out ?_)
  intro u57 u58 u59 u60 u61 u62 u63 u64 u65 u66 w5 v5 hr5 ho5 hx5
  refine bodyPost_end (results_none rfl _ _ _) rfl ?_
  exact ⟨rfl, v5, hr5, ho5, (ho4'.mono fun k _ h => .inl h).trans hx5 fun _ _ h => h⟩
/-- what parts of a world the calls here ask and leave -/
structure Parts (w0 : World) (B0 : Nat) (W : World) (g : Nat) (Ao Aa Ab : Option Addr) (co ca cb : Nat) (o a b : Ls) (v : Value) (s : St) : Prop where
  row : Row W g tPs (psC Ao o.length co s.x Aa a.length ca s.y Ab b.length cb s.z v)
  own : OwR W B0 v s.l
  base : w0.heap.size ≤ B0 ∧ B0 ≤ W.heap.size
  low : Below w0.heap.size w0 W
  out : w0.heap.size ≤ g
/-- what came in -/
structure Trio (w0 : World) (Ao Aa Ab : Option Addr) (co ca cb : Nat) (o a b : Ls) : Prop where
  o_ : Vs w0 (fun b => b < w0.heap.size) Ao co (texts o)
  a_ : Vs w0 (fun b => b < w0.heap.size) Aa ca (texts a)
  b_ : Vs w0 (fun b => b < w0.heap.size) Ab cb (texts b)
  lo_ : o.length ≤ 1000
  la_ : a.length ≤ 1000
  lb_ : b.length ≤ 1000
section
variable {w0 w : World} {B0 g : Nat} {Ao Aa Ab : Option Addr} {co ca cb : Nat} {o a b : Ls} {v : Value} {s : St}
theorem Parts.oth {w' : World} (h : Parts w0 B0 w g Ao Aa Ab co ca cb o a b v s) (ho : Oth (fun k => k = g ∨ v.ownBlock = some k) w w') : Below w0.heap.size w0 w' :=
  ho.below h.low h.low.size fun k hk hs => by
    rcases hs with hs | hs
    · have := h.out; omega
    · have := (World.ownsRow.lt h.own k hs).1; have := h.base; omega
theorem Parts.grown {w' : World} {r : Option Nat} (h : Parts w0 B0 w g Ao Aa Ab co ca cb o a b v s) (hg : w.grownBy w' r) (hr : ∀ k, r = some k → w0.heap.size ≤ k ∧ k ≠ g ∧ (k < B0 ∨ w.heap.size ≤ k)) : Parts w0 B0 w' g Ao Aa Ab co ca cb o a b v s :=
  ⟨h.row.grown hg fun e => (hr g e.symm).2.1 rfl, h.own.grown hg fun k hk e => by
    have h1 := World.ownsRow.lt h.own k hk
    have h2 := (hr k e.symm).2.2
    omega, ⟨h.base.1, Nat.le_trans h.base.2 hg.size⟩, h.low.grown hg h.low.size fun k hk => (hr k hk).1, h.out⟩
theorem Parts.drew (h : Parts w0 B0 w g Ao Aa Ab co ca cb o a b v s) : Parts w0 B0 w.drew g Ao Aa Ab co ca cb o a b v s := ⟨h.row.drew, h.own.drew, h.base, h.low.drew, h.out⟩
theorem padd_any (c : Cl) {X Y Z M M1 M2 : Nat} (h : Parts w0 B0 w g Ao Aa Ab co ca cb o a b v s) (ht : Trio w0 Ao Aa Ab co ca cb o a b) (hl : s.l.length + 1 ≤ 1000000000)
    (hx : s.x = X) (hy : s.y = Y) (hz : s.z = Z) (hM : c.to - c.fr = M) (hM1 : (M : Int) + c.m0 = M1) (hM2 : (M : Int) + c.m1 = M2) (hX : X + M ≤ o.length) (hY : Y + M1 ≤ a.length) (hZ : Z + M2 ≤ b.length) :
    Calls Try.prog 60 #[.pointer (some ⟨g, 0, none⟩), .agg #[.int .i64 c.fr, .int .i64 c.to, .int .i64 c.n0, .int .i64 c.m0, .int .i64 c.n1, .int .i64 c.m1]] w fun y w' => y = .returned (.tuple #[]) ∧
      ∃ v', Parts w0 B0 w' g Ao Aa Ab co ca cb o a b v' (s.add a b c) ∧ Oth (fun k => k = g ∨ v.ownBlock = some k) w w' := by
  have hr := h.row
  rw [hx, hy, hz] at hr
  have hco := ht.o_.1
  rw [texts_len] at hco
  refine (add_any s c hr h.own h.base.2 hl (by cases s; simp_all) hM hM1 hM2 hX hY hZ ⟨hco, Nat.le_trans ht.lo_ (by omega)⟩ (Nat.le_trans ht.la_ (by omega)) (Nat.le_trans ht.lb_ (by omega)) (Lw.Vs.move ht.a_ fun b hb _ => h.low.block b hb) (Lw.Vs.move ht.b_ fun b hb _ => h.low.block b hb)
    (fun b hb => ⟨by have := h.out; omega, Nat.lt_of_lt_of_le hb h.low.size⟩) (fun b hb => ⟨by have := h.out; omega, Nat.lt_of_lt_of_le hb h.low.size⟩)).mono ?_
  rintro y w' ⟨rfl, v', h1, h2, h3⟩
  exact ⟨rfl, v', ⟨h1, h2, ⟨h.base.1, Nat.le_trans h.base.2 h3.size⟩, h.oth h3, h.out⟩, h3⟩
set_option maxRecDepth 100000 in
set_option maxHeartbeats 1000000 in
theorem pkeep_any {X Y Z T : Nat} (h : Parts w0 B0 w g Ao Aa Ab co ca cb o a b v s) (ht : Trio w0 Ao Aa Ab co ca cb o a b) (hl : s.l.length + 1 ≤ 1000000000)
    (hx : s.x = X) (hy : s.y = Y) (hz : s.z = Z) (hX : X ≤ T) (hT : T ≤ o.length) (hY : Y + (T - X) ≤ a.length) (hZ : Z + (T - X) ≤ b.length) :
    Calls Try.prog 59 #[.pointer (some ⟨g, 0, none⟩), .int .i64 T] w fun y w' => y = .returned (.tuple #[]) ∧
      ∃ v', Parts w0 B0 w' g Ao Aa Ab co ca cb o a b v' (s.keep a b T) ∧ Oth (fun k => k = g ∨ v.ownBlock = some k) w w' := by
  have k1 := h.row.cell 1
  simp only [psC, List.getElem?_cons_zero, List.getElem?_cons_succ] at k1
  rw [hx] at k1
  unfold St.keep
  by_cases hlt : X < T
  · have hd : decide ((X : Int) < (T : Int)) = true := decide_eq_true (by omega)
    have hd0 : decide (X < T) = true := decide_eq_true hlt
    have hd1 : (X : Int) < (T : Int) := by omega
    rw [if_pos (show s.x < (T : Int) by omega)]
    have HA := hide (padd_any ⟨s.x, T, 0, 0, 0, 0⟩ (M := T - X) (M1 := T - X) (M2 := T - X) h ht hl hx hy hz (by simp only; omega) (by simp) (by simp) (by omega) hY hZ)
    rw [hx] at HA
    obtain ⟨s', hs'⟩ : ∃ s', s' = s.add a b ⟨s.x, T, 0, 0, 0, 0⟩ := ⟨_, rfl⟩
    rw [← hs']
    rw [← hx, ← hs', hx] at HA
    clear h ht hs' hX hT hY hZ hx hy hz hl
    go_enter Try.func59, Try.ntmps59
    go_wp2_with fail
    refine HA.out.mono ?_
    rintro y w' ⟨rfl, v', h1, h2⟩
    have H1 := hide h1
    have H2 := hide h2
    clear h1 h2
    go_wp2
    refine bodyPost_end (results_none rfl _ _ _) rfl ?_
    exact ⟨rfl, v', H1.out, H2.out⟩
  · have hd : decide ((X : Int) < (T : Int)) = false := decide_eq_false (by omega)
    have hd0 : decide (X < T) = false := decide_eq_false hlt
    have hd1 : ¬ (X : Int) < (T : Int) := by omega
    rw [if_neg (show ¬ s.x < (T : Int) by omega)]
    have H := hide h
    clear h ht hX hT hY hZ hx hy hz hl
    go_enter Try.func59, Try.ntmps59
    go_wp2
    refine bodyPost_end (results_none rfl _ _ _) rfl ?_
    exact ⟨rfl, ⟨v, H.out⟩, Oth.refl _ _⟩
end
end Go.Proofs.Ytghnieddokhagaa.Al
namespace Go.Proofs.Ytghnieddokhagaa.Al
open Go Go.RowKit Kt Kg Lw Li Df

theorem right_cnt {n : Nat} : ∀ {last : Int} {l : List Ed}, right n last l = true → -1 ≤ last → last ≤ n → (l.length : Int) ≤ n - last
  | _, [], _, _, h => by simp; omega
  | last, f :: l, h, hl, _ => by
    obtain ⟨p, d, _, _, hpd, hlp, _, hr'⟩ := right_head h hl
    have := right_cnt hr' (by omega) (by omega)
    simp only [List.length_cons]
    omega
theorem D_cnt (a b : Ls) : (D a b).length ≤ a.length + 1 := by
  have := right_cnt (D_right a b) (by omega) (by omega)
  omega
theorem owt_high {w w' : World} {B : Nat} {E : TypeId} {v : Value} {l : Ls} (h : OwT w B E v l) (hw : ∀ k, B ≤ k → w'.heap[k]? = w.heap[k]?) : OwT w' B E v l :=
  ⟨h.1, h.2.imp id fun ⟨g, cap, cur, hv', h1, h2, h3⟩ => ⟨g, cap, cur, hv', h1, (hw g h1).trans h2, h3⟩⟩
theorem owe_high {w w' : World} {B : Nat} {v : Value} {L : List Ed} (h : OwE w B v L) (hw : ∀ k, B ≤ k → w'.heap[k]? = w.heap[k]?) : OwE w' B v L := by
  obtain ⟨V, hV, hr, hi⟩ := h
  exact ⟨V, hV, ⟨hr.1, hr.2.imp id fun ⟨g, cap, cur, hv', h1, h2, h3⟩ => ⟨g, cap, cur, hv', h1, (hw g h1).trans h2, h3⟩⟩, fun p hp => owt_high (hi p hp) hw⟩
theorem Ct.oth {wd A B : World} {b : Nat} {X Y : List Ed} {S : Nat → Prop} (h : Ct wd A b X Y) (ho : Oth S A B) (hS : ∀ k, S k → k ≠ b ∧ (k < wd.heap.size → Dum wd k)) : Ct wd B b X Y := by
  obtain ⟨A1, c, A', c', hr, h1, h2⟩ := h.st
  refine ⟨⟨Nat.le_trans h.low.size ho.size, fun k hk => ?_⟩, h.out, A1, c, A', c', ho.row hr fun hs => (hS b hs).1 rfl, h1, h2⟩
  rcases h.low.block k hk with hd | he
  · exact .inl hd
  · by_cases hs : S k
    · exact .inl ((hS k hs).2 hk)
    · exact .inr ((ho.block k (Nat.lt_of_lt_of_le hk h.low.size) hs).trans he)
theorem es_at {w : World} {B : Nat} {A : Option Addr} {n c : Nat} {L : List Ed} (h : OwE w B (.slice A n c) L) : Es w A c L := by
  obtain ⟨A', c', e, hes⟩ := h.es
  injection e with e1 e2 e3
  subst e1 e3
  exact hes
theorem ct_start {w3 : World} {g B1 B2 n1 n2 c1 c2 : Nat} {A1 A2 : Option Addr} {X Y : List Ed} (h1 : OwE w3 B1 (.slice A1 n1 c1) X) (h2 : OwE w3 B2 (.slice A2 n2 c2) Y) (hg1 : g < B1) (hg2 : g < B2) (hg : g < w3.heap.size) (hn1 : n1 = X.length) (hn2 : n2 = Y.length) :
    Ct (w3.putObj g (.cells #[] 0 (0, 0))) (w3.alloc (.cells #[.slice A1 n1 c1, .slice A2 n2 c2] tL)) w3.heap.size X Y ∧ Dum (w3.putObj g (.cells #[] 0 (0, 0))) g := by
  have hd : Dum (w3.putObj g (.cells #[] 0 (0, 0))) g := fun o => by
    have h : (w3.putObj g (.cells #[] 0 (0, 0))).heap[g]? = some (.cells #[] 0 (0, 0)) := World.putObj_heap_same hg
    rw [cell_of_row _ g o #[] 0 (0, 0) h]
    simp
  refine ⟨⟨⟨by simp, fun k hk => ?_⟩, by simp, A1, c1, A2, c2, ?_, ?_, ?_⟩, hd⟩
  · by_cases hkg : k = g
    · subst hkg; exact .inl hd
    · refine .inr ?_
      rw [World.putObj_size] at hk
      exact (Below.heap_alloc w3 _ k hk).trans (World.putObj_heap_other (by omega)).symm
  · rw [hn1, hn2]; exact Row.fresh w3 tL _
  · exact es_at (owe_high h1 fun k hk => World.putObj_heap_other (by omega))
  · exact es_at (owe_high h2 fun k hk => World.putObj_heap_other (by omega))
/-- how much is told, and left -/
theorem add_len (a b : Ls) (s : St) (c : Cl) : (s.add a b c).l.length = s.l.length + 1 := by simp [St.add]
theorem keep_len (a b : Ls) (s : St) (t : Int) : (s.keep a b t).l.length ≤ s.l.length + 1 := by
  unfold St.keep
  split
  · rw [add_len]; omega
  · omega
set_option maxRecDepth 100000 in
set_option maxHeartbeats 4000000 in
theorem regions_any {w : World} {Ao Aa Ab : Option Addr} {co ca cb : Nat} {o a b : Ls} (ht : Trio w Ao Aa Ab co ca cb o a b) :
    Calls Try.prog 40 #[.slice Ao o.length co, .slice Aa a.length ca, .slice Ab b.length cb] w fun y w' => ∃ v, y = .returned v ∧ OwR w' w.heap.size v (regs o a b) ∧ Below w.heap.size w w' := by
  have Ht := hide ht
  have HD : Hid (∀ w1, Below w.heap.size w w1 → Calls Try.prog 56 #[.slice Ao o.length co, .slice Aa a.length ca] w1 fun e w' => ∃ v, e = .returned v ∧ OwE w' w1.heap.size v (D o a) ∧ Below w1.heap.size w1 w') :=
    fun w1 hb => diff_any o a Ao Aa co ca _ _ w1 (Lw.Vs.below ht.o_ hb) (Lw.Vs.below ht.a_ hb) ht.lo_ ht.la_
  have HD' : Hid (∀ w1, Below w.heap.size w w1 → Calls Try.prog 56 #[.slice Ao o.length co, .slice Ab b.length cb] w1 fun e w' => ∃ v, e = .returned v ∧ OwE w' w1.heap.size v (D o b) ∧ Below w1.heap.size w1 w') :=
    fun w1 hb => diff_any o b Ao Ab co cb _ _ w1 (Lw.Vs.below ht.o_ hb) (Lw.Vs.below ht.b_ hb) ht.lo_ ht.lb_
  obtain ⟨no, hno⟩ : ∃ z, z = o.length := ⟨_, rfl⟩
  obtain ⟨na, hna⟩ : ∃ z, z = a.length := ⟨_, rfl⟩
  obtain ⟨nb, hnb⟩ : ∃ z, z = b.length := ⟨_, rfl⟩
  rw [← hno, ← hna, ← hnb]
  rw [← hno, ← hna] at HD
  rw [← hno, ← hnb] at HD'
  have Hno := hide hno
  have Hna := hide hna
  have Hnb := hide hnb
  obtain ⟨g, hg⟩ : ∃ g, g = w.heap.size := ⟨_, rfl⟩
  obtain ⟨w1, hw1⟩ : ∃ w1, w1 = w.alloc (.cells #[.slice Ao no co, .int .i64 0, .slice Aa na ca, .int .i64 0, .slice Ab nb cb, .int .i64 0, .slice none 0 0] tPs) := ⟨_, rfl⟩
  have Hb1 := hide (show Below w.heap.size w w1 by rw [hw1]; exact (Below.refl _ w).alloc (Nat.le_refl _) _)
  have Hr1 := hide (show Row w1 g tPs (psC Ao no co 0 Aa na ca 0 Ab nb cb 0 (.slice none 0 0)) by rw [hw1, hg]; exact Row.fresh w tPs _)
  have Hs1 := hide (show w1.heap.size = g + 1 by rw [hw1, hg]; simp)
  have Hg := hide hg
  have Hw1 := hide hw1
  clear ht hno hna hnb hg hw1
  go_enter Try.func40, Try.ntmps40
  go_wp2_with (first | rw [← Hw1.out, ← Hg.out] | fail)
  refine (HD.out w1 Hb1.out).mono ?_
  rintro y w2 ⟨v1, rfl, hown1, hb2⟩
  obtain ⟨A1, c1, rfl, hes1⟩ := hown1.es
  obtain ⟨n1, hn1⟩ : ∃ z, z = (D o a).length := ⟨_, rfl⟩
  rw [← hn1] at hown1 ⊢
  have Hn1 := hide hn1
  have Hown1 := hide hown1
  have Hb2 := hide (Hb1.out.trans (hb2.mono Hb1.out.size))
  have Hr2 := hide (Hr1.out.below hb2 Hr1.out.lt)
  have Hs2 := hide (show g + 1 ≤ w2.heap.size by have := hb2.size; have := Hs1.out; omega)
  clear hes1 hn1 hown1 hb2
  go_wp2_with fail
  refine (HD'.out w2 Hb2.out).mono ?_
  rintro y w3 ⟨v2, rfl, hown2, hb3⟩
  obtain ⟨A2, c2, rfl, hes2⟩ := hown2.es
  obtain ⟨n2, hn2⟩ : ∃ z, z = (D o b).length := ⟨_, rfl⟩
  rw [← hn2] at hown2 ⊢
  have Hn2 := hide hn2
  have Hown2 := hide hown2
  have Hown1' := hide (Hown1.out.keep hb3)
  have Hb3 := hide (Hb2.out.trans (hb3.mono Hb2.out.size))
  have Hr3 := hide (Hr2.out.below hb3 Hr2.out.lt)
  have Hs3 := hide (show g + 1 ≤ w3.heap.size by have := hb3.size; have := Hs2.out; omega)
  have Hs12 := hide (show w1.heap.size = g + 1 ∧ g + 1 ≤ w2.heap.size from ⟨Hs1.out, Hs2.out⟩)
  clear hes2 hn2 hown2 hb3
  obtain ⟨q, hq⟩ : ∃ q, q = w3.heap.size := ⟨_, rfl⟩
  obtain ⟨w4, hw4⟩ : ∃ w4, w4 = w3.alloc (.cells #[.slice A1 n1 c1, .slice A2 n2 c2] tL) := ⟨_, rfl⟩
  have Hw4 := hide hw4
  have Hq := hide hq
  go_wp2_with (rw [← Hw4.out, ← Hq.out])
  have hcs := ct_start (g := g) Hown1'.out Hown2.out (by have := Hs12.out; omega) (by have := Hs12.out; omega) (by have := Hs3.out; omega) Hn1.out Hn2.out
  rw [← hw4, ← hq] at hcs
  obtain ⟨wd, hwd⟩ : ∃ wd, wd = w3.putObj g (.cells #[] 0 (0, 0)) := ⟨_, rfl⟩
  have hds : wd.heap.size = q := by rw [hwd, hq]; simp
  rw [← hwd] at hcs
  have Hds := hide hds
  have Hdum := hide hcs.2
  have hgq : g < q := by have := Hs3.out; omega
  have hwg : w.heap.size = g := Hg.out.symm
  have Hpar := hide (show Parts w (q + 1) w4 g Ao Aa Ab co ca cb o a b (.slice none 0 0) ⟨0, 0, 0, []⟩ from
    ⟨by rw [hw4, ← Hno.out, ← Hna.out, ← Hnb.out]; exact Hr3.out.alloc _, OwR.nil _ _, ⟨by omega, by rw [hw4, hq]; simp⟩, by rw [hw4]; exact Hb3.out.alloc Hb3.out.size _, by omega⟩)
  have Hct := hide hcs.1
  clear hcs hwd hds hw4 hq
  go_loopw [9] (fun _ wr => ∃ (X Y : List Ed) (V : List (Bool × Ed)) (s : St) (v : Value), Hid (Ct wd wr q X Y) ∧ Hid (RInv o a b V s (mrg X Y)) ∧ Hid (loop a b s (mrg X Y) = loop a b ⟨0, 0, 0, []⟩ (mrg (D o a) (D o b))) ∧ Hid (Parts w (q + 1) wr g Ao Aa Ab co ca cb o a b v s) ∧ Hid (s.l.length + 2 * (X.length + Y.length) ≤ 2 * (n1 + n2))) (fun _ wr => lenAt wr q 0 + lenAt wr q 1)
  case atStart => exact ⟨D o a, D o b, [], ⟨0, 0, 0, []⟩, .slice none 0 0, Hct.out, RInv.start o a b, rfl, Hpar.out, by rw [← Hn1.out, ← Hn2.out]; show Hid _; exact hide (by simp)⟩
  case round =>
    obtain ⟨X, Y, V, s, v, Hc, HI, HL, HP, HN⟩ := hrel
    have Hso := hide (some_any wd q X Y wr Hc.out)
    clear Hct Hpar
    by_cases hxy : X = [] ∧ Y = []
    · obtain ⟨rfl, rfl⟩ := hxy
      rw [decide_eq_false (show ¬ (([] : List Ed) ≠ [] ∨ ([] : List Ed) ≠ []) by simp)] at Hso
      go_wp2_with fail
      refine Hso.out.mono ?_
      rintro y w5 ⟨rfl, rfl⟩
      have hI := HI.out
      rw [mrg_nil] at hI
      obtain ⟨x0, y0, z0, hx, hy, hz, hX, hY, hZ, ha, hb⟩ := hI.inv.at_
      rw [ofS_nil, play] at ha hb
      have ha := congrArg List.length ha
      have hb := congrArg List.length hb
      rw [List.length_drop, List.length_drop] at ha hb
      have HK := hide (pkeep_any (T := o.length) HP.out Ht.out (by have := HN.out; have h1 := Hn1.out; have h2 := Hn2.out; have h3 := D_cnt o a; have h4 := D_cnt o b; have h5 := Ht.out.lo_; simp at this; omega) hx hy hz hX (Nat.le_refl _) (by omega) (by omega))
      rw [← Hno.out] at HK
      have HR := hide (show (s.keep a b (no : Int)).l = regs o a b by
        unfold regs
        rw [← HL.out, mrg_nil, loop_nil, Hno.out])
      clear hI ha hb hx hy hz hX hY hZ
      go_wp2_with fail
      refine HK.out.mono ?_
      rintro y w6 ⟨rfl, v', hp, ho⟩
      obtain ⟨Av, cv, rfl, _⟩ := hp.own.rgs
      have k6 := hp.row.cell 6
      simp only [psC, List.getElem?_cons_zero, List.getElem?_cons_succ] at k6
      rw [HR.out] at k6
      have Hp := hide hp
      clear hp ho
      go_wp2
      go_ret
      have hown := Hp.out.own
      rw [HR.out] at hown
      exact ⟨_, rfl, hown.base (by omega), Hp.out.low⟩
    · have hml := mrg_len _ X Y (Nat.le_refl _)
      have hpos : 0 < X.length + Y.length := by
        rcases Nat.eq_zero_or_pos (X.length + Y.length) with h0 | h0
        · exact absurd ⟨List.eq_nil_of_length_eq_zero (by omega), List.eq_nil_of_length_eq_zero (by omega)⟩ hxy
        · exact h0
      obtain ⟨d, e, r, hm⟩ : ∃ d e r, mrg X Y = (d, e) :: r := by
        cases hh : mrg X Y with
        | nil => rw [hh] at hml; simp at hml; omega
        | cons p r => exact ⟨p.1, p.2, r, rfl⟩
      rw [decide_eq_true (show X ≠ [] ∨ Y ≠ [] by
        by_cases h1 : X = []
        · exact .inr fun h2 => hxy ⟨h1, h2⟩
        · exact .inl h1)] at Hso
      have hI := HI.out
      rw [hm] at hI
      have hb1 := D_cnt o a
      have hb2 := D_cnt o b
      have hlo := Ht.out.lo_
      have hla := Ht.out.la_
      have hlb := Ht.out.lb_
      have hcount := HN.out
      rw [Hn1.out, Hn2.out] at hcount
      have hct0 := Hc.out
      have hqr : q < wr.heap.size := by obtain ⟨_, _, _, _, h, _, _⟩ := hct0.st; exact h.lt
      have HNX := hide (next_any wd wr q X Y d e r o.length hm hct0 hqr (by omega) (by omega) (fun p hp => by
        rw [hm] at hp
        have h1 := hI.low p hp
        omega))
      obtain ⟨X0, Y0, Z0, p, t, M1, M2, hz⟩ := hI.szs
      have Hz := hide hz
      have hfr := hz.fr
      have hto := hz.to
      obtain ⟨c, hc⟩ : ∃ c, c = clo d e r := ⟨_, rfl⟩
      rw [← hc] at HNX Hz hfr hto
      unfold clC at HNX
      rw [hfr, hto] at HNX
      have Hfr := hide hfr
      have Hto := hide hto
      have HI1 := hide hI
      have Hm := hide hm
      have Hcl := hide hc
      have Hml := hide (show X.length + Y.length = r.length + 1 by rw [← hml, hm]; simp)
      have HKE := hide (fun (wz : World) (hz7 : Parts w (q + 1) wz g Ao Aa Ab co ca cb o a b v s) => pkeep_any (T := p) hz7 Ht.out (by omega) hz.x hz.y hz.z hz.Xp (Nat.le_trans hz.pt hz.po) hz.Ya hz.Zb)
      have hzz := hz
      rw [← hc] at hzz
      have HAD := hide (fun (wz : World) (vz : Value) (hz8 : Parts w (q + 1) wz g Ao Aa Ab co ca cb o a b vz (s.keep a b p)) => padd_any c (X := p) (Y := Y0 + (p - X0)) (Z := Z0 + (p - X0)) (M := t - p) (M1 := M1) (M2 := M2) hz8 Ht.out
        (by have := keep_len a b s p; omega) hzz.kx hzz.ky hzz.kz (by rw [hfr, hto]; have := hzz.pt; omega) hzz.m1 hzz.m2 (by have := hzz.pt; have := hzz.po; omega) hzz.Y1 hzz.Z1)
      rw [hfr, hto] at HAD
      obtain ⟨m0, hm0⟩ : ∃ z, z = c.m0 := ⟨_, rfl⟩
      obtain ⟨m1, hm1⟩ : ∃ z, z = c.m1 := ⟨_, rfl⟩
      obtain ⟨k0, hk0⟩ : ∃ z, z = c.n0 := ⟨_, rfl⟩
      obtain ⟨k1, hk1⟩ : ∃ z, z = c.n1 := ⟨_, rfl⟩
      rw [← hm0, ← hm1, ← hk0, ← hk1] at HNX HAD
      have hgq2 := hgq
      have hHP := HP.out
      clear hml hpos hm hI hb1 hb2 hlo hla hlb hcount hct0 hz hfr hto hc hm0 hm1 hk0 hk1 hxy hzz
      go_wp2_with fail
      refine Hso.out.mono ?_
      rintro y w5 ⟨rfl, rfl⟩
      go_wp2_with fail
      refine HNX.out.mono ?_
      rintro y w6 ⟨X', Y', rfl, hm', hct6, hg6⟩
      have Hm' := hide hm'
      have Hct6 := hide hct6
      have hp6 := hHP.grown hg6 (fun k e => by cases e; exact ⟨by omega, by omega, .inl (by omega)⟩)
      have hvl : ∀ k, v.ownBlock = some k → q + 1 ≤ k ∧ k < w6.heap.size := fun k hk => World.ownsRow.lt hp6.own k hk
      obtain ⟨qc, hqc⟩ : ∃ qc, qc = w6.heap.size := ⟨_, rfl⟩
      obtain ⟨w7, hw7⟩ : ∃ w7, w7 = w6.alloc (.cells #[.int .i64 p, .int .i64 t, .int .i64 k0, .int .i64 m0, .int .i64 k1, .int .i64 m1] tC) := ⟨_, rfl⟩
      have hg67 : w6.grownBy w7 none := by rw [hw7]; exact World.grownBy_alloc w6 _ none
      have hrow7 : Row w7 qc tC [.int .i64 p, .int .i64 t, .int .i64 k0, .int .i64 m0, .int .i64 k1, .int .i64 m1] := by rw [hw7, hqc]; exact Row.fresh w6 tC _
      have hp7 := hp6.grown hg67 (fun k e => by cases e)
      have hct7 := hct6.grown hg67 (fun k e => by cases e)
      have c0 := hrow7.cell 0
      simp only [List.getElem?_cons_zero] at c0
      have Hw7 := hide hw7
      have Hqc := hide hqc
      have Hp7 := hide hp7
      have Hct7 := hide hct7
      have Hrow7 := hide hrow7
      have Hvl := hide hvl
      have Hg6 := hide hg6
      have Hgl := hide (show g < w6.heap.size from hp6.row.lt)
      clear hm' hct6 hp6 hvl hqc hw7 hg67 hrow7 hp7 hct7 hg6 hHP
      go_wp2_with (first | rw [← Hw7.out, ← Hqc.out] | fail)
      refine (HKE.out w7 Hp7.out).mono ?_
      rintro y w8 ⟨rfl, v8, hp8, ho8⟩
      have hrow8 := ho8.row Hrow7.out (fun h => by
        have := Hqc.out
        rcases h with h | h
        · have := Hgl.out; omega
        · have := (Hvl.out qc h).2; omega)
      have c0' := hrow8.cell 0
      have c1' := hrow8.cell 1
      have c2' := hrow8.cell 2
      have c3' := hrow8.cell 3
      have c4' := hrow8.cell 4
      have c5' := hrow8.cell 5
      simp only [List.getElem?_cons_zero, List.getElem?_cons_succ] at c0' c1' c2' c3' c4' c5'
      have Hct8 := hide (Hct7.out.oth ho8 (fun k h => by
        have := Hds.out
        rcases h with rfl | h
        · exact ⟨by omega, fun _ => Hdum.out⟩
        · have := Hvl.out k h; exact ⟨by omega, fun _ => by omega⟩))
      have Hp8 := hide hp8
      clear c0 hrow8 hp8 ho8
      go_wp2_with fail
      refine (HAD.out w8 v8 Hp8.out).mono ?_
      rintro y w9 ⟨rfl, v9, hp9, ho9⟩
      have hv8 : ∀ k, v8.ownBlock = some k → q + 1 ≤ k := fun k hk => (World.ownsRow.lt Hp8.out.own k hk).1
      have hct9 := Hct8.out.oth ho9 (fun k h => by
        have := Hds.out
        rcases h with rfl | h
        · exact ⟨by omega, fun _ => Hdum.out⟩
        · have := hv8 k h; exact ⟨by omega, fun _ => by omega⟩)
      have Hp9 := hide hp9
      have Hct9 := hide hct9
      clear hp9 ho9 hv8 hct9 c0' c1' c2' c3' c4' c5'
      go_wp2
      have hnx : nxt a b s d e r = (s.keep a b p).add a b c := by
        unfold nxt
        rw [← Hcl.out, Hfr.out]
      have hlen : X'.length + Y'.length ≤ r.length := by
        rw [← mrg_len _ X' Y' (Nat.le_refl _), Hm'.out]
        exact grow_len _ r
      have hml := Hml.out
      refine ⟨⟨X', Y', V ++ clu d e r, nxt a b s d e r, v9, Hct9, ?_, ?_, ?_, ?_⟩, ?_⟩
      · rw [Hm'.out]; exact HI1.out.next
      · rw [Hm'.out, ← HL.out, Hm.out, loop_cons]; rfl
      · rw [hnx]; exact Hp9
      · have h1 := HN.out
        have h2 := keep_len a b s p
        have h3 := add_len a b (s.keep a b p) c
        rw [hnx, h3]
        show _ ≤ _
        omega
      · rw [Hct9.out.len.1, Hct9.out.len.2, Hc.out.len.1, Hc.out.len.2]
        omega
end Go.Proofs.Ytghnieddokhagaa.Al
