/-
  Are regions right? In memory.
-/
import Derived.BigQuiet
import Derived.Test.YteehbpnbephojaaKR
import Derived.Test.YteehbpnbephojaaQ2
namespace Go.Proofs.Yteehbpnbephojaa.Al
open Go Go.RowKit Kt Kg Lw Li Df Kf

abbrev tW : TypeId := 35
set_option maxRecDepth 100000 in
set_option maxHeartbeats 4000000 in
theorem right_r7 {gx gy gz q : Nat} {Ao Aa Ab : Option Addr} {no co na ca nb cb X M Y M1 Z M2 : Nat} {kd : Int} {w : World} {o a b : Ls} {P : Nat → Prop} {B : Code} {K : Act → World → Prop} {Q' : Exit → Act → World → Prop} (x0 x1 x2 x3 x4 x5 x6 x7 x8 x12 x14 x15 x16 x17 x18 x19 x20 x21 x22 x23 x24 x25 x26 x27 x28 x29 x30 x31 x32 x33 x34 x35 x36 x37 x38 x39 x40 x41 x42 x43 x44 x45 x46 x47 x48 x49 x50 x51 x52 x53 x54 x55 x56 x57 x58 x59 x60 x61 x62 : Value)
    (hB : B = (findR 7 (Try.f11.body.getD .skip)).getD .skip) (hx : Row w gx tW [.slice Ao no co, .int .i64 X]) (hy : Row w gy tW [.slice Aa na ca, .int .i64 Y]) (hz : Row w gz tW [.slice Ab nb cb, .int .i64 Z])
    (hq : Row w q tR [.int .i64 kd, .int .i64 X, .int .i64 M, .int .i64 Y, .int .i64 M1, .int .i64 Z, .int .i64 M2]) (hne : gx ≠ gy ∧ gx ≠ gz ∧ gy ≠ gz ∧ q ≠ gx ∧ q ≠ gy ∧ q ≠ gz)
    (hvo : Vs w P Ao co (texts o)) (hva : Vs w P Aa ca (texts a)) (hvb : Vs w P Ab cb (texts b)) (hP : ∀ b, P b → b ≠ gx ∧ b ≠ gy ∧ b ≠ gz) (hno : no = o.length) (hna : na = a.length) (hnb : nb = b.length)
    (hX : X + M ≤ no) (hY : Y + M1 ≤ na) (hZ : Z + M2 ≤ nb) (hln : no ≤ 1000000000 ∧ na ≤ 1000000000 ∧ nb ≤ 1000000000)
    (hK : ∀ (u42 u43 u44 u45 u46 u47 u48 u49 u50 u51 u52 u53 : Value) (wx : World), Row wx gx tW [.slice Ao no co, .int .i64 (X + M : Nat)] → Row wx gy tW [.slice Aa na ca, .int .i64 (Y + M1 : Nat)] → Row wx gz tW [.slice Ab nb cb, .int .i64 (Z + M2 : Nat)] → Oth (fun k => k = gx ∨ k = gy ∨ k = gz) w wx → K { tmps := List.toArray (x0 :: x1 :: x2 :: x3 :: x4 :: x5 :: x6 :: x7 :: x8 :: (.pointer (some ⟨gx, 0, none⟩)) :: (.pointer (some ⟨gy, 0, none⟩)) :: (.pointer (some ⟨gz, 0, none⟩)) :: x12 :: (.pointer (some ⟨q, 0, none⟩)) :: x14 :: x15 :: x16 :: x17 :: x18 :: x19 :: x20 :: x21 :: x22 :: x23 :: x24 :: x25 :: x26 :: x27 :: x28 :: x29 :: x30 :: x31 :: x32 :: x33 :: x34 :: x35 :: x36 :: x37 :: x38 :: x39 :: x40 :: x41 :: (u42) :: (u43) :: (u44) :: (u45) :: (u46) :: (u47) :: (u48) :: (u49) :: (u50) :: (u51) :: (u52) :: (u53) :: (.bool (!holdsK kd (cut o X M) (cut a Y M1) (cut b Z M2))) :: x55 :: x56 :: x57 :: x58 :: x59 :: x60 :: x61 :: x62 :: []), defers := [] } wx) :
    Code.wp Try.prog B (Exit.then K Q') { tmps := List.toArray (x0 :: x1 :: x2 :: x3 :: x4 :: x5 :: x6 :: x7 :: x8 :: (.pointer (some ⟨gx, 0, none⟩)) :: (.pointer (some ⟨gy, 0, none⟩)) :: (.pointer (some ⟨gz, 0, none⟩)) :: x12 :: (.pointer (some ⟨q, 0, none⟩)) :: x14 :: x15 :: x16 :: x17 :: x18 :: x19 :: x20 :: x21 :: x22 :: x23 :: x24 :: x25 :: x26 :: x27 :: x28 :: x29 :: x30 :: x31 :: x32 :: x33 :: x34 :: x35 :: x36 :: x37 :: x38 :: x39 :: x40 :: x41 :: x42 :: x43 :: x44 :: x45 :: x46 :: x47 :: x48 :: x49 :: x50 :: x51 :: x52 :: x53 :: x54 :: x55 :: x56 :: x57 :: x58 :: x59 :: x60 :: x61 :: x62 :: []), defers := [] } w := by
  have HF := hide hK
  clear hK
  have q0 := hq.cell 0
  have q1 := hq.cell 1
  have q2 := hq.cell 2
  have q3 := hq.cell 3
  have q4 := hq.cell 4
  have q5 := hq.cell 5
  have q6 := hq.cell 6
  simp only [List.getElem?_cons_zero, List.getElem?_cons_succ] at q0 q1 q2 q3 q4 q5 q6
  have hco1 := hvo.1
  have hca1 := hva.1
  have hcb1 := hvb.1
  rw [texts_len, ← hno] at hco1
  rw [texts_len, ← hna] at hca1
  rw [texts_len, ← hnb] at hcb1
  have Hx := hide hx
  have Hy := hide hy
  have Hz := hide hz
  have Hq := hide hq
  have Hvo := hide hvo
  have Hva := hide hva
  have Hvb := hide hvb
  have Hne := hide hne
  have Hc := hide (show no ≤ co ∧ na ≤ ca ∧ nb ≤ cb from ⟨hco1, hca1, hcb1⟩)
  have eo : Hid ((cut o X M).length = M) := by unfold cut; rw [List.length_take, List.length_drop]; show Hid _; exact hide (by omega)
  have ea : Hid ((cut a Y M1).length = M1) := by unfold cut; rw [List.length_take, List.length_drop]; show Hid _; exact hide (by omega)
  have eb : Hid ((cut b Z M2).length = M2) := by unfold cut; rw [List.length_take, List.length_drop]; show Hid _; exact hide (by omega)
  have Hn := hide (show no = o.length ∧ na = a.length ∧ nb = b.length from ⟨hno, hna, hnb⟩)
  have Hl := hide hln
  clear hx hy hz hq hvo hva hvb hco1 hca1 hcb1 hno hna hnb hne hln
  subst hB
  conv => arg 2; whnf
  refine Rd.wp_region_tree (fun w' => w'.cell? ⟨q, 0, none⟩ = some (.int .i64 kd) ∧ w'.cell? ⟨q, 1, none⟩ = some (.int .i64 X) ∧ w'.cell? ⟨q, 2, none⟩ = some (.int .i64 M) ∧ w'.cell? ⟨q, 3, none⟩ = some (.int .i64 Y) ∧ w'.cell? ⟨q, 4, none⟩ = some (.int .i64 M1) ∧ w'.cell? ⟨q, 5, none⟩ = some (.int .i64 Z) ∧ w'.cell? ⟨q, 6, none⟩ = some (.int .i64 M2)) (.take 0 (.take 1 (.take 2 (.take 3 (.take 5 (.take 6 (.take 8 (.take 9 (.one 4 (.one 7 (.one 10 (.one 11 (.take 12 .leaf))))))))))))) (by kernel_rfl) (by kernel_rfl) ?_
  generalize hl : List.cons _ _ = lo
  have H0 := congrArg (fun l => List.getD l 0 default) hl.symm
  simp only [List.getD_cons_zero] at H0
  replace H0 := hide H0
  have H1 := congrArg (fun l => List.getD l 1 default) hl.symm
  simp only [List.getD_cons_zero, List.getD_cons_succ] at H1
  replace H1 := hide H1
  have H2 := congrArg (fun l => List.getD l 2 default) hl.symm
  simp only [List.getD_cons_zero, List.getD_cons_succ] at H2
  replace H2 := hide H2
  have H3 := congrArg (fun l => List.getD l 3 default) hl.symm
  simp only [List.getD_cons_zero, List.getD_cons_succ] at H3
  replace H3 := hide H3
  have H4 := congrArg (fun l => List.getD l 4 default) hl.symm
  simp only [List.getD_cons_zero, List.getD_cons_succ] at H4
  replace H4 := hide H4
  have H5 := congrArg (fun l => List.getD l 5 default) hl.symm
  simp only [List.getD_cons_zero, List.getD_cons_succ] at H5
  replace H5 := hide H5
  have H6 := congrArg (fun l => List.getD l 6 default) hl.symm
  simp only [List.getD_cons_zero, List.getD_cons_succ] at H6
  replace H6 := hide H6
  have H7 := congrArg (fun l => List.getD l 7 default) hl.symm
  simp only [List.getD_cons_zero, List.getD_cons_succ] at H7
  replace H7 := hide H7
  have H8 := congrArg (fun l => List.getD l 8 default) hl.symm
  simp only [List.getD_cons_zero, List.getD_cons_succ] at H8
  replace H8 := hide H8
  have H9 := congrArg (fun l => List.getD l 9 default) hl.symm
  simp only [List.getD_cons_zero, List.getD_cons_succ] at H9
  replace H9 := hide H9
  have H10 := congrArg (fun l => List.getD l 10 default) hl.symm
  simp only [List.getD_cons_zero, List.getD_cons_succ] at H10
  replace H10 := hide H10
  have H11 := congrArg (fun l => List.getD l 11 default) hl.symm
  simp only [List.getD_cons_zero, List.getD_cons_succ] at H11
  replace H11 := hide H11
  have H12 := congrArg (fun l => List.getD l 12 default) hl.symm
  simp only [List.getD_cons_zero, List.getD_cons_succ] at H12
  replace H12 := hide H12
  clear hl
  refine Rk.tree_quiet (v := ?_) H0.out rfl (fun w' hS => ?_) ⟨q0, q1, q2, q3, q4, q5, q6⟩ ?_; rotate_left; (obtain ⟨s0, s1, s2, s3, s4, s5, s6⟩ := hS; go_simp; with_reducible rfl); simp only [Act.put, List.setIfInBounds_toArray, List.set_cons_succ, List.set_cons_zero]
  refine Rk.tree_quiet (v := ?_) H1.out rfl (fun w' hS => ?_) ⟨q0, q1, q2, q3, q4, q5, q6⟩ ?_; rotate_left; (obtain ⟨s0, s1, s2, s3, s4, s5, s6⟩ := hS; go_simp; with_reducible rfl); simp only [Act.put, List.setIfInBounds_toArray, List.set_cons_succ, List.set_cons_zero]
  refine Rk.tree_quiet (v := ?_) H2.out rfl (fun w' hS => ?_) ⟨q0, q1, q2, q3, q4, q5, q6⟩ ?_; rotate_left; (obtain ⟨s0, s1, s2, s3, s4, s5, s6⟩ := hS; go_simp; with_reducible rfl); simp only [Act.put, List.setIfInBounds_toArray, List.set_cons_succ, List.set_cons_zero]
  refine Rk.tree_quiet (v := ?_) H3.out rfl (fun w' hS => ?_) ⟨q0, q1, q2, q3, q4, q5, q6⟩ ?_; rotate_left; (obtain ⟨s0, s1, s2, s3, s4, s5, s6⟩ := hS; go_simp; with_reducible rfl); simp only [Act.put, List.setIfInBounds_toArray, List.set_cons_succ, List.set_cons_zero]
  refine Rk.tree_quiet (v := ?_) H5.out rfl (fun w' hS => ?_) ⟨q0, q1, q2, q3, q4, q5, q6⟩ ?_; rotate_left; (obtain ⟨s0, s1, s2, s3, s4, s5, s6⟩ := hS; go_simp; with_reducible rfl); simp only [Act.put, List.setIfInBounds_toArray, List.set_cons_succ, List.set_cons_zero]
  refine Rk.tree_quiet (v := ?_) H6.out rfl (fun w' hS => ?_) ⟨q0, q1, q2, q3, q4, q5, q6⟩ ?_; rotate_left; (obtain ⟨s0, s1, s2, s3, s4, s5, s6⟩ := hS; go_simp; with_reducible rfl); simp only [Act.put, List.setIfInBounds_toArray, List.set_cons_succ, List.set_cons_zero]
  refine Rk.tree_quiet (v := ?_) H8.out rfl (fun w' hS => ?_) ⟨q0, q1, q2, q3, q4, q5, q6⟩ ?_; rotate_left; (obtain ⟨s0, s1, s2, s3, s4, s5, s6⟩ := hS; go_simp; with_reducible rfl); simp only [Act.put, List.setIfInBounds_toArray, List.set_cons_succ, List.set_cons_zero]
  refine Rk.tree_quiet (v := ?_) H9.out rfl (fun w' hS => ?_) ⟨q0, q1, q2, q3, q4, q5, q6⟩ ?_; rotate_left; (obtain ⟨s0, s1, s2, s3, s4, s5, s6⟩ := hS; go_simp; with_reducible rfl); simp only [Act.put, List.setIfInBounds_toArray, List.set_cons_succ, List.set_cons_zero]
  refine Rk.tree_one H4.out rfl (fun K hK => ?_)
  go_simp
  refine (rtake_any gx 0 X M Ao no co w.drew tW _ Hx.out.drew rfl rfl (by have := Hc.out; omega) (by have := Hl.out; omega)).mono ?_
  rintro y w1 ⟨rfl, hr, hg⟩
  obtain ⟨A1, hA⟩ : ∃ A', A' = (if co = X then Ao else Ao.map (·.add X)) := ⟨_, rfl⟩
  have Hv1 := hide (vs_cut Hvo.out (i := X) (j := X + M) (by omega) (by have := Hn.out; omega))
  rw [← hA] at Hv1 ⊢
  have Hg1 := hide (show Oth (fun k => k = gx ∨ k = gy ∨ k = gz) w w1 from ((Oth.refl _ w).drew).trans (Oth.of_grown (S := fun k => k = gx) hg fun k e => (Option.some.inj e).symm) (fun k _ e => .inl e))
  have Hr1 := hide hr
  have Hq1 := hide (Hg1.out.row Hq.out (by have := Hne.out; omega))
  have Hy1 := hide (Hy.out.drew.grown hg (fun e => by have h := Option.some.inj e; have := Hne.out; omega))
  have Hz1 := hide (Hz.out.drew.grown hg (fun e => by have h := Option.some.inj e; have := Hne.out; omega))
  clear hA hr hg
  refine hK _ _ (fun _ => ⟨Hq1.out.cell 0, Hq1.out.cell 1, Hq1.out.cell 2, Hq1.out.cell 3, Hq1.out.cell 4, Hq1.out.cell 5, Hq1.out.cell 6⟩) ?_
  clear hK K
  refine Rk.tree_one H7.out rfl (fun K hK => ?_)
  go_simp
  refine (rtake_any gy 0 Y M1 Aa na ca w1 tW _ Hy1.out rfl rfl (by have := Hc.out; omega) (by have := Hl.out; omega)).mono ?_
  rintro y w2 ⟨rfl, hr, hg⟩
  obtain ⟨A2, hA⟩ : ∃ A', A' = (if ca = Y then Aa else Aa.map (·.add Y)) := ⟨_, rfl⟩
  have Hv2 := hide (vs_cut Hva.out (i := Y) (j := Y + M1) (by omega) (by have := Hn.out; omega))
  rw [← hA] at Hv2 ⊢
  have Hg2 := hide (show Oth (fun k => k = gx ∨ k = gy ∨ k = gz) w w2 from (Hg1.out).trans (Oth.of_grown (S := fun k => k = gy) hg fun k e => (Option.some.inj e).symm) (fun k _ e => .inr (.inl e)))
  have Hr2 := hide hr
  have Hq2 := hide (Hg2.out.row Hq.out (by have := Hne.out; omega))
  have Hx2 := hide (Hr1.out.grown hg (fun e => by have h := Option.some.inj e; have := Hne.out; omega))
  have Hz2 := hide (Hz1.out.grown hg (fun e => by have h := Option.some.inj e; have := Hne.out; omega))
  clear hA hr hg
  refine hK _ _ (fun _ => ⟨Hq2.out.cell 0, Hq2.out.cell 1, Hq2.out.cell 2, Hq2.out.cell 3, Hq2.out.cell 4, Hq2.out.cell 5, Hq2.out.cell 6⟩) ?_
  clear hK K
  refine Rk.tree_one H10.out rfl (fun K hK => ?_)
  go_simp
  refine (rtake_any gz 0 Z M2 Ab nb cb w2 tW _ Hz2.out rfl rfl (by have := Hc.out; omega) (by have := Hl.out; omega)).mono ?_
  rintro y w3 ⟨rfl, hr, hg⟩
  obtain ⟨A3, hA⟩ : ∃ A', A' = (if cb = Z then Ab else Ab.map (·.add Z)) := ⟨_, rfl⟩
  have Hv3 := hide (vs_cut Hvb.out (i := Z) (j := Z + M2) (by omega) (by have := Hn.out; omega))
  rw [← hA] at Hv3 ⊢
  have Hg3 := hide (show Oth (fun k => k = gx ∨ k = gy ∨ k = gz) w w3 from (Hg2.out).trans (Oth.of_grown (S := fun k => k = gz) hg fun k e => (Option.some.inj e).symm) (fun k _ e => .inr (.inr e)))
  have Hr3 := hide hr
  have Hq3 := hide (Hg3.out.row Hq.out (by have := Hne.out; omega))
  have Hx3 := hide (Hx2.out.grown hg (fun e => by have h := Option.some.inj e; have := Hne.out; omega))
  have Hy3 := hide (Hr2.out.grown hg (fun e => by have h := Option.some.inj e; have := Hne.out; omega))
  clear hA hr hg
  refine hK _ _ (fun _ => ⟨Hq3.out.cell 0, Hq3.out.cell 1, Hq3.out.cell 2, Hq3.out.cell 3, Hq3.out.cell 4, Hq3.out.cell 5, Hq3.out.cell 6⟩) ?_
  clear hK K
  have mv : ∀ {A c} {l : List Value}, Vs w P A c l → Vs w3 P A c l := fun h => Lw.Vs.move h fun k hk hlt => Hg3.out.block k hlt (by have := hP k hk; omega)
  have HK := holds_any kd (cut o X M) (cut a Y M1) (cut b Z M2) A1 A2 A3 (co - X) (ca - Y) (cb - Z) _ _ _ w3
    (by have h := mv Hv1.out
        unfold cut; rw [Int.toNat_natCast, Int.toNat_natCast]; rwa [show X + M - X = M by omega] at h)
    (by have h := mv Hv2.out
        unfold cut; rw [Int.toNat_natCast, Int.toNat_natCast]; rwa [show Y + M1 - Y = M1 by omega] at h)
    (by have h := mv Hv3.out
        unfold cut; rw [Int.toNat_natCast, Int.toNat_natCast]; rwa [show Z + M2 - Z = M2 by omega] at h) (by rw [eo.out, ea.out]; have := Hl.out; omega)
  rw [eo.out, ea.out, eb.out] at HK
  obtain ⟨hd, hhd⟩ : ∃ hd, hd = holdsK kd (cut o X M) (cut a Y M1) (cut b Z M2) := ⟨_, rfl⟩
  rw [← hhd] at HK HF
  have HK := hide HK
  clear hhd mv
  refine Rk.tree_one H11.out rfl (fun K hK => ?_)
  go_simp
  refine HK.out.mono ?_
  rintro y w4 ⟨rfl, hb4⟩
  have Hq4 := hide (Hq3.out.below hb4 Hq3.out.lt)
  have Hx4 := hide (Hx3.out.below hb4 Hx3.out.lt)
  have Hy4 := hide (Hy3.out.below hb4 Hy3.out.lt)
  have Hz4 := hide (Hr3.out.below hb4 Hr3.out.lt)
  have Ho4 := hide (Hg3.out.trans (Oth.of_below (fun _ => False) hb4) fun _ _ h => h.elim)
  clear hb4
  refine hK _ _ (fun _ => ⟨Hq4.out.cell 0, Hq4.out.cell 1, Hq4.out.cell 2, Hq4.out.cell 3, Hq4.out.cell 4, Hq4.out.cell 5, Hq4.out.cell 6⟩) ?_
  clear hK K
  refine Rk.tree_quiet (v := ?_) H12.out rfl (fun w' hS => ?_) ⟨Hq4.out.cell 0, Hq4.out.cell 1, Hq4.out.cell 2, Hq4.out.cell 3, Hq4.out.cell 4, Hq4.out.cell 5, Hq4.out.cell 6⟩ ?_; rotate_left; (obtain ⟨s0, s1, s2, s3, s4, s5, s6⟩ := hS; go_simp; with_reducible rfl); simp only [Act.put, List.setIfInBounds_toArray, List.set_cons_succ, List.set_cons_zero]
  refine Rd.tree_leaf ?_
  exact HF.out _ _ _ _ _ _ _ _ _ _ _ _ _ Hx4.out Hy4.out Hz4.out Ho4.out
/-- what came in, ahead of a call: three lists in blocks that were there -/
structure In3 (w0 : World) (Ao Aa Ab : Option Addr) (co ca cb : Nat) (o a b : Ls) : Prop where
  o_ : Vs w0 (fun b => b < w0.heap.size) Ao co (texts o)
  a_ : Vs w0 (fun b => b < w0.heap.size) Aa ca (texts a)
  b_ : Vs w0 (fun b => b < w0.heap.size) Ab cb (texts b)
  lo_ : o.length ≤ 1000000000
  la_ : a.length ≤ 1000000000
  lb_ : b.length ≤ 1000000000
/-- three rows that are gone through -/
structure Three (w0 W : World) (gx gy gz : Nat) (Ao Aa Ab : Option Addr) (no co na ca nb cb X Y Z : Nat) : Prop where
  x : Row W gx tW [.slice Ao no co, .int .i64 X]
  y : Row W gy tW [.slice Aa na ca, .int .i64 Y]
  z : Row W gz tW [.slice Ab nb cb, .int .i64 Z]
  low : Below w0.heap.size w0 W
  out : w0.heap.size ≤ gx ∧ w0.heap.size ≤ gy ∧ w0.heap.size ≤ gz
  ne : gx ≠ gy ∧ gx ≠ gz ∧ gy ≠ gz
theorem Three.keep {w0 A B : World} {gx gy gz : Nat} {Ao Aa Ab : Option Addr} {no co na ca nb cb X Y Z : Nat} (h : Three w0 A gx gy gz Ao Aa Ab no co na ca nb cb X Y Z) (hb : Below A.heap.size A B) : Three w0 B gx gy gz Ao Aa Ab no co na ca nb cb X Y Z :=
  ⟨h.x.below hb h.x.lt, h.y.below hb h.y.lt, h.z.below hb h.z.lt, h.low.trans (hb.mono h.low.size), h.out, h.ne⟩
set_option maxRecDepth 100000 in
set_option maxHeartbeats 4000000 in
theorem right_any {w : World} {A Ao Aa Ab : Option Addr} {c co ca cb : Nat} {L : List Rg} {o a b : Ls} (hs : Rgs w A c L) (ht : In3 w Ao Aa Ab co ca cb o a b) (hL : L.length ≤ 1000000000) :
    Calls Try.prog 11 #[.slice A L.length c, .slice Ao o.length co, .slice Aa a.length ca, .slice Ab b.length cb] w fun y w' => y = .returned (.bool (okF o a b 0 0 0 L)) ∧ Below w.heap.size w w' := by
  have Hs := hide hs
  have Ht := hide ht
  obtain ⟨N, hN⟩ : ∃ N, N = L.length := ⟨_, rfl⟩
  obtain ⟨no, hno⟩ : ∃ z, z = o.length := ⟨_, rfl⟩
  obtain ⟨na, hna⟩ : ∃ z, z = a.length := ⟨_, rfl⟩
  obtain ⟨nb, hnb⟩ : ∃ z, z = b.length := ⟨_, rfl⟩
  rw [← hN] at hL ⊢
  rw [← hno, ← hna, ← hnb]
  have HN := hide hN
  have Hno := hide hno
  have Hna := hide hna
  have Hnb := hide hnb
  have hln : no ≤ 1000000000 ∧ na ≤ 1000000000 ∧ nb ≤ 1000000000 := by have := ht.lo_; have := ht.la_; have := ht.lb_; omega
  have Hln := hide hln
  clear hs ht hN hno hna hnb hln
  go_enter Try.func11, Try.ntmps11
  obtain ⟨gx, hgx⟩ : ∃ z, z = w.heap.size := ⟨_, rfl⟩
  obtain ⟨gy, hgy⟩ : ∃ z, z = w.heap.size + 1 := ⟨_, rfl⟩
  obtain ⟨gz, hgz⟩ : ∃ z, z = w.heap.size + 1 + 1 := ⟨_, rfl⟩
  obtain ⟨w3, hw3⟩ : ∃ w3, w3 = ((w.alloc (.cells #[.slice Ao no co, .int .i64 0] tW)).alloc (.cells #[.slice Aa na ca, .int .i64 0] tW)).alloc (.cells #[.slice Ab nb cb, .int .i64 0] tW) := ⟨_, rfl⟩
  have HT0 := hide (show Three w w3 gx gy gz Ao Aa Ab no co na ca nb cb 0 0 0 from by
    refine ⟨?_, ?_, ?_, ?_, by omega, by omega⟩
    · rw [hw3, hgx]; exact ((Row.fresh w tW _).alloc _).alloc _
    · rw [hw3, hgy]; refine Row.alloc ?_ _; exact Row.new _ tW (by simp) rfl
    · rw [hw3, hgz]; exact Row.new _ tW (by simp) rfl
    · rw [hw3]; exact (((Below.refl _ w).alloc (Nat.le_refl _) _).alloc (by simp) _).alloc (by simp; omega) _)
  have Hgx := hide hgx
  have Hgy := hide hgy
  have Hgz := hide hgz
  have Hw3 := hide hw3
  clear hgx hgy hgz hw3
  go_wp2_with (first | rw [← Hw3.out, ← Hgz.out, ← Hgy.out, ← Hgx.out] | fail)
  go_loopw [22] (fun i wr => ∃ k X Y Z : Nat, k ≤ N ∧ i = .int .i64 k ∧ Hid (okF o a b 0 0 0 L = okF o a b X Y Z (L.drop k)) ∧ Hid (Three w wr gx gy gz Ao Aa Ab no co na ca nb cb X Y Z) ∧ Hid (X ≤ no ∧ Y ≤ na ∧ Z ≤ nb)) (fun i _ => N - (intOf i).toNat)
  case atStart => exact ⟨0, 0, 0, 0, Nat.zero_le _, rfl, rfl, HT0.out, by show Hid _; exact hide (by omega)⟩
  case round =>
    obtain ⟨k, X, Y, Z, hk, rfl, HL, HT, HB⟩ := hrel
    clear HT0 Hw3
    by_cases hlt : k < N
    · obtain ⟨b0, o0, r, rfl, hbl, hLk, hdrop, d0, d1, d2, d3, d4, d5, d6⟩ := Hs.out.at (w' := wr) HT.out.low (k := k) (by have := HN.out; omega)
      obtain ⟨kd, f1, n1, f2, n2, f3, n3⟩ := r
      simp only at d0 d1 d2 d3 d4 d5 d6
      have hlow := HL.out
      rw [hdrop, okF] at hlow
      unfold chk at hlow
      rw [← Hno.out, ← Hna.out, ← Hnb.out] at hlow
      simp only at hlow
      have Hok := hide hlow
      obtain ⟨q, hq⟩ : ∃ q, q = wr.heap.size := ⟨_, rfl⟩
      obtain ⟨w5, hw5⟩ : ∃ w5, w5 = wr.alloc (.cells #[.int .i64 kd, .int .i64 f1, .int .i64 n1, .int .i64 f2, .int .i64 n2, .int .i64 f3, .int .i64 n3] tR) := ⟨_, rfl⟩
      have hb5 : Below wr.heap.size wr w5 := by rw [hw5]; exact (Below.refl _ wr).alloc (Nat.le_refl _) _
      have hrow5 : Row w5 q tR [.int .i64 kd, .int .i64 f1, .int .i64 n1, .int .i64 f2, .int .i64 n2, .int .i64 f3, .int .i64 n3] := by rw [hw5, hq]; exact Row.fresh wr tR _
      have HT5 := hide (HT.out.keep hb5)
      have hqn : q ≠ gx ∧ q ≠ gy ∧ q ≠ gz := by have := HT.out.x.lt; have := HT.out.y.lt; have := HT.out.z.lt; omega
      have e1 := hrow5.cell 1
      have e2 := hrow5.cell 2
      have e3 := hrow5.cell 3
      have e4 := hrow5.cell 4
      have e5 := hrow5.cell 5
      have e6 := hrow5.cell 6
      simp only [List.getElem?_cons_zero, List.getElem?_cons_succ] at e1 e2 e3 e4 e5 e6
      have Hrow5 := hide hrow5
      have Hw5 := hide hw5
      have Hq := hide hq
      have Hqn := hide hqn
      have hBo := HB.out
      have HFX := hide (rfollows_any gx 0 X f1 n1 Ao no co w5 (HT5.out.x.cell 0) (HT5.out.x.cell 1) (by omega) Hln.out.1)
      clear hlow hdrop hLk hbl hb5 hrow5 hw5 hq hqn HL HT
      by_cases hf : fol no X f1 n1 = true
      · rw [hf] at HFX Hok
        obtain ⟨p1, p2, p3⟩ := fol_yes.1 hf
        clear hf
        obtain ⟨M, hM⟩ := Int.eq_ofNat_of_zero_le p2
        subst p1 hM
        have Hp1 := hide (show X + M ≤ no by omega)
        clear p2 p3
        go_wp2_with (first | rw [← Hw5.out, ← Hq.out] | fail)
        refine HFX.out.mono ?_
        rintro y w6 ⟨rfl, hb⟩
        have HT6 := hide (HT5.out.keep hb)
        have Hrow6 := hide (Hrow5.out.below hb Hrow5.out.lt)
        clear hb e1 e2 e3 e4 e5 e6
        have e1 := Hrow6.out.cell 1
        have e2 := Hrow6.out.cell 2
        have e3 := Hrow6.out.cell 3
        have e4 := Hrow6.out.cell 4
        have e5 := Hrow6.out.cell 5
        have e6 := Hrow6.out.cell 6
        simp only [List.getElem?_cons_zero, List.getElem?_cons_succ] at e1 e2 e3 e4 e5 e6
        have HFY := hide (rfollows_any gy 0 Y f2 n2 Aa na ca w6 (HT6.out.y.cell 0) (HT6.out.y.cell 1) (by omega) Hln.out.2.1)
        by_cases hf : fol na Y f2 n2 = true
        · rw [hf] at HFY Hok
          obtain ⟨p1, p2, p3⟩ := fol_yes.1 hf
          clear hf
          obtain ⟨M1, hM⟩ := Int.eq_ofNat_of_zero_le p2
          subst p1 hM
          have Hp2 := hide (show Y + M1 ≤ na by omega)
          clear p2 p3
          go_wp2_with fail
          refine HFY.out.mono ?_
          rintro y w7 ⟨rfl, hb⟩
          have HT7 := hide (HT6.out.keep hb)
          have Hrow7 := hide (Hrow6.out.below hb Hrow6.out.lt)
          clear hb e1 e2 e3 e4 e5 e6
          have e1 := Hrow7.out.cell 1
          have e2 := Hrow7.out.cell 2
          have e3 := Hrow7.out.cell 3
          have e4 := Hrow7.out.cell 4
          have e5 := Hrow7.out.cell 5
          have e6 := Hrow7.out.cell 6
          simp only [List.getElem?_cons_zero, List.getElem?_cons_succ] at e1 e2 e3 e4 e5 e6
          have HFZ := hide (rfollows_any gz 0 Z f3 n3 Ab nb cb w7 (HT7.out.z.cell 0) (HT7.out.z.cell 1) (by omega) Hln.out.2.2)
          by_cases hf : fol nb Z f3 n3 = true
          · rw [hf] at HFZ Hok
            obtain ⟨p1, p2, p3⟩ := fol_yes.1 hf
            clear hf
            obtain ⟨M2, hM⟩ := Int.eq_ofNat_of_zero_le p2
            subst p1 hM
            have Hp3 := hide (show Z + M2 ≤ nb by omega)
            clear p2 p3
            go_wp2_with fail
            refine HFZ.out.mono ?_
            rintro y w8 ⟨rfl, hb⟩
            have HT8 := hide (HT7.out.keep hb)
            have Hrow8 := hide (Hrow7.out.below hb Hrow7.out.lt)
            clear hb e1 e2 e3 e4 e5 e6
            have e1 := Hrow8.out.cell 1
            have e2 := Hrow8.out.cell 2
            have e3 := Hrow8.out.cell 3
            have e4 := Hrow8.out.cell 4
            have e5 := Hrow8.out.cell 5
            have e6 := Hrow8.out.cell 6
            simp only [List.getElem?_cons_zero, List.getElem?_cons_succ] at e1 e2 e3 e4 e5 e6
            clear e1 e2 e3 e4 e5 e6 d0 d1 d2 d3 d4 d5 d6 hBo
            go_wp2
            rename_i Q' KK hKK
            have hT8 := HT8.out
            refine right_r7 _ _ _ _ _ _ _ _ _ _ _ _ _ _ _ _ _ _ _ _ _ _ _ _ _ _ _ _ _ _ _ _ _ _ _ _ _ _ _ _ _ _ _ _ _ _ _ _ _ _ _ _ _ _ _ _ _ _ _ (by kernel_rfl) hT8.x hT8.y hT8.z Hrow8.out ⟨hT8.ne.1, hT8.ne.2.1, hT8.ne.2.2, Hqn.out.1, Hqn.out.2.1, Hqn.out.2.2⟩
              (Lw.Vs.move Ht.out.o_ fun k hk _ => hT8.low.block k hk) (Lw.Vs.move Ht.out.a_ fun k hk _ => hT8.low.block k hk) (Lw.Vs.move Ht.out.b_ fun k hk _ => hT8.low.block k hk) (fun k hk => by have := hT8.out; omega) Hno.out Hna.out Hnb.out Hp1.out Hp2.out Hp3.out Hln.out ?_
            intro u42 u43 u44 u45 u46 u47 u48 u49 u50 u51 u52 u53 w9 hx9 hy9 hz9 ho9
            refine hKK _ _ ?_
            clear hKK KK
            have HT9 := hide (show Three w w9 gx gy gz Ao Aa Ab no co na ca nb cb (X + M) (Y + M1) (Z + M2) from ⟨hx9, hy9, hz9, ho9.below hT8.low hT8.low.size (fun k hk hs => by have := hT8.out; omega), hT8.out, hT8.ne⟩)
            clear hx9 hy9 hz9 ho9 hT8
            by_cases hh : holdsK kd (cut o X M) (cut a Y M1) (cut b Z M2) = true
            · rw [hh] at Hok ⊢
              have hxx : IntKind.i64.wrap ((k : Int) + 1) = (k : Int) + 1 := IntWalk.i64_in _ (by omega)
              clear hh
              go_wp2
              refine ⟨⟨k + 1, X + M, Y + M1, Z + M2, by omega, by go_num, ?_, HT9, ?_⟩, by simp [intOf]; omega⟩
              · show _ = _
                rw [Hok.out, Bool.and_true, Bool.and_true, Bool.true_and, Bool.true_and, Int.natCast_add, Int.natCast_add, Int.natCast_add]
              · exact ⟨Hp1.out, Hp2.out, Hp3.out⟩
            · have hh' : holdsK kd (cut o X M) (cut a Y M1) (cut b Z M2) = false := by simpa using hh
              rw [hh'] at Hok ⊢
              clear hh hh'
              go_wp2
              go_ret
              exact ⟨by rw [Hok.out]; simp, HT9.out.low⟩
          · have hf' : fol nb Z f3 n3 = false := by simpa using hf
            rw [hf'] at HFZ Hok
            clear hf hf'
            go_wp2_with fail
            refine HFZ.out.mono ?_
            rintro y w8 ⟨rfl, hb⟩
            have Hb := hide hb
            clear hb
            go_wp2
            go_ret
            refine ⟨by rw [Hok.out]; simp, ?_⟩
            exact HT7.out.low.trans (Hb.out.mono HT7.out.low.size)
        · have hf' : fol na Y f2 n2 = false := by simpa using hf
          rw [hf'] at HFY Hok
          clear hf hf'
          go_wp2_with fail
          refine HFY.out.mono ?_
          rintro y w7 ⟨rfl, hb⟩
          have Hb := hide hb
          clear hb
          go_wp2
          go_ret
          refine ⟨by rw [Hok.out]; simp, ?_⟩
          exact HT6.out.low.trans (Hb.out.mono HT6.out.low.size)
      · have hf' : fol no X f1 n1 = false := by simpa using hf
        rw [hf'] at HFX Hok
        clear hf hf'
        go_wp2_with (first | rw [← Hw5.out, ← Hq.out] | fail)
        refine HFX.out.mono ?_
        rintro y w6 ⟨rfl, hb⟩
        have Hb := hide hb
        clear hb
        go_wp2
        go_ret
        refine ⟨by rw [Hok.out]; simp, ?_⟩
        exact HT5.out.low.trans (Hb.out.mono HT5.out.low.size)
    · obtain rfl : k = N := by omega
      have hok := HL.out
      rw [List.drop_of_length_le (by have := HN.out; omega), okF, ← Hno.out, ← Hna.out, ← Hnb.out] at hok
      have Hok := hide hok
      have HEX := hide (rended_any gx 0 X Ao no co wr (HT.out.x.cell 0) (HT.out.x.cell 1))
      have HEY := hide (fun w1 (hb : Below wr.heap.size wr w1) => rended_any gy 0 Y Aa na ca w1 ((HT.out.keep hb).y.cell 0) ((HT.out.keep hb).y.cell 1))
      have HEZ := hide (fun w1 (hb : Below wr.heap.size wr w1) => rended_any gz 0 Z Ab nb cb w1 ((HT.out.keep hb).z.cell 0) ((HT.out.keep hb).z.cell 1))
      clear hok
      by_cases h1 : (X : Int) = no
      · rw [decide_eq_true h1] at HEX Hok
        clear h1
        by_cases h2 : (Y : Int) = na
        · rw [decide_eq_true h2] at HEY Hok
          clear h2
          obtain ⟨dz, hdz⟩ : ∃ dz, dz = decide ((Z : Int) = nb) := ⟨_, rfl⟩
          rw [← hdz] at HEZ Hok
          clear hdz
          go_wp2_with fail
          refine HEX.out.mono ?_
          rintro y w6 ⟨rfl, hb6⟩
          have Hb6 := hide hb6
          clear hb6
          go_wp2_with fail
          refine (HEY.out w6 Hb6.out).mono ?_
          rintro y w7 ⟨rfl, hb7⟩
          have Hb7 := hide (Hb6.out.trans (hb7.mono Hb6.out.size))
          clear hb7
          go_wp2_with fail
          refine (HEZ.out w7 Hb7.out).mono ?_
          rintro y w8 ⟨rfl, hb8⟩
          have Hb8 := hide (Hb7.out.trans (hb8.mono Hb7.out.size))
          clear hb8
          go_wp2
          go_ret
          exact ⟨by rw [Hok.out]; simp, HT.out.low.trans (Hb8.out.mono HT.out.low.size)⟩
        · rw [decide_eq_false h2] at HEY Hok
          clear h2
          go_wp2_with fail
          refine HEX.out.mono ?_
          rintro y w6 ⟨rfl, hb6⟩
          have Hb6 := hide hb6
          clear hb6
          go_wp2_with fail
          refine (HEY.out w6 Hb6.out).mono ?_
          rintro y w7 ⟨rfl, hb7⟩
          have Hb7 := hide (Hb6.out.trans (hb7.mono Hb6.out.size))
          clear hb7
          go_wp2
          go_ret
          exact ⟨by rw [Hok.out]; simp, HT.out.low.trans (Hb7.out.mono HT.out.low.size)⟩
      · rw [decide_eq_false h1] at HEX Hok
        clear h1
        go_wp2_with fail
        refine HEX.out.mono ?_
        rintro y w6 ⟨rfl, hb6⟩
        have Hb6 := hide hb6
        clear hb6
        go_wp2
        go_ret
        exact ⟨by rw [Hok.out]; simp, HT.out.low.trans (Hb6.out.mono HT.out.low.size)⟩

end Go.Proofs.Yteehbpnbephojaa.Al
