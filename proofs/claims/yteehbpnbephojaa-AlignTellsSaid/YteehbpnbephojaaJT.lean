/-
  The statements' own example (awake) of the regions' layer comes out true.
-/
import Derived.BigQuiet
import Derived.Test.YteehbpnbephojaaJR
import Derived.Test.YteehbpnbephojaaJS
import Derived.Test.YteehbpnbephojaaENs
namespace Go.Proofs.Yteehbpnbephojaa.Al
open Go Go.RowKit Kt Kg Lw Li Df

abbrev xO : Ls := [[49], [50], [51]]
abbrev xA : Ls := [[49], [120], [51]]
abbrev xB : Ls := [[49], [50], [51], [52]]
theorem D_xA : D xO xA = [⟨1, 1, [[120]]⟩] := by
  have h1 : fr xO xA = 1 := by decide
  have h2 : bk xO xA = 1 := by decide
  have h3 : mid xO 1 1 = [[50]] := by decide
  have h4 : mid xA 1 1 = [[120]] := by decide
  unfold D
  rw [h1, h2, h3, h4, if_pos (by decide), go_both, if_neg (by decide), if_pos (by rw [lcs_nil_right]; exact Nat.zero_le _), go_come, go_nil]
  rfl
theorem D_xB : D xO xB = [⟨3, 0, [[52]]⟩] := by
  have h1 : fr xO xB = 3 := by decide
  have h2 : bk xO xB = 0 := by decide
  have h3 : mid xO 3 0 = [] := by decide
  have h4 : mid xB 3 0 = [[52]] := by decide
  rw [D_add xO xB (.inl (by rw [h1, h2, h3])), h1, h2, h3, h4]
  rfl
theorem mrg_x : mrg (D xO xA) (D xO xB) = [(false, ⟨1, 1, [[120]]⟩), (true, ⟨3, 0, [[52]]⟩)] := by
  rw [D_xA, D_xB, mrg, if_pos (by decide), mrg]
  rfl
abbrev xL : List Rg := [⟨0, 0, 1, 0, 1, 0, 1⟩, ⟨1, 1, 1, 1, 1, 1, 1⟩, ⟨0, 2, 1, 2, 1, 2, 1⟩, ⟨2, 3, 0, 3, 0, 3, 1⟩]
theorem regs_x : regs xO xA xB = xL := by
  unfold regs
  rw [mrg_x, loop_cons]
  have g1 : grow ((Cl.zero 1).take false ⟨1, 1, [[120]]⟩) [(true, ⟨3, 0, [[52]]⟩)] = (⟨1, 2, 1, 0, 0, 0⟩, [(true, ⟨3, 0, [[52]]⟩)]) := by rfl
  simp only [g1]
  rw [loop_cons]
  have g2 : grow ((Cl.zero 3).take true ⟨3, 0, [[52]]⟩) [] = (⟨3, 3, 0, 0, 1, 1⟩, []) := by rfl
  simp only [g2]
  rw [loop_nil]
  decide
theorem ok_x : okF xO xA xB 0 0 0 xL = true := by decide
set_option maxHeartbeats 2000000 in
set_option maxRecDepth 100000 in
theorem awake_any (w : World) : Calls Try.prog 7 #[] w fun y w' => y = .returned (.bool true) ∧ Below w.heap.size w w' := by
  go_enter Try.func7, Try.ntmps7
  go_wp2_with fail
  obtain ⟨w2, hw2⟩ : ∃ w2, w2 = ((w.alloc (.cells #[.string ⟨#[49]⟩, .string ⟨#[50]⟩, .string ⟨#[51]⟩] 9)).alloc (.cells #[.string ⟨#[49]⟩, .string ⟨#[120]⟩, .string ⟨#[51]⟩] 9)).alloc (.cells #[.string ⟨#[49]⟩, .string ⟨#[50]⟩, .string ⟨#[51]⟩, .string ⟨#[52]⟩] 9) := ⟨_, rfl⟩
  have hb2 : Below w.heap.size w w2 := by rw [hw2]; exact (((Below.refl w.heap.size w).alloc (Nat.le_refl _) _).alloc (by simp) _).alloc (by simp; omega) _
  have HT := hide (show Trio w2 (some ⟨w.heap.size, 0, none⟩) (some ⟨w.heap.size + 1, 0, none⟩) (some ⟨w.heap.size + 1 + 1, 0, none⟩) 3 3 4 xO xA xB by
    have h1 := lit_vs w 9 xO
    have h2 := lit_vs (w.alloc (.cells (texts xO).toArray 9)) 9 xA
    have h3 := lit_vs ((w.alloc (.cells (texts xO).toArray 9)).alloc (.cells (texts xA).toArray 9)) 9 xB
    rw [World.size_alloc] at h2
    rw [World.size_alloc, World.size_alloc] at h3
    refine ⟨?_, ?_, ?_, by decide, by decide, by decide⟩
    · rw [hw2]; exact Lw.Vs.bound (Lw.Vs.below (Lw.Vs.below h1 ((Below.refl _ _).alloc (Nat.le_refl _) _)) ((Below.refl _ _).alloc (Nat.le_refl _) _))
    · rw [hw2]; exact Lw.Vs.bound (Lw.Vs.below h2 ((Below.refl _ _).alloc (Nat.le_refl _) _))
    · rw [hw2]; exact Lw.Vs.bound h3)
  rw [← hw2]
  have Hb2 := hide hb2
  clear hw2 hb2
  refine (regions_any HT.out).mono ?_
  rintro y w3 ⟨v, rfl, hv, hb3⟩
  rw [regs_x] at hv
  obtain ⟨A, c, rfl, he⟩ := hv.rgs
  have He := hide he
  have Hb3 := hide (Hb2.out.trans (hb3.mono Hb2.out.size))
  have Hb23 := hide hb3
  clear hv he hb3
  simp only [List.length_cons, List.length_nil, Nat.zero_add]
  obtain ⟨q, hq⟩ : ∃ q, q = w3.heap.size := ⟨_, rfl⟩
  obtain ⟨w4, hw4⟩ : ∃ w4, w4 = w3.alloc (.cells #[.int .i64 0, .int .i64 1] tSp) := ⟨_, rfl⟩
  have hb4 : Below w3.heap.size w3 w4 := by rw [hw4]; exact (Below.refl _ w3).alloc (Nat.le_refl _) _
  have hrow4 : Row w4 q tSp [.int .i64 0, .int .i64 1] := by rw [hw4, hq]; exact Row.fresh w3 tSp _
  have HR := hide (right_any (o := xO) (a := xA) (b := xB) (L := xL) (w := w4) (A := A) (c := c) (He.out.keep hb4) (Ao := some ⟨w.heap.size, 0, none⟩) (Aa := some ⟨w.heap.size + 1, 0, none⟩) (Ab := some ⟨w.heap.size + 1 + 1, 0, none⟩) (co := 3) (ca := 3) (cb := 4)
    ⟨vs_keep (vs_keep HT.out.o_ Hb23.out) hb4, vs_keep (vs_keep HT.out.a_ Hb23.out) hb4, vs_keep (vs_keep HT.out.b_ Hb23.out) hb4, by decide, by decide, by decide⟩ (by decide))
  rw [ok_x] at HR
  have Hb4 := hide (Hb3.out.trans (hb4.mono Hb3.out.size))
  have Hb34 := hide hb4
  have Hrow4 := hide hrow4
  have Hw4 := hide hw4
  have Hq := hide hq
  clear hb4 hrow4 hw4 hq
  go_wp2_with (first | rw [← Hw4.out, ← Hq.out] | fail)
  refine HR.out.mono ?_
  rintro y w5 ⟨rfl, hb5⟩
  have hrow5 := Hrow4.out.below hb5 Hrow4.out.lt
  have k0 := hrow5.cell 0
  have k1 := hrow5.cell 1
  simp only [List.getElem?_cons_zero, List.getElem?_cons_succ] at k0 k1
  have hb35 : Below w3.heap.size w3 w5 := Hb34.out.trans (hb5.mono Hb34.out.size)
  obtain ⟨b0, o0, r0, hA, hbl, hr0, _, c0, c1, c2, c3, c4, c5, c6⟩ := He.out.at hb35 (k := 0) (by decide)
  obtain ⟨b1, o1, r1, hA1, _, hr1, _, d0, d1, d2, d3, d4, d5, d6⟩ := He.out.at hb35 (k := 1) (by decide)
  obtain ⟨b2, o2, r2, hA2, _, hr2, _, e0, e1, e2, e3, e4, e5, e6⟩ := He.out.at hb35 (k := 2) (by decide)
  obtain ⟨b3, o3, r3, hA3, _, hr3, _, f0, f1, f2, f3, f4, f5, f6⟩ := He.out.at hb35 (k := 3) (by decide)
  subst hA
  injection hA1 with hA1
  injection hA1 with hA1 hA1'
  injection hA2 with hA2
  injection hA2 with hA2 hA2'
  injection hA3 with hA3
  injection hA3 with hA3 hA3'
  subst hA1 hA1' hA2 hA2' hA3 hA3'
  simp only [List.getElem?_cons_zero, List.getElem?_cons_succ, Option.some.injEq] at hr0 hr1 hr2 hr3
  subst hr0 hr1 hr2 hr3
  simp only [Nat.zero_mul, Nat.add_zero, Nat.one_mul] at c0 c1 c2 c3 c4 c5 c6 d0 d1 d2 d3 d4 d5 d6 e0 e1 e2 e3 e4 e5 e6 f0 f1 f2 f3 f4 f5 f6
  have Hb5 := hide (Hb4.out.trans (hb5.mono Hb4.out.size))
  clear hb5 hb35 hrow5 hbl
  go_wp2
  go_quiet (fail)
  go_wp2
  go_ret
  exact ⟨rfl, below_drewN Hb5.out _⟩
end Go.Proofs.Yteehbpnbephojaa.Al
