/-
  The statements' own example (awake) of the hunks' layer comes out true.
-/
import Derived.Test.YtiegkfjipcgheaaHO
import Derived.Test.YtiegkfjipcgheaaENs
namespace Go.Proofs.Ytiegkfjipcgheaa.Hu
open Go Go.RowKit Kt Lw Li Df

abbrev exL : List Ed := [⟨1, 1, [[120]]⟩]
abbrev exH : Hk := ⟨0, 3, 0, 3, [[32, 97], [45, 98], [43, 120], [32, 99]]⟩
theorem ex_make : mkHs abc 1 0 exL = [exH] := by
  rw [mkHs_cons, show (spl 1 ⟨1, 1, [[120]]⟩ []).2 = [] from rfl, mkHs_nil]
  rfl
theorem ex_right : right abc.length (-1) exL = true := by decide
theorem ex_hright : hright exH = true := by decide
theorem ex_hedits : hedits exH = exL := by rfl
theorem ex_hturn : (hturn exH).lines = [[32, 97], [45, 120], [43, 98], [32, 99]] := by rfl

theorem run_field4 (w : World) (x0 x1 x2 x3 : Int) (A : Option Addr) (n c : Nat) : (Instr.field tH (.agg #[.int .i64 x0, .int .i64 x1, .int .i64 x2, .int .i64 x3, .slice A n c]) 4).run Try.prog w = .ok (.slice A n c) w := by
  kernel_rfl
set_option maxHeartbeats 2000000 in
set_option maxRecDepth 100000 in
theorem awake_any (w : World) : Calls Try.prog 14 #[] w fun y w' => y = .returned (.bool true) ∧ Below w.heap.size w w' := by
  go_enter Try.func14, Try.ntmps14
  go_wp2_with fail
  obtain ⟨w2, hw2⟩ : ∃ w2, w2 = ((w.alloc (.cells #[.string ⟨#[97]⟩, .string ⟨#[98]⟩, .string ⟨#[99]⟩] 9)).alloc (.cells #[.string ⟨#[120]⟩] 9)).alloc (.cells #[.int .i64 1, .int .i64 1, .slice (some ⟨w.heap.size + 1, 0, none⟩) 1 1] 51) := ⟨_, rfl⟩
  have hb2 : Below w.heap.size w w2 := by rw [hw2]; exact (((Below.refl w.heap.size w).alloc (Nat.le_refl _) _).alloc (by simp) _).alloc (by simp; omega) _
  have Ha2 := hide (show Vs w2 (fun b => b < w2.heap.size) (some ⟨w.heap.size, 0, none⟩) 3 (texts abc) by
    rw [hw2]; exact Lw.Vs.bound (Lw.Vs.below (Lw.Vs.below (lit_vs w 9 abc) ((Below.refl _ _).alloc (Nat.le_refl _) _)) ((Below.refl _ _).alloc (Nat.le_refl _) _)))
  have Hx2 := hide (show Es w2 (some ⟨w.heap.size + 2, 0, none⟩) 1 exL by
    have h1 := lit_vs (w.alloc (.cells #[.string ⟨#[97]⟩, .string ⟨#[98]⟩, .string ⟨#[99]⟩] 9)) 9 [[120]]
    rw [World.size_alloc] at h1
    have h2 := lit_es ((w.alloc (.cells #[.string ⟨#[97]⟩, .string ⟨#[98]⟩, .string ⟨#[99]⟩] 9)).alloc (.cells #[.string ⟨#[120]⟩] 9)) ⟨1, 1, [[120]]⟩ _ 1 _ h1 51
    rw [World.size_alloc, World.size_alloc] at h2
    rw [hw2]; exact h2)
  rw [← hw2]
  clear hw2
  refine (make_yes abc 1 exL _ _ 3 1 _ w2 Ha2.out Hx2.out (by simp) (by simp) (by omega) (by decide) ex_right (by simp) (by simp)).mono ?_
  rintro y w3 ⟨v, rfl, hv, hb3⟩
  rw [ex_make] at hv
  obtain ⟨A, c, rfl, he⟩ := OwH.hks hv
  obtain ⟨b, o, h, A', c', rfl, hke, ⟨c0, c1, c2, c3, c4⟩, hvs⟩ := he.at (Below.refl _ _) (k := 0) (by simp)
  simp only [List.getElem?_cons_zero, Option.some.injEq] at hke
  subst hke
  have Hb3 := hide (hb2.trans (hb3.mono hb2.size))
  simp only [Nat.zero_mul, Nat.add_zero, List.length_cons, List.length_nil, Nat.zero_add] at c0 c1 c2 c3 c4
  have Hv3 := hide hvs
  clear hv he hb3 hb2 hvs
  simp only [List.length_cons, List.length_nil, Nat.zero_add]
  go_wp2_with fail
  refine (hedits_any exH A' c' _ w3 Hv3.out (by decide) ex_hright (by decide)).mono ?_
  rintro y w4 ⟨u, rfl, hu, hb4⟩
  rw [ex_hedits] at hu
  obtain ⟨Au, cu, rfl, heu⟩ := OwE.es hu
  obtain ⟨b', o', e', Ae, ce, rfl, hke, ⟨k0, k1, k2⟩, _⟩ := heu.at (Below.refl _ _) (k := 0) (by simp)
  simp only [List.getElem?_cons_zero, Option.some.injEq] at hke
  subst hke
  simp only [Nat.zero_mul, Nat.add_zero] at k0 k1 k2
  have d0 := cell_keep hb4 c0
  have d1 := cell_keep hb4 c1
  have d2 := cell_keep hb4 c2
  have d3 := cell_keep hb4 c3
  have d4 := cell_keep hb4 c4
  have Hv4 := hide (vs_keep Hv3.out hb4)
  have Hb4 := hide (Hb3.out.trans (hb4.mono Hb3.out.size))
  clear hu heu hb4 c0 c1 c2 c3 c4 k1 k2
  simp only [List.length_cons, List.length_nil, Nat.zero_add]
  go_wp2_with fail
  obtain ⟨w5, hw5⟩ : ∃ w5, w5 = w4.alloc (.cells #[.string ⟨#[32, 97]⟩, .string ⟨#[45, 98]⟩, .string ⟨#[43, 120]⟩, .string ⟨#[32, 99]⟩] 9) := ⟨_, rfl⟩
  have hb5 : Below w4.heap.size w4 w5 := by rw [hw5]; exact (Below.refl w4.heap.size w4).alloc (Nat.le_refl _) _
  have hl5 : Vs w5 (fun b => b < w5.heap.size) (some ⟨w4.heap.size, 0, none⟩) 4 (texts exH.lines) := by
    rw [hw5]; exact Lw.Vs.bound (lit_vs w4 9 exH.lines)
  have Hv5 := hide (vs_keep Hv4.out hb5)
  rw [← hw5]
  have e0 := cell_keep hb5 d0
  have e1 := cell_keep hb5 d1
  have e2 := cell_keep hb5 d2
  have e3 := cell_keep hb5 d3
  have e4 := cell_keep hb5 d4
  have l0 := cell_keep hb5 k0
  have Hb5 := hide (Hb4.out.trans (hb5.mono Hb4.out.size))
  clear hw5 hb5 d0 d1 d2 d3 d4 k0
  refine (one_same exH A' (some ⟨w4.heap.size, 0, none⟩) c' 4 _ _ w5 Hv5.out hl5 (by decide)).mono ?_
  rintro y w6 ⟨rfl, hb6⟩
  have f0 := cell_keep hb6 e0
  have f1 := cell_keep hb6 e1
  have f2 := cell_keep hb6 e2
  have f3 := cell_keep hb6 e3
  have f4 := cell_keep hb6 e4
  have m0 := cell_keep hb6 l0
  have Hv6 := hide (vs_keep Hv5.out hb6)
  have Hb6 := hide (Hb5.out.trans (hb6.mono Hb5.out.size))
  clear hb6 e0 e1 e2 e3 e4 l0 hl5
  go_wp2_with fail
  refine (hright_any exH.a exH.an exH.b exH.bn exH.lines A' c' _ w6 Hv6.out (by decide)).mono ?_
  rintro y w7 ⟨rfl, hb7⟩
  rw [show hright ⟨exH.a, exH.an, exH.b, exH.bn, exH.lines⟩ = true from ex_hright]
  have h0 := cell_keep hb7 f0
  have h1 := cell_keep hb7 f1
  have h2 := cell_keep hb7 f2
  have h3 := cell_keep hb7 f3
  have h4 := cell_keep hb7 f4
  have n0 := cell_keep hb7 m0
  have Hv7 := hide (vs_keep Hv6.out hb7)
  have Hb7 := hide (Hb6.out.trans (hb7.mono Hb6.out.size))
  clear hb7 f0 f1 f2 f3 f4 m0
  go_wp2_with fail
  refine (hturn_any exH A' c' _ w7 Hv7.out (by decide) ex_hright (by decide)).mono ?_
  rintro y w8 ⟨v, rfl, hv, hb8⟩
  rw [ex_hturn] at hv
  obtain ⟨At, ct, rfl, hvt⟩ := OwT.vs hv
  obtain ⟨bt, ot, rfl, ht⟩ := (Lw.Vs.bound hvt).text (Below.refl _ _) (k := 1) (by simp)
  simp only [List.getD_cons_succ, List.getD_cons_zero] at ht
  have Hb8 := hide (Hb7.out.trans (hb8.mono Hb7.out.size))
  clear hv hvt hb8
  simp only [List.length_cons, List.length_nil, Nat.zero_add]
  have hfld := fun w => run_field4 w (hturn exH).a (hturn exH).an (hturn exH).b (hturn exH).bn (some ⟨bt, ot, none⟩) 4 ct
  go_wp2
  go_ret
  exact ⟨rfl, Hb8.out⟩
end Go.Proofs.Ytiegkfjipcgheaa.Hu
