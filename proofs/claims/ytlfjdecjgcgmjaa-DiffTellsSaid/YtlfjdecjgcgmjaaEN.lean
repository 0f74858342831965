/-
  The statements' own example (awake) of the diff's layer comes out true.
-/
import Derived.Test.YtlfjdecjgcgmjaaEM
namespace Go.Proofs.Ytlfjdecjgcgmjaa.Df
open Go Go.RowKit Kt Lw Li

theorem lit_vs (w : World) (E : TypeId) (l : Ls) : Vs (w.alloc (.cells (texts l).toArray E)) (fun _ => True) (some ⟨w.heap.size, 0, none⟩) l.length (texts l) :=
  ⟨by simp [texts], fun _ => ⟨w.heap.size, 0, rfl, trivial, fun j v hj => by
    rw [Nat.zero_add, (Row.fresh w _ _).cell]
    exact hj⟩⟩
theorem lit_es (w : World) (e : Ed) (A : Option Addr) (c : Nat) (P : Nat → Prop) (h : Vs w P A c (texts e.ins)) (E : TypeId) : Es (w.alloc (.cells (edC e (.slice A e.ins.length c)).toArray E)) (some ⟨w.heap.size, 0, none⟩) 1 [e] :=
  ⟨by simp, fun _ => ⟨w.heap.size, 0, rfl, by simp, fun j e' hj => by
    have hj0 : j = 0 := by
      have := (List.getElem?_eq_some_iff.1 hj).1
      simpa using this
    subst hj0
    simp at hj
    subst hj
    refine ⟨A, c, fun k v hk => ?_, Lw.Vs.bound (Lw.Vs.below h ((Below.refl _ w).alloc (Nat.le_refl _) _))⟩
    rw [show 0 + 3 * 0 + k = k from by omega, (Row.fresh w _ _).cell]
    exact hk⟩⟩
abbrev abc : Ls := [[97], [98], [99]]
abbrev axc : Ls := [[97], [120], [99]]
theorem D_abc : D abc axc = [⟨1, 1, [[120]]⟩] := by
  have h1 : fr abc axc = 1 := by decide
  have h2 : bk abc axc = 1 := by decide
  have h3 : mid abc 1 1 = [[98]] := by decide
  have h4 : mid axc 1 1 = [[120]] := by decide
  unfold D
  rw [h1, h2, h3, h4, if_pos (by decide), go_both, if_neg (by decide), if_pos (by rw [lcs_nil_right]; exact Nat.zero_le _), go_come, go_nil]
  rfl

set_option maxHeartbeats 2000000 in
set_option maxRecDepth 100000 in
theorem awake_any (w : World) : Calls Try.prog 4 #[] w fun y w' => y = .returned (.bool true) ∧ Below w.heap.size w w' := by
  have HD := hide D_abc
  have HR := hide (D_right abc axc)
  have HP := hide (D_play abc axc)
  rw [HD.out] at HR HP
  go_enter Try.func4, Try.ntmps4
  go_wp2_with fail
  obtain ⟨w2, hw2⟩ : ∃ w2, w2 = (w.alloc (.cells #[.string ⟨#[97]⟩, .string ⟨#[98]⟩, .string ⟨#[99]⟩] 9)).alloc (.cells #[.string ⟨#[97]⟩, .string ⟨#[120]⟩, .string ⟨#[99]⟩] 9) := ⟨_, rfl⟩
  have hb2 : Below w.heap.size w w2 := by rw [hw2]; exact ((Below.refl w.heap.size w).alloc (Nat.le_refl _) _).alloc (by simp) _
  have Ha2 := hide (show Vs w2 (fun b => b < w2.heap.size) (some ⟨w.heap.size, 0, none⟩) 3 (texts abc) by
    rw [hw2]; exact Lw.Vs.bound (Lw.Vs.below (lit_vs w 9 abc) ((Below.refl _ _).alloc (Nat.le_refl _) _)))
  have Hx2 := hide (show Vs w2 (fun b => b < w2.heap.size) (some ⟨w.heap.size + 1, 0, none⟩) 3 (texts axc) by
    have := (lit_vs (w.alloc (.cells #[.string ⟨#[97]⟩, .string ⟨#[98]⟩, .string ⟨#[99]⟩] 9)) 9 axc)
    rw [World.size_alloc] at this
    rw [hw2]; exact Lw.Vs.bound this)
  rw [← hw2]
  clear hw2
  refine (diff_any abc axc _ _ 3 3 _ _ w2 Ha2.out Hx2.out (by simp) (by simp)).mono ?_
  rintro y w3 ⟨v, rfl, hv, hb3⟩
  rw [HD.out] at hv
  obtain ⟨A, c, rfl, he⟩ := OwE.es hv
  have Ha3 := hide (vs_keep Ha2.out hb3)
  have He3 := hide he
  have Hb3 := hide (hb2.trans (hb3.mono hb2.size))
  clear hv he hb3 hb2
  simp only [List.length_cons, List.length_nil, Nat.zero_add]
  go_wp2_with fail
  refine (play_yes abc _ _ A 3 c _ w3 Ha3.out He3.out (by simp) (by simp) (by rw [HP.out]; simp) HR.out).mono ?_
  rintro y w4 ⟨v, rfl, hv, hb4⟩
  rw [HP.out] at hv
  obtain ⟨A4, c4, rfl, hs4⟩ := OwT.vs hv
  have Ha4 := hide (vs_keep Ha3.out hb4)
  have He4 := hide (He3.out.keep hb4)
  have Hs4 := hide (Lw.Vs.bound hs4)
  have Hb4 := hide (Hb3.out.trans (hb4.mono Hb3.out.size))
  clear hv hs4 hb4
  go_wp2_with fail
  obtain ⟨w5, hw5⟩ : ∃ w5, w5 = (w4.alloc (.cells #[.string ⟨#[120]⟩] 9)).alloc (.cells #[.int .i64 1, .int .i64 1, .slice (some ⟨w4.heap.size, 0, none⟩) 1 1] 31) := ⟨_, rfl⟩
  have hb5 : Below w4.heap.size w4 w5 := by rw [hw5]; exact ((Below.refl w4.heap.size w4).alloc (Nat.le_refl _) _).alloc (by simp) _
  have Hx5 := hide (show Es w5 (some ⟨w4.heap.size + 1, 0, none⟩) 1 [⟨1, 1, [[120]]⟩] by
    have := lit_es (w4.alloc (.cells #[.string ⟨#[120]⟩] 9)) ⟨1, 1, [[120]]⟩ _ 1 _ (lit_vs w4 9 [[120]]) 31
    rw [World.size_alloc] at this
    rw [hw5]; exact this)
  rw [← hw5]
  have Ha5 := hide (vs_keep Ha4.out hb5)
  have He5 := hide (He4.out.keep hb5)
  have Hs5 := hide (vs_keep Hs4.out hb5)
  have Hb5 := hide (Hb4.out.trans (hb5.mono Hb4.out.size))
  clear hw5 hb5
  refine (same_any [⟨1, 1, [[120]]⟩] A _ c 1 w5 He5.out Hx5.out (by simp) (by simp)).mono ?_
  rintro y w6 ⟨rfl, hb6⟩
  have Ha6 := hide (vs_keep Ha5.out hb6)
  have He6 := hide (He5.out.keep hb6)
  have Hs6 := hide (vs_keep Hs5.out hb6)
  have Hb6 := hide (Hb5.out.trans (hb6.mono Hb5.out.size))
  clear hb6
  go_wp2_with fail
  obtain ⟨w7, hw7⟩ : ∃ w7, w7 = w6.alloc (.cells #[.string ⟨#[97]⟩, .string ⟨#[120]⟩, .string ⟨#[99]⟩] 9) := ⟨_, rfl⟩
  have hb7 : Below w6.heap.size w6 w7 := by rw [hw7]; exact (Below.refl w6.heap.size w6).alloc (Nat.le_refl _) _
  have Hx7 := hide (show Vs w7 (fun b => b < w7.heap.size) (some ⟨w6.heap.size, 0, none⟩) 3 (texts axc) by
    rw [hw7]; exact Lw.Vs.bound (lit_vs w6 9 axc))
  rw [← hw7]
  have Ha7 := hide (vs_keep Ha6.out hb7)
  have He7 := hide (He6.out.keep hb7)
  have Hs7 := hide (vs_keep Hs6.out hb7)
  have Hb7 := hide (Hb6.out.trans (hb7.mono Hb6.out.size))
  clear hw7 hb7
  refine (texts_any axc axc A4 _ c4 3 _ _ w7 Hs7.out Hx7.out (by simp)).mono ?_
  rintro y w8 ⟨rfl, hb8⟩
  have Ha8 := hide (vs_keep Ha7.out hb8)
  have He8 := hide (He7.out.keep hb8)
  have Hb8 := hide (Hb7.out.trans (hb8.mono Hb7.out.size))
  clear hb8
  simp only [decide_true]
  go_wp2_with fail
  refine (right_any 3 [⟨1, 1, [[120]]⟩] A c w8 He8.out (by simp) (by omega) (by omega)).mono ?_
  rintro y w9 ⟨rfl, hb9⟩
  have Ha9 := hide (vs_keep Ha8.out hb9)
  have He9 := hide (He8.out.keep hb9)
  have Hb9 := hide (Hb8.out.trans (hb9.mono Hb8.out.size))
  clear hb9
  rw [show right 3 (-1) [⟨1, 1, [[120]]⟩] = true from HR.out]
  go_wp2_with fail
  refine (size_any [⟨1, 1, [[120]]⟩] A c w9 He9.out (by simp) (by decide)).mono ?_
  rintro y w10 ⟨rfl, hb10⟩
  have Ha10 := hide (vs_keep Ha9.out hb10)
  have He10 := hide (He9.out.keep hb10)
  have Hb10 := hide (Hb9.out.trans (hb10.mono Hb9.out.size))
  clear hb10
  rw [show size [⟨1, 1, [[120]]⟩] = 2 from by decide]
  go_wp2_with fail
  refine (turn_yes abc _ _ A 3 c _ w10 Ha10.out He10.out (by simp) (by simp) (by rw [HP.out]; simp) HR.out).mono ?_
  rintro y w11 ⟨v, rfl, hv, hb11⟩
  obtain ⟨A11, c11, rfl, _⟩ := OwE.es hv
  have Hb11 := hide (Hb10.out.trans (hb11.mono Hb10.out.size))
  clear hv hb11
  rw [turn_len]
  simp only [List.length_cons, List.length_nil, Nat.zero_add]
  go_wp2
  go_ret
  exact ⟨rfl, Hb11.out⟩
end Go.Proofs.Ytlfjdecjgcgmjaa.Df
