/-
  The statements' own example (awake) of the wire's layer comes out true.
-/
import Derived.Test.YtiomhbajbbpmiaaWJ
import Derived.Test.YtiomhbajbbpmiaaWK

namespace Go.Proofs.Ytiomhbajbbpmiaa.Wr
open Go Go.RowKit Kt

theorem two_sl (w : World) (a b : UInt8) : Sl (w.alloc (.cells #[.int .u8 (a.toNat : Int), .int .u8 (b.toNat : Int)] 5)) (fun _ => True) (some ⟨w.heap.size, 0, none⟩) 2 [a, b] :=
  ⟨by simp, fun _ => ⟨w.heap.size, 0, rfl, trivial, fun j hj => by
    rw [Nat.zero_add, (Row.fresh w _ _).cell]
    rcases j with _ | _ | j
    · rfl
    · rfl
    · simp at hj; omega⟩⟩
theorem num_128_0 : stepNum [128, 0] 0 = (0, [128, 0], 3) := by decide +kernel
theorem num_172_2 : stepNum [172, 2] 0 = (300, [], 0) := by decide +kernel
theorem form_300 : form 300 = [172, 2] := by rw [form_ge (by omega), form_lt (by omega)]; rfl

set_option maxHeartbeats 2000000 in
set_option maxRecDepth 100000 in
theorem awake_any (w : World) : Calls Try.prog 10 #[] w fun y w' => y = .returned (.bool true) ∧ Below w.heap.size w w' := by
  go_enter Try.func10, Try.ntmps10
  go_wp2_with fail
  refine (open_any [128, 0] _ 2 _ _ (two_sl w 128 0) (by simp)).mono ?_
  rintro y w1 ⟨g1, rfl, hr1, hb1⟩
  have Hr1 := hide hr1
  have Hb1 := hide (((Below.refl w.heap.size w).alloc (Nat.le_refl _) (.cells #[.int .u8 128, .int .u8 0] 5)).trans (hb1.mono (by simp)))
  clear hr1 hb1
  go_wp2_with fail
  refine (open_any [172, 2] _ 2 _ _ (two_sl w1 172 2) (by simp)).mono ?_
  rintro y w2 ⟨g2, rfl, hr2, hb2⟩
  have hb2' := ((Below.refl w1.heap.size w1).alloc (Nat.le_refl _) (.cells #[.int .u8 172, .int .u8 2] 5)).trans (hb2.mono (by simp))
  have Hr1' := hide (Hr1.out.below hb2')
  have Hr2 := hide hr2
  have Hne := hide (show g2 ≠ g1 by have := hr2.from; have := Hr1.out.lt; simp at *; omega)
  have Hb2 := hide (Hb1.out.trans (hb2'.mono Hb1.out.size))
  have Hg1 := hide (show w.heap.size ≤ g1 by have := Hr1.out.from; simp at this; omega)
  have Hg2 := hide (show w.heap.size ≤ g2 by have := hr2.from; have := Hb1.out.size; simp at *; omega)
  clear hr2 hb2 hb2'
  go_wp2_with fail
  refine (read_num Hr1'.out).mono ?_
  rintro y w3 ⟨rfl, hr3, ho3⟩
  rw [num_128_0] at hr3 ⊢
  have Hs3 := hide (Hr2.out.other Hr1'.out Hne.out ho3)
  have Hr3 := hide hr3
  have Hb3 := hide (ho3.below Hb2.out Hb2.out.size fun k hk h => by have := Hg1.out; omega)
  clear hr3 ho3
  go_wp2_with fail
  refine (read_num Hs3.out).mono ?_
  rintro y w4 ⟨rfl, hs4, ho4⟩
  rw [num_172_2] at hs4 ⊢
  have Hr4 := hide (Hr3.out.other Hs3.out (Ne.symm Hne.out) ho4)
  have Hs4 := hide hs4
  have Hb4 := hide (ho4.below Hb3.out Hb3.out.size fun k hk h => by have := Hg2.out; omega)
  clear hs4 ho4
  go_wp2_with fail
  refine (num_any [] 300 none 0 (fun _ => True) w4 (Sl.nil _ _ _ _) (by omega) (by simp)).mono ?_
  rintro y w5 ⟨v, rfl, hv, hb5⟩
  rw [List.nil_append, form_300] at hv
  obtain ⟨A, c, rfl, hsv⟩ := Is.own hv
  have Hsv := hide hsv
  have Hb5 := hide hb5
  clear hv hsv hb5
  go_wp2_with fail
  have hb6 := (Below.refl w5.heap.size w5).alloc (Nat.le_refl _) (.cells #[.int .u8 172, .int .u8 2] 5)
  refine (bytes_any [172, 2] [172, 2] A _ c 2 _ _ _ (Hsv.out.move fun b _ hlt => hb6.block b hlt) (two_sl w5 172 2) (by simp)).mono ?_
  rintro y w6 ⟨rfl, hb7⟩
  have hb57 := hb6.trans (hb7.mono (by simp))
  have hb47 := Hb5.out.trans (hb57.mono Hb5.out.size)
  have Hr6 := hide (Hr4.out.below hb47)
  have Hs6 := hide (Hs4.out.below hb47)
  have Hb6 := hide (Hb4.out.trans (hb47.mono Hb4.out.size))
  clear hb6 hb7 hb57 hb47
  simp only [decide_true]
  go_wp2_with fail
  refine (fail_any Hr6.out).mono ?_
  rintro y w7 ⟨rfl, rfl⟩
  go_wp2_with fail
  refine (end_any Hs6.out).mono ?_
  rintro y w8 ⟨rfl, hb8⟩
  have Hb8 := hide (Hb6.out.trans (hb8.mono Hb6.out.size))
  clear hb8
  simp only [endOf, List.length_nil, Nat.lt_irrefl, if_false, if_true]
  go_wp2
  go_ret
  exact ⟨rfl, Hb8.out⟩
end Go.Proofs.Ytiomhbajbbpmiaa.Wr
