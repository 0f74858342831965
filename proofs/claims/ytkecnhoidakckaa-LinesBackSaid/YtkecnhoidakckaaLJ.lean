/-
  The statement LinesBack, walked.
-/
import Derived.Test.YtkecnhoidakckaaLH
namespace Go.Proofs.Ytkecnhoidakckaa.Li
open Go Go.RowKit Kt Lw

set_option maxHeartbeats 1000000 in
set_option maxRecDepth 100000 in
theorem back_any (s : List UInt8) (l : List (List UInt8)) (A : Option Addr) (c : Nat) (P : Nat → Prop) (w : World) (hs : Vs w P A c (texts l)) :
    Calls Try.prog 5 #[.string ⟨s.toArray⟩, .slice A l.length c] w fun y w' => y = .returned (.bool true) ∧ Below w.heap.size w w' := by
  have Hs := hide hs
  clear hs
  go_enter Try.func5, Try.ntmps5
  go_wp2_with fail
  refine (awake_any w).mono ?_
  rintro y w1 ⟨rfl, hb1⟩
  have Hs1 := hide (Vs.same Hs.out hb1)
  have Hb1 := hide hb1
  clear hb1
  go_wp2_with fail
  refine (few_any l A c P w1 Hs1.out).mono ?_
  rintro y w2 ⟨rfl, hb2⟩
  have Hs2 := hide (Vs.same Hs1.out hb2)
  have Hb2 := hide (Hb1.out.trans (hb2.mono Hb1.out.size))
  clear hb2
  by_cases h4 : s.length ≤ 400
  · have hd : decide (400 < (s.length : Int)) = false := by simp; omega
    cases hf : fewB l with
    | false =>
      go_wp2
      go_ret
      exact ⟨rfl, Hb2.out⟩
    | true =>
      obtain ⟨hf1, hf2⟩ := few_spec hf
      clear hf
      have hll := lns_len_le s
      have hfl : (lns s).flatten.length ≤ 400 := by rw [lns_flat]; exact h4
      have Hri := hide (right_iff l)
      have Hrs := hide (right_lns s)
      have Hlf := hide (lns_flat s)
      go_wp2_with fail
      refine (split_any s w2 (by omega)).mono ?_
      rintro y w3 ⟨v, rfl, hv, hb3⟩
      obtain ⟨A', c', rfl, hs'⟩ := OwT.vs hv
      have Hs3 := hide (Vs.same Hs2.out hb3)
      have Ht3 := hide hs'
      have Hb3 := hide (Hb2.out.trans (hb3.mono Hb2.out.size))
      clear hv hs' hb3
      go_wp2_with fail
      refine (right_any l A c P w3 Hs3.out (by omega) (by omega)).mono ?_
      rintro y w4 ⟨rfl, hb4⟩
      have Hs4 := hide (Vs.same Hs3.out hb4)
      have Ht4 := hide (Vs.same Ht3.out hb4)
      have Hb4 := hide (Hb3.out.trans (hb4.mono Hb3.out.size))
      clear hb4
      go_wp2_with fail
      refine (join_any l A c P w4 Hs4.out (by omega) (by omega)).mono ?_
      rintro y w5 ⟨rfl, hb5⟩
      have Hs5 := hide (Vs.same Hs4.out hb5)
      have Ht5 := hide (Vs.same Ht4.out hb5)
      have Hb5 := hide (Hb4.out.trans (hb5.mono Hb4.out.size))
      clear hb5
      go_wp2_with fail
      refine (split_any l.flatten w5 (by omega)).mono ?_
      rintro y w6 ⟨v, rfl, hv, hb6⟩
      obtain ⟨A'', c'', rfl, hs''⟩ := OwT.vs hv
      have Hs6 := hide (Vs.same Hs5.out hb6)
      have Ht6 := hide (Vs.same Ht5.out hb6)
      have Hu6 := hide hs''
      have Hb6 := hide (Hb5.out.trans (hb6.mono Hb5.out.size))
      clear hv hs'' hb6
      go_wp2_with fail
      refine (texts_any (lns l.flatten) l A'' A c'' c _ _ w6 Hu6.out Hs6.out (by have := lns_len_le l.flatten; omega)).mono ?_
      rintro y w7 ⟨rfl, hb7⟩
      have Ht7 := hide (Vs.same Ht6.out hb7)
      have Hb7 := hide (Hb6.out.trans (hb7.mono Hb6.out.size))
      clear hb7
      rw [← Hri.out]
      go_wp2_with fail
      refine (join_any (lns s) A' c' _ w7 Ht7.out (by omega) (by omega)).mono ?_
      rintro y w8 ⟨rfl, hb8⟩
      have Ht8 := hide (Vs.same Ht7.out hb8)
      have Hb8 := hide (Hb7.out.trans (hb8.mono Hb7.out.size))
      clear hb8
      rw [Hlf.out]
      go_wp2_with fail
      refine (right_any (lns s) A' c' _ w8 Ht8.out (by omega) (by omega)).mono ?_
      rintro y w9 ⟨rfl, hb9⟩
      have Hb9 := hide (Hb8.out.trans (hb9.mono Hb8.out.size))
      clear hb9
      rw [Hrs.out]
      go_wp2
      go_ret
      exact ⟨rfl, Hb9.out⟩
  · have hd : decide (400 < (s.length : Int)) = true := by simp; omega
    go_wp2
    go_ret
    exact ⟨rfl, Hb2.out⟩
end Go.Proofs.Ytkecnhoidakckaa.Li
