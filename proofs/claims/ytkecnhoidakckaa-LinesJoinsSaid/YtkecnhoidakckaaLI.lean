/-
  The statements LinesSplits and LinesJoins, walked.
-/
import Derived.Test.YtkecnhoidakckaaLH
namespace Go.Proofs.Ytkecnhoidakckaa.Li
open Go Go.RowKit Kt Lw

set_option maxHeartbeats 1000000 in
set_option maxRecDepth 100000 in
theorem splits_any (s : List UInt8) (w : World) (hl : s.length ≤ 9223372036854775807) : Calls Try.prog 3 #[.string ⟨s.toArray⟩] w fun y w' => y = .returned (.bool true) ∧ Below w.heap.size w w' := by
  by_cases h4 : s.length ≤ 400
  · have hd : decide (400 < (s.length : Int)) = false := by simp; omega
    go_enter Try.func3, Try.ntmps3
    go_wp2_with fail
    refine (awake_any w).mono ?_
    rintro y w1 ⟨rfl, hb1⟩
    have Hb1 := hide hb1
    clear hb1
    go_wp2_with fail
    refine (refSplit_any s w1 (by omega)).mono ?_
    rintro y w2 ⟨v, rfl, hv, hb2⟩
    obtain ⟨A, c, rfl, hs⟩ := OwT.vs hv
    have Hs2 := hide hs
    have Hb2 := hide (Hb1.out.trans (hb2.mono Hb1.out.size))
    clear hv hs hb2
    go_wp2_with fail
    refine (split_any s w2 (by omega)).mono ?_
    rintro y w3 ⟨v, rfl, hv, hb3⟩
    obtain ⟨A', c', rfl, hs'⟩ := OwT.vs hv
    have Hs3 := hide (Vs.same Hs2.out hb3)
    have Hs3' := hide hs'
    have Hb3 := hide (Hb2.out.trans (hb3.mono Hb2.out.size))
    clear hv hs' hb3
    go_wp2_with fail
    refine (texts_any (lns s) (lns s) A' A c' c _ _ w3 Hs3'.out Hs3.out (by have := lns_len_le s; omega)).mono ?_
    rintro y w4 ⟨rfl, hb4⟩
    have Hb4 := hide (Hb3.out.trans (hb4.mono Hb3.out.size))
    clear hb4
    simp only [decide_true]
    go_wp2_with fail
    refine (count_any s w4 hl).mono ?_
    rintro y w5 ⟨rfl, hb5⟩
    have Hb5 := hide (Hb4.out.trans (hb5.mono Hb4.out.size))
    clear hb5
    go_wp2_with fail
    refine (closed_any s w5 hl).mono ?_
    rintro y w6 ⟨rfl, rfl⟩
    go_wp2_with fail
    refine (refClosed_any s w6 hl).mono ?_
    rintro y w7 ⟨rfl, rfl⟩
    go_wp2_with fail
    refine (binary_any s w7).mono ?_
    rintro y w8 ⟨rfl, rfl⟩
    go_wp2_with fail
    refine (refBinary_any s w8 hl).mono ?_
    rintro y w9 ⟨rfl, rfl⟩
    go_wp2
    go_ret
    exact ⟨rfl, Hb5.out⟩
  · have hd : decide (400 < (s.length : Int)) = true := by simp; omega
    go_enter Try.func3, Try.ntmps3
    go_wp2_with fail
    refine (awake_any w).mono ?_
    rintro y w1 ⟨rfl, hb1⟩
    go_wp2
    go_ret
    exact ⟨rfl, hb1⟩

set_option maxHeartbeats 1000000 in
set_option maxRecDepth 100000 in
theorem joins_any (l : List (List UInt8)) (A : Option Addr) (c : Nat) (P : Nat → Prop) (w : World) (hs : Vs w P A c (texts l)) :
    Calls Try.prog 4 #[.slice A l.length c] w fun y w' => y = .returned (.bool true) ∧ Below w.heap.size w w' := by
  have Hs := hide hs
  clear hs
  go_enter Try.func4, Try.ntmps4
  go_wp2_with fail
  refine (awake_any w).mono ?_
  rintro y w1 ⟨rfl, hb1⟩
  have Hs1 := hide (Vs.same Hs.out hb1)
  have Hb1 := hide hb1
  clear hb1
  go_wp2_with fail
  refine (few_any l A c P w1 Hs1.out).mono ?_
  rintro y w2 ⟨rfl, hb2⟩
  have Hs2 := hide (Vs.same Hs1.out hb2)
  have Hb2 := hide (Hb1.out.trans (hb2.mono Hb1.out.size))
  clear hb2
  cases hf : fewB l with
  | false =>
    go_wp2
    go_ret
    exact ⟨rfl, Hb2.out⟩
  | true =>
    obtain ⟨hf1, hf2⟩ := few_spec hf
    clear hf
    go_wp2_with fail
    refine (join_any l A c P w2 Hs2.out (by omega) (by omega)).mono ?_
    rintro y w3 ⟨rfl, hb3⟩
    have Hs3 := hide (Vs.same Hs2.out hb3)
    have Hb3 := hide (Hb2.out.trans (hb3.mono Hb2.out.size))
    clear hb3
    go_wp2_with fail
    refine (refJoin_any l A c P w3 Hs3.out (by omega) (by omega)).mono ?_
    rintro y w4 ⟨rfl, hb4⟩
    have Hs4 := hide (Vs.same Hs3.out hb4)
    have Hb4 := hide (Hb3.out.trans (hb4.mono Hb3.out.size))
    clear hb4
    go_wp2_with fail
    refine (right_any l A c P w4 Hs4.out (by omega) (by omega)).mono ?_
    rintro y w5 ⟨rfl, hb5⟩
    have Hs5 := hide (Vs.same Hs4.out hb5)
    have Hb5 := hide (Hb4.out.trans (hb5.mono Hb4.out.size))
    clear hb5
    go_wp2_with fail
    refine (refRight_any l A c P w5 Hs5.out (by omega) (by omega)).mono ?_
    rintro y w6 ⟨rfl, hb6⟩
    have Hb6 := hide (Hb5.out.trans (hb6.mono Hb5.out.size))
    clear hb6
    go_wp2
    go_ret
    exact ⟨rfl, Hb6.out⟩
end Go.Proofs.Ytkecnhoidakckaa.Li
