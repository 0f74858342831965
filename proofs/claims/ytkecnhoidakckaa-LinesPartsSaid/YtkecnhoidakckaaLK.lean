/-
  The statement LinesParts, walked.
-/
import Derived.Test.YtkecnhoidakckaaLH
namespace Go.Proofs.Ytkecnhoidakckaa.Li
open Go Go.RowKit Kt Lw

set_option maxHeartbeats 1000000 in
set_option maxRecDepth 100000 in
theorem parts_early (s t : List UInt8) (w : World) (h : ¬ s.length ≤ 200 ∨ ¬ t.length ≤ 200) :
    Calls Try.prog 6 #[.string ⟨s.toArray⟩, .string ⟨t.toArray⟩] w fun y w' => y = .returned (.bool true) ∧ Below w.heap.size w w' := by
  by_cases hs : s.length ≤ 200
  · have ht : ¬ t.length ≤ 200 := by rcases h with h | h <;> omega
    have hd : decide (200 < (s.length : Int)) = false := by simp; omega
    have hd2 : decide (200 < (t.length : Int)) = true := by simp; omega
    go_enter Try.func6, Try.ntmps6
    go_wp2_with fail
    refine (awake_any w).mono ?_
    rintro y w1 ⟨rfl, hb1⟩
    go_wp2
    go_ret
    exact ⟨rfl, hb1⟩
  · have hd : decide (200 < (s.length : Int)) = true := by simp; omega
    go_enter Try.func6, Try.ntmps6
    go_wp2_with fail
    refine (awake_any w).mono ?_
    rintro y w1 ⟨rfl, hb1⟩
    go_wp2
    go_ret
    exact ⟨rfl, hb1⟩

set_option maxHeartbeats 1000000 in
set_option maxRecDepth 100000 in
theorem parts_main (s t : List UInt8) (w : World) (hs : s.length ≤ 200) (ht : t.length ≤ 200) :
    Calls Try.prog 6 #[.string ⟨s.toArray⟩, .string ⟨t.toArray⟩] w fun y w' => y = .returned (.bool true) ∧ Below w.heap.size w w' := by
  have hd : decide (200 < (s.length : Int)) = false := by simp; omega
  have hd2 : decide (200 < (t.length : Int)) = false := by simp; omega
  have ea := app_txt s t
  have hst : (s ++ t).length ≤ 400 := by rw [List.length_append]; omega
  obtain ⟨u, hu⟩ : ∃ u, u = s ++ t := ⟨_, rfl⟩
  rw [← hu] at ea hst
  have Hu := hide hu
  clear hu
  have h1 := lns_len_le s
  have h2 := lns_len_le t
  have h3 := lns_len_le u
  go_enter Try.func6, Try.ntmps6
  go_wp2_with fail
  refine (awake_any w).mono ?_
  rintro y w1 ⟨rfl, hb1⟩
  have Hb1 := hide hb1
  clear hb1
  go_wp2_with fail
  refine (closed_any s w1 (by omega)).mono ?_
  rintro y w2 ⟨rfl, rfl⟩
  go_wp2_with fail
  refine (split_any s w2 (by omega)).mono ?_
  rintro y w3 ⟨v, rfl, hv, hb3⟩
  obtain ⟨A, c, rfl, hx⟩ := OwT.vs hv
  have Hs3 := hide hx
  have Hb3 := hide (Hb1.out.trans (hb3.mono Hb1.out.size))
  clear hv hx hb3
  go_wp2_with fail
  refine (split_any t w3 (by omega)).mono ?_
  rintro y w4 ⟨v, rfl, hv, hb4⟩
  obtain ⟨A', c', rfl, hx⟩ := OwT.vs hv
  have Hs4 := hide (Vs.same Hs3.out hb4)
  have Ht4 := hide hx
  have Hb4 := hide (Hb3.out.trans (hb4.mono Hb3.out.size))
  clear hv hx hb4
  go_wp2_with fail
  refine (split_any u w4 (by omega)).mono ?_
  rintro y w5 ⟨v, rfl, hv, hb5⟩
  obtain ⟨A'', c'', rfl, hx⟩ := OwT.vs hv
  have Hs5 := hide (Vs.same Hs4.out hb5)
  have Ht5 := hide (Vs.same Ht4.out hb5)
  have Hu5 := hide hx
  have Hb5 := hide (Hb4.out.trans (hb5.mono Hb4.out.size))
  clear hv hx hb5
  cases hcl : closed s with
  | false =>
    have hlu := lns_append_open s t hcl
    rw [← Hu.out] at hlu
    clear hcl
    by_cases h0 : t = []
    · subst h0
      rw [if_pos rfl] at hlu
      have Hlu := hide (show (((lns u).length : Int) == ((lns s).length : Int) + ((lns []).length : Int)) = true by rw [beq_iff_eq]; omega)
      clear hlu
      go_wp2
      go_ret
      exact ⟨congrArg (fun b => Ending.returned (.bool b)) Hlu.out, Hb5.out⟩
    · rw [if_neg h0] at hlu
      have hpos : 0 < (lns t).length := List.length_pos_iff.2 (lns_ne h0)
      have hlu2 : (((lns u).length : Int) == ((lns s).length : Int) + ((lns t).length : Int) - 1) = true := by rw [beq_iff_eq]; omega
      have hie : t.isEmpty = false := by simpa using h0
      clear hlu h0
      generalize (lns s).length = n1 at *
      generalize (lns t).length = n2 at *
      generalize (lns u).length = n3 at *
      go_wp2
      go_ret
      exact ⟨rfl, Hb5.out⟩
  | true =>
    have Hlu := hide (show lns u = lns s ++ lns t by rw [Hu.out]; exact lns_append s t hcl)
    have Hbu := hide (show binary u = (binary s || binary t) by rw [Hu.out]; exact binary_append s t)
    clear hcl
    go_wp2_with (first
      | (refine wpList_catTg rfl (.tmp 52) (.tmp 53) 23 rfl Try.underlying23 infoText w5.heap.size w5 _ [] (lns s) _ A c rfl rfl (OwT.lit w5 w5.heap.size 9 [] _ rfl (Nat.le_refl _) (by simp [maxLen])) (Vs.same Hs5.out ((Below.refl _ _).alloc (Nat.le_refl _) _)) (by simp; omega) ((Below.refl _ _).alloc (Nat.le_refl _) _) (by simp) ?_
         intro v1 w6 hown1 hb6 _)
      | (refine wpList_catTg rfl (.tmp 54) (.tmp 55) 23 rfl Try.underlying23 infoText w5.heap.size w5 _ (lns s) (lns t) _ A' c' rfl rfl hown1 (Vs.same Ht5.out hb6) (by omega) hb6 hb6.size ?_
         intro v2 w7 hown2 hb7 _))
    have Hv2 := hide hown2
    have Hu7 := hide (Vs.same Hu5.out hb7)
    have Hb7 := hide (Hb5.out.trans (hb7.mono Hb5.out.size))
    clear hown1 hown2 hb6 hb7
    obtain ⟨A3, c3, rfl, hv3⟩ := OwT.vs Hv2.out
    refine (texts_any (lns u) (lns s ++ lns t) A'' A3 c'' c3 _ _ w7 Hu7.out hv3 (by omega)).mono ?_
    rintro y w8 ⟨rfl, hb8⟩
    have Hb8 := hide (Hb7.out.trans (hb8.mono Hb7.out.size))
    clear hb8 hv3
    rw [decide_eq_true Hlu.out]
    go_wp2_with fail
    refine (count_any u w8 (by omega)).mono ?_
    rintro y w9 ⟨rfl, hb9⟩
    have Hb9 := hide (Hb8.out.trans (hb9.mono Hb8.out.size))
    clear hb9
    go_wp2_with fail
    refine (count_any s w9 (by omega)).mono ?_
    rintro y w10 ⟨rfl, hb10⟩
    have Hb10 := hide (Hb9.out.trans (hb10.mono Hb9.out.size))
    clear hb10
    go_wp2_with fail
    refine (count_any t w10 (by omega)).mono ?_
    rintro y w11 ⟨rfl, hb11⟩
    have Hb11 := hide (Hb10.out.trans (hb11.mono Hb10.out.size))
    clear hb11
    have hcnt : (((lns u).length : Int) == ((lns s).length : Int) + ((lns t).length : Int)) = true := by
      rw [Hlu.out, List.length_append, beq_iff_eq]; omega
    generalize (lns s).length = n1 at *
    generalize (lns t).length = n2 at *
    generalize (lns u).length = n3 at *
    go_wp2_with fail
    refine (binary_any u w11).mono ?_
    rintro y w12 ⟨rfl, rfl⟩
    go_wp2_with fail
    refine (binary_any s w12).mono ?_
    rintro y w13 ⟨rfl, rfl⟩
    rw [Hbu.out]
    cases hbs : binary s with
    | true =>
      go_wp2
      go_ret
      exact ⟨rfl, Hb11.out⟩
    | false =>
      go_wp2_with fail
      refine (binary_any t w13).mono ?_
      rintro y w14 ⟨rfl, rfl⟩
      go_wp2
      go_ret
      exact ⟨rfl, Hb11.out⟩
theorem parts_any (s t : List UInt8) (w : World) :
    Calls Try.prog 6 #[.string ⟨s.toArray⟩, .string ⟨t.toArray⟩] w fun y w' => y = .returned (.bool true) ∧ Below w.heap.size w w' := by
  by_cases hs : s.length ≤ 200
  · by_cases ht : t.length ≤ 200
    · exact parts_main s t w hs ht
    · exact parts_early s t w (.inr ht)
  · exact parts_early s t w (.inl hs)
end Go.Proofs.Ytkecnhoidakckaa.Li
