/-
  The statement UnifiedBack, walked.
-/
import Derived.Test.YtegplemagjnikaaDoorUX
import Derived.Test.YtegplemagjnikaaDoorUV
namespace Go.Proofs.YtegplemagjnikaaDoor.Un
open Go Go.RowKit Kt Lw Li Df Hu

set_option maxRecDepth 100000 in
set_option maxHeartbeats 4000000 in
theorem lawBack_any (L : List Hk) (s : List UInt8) (A : Option Addr) (c : Nat) (w : World) (hs : Hks w A c L) (hE : Env w) (hl : L.length ≤ 9223372036854775807) (hsl : s.length ≤ 9223372036854775807) :
    Calls Tryd.prog 5 #[.slice A L.length c, .string ⟨s.toArray⟩] w fun y w' => y = .returned (.bool true) ∧ Below w.heap.size w w' := by
  have Hs := hide hs
  have HE := hide (fun w' (hb : Below w.heap.size w w') => hE.keep hb)
  have HFw := hide (fun w1 (hb1 : Below w.heap.size w w1) => fewU_any L A c w1 (hs.keep hb1) hl)
  have Haw := hide (awake_any w hE)
  obtain ⟨N, hN⟩ : ∃ N, N = L.length := ⟨_, rfl⟩
  rw [← hN] at HFw hl ⊢
  have HN := hide hN
  obtain ⟨n, hn⟩ : ∃ n, n = s.length := ⟨_, rfl⟩
  have hsz : (ByteArray.mk s.toArray).size = n := by rw [hn]; rfl
  rw [← hn] at hsl
  clear hs hE hN
  cases hf : fewU L with
  | false =>
    rw [hf] at HFw
    clear hf hn Hs HE HN
    go_enter Tryd.func5, Tryd.ntmps5
    go_wp2_with fail
    refine Haw.out.mono ?_
    rintro y w1 ⟨rfl, hb1⟩
    go_wp2_with fail
    refine (HFw.out w1 hb1).mono ?_
    rintro y w2 ⟨rfl, hb2⟩
    have hb3 := hb1.trans (hb2.mono hb1.size)
    clear hb1 hb2
    go_wp2
    go_ret
    exact ⟨rfl, hb3⟩
  | true =>
  rw [hf] at HFw
  have Hfit := hide (few_fit hf)
  have Hin := hide (fun h (hh : h ∈ L) => (show h.lines.length ≤ 100000 from by
    have := ((few_short hf).1 h hh).1
    unfold tooBig at this; omega))
  have hN12 : N ≤ 12 := by rw [HN.out]; exact (few_short hf).2.1
  clear hf hl
  by_cases h5 : 500 < n
  · have d5 : decide (500 < (n : Int)) = true := decide_eq_true (by omega)
    clear hn Hs HE HN Hfit Hin h5
    go_enter Tryd.func5, Tryd.ntmps5
    go_wp2_with fail
    refine Haw.out.mono ?_
    rintro y w1 ⟨rfl, hb1⟩
    go_wp2_with fail
    refine (HFw.out w1 hb1).mono ?_
    rintro y w2 ⟨rfl, hb2⟩
    have hb3 := hb1.trans (hb2.mono hb1.size)
    clear hb1 hb2
    go_wp2
    go_ret
    exact ⟨rfl, hb3⟩
  have d5 : decide (500 < (n : Int)) = false := decide_eq_false (by omega)
  have HPs := hide (fun w1 (hb : Below w.heap.size w w1) => parse_any s w1 (HE.out w1 hb) (by omega))
  have Hs5 := hide (show s.length ≤ 500 by omega)
  have Hno := hide (@parse_no s)
  have Hyes := hide (fun l n (h : parse s = (l, n, 0)) => parse_some h)
  generalize parse s = R at *
  obtain ⟨la, m, e⟩ := R
  simp only at HPs Hno Hyes
  clear h5 hn
  go_enter Tryd.func5, Tryd.ntmps5
  go_wp2_with fail
  refine Haw.out.mono ?_
  rintro y w1 ⟨rfl, hb1⟩
  have Hb1 := hide hb1
  clear hb1 Haw
  go_wp2_with fail
  refine (HFw.out w1 Hb1.out).mono ?_
  rintro y w2 ⟨rfl, hb2⟩
  have Hb2 := hide (Hb1.out.trans (hb2.mono Hb1.out.size))
  clear hb2 HFw Hb1
  go_wp2_with fail
  refine (HPs.out w2 Hb2.out).mono ?_
  rintro y w3 ⟨v3, rfl, hv3, hb3⟩
  obtain ⟨A3, c3, rfl, hk3⟩ := hv3.hks
  have Hb3 := hide (Hb2.out.trans (hb3.mono Hb2.out.size))
  clear hb3 HPs hv3
  by_cases he : e = 0
  · subst he
    obtain ⟨hm0, hta, hpa⟩ := Hyes.out _ _ rfl
    subst hm0
    have hfl := prt_flat hta
    rw [hpa] at hfl
    have hlen : ((la.map hkT).flatten).length ≤ 500 := by rw [← hfl]; exact Hs5.out
    obtain ⟨hfa, hla, _⟩ := tell_fit hta 500 (by omega) hlen
    have HPa := hide (print_any la A3 c3 w3 hk3 (HE.out w3 Hb3.out) (by omega) (by omega) hfa)
    rw [hpa] at HPa
    have hqs := eq_txt s s
    rw [decide_eq_true rfl] at hqs
    obtain ⟨k, hk⟩ : ∃ k, k = la.length := ⟨_, rfl⟩
    rw [← hk] at HPa ⊢
    clear hk hfa hla hlen hfl hpa hta hk3 Hno Hyes Hs5
    go_wp2_with fail
    refine HPa.out.mono ?_
    rintro y w4 ⟨rfl, hb4⟩
    have hbx := Hb3.out.trans (hb4.mono Hb3.out.size)
    clear hb4 HPa Hb3
    have Hb4 := hide hbx
    clear hbx
    have HPr := hide (print_any L A c w4 (Hs.out.keep Hb4.out) (HE.out w4 Hb4.out) (by have := HN.out; omega) (by have := Hfit.out.2.1; omega) Hfit.out.1)
    rw [← HN.out] at HPr
    have HTl := hide (fun h : prt L ≠ [] => parse_prt (prt_tell h))
    have HLn := hide Hfit.out.2.2
    obtain ⟨T, hT⟩ : ∃ T, T = prt L := ⟨_, rfl⟩
    rw [← hT] at HPr HTl HLn
    clear hT
    go_wp2_with fail
    refine HPr.out.mono ?_
    rintro y w5 ⟨rfl, hb5⟩
    have Hb5 := hide (Hb4.out.trans (hb5.mono Hb4.out.size))
    clear hb5 HPr
    have hq := eq_txt T []
    cases hT : decide (T = []) with
    | true =>
      obtain rfl : T = [] := of_decide_eq_true hT
      clear hT hq
      go_wp2
      go_ret
      exact ⟨rfl, Hb5.out⟩
    | false =>
      rw [hT] at hq
      have HP2 := hide (parse_any T w5 (HE.out w5 Hb5.out) (Nat.le_trans HLn.out (by omega)))
      rw [HTl.out (of_decide_eq_false hT)] at HP2
      have q0 : ¬ (T = []) := of_decide_eq_false hT
      have q2 : (T == []) = false := by rw [beq_eq_false_iff_ne]; exact q0
      have q3 : T.isEmpty = false := by rw [List.isEmpty_eq_false_iff]; exact q0
      have q5 : ¬ (ByteArray.mk T.toArray = ByteArray.mk #[]) := by
        intro h
        exact q0 (by injection h with h; simpa using h)
      clear hT HTl HLn
      go_wp2_with fail
      refine HP2.out.mono ?_
      rintro y w6 ⟨v6, rfl, hv6, hb6⟩
      obtain ⟨A6, c6, rfl, hk6⟩ := hv6.hks
      have Hb6 := hide (Hb5.out.trans (hb6.mono Hb5.out.size))
      have HSm := hide (hsame_any L A6 A c6 c w6 hk6 (Hs.out.keep Hb6.out) (by have := HN.out; omega) Hin.out)
      rw [← HN.out] at HSm
      simp only [← HN.out]
      clear hb6 HP2 hk6 hv6
      go_wp2_with fail
      refine HSm.out.mono ?_
      rintro y w7 ⟨rfl, hb7⟩
      have Hb7 := hide (Hb6.out.trans (hb7.mono Hb6.out.size))
      clear hb7
      go_wp2
      go_ret
      exact ⟨rfl, Hb7.out⟩
  · obtain ⟨hla, hm1⟩ := Hno.out he
    subst hla
    obtain ⟨ei, hei⟩ : ∃ ei : Int, ei = (e : Int) := ⟨_, rfl⟩
    obtain ⟨mi, hmi⟩ : ∃ mi : Int, mi = (m : Int) := ⟨_, rfl⟩
    rw [← hei, ← hmi]
    have e0 : (ei == 0) = false := by rw [beq_eq_false_iff_ne]; omega
    have e2 : (ei != 0) = true := by rw [bne_iff_ne]; omega
    have e1 : decide (mi < 1) = false := decide_eq_false (by omega)
    have hbx := Hb3.out
    obtain ⟨w4, hw4⟩ : ∃ w4, w4 = w3 := ⟨_, rfl⟩
    rw [← hw4] at hbx ⊢
    clear hk3 Hno Hyes Hs5 Hb3 hw4 he hm1 hei hmi
    simp only [List.length_nil]
    have Hb4 := hide hbx
    clear hbx
    have HPr := hide (print_any L A c w4 (Hs.out.keep Hb4.out) (HE.out w4 Hb4.out) (by have := HN.out; omega) (by have := Hfit.out.2.1; omega) Hfit.out.1)
    rw [← HN.out] at HPr
    have HTl := hide (fun h : prt L ≠ [] => parse_prt (prt_tell h))
    have HLn := hide Hfit.out.2.2
    obtain ⟨T, hT⟩ : ∃ T, T = prt L := ⟨_, rfl⟩
    rw [← hT] at HPr HTl HLn
    clear hT
    go_wp2_with fail
    refine HPr.out.mono ?_
    rintro y w5 ⟨rfl, hb5⟩
    have Hb5 := hide (Hb4.out.trans (hb5.mono Hb4.out.size))
    clear hb5 HPr
    have hq := eq_txt T []
    cases hT : decide (T = []) with
    | true =>
      obtain rfl : T = [] := of_decide_eq_true hT
      clear hT hq
      go_wp2
      go_ret
      exact ⟨rfl, Hb5.out⟩
    | false =>
      rw [hT] at hq
      have HP2 := hide (parse_any T w5 (HE.out w5 Hb5.out) (Nat.le_trans HLn.out (by omega)))
      rw [HTl.out (of_decide_eq_false hT)] at HP2
      have q0 : ¬ (T = []) := of_decide_eq_false hT
      have q2 : (T == []) = false := by rw [beq_eq_false_iff_ne]; exact q0
      have q3 : T.isEmpty = false := by rw [List.isEmpty_eq_false_iff]; exact q0
      have q5 : ¬ (ByteArray.mk T.toArray = ByteArray.mk #[]) := by
        intro h
        exact q0 (by injection h with h; simpa using h)
      clear hT HTl HLn
      go_wp2_with fail
      refine HP2.out.mono ?_
      rintro y w6 ⟨v6, rfl, hv6, hb6⟩
      obtain ⟨A6, c6, rfl, hk6⟩ := hv6.hks
      have Hb6 := hide (Hb5.out.trans (hb6.mono Hb5.out.size))
      have HSm := hide (hsame_any L A6 A c6 c w6 hk6 (Hs.out.keep Hb6.out) (by have := HN.out; omega) Hin.out)
      rw [← HN.out] at HSm
      simp only [← HN.out]
      clear hb6 HP2 hk6 hv6
      go_wp2_with fail
      refine HSm.out.mono ?_
      rintro y w7 ⟨rfl, hb7⟩
      have Hb7 := hide (Hb6.out.trans (hb7.mono Hb6.out.size))
      clear hb7
      go_wp2
      go_ret
      exact ⟨rfl, Hb7.out⟩
end Go.Proofs.YtegplemagjnikaaDoor.Un
