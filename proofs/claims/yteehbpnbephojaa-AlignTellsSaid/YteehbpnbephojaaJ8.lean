/-
  The statement AlignTells, walked.
-/
import Derived.BigQuiet
import Derived.Test.YteehbpnbephojaaJ7
import Derived.Test.YteehbpnbephojaaJU
namespace Go.Proofs.Yteehbpnbephojaa.Al
open Go Go.RowKit Kt Kg Lw Li Df

set_option maxHeartbeats 4000000 in
set_option maxRecDepth 100000 in
theorem sameR_any (L : List Rg) (A A' : Option Addr) (c c' : Nat) (w : World) (hs : Rgs w A c L) (hs' : Rgs w A' c' L) (hL : L.length ≤ 1000000) :
    Calls Try.prog 8 #[.slice A L.length c, .slice A' L.length c'] w fun y w' => y = .returned (.bool true) ∧ Below w.heap.size w w' := by
  have Hs := hide hs
  have Hs' := hide hs'
  obtain ⟨N, hN⟩ : ∃ N, N = L.length := ⟨_, rfl⟩
  rw [← hN] at hL ⊢
  have HN := hide hN
  have bN : ((N : Int) != (N : Int)) = false := by simp
  clear hs hs' hN
  go_enter Try.func8, Try.ntmps8
  go_wp2
  go_loopw [5] (fun i wr => ∃ k : Nat, k ≤ N ∧ i = .int .i64 k ∧ Hid (Below w.heap.size w wr)) (fun i _ => N - (intOf i).toNat)
  case atStart => exact ⟨0, Nat.zero_le _, rfl, hide (Below.refl _ _)⟩
  case round =>
    obtain ⟨k, hk, rfl, Hb⟩ := hrel
    have hkw : IntKind.i64.wrap ((k : Int) + 1) = (k : Int) + 1 := IntWalk.i64_in _ (by omega)
    by_cases hlt : k < N
    · obtain ⟨b0, o0, r, rfl, _, hr, _, c0, c1, c2, c3, c4, c5, c6⟩ := Hs.out.at Hb.out (k := k) (by have := HN.out; omega)
      obtain ⟨b1, o1, r1, rfl, _, hr1, _, d0, d1, d2, d3, d4, d5, d6⟩ := Hs'.out.at Hb.out (k := k) (by have := HN.out; omega)
      obtain rfl : r = r1 := Option.some.inj (hr.symm.trans hr1)
      clear hr hr1
      go_wp2
      go_quiet (fail)
      go_wp2
      exact ⟨⟨k + 1, by omega, by go_num, hide (below_drewN Hb.out _)⟩, by simp [intOf]; omega⟩
    · obtain rfl : k = N := by omega
      go_wp2
      go_ret
      exact ⟨rfl, Hb.out⟩
set_option maxHeartbeats 4000000 in
set_option maxRecDepth 100000 in
theorem alignTells_any (o a b : Ls) (Ao Aa Ab : Option Addr) (co ca cb : Nat) (P P' P2 : Nat → Prop) (w : World) (hso : Vs w P Ao co (texts o)) (hsa : Vs w P' Aa ca (texts a)) (hsb : Vs w P2 Ab cb (texts b)) :
    Calls Try.prog 3 #[.slice Ao o.length co, .slice Aa a.length ca, .slice Ab b.length cb] w fun y w' => y = .returned (.bool true) ∧ Below w.heap.size w w' := by
  obtain ⟨no, hno⟩ : ∃ z, z = o.length := ⟨_, rfl⟩
  obtain ⟨na, hna⟩ : ∃ z, z = a.length := ⟨_, rfl⟩
  obtain ⟨nb, hnb⟩ : ∃ z, z = b.length := ⟨_, rfl⟩
  by_cases hlong : 16 < no ∨ 16 < na ∨ 16 < nb
  · rw [← hno, ← hna, ← hnb]
    clear hso hsa hsb hno hna hnb
    by_cases h0 : 16 < no
    · have d0 : decide (16 < (no : Int)) = true := decide_eq_true (by omega)
      clear hlong h0
      go_enter Try.func3, Try.ntmps3
      go_wp2_with fail
      refine (awake_any w).mono ?_
      rintro y w1 ⟨rfl, hb1⟩
      have Hb1 := hide hb1
      clear hb1
      go_wp2
      go_ret
      exact ⟨rfl, Hb1.out⟩
    · have d0 : decide (16 < (no : Int)) = false := decide_eq_false (by omega)
      by_cases h1 : 16 < na
      · have d1 : decide (16 < (na : Int)) = true := decide_eq_true (by omega)
        clear hlong h0 h1
        go_enter Try.func3, Try.ntmps3
        go_wp2_with fail
        refine (awake_any w).mono ?_
        rintro y w1 ⟨rfl, hb1⟩
        have Hb1 := hide hb1
        clear hb1
        go_wp2
        go_ret
        exact ⟨rfl, Hb1.out⟩
      · have d1 : decide (16 < (na : Int)) = false := decide_eq_false (by omega)
        have d2 : decide (16 < (nb : Int)) = true := decide_eq_true (by omega)
        clear hlong h0 h1
        go_enter Try.func3, Try.ntmps3
        go_wp2_with fail
        refine (awake_any w).mono ?_
        rintro y w1 ⟨rfl, hb1⟩
        have Hb1 := hide hb1
        clear hb1
        go_wp2
        go_ret
        exact ⟨rfl, Hb1.out⟩
  · have d0 : decide (16 < (no : Int)) = false := decide_eq_false (by omega)
    have d1 : decide (16 < (na : Int)) = false := decide_eq_false (by omega)
    have d2 : decide (16 < (nb : Int)) = false := decide_eq_false (by omega)
    have HT := hide (show Trio w Ao Aa Ab co ca cb o a b from ⟨hso.bound, hsa.bound, hsb.bound, by omega, by omega, by omega⟩)
    have H1 := hide (fun w1 (hb : Below w.heap.size w w1) => regions_any (HT.out.keep hb))
    have H2 := hide (fun w1 (hb : Below w.heap.size w w1) => refRegions_any (HT.out.keep hb) (by omega))
    obtain ⟨hok, _, hpos⟩ := regs_ok o a b
    have hlen := okF_len hok hpos
    have hle : (regs o a b).length ≤ 1000000 := by omega
    generalize regs o a b = L at *
    have H3 := hide (fun w1 A A' c c' (h : Rgs w1 A c L) (h' : Rgs w1 A' c' L) => sameR_any L A A' c c' w1 h h' hle)
    obtain ⟨N, hN⟩ : ∃ N, N = L.length := ⟨_, rfl⟩
    have HN := hide hN
    rw [← hno, ← hna, ← hnb] at H1 H2
    rw [← hno, ← hna, ← hnb]
    rw [← hN] at H3
    clear hso hsa hsb hno hna hnb hlong HT hok hpos hlen hle hN
    go_enter Try.func3, Try.ntmps3
    go_wp2_with fail
    refine (awake_any w).mono ?_
    rintro y w1 ⟨rfl, hb1⟩
    have Hb1 := hide hb1
    clear hb1
    go_wp2_with fail
    refine (H1.out w1 Hb1.out).mono ?_
    rintro y w2 ⟨v, rfl, hv, hb2⟩
    obtain ⟨A1, c1, rfl, he1⟩ := hv.rgs
    have He1 := hide he1
    have Hb2 := hide (Hb1.out.trans (hb2.mono Hb1.out.size))
    clear hv he1 hb2
    rw [← HN.out]
    go_wp2_with fail
    refine (H2.out w2 Hb2.out).mono ?_
    rintro y w3 ⟨v, rfl, hv, hb3⟩
    obtain ⟨A2, c2, rfl, he2⟩ := hv.rgs
    have He2 := hide he2
    have He1' := hide (He1.out.keep hb3)
    have Hb3 := hide (Hb2.out.trans (hb3.mono Hb2.out.size))
    clear hv he2 hb3
    rw [← HN.out]
    go_wp2_with fail
    refine (H3.out w3 A1 A2 c1 c2 He1'.out He2.out).mono ?_
    rintro y w4 ⟨rfl, hb4⟩
    have Hb4 := hide (Hb3.out.trans (hb4.mono Hb3.out.size))
    clear hb4
    go_wp2
    go_ret
    exact ⟨by first | rfl | simp, Hb4.out⟩
end Go.Proofs.Yteehbpnbephojaa.Al
