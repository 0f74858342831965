/-
  The statement AlignRight, walked.
-/
import Derived.Test.YteehbpnbephojaaJW
namespace Go.Proofs.Yteehbpnbephojaa.Al
open Go Go.RowKit Kt Kg Lw Li Df

set_option maxHeartbeats 4000000 in
set_option maxRecDepth 100000 in
theorem lawRight_any (L : List Rg) (o a b : Ls) (A Ao Aa Ab : Option Addr) (c co ca cb : Nat) (P P' P2 : Nat → Prop) (w : World) (hs : Rgs w A c L) (hso : Vs w P Ao co (texts o)) (hsa : Vs w P' Aa ca (texts a)) (hsb : Vs w P2 Ab cb (texts b)) :
    Calls Try.prog 4 #[.slice A L.length c, .slice Ao o.length co, .slice Aa a.length ca, .slice Ab b.length cb] w fun y w' => y = .returned (.bool true) ∧ Below w.heap.size w w' := by
  obtain ⟨N, hN⟩ : ∃ N, N = L.length := ⟨_, rfl⟩
  obtain ⟨no, hno⟩ : ∃ z, z = o.length := ⟨_, rfl⟩
  obtain ⟨na, hna⟩ : ∃ z, z = a.length := ⟨_, rfl⟩
  obtain ⟨nb, hnb⟩ : ∃ z, z = b.length := ⟨_, rfl⟩
  by_cases hlong : 16 < no ∨ 16 < na ∨ 16 < nb ∨ 30 < N
  · rw [← hN, ← hno, ← hna, ← hnb]
    clear hs hso hsa hsb hN hno hna hnb
    by_cases h0 : 16 < no
    · have d0 : decide (16 < (no : Int)) = true := decide_eq_true (by omega)
      clear hlong h0
      go_enter Try.func4, Try.ntmps4
      go_wp2_with fail
      refine (awake_any w).mono ?_
      rintro y w1 ⟨rfl, hb1⟩
      have Hb1 := hide hb1
      clear hb1
      go_wp2
      go_ret
      exact ⟨rfl, Hb1.out⟩
    · have d0 : decide (16 < (no : Int)) = false := decide_eq_false (by omega)
      by_cases h1 : 16 < na
      · have d1 : decide (16 < (na : Int)) = true := decide_eq_true (by omega)
        clear hlong h0 h1
        go_enter Try.func4, Try.ntmps4
        go_wp2_with fail
        refine (awake_any w).mono ?_
        rintro y w1 ⟨rfl, hb1⟩
        have Hb1 := hide hb1
        clear hb1
        go_wp2
        go_ret
        exact ⟨rfl, Hb1.out⟩
      · have d1 : decide (16 < (na : Int)) = false := decide_eq_false (by omega)
        by_cases h2 : 16 < nb
        · have d2 : decide (16 < (nb : Int)) = true := decide_eq_true (by omega)
          clear hlong h0 h1 h2
          go_enter Try.func4, Try.ntmps4
          go_wp2_with fail
          refine (awake_any w).mono ?_
          rintro y w1 ⟨rfl, hb1⟩
          have Hb1 := hide hb1
          clear hb1
          go_wp2
          go_ret
          exact ⟨rfl, Hb1.out⟩
        · have d2 : decide (16 < (nb : Int)) = false := decide_eq_false (by omega)
          have d3 : decide (30 < (N : Int)) = true := decide_eq_true (by omega)
          clear hlong h0 h1 h2
          go_enter Try.func4, Try.ntmps4
          go_wp2_with fail
          refine (awake_any w).mono ?_
          rintro y w1 ⟨rfl, hb1⟩
          have Hb1 := hide hb1
          clear hb1
          go_wp2
          go_ret
          exact ⟨rfl, Hb1.out⟩
  · have d0 : decide (16 < (no : Int)) = false := decide_eq_false (by omega)
    have d1 : decide (16 < (na : Int)) = false := decide_eq_false (by omega)
    have d2 : decide (16 < (nb : Int)) = false := decide_eq_false (by omega)
    have d3 : decide (30 < (N : Int)) = false := decide_eq_false (by omega)
    have HI := hide (show In3 w Ao Aa Ab co ca cb o a b from ⟨hso.bound, hsa.bound, hsb.bound, by omega, by omega, by omega⟩)
    have H1 := hide (fun w1 (hb : Below w.heap.size w w1) => right_any (hs.keep hb) (HI.out.keep hb) (by omega))
    have H2 := hide (fun w1 (hb : Below w.heap.size w w1) => refRight_any (hs.keep hb) (HI.out.keep hb) (by omega))
    obtain ⟨T, hT⟩ : ∃ T, T = okF o a b 0 0 0 L := ⟨_, rfl⟩
    rw [← hN, ← hno, ← hna, ← hnb, ← hT] at H1 H2
    rw [← hN, ← hno, ← hna, ← hnb]
    clear hs hso hsa hsb hN hno hna hnb hlong HI hT
    go_enter Try.func4, Try.ntmps4
    go_wp2_with fail
    refine (awake_any w).mono ?_
    rintro y w1 ⟨rfl, hb1⟩
    have Hb1 := hide hb1
    clear hb1
    go_wp2_with fail
    refine (H1.out w1 Hb1.out).mono ?_
    rintro y w2 ⟨rfl, hb2⟩
    have Hb2 := hide (Hb1.out.trans (hb2.mono Hb1.out.size))
    clear hb2
    go_wp2_with fail
    refine (H2.out w2 Hb2.out).mono ?_
    rintro y w3 ⟨rfl, hb3⟩
    have Hb3 := hide (Hb2.out.trans (hb3.mono Hb2.out.size))
    clear hb3
    go_wp2
    go_ret
    exact ⟨by simp, Hb3.out⟩
end Go.Proofs.Yteehbpnbephojaa.Al
