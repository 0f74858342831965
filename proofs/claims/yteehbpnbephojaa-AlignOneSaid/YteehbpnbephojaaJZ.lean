/-
  The statement AlignOne, walked.
-/
import Derived.Test.YteehbpnbephojaaJU
import Derived.Test.YteehbpnbephojaaJY
namespace Go.Proofs.Yteehbpnbephojaa.Al
open Go Go.RowKit Kt Kg Lw Li Df

set_option maxHeartbeats 4000000 in
set_option maxRecDepth 100000 in
theorem one_any (o a : Ls) (Ao Aa : Option Addr) (co ca : Nat) (P P' : Nat → Prop) (w : World) (hso : Vs w P Ao co (texts o)) (hsa : Vs w P' Aa ca (texts a)) :
    Calls Try.prog 6 #[.slice Ao o.length co, .slice Aa a.length ca] w fun y w' => y = .returned (.bool true) ∧ Below w.heap.size w w' := by
  obtain ⟨no, hno⟩ : ∃ z, z = o.length := ⟨_, rfl⟩
  obtain ⟨na, hna⟩ : ∃ z, z = a.length := ⟨_, rfl⟩
  by_cases hlong : 30 < no ∨ 30 < na
  · rw [← hno, ← hna]
    clear hso hsa hno hna
    by_cases h0 : 30 < no
    · have d0 : decide (30 < (no : Int)) = true := decide_eq_true (by omega)
      clear hlong h0
      go_enter Try.func6, Try.ntmps6
      go_wp2_with fail
      refine (awake_any w).mono ?_
      rintro y w1 ⟨rfl, hb1⟩
      have Hb1 := hide hb1
      clear hb1
      go_wp2
      go_ret
      exact ⟨rfl, Hb1.out⟩
    · have d0 : decide (30 < (no : Int)) = false := decide_eq_false (by omega)
      have d1 : decide (30 < (na : Int)) = true := decide_eq_true (by omega)
      clear hlong h0
      go_enter Try.func6, Try.ntmps6
      go_wp2_with fail
      refine (awake_any w).mono ?_
      rintro y w1 ⟨rfl, hb1⟩
      have Hb1 := hide hb1
      clear hb1
      go_wp2
      go_ret
      exact ⟨rfl, Hb1.out⟩
  · have d0 : decide (30 < (no : Int)) = false := decide_eq_false (by omega)
    have d1 : decide (30 < (na : Int)) = false := decide_eq_false (by omega)
    have HT1 := hide (show Trio w Ao Aa Ao co ca co o a o from ⟨hso.bound, hsa.bound, hso.bound, by omega, by omega, by omega⟩)
    have HT2 := hide (show Trio w Ao Ao Aa co co ca o o a from ⟨hso.bound, hso.bound, hsa.bound, by omega, by omega, by omega⟩)
    have HT3 := hide (show Trio w Ao Aa Aa co ca ca o a a from ⟨hso.bound, hsa.bound, hsa.bound, by omega, by omega, by omega⟩)
    have HR1 := hide (fun w1 (hb : Below w.heap.size w w1) => regions_any (HT1.out.keep hb))
    have HR2 := hide (fun w1 (hb : Below w.heap.size w w1) => regions_any (HT2.out.keep hb))
    have HR3 := hide (fun w1 (hb : Below w.heap.size w w1) => regions_any (HT3.out.keep hb))
    have HX := hide (fun w1 (hb : Below w.heap.size w w1) => texts_any o a Ao Aa co ca _ _ w1 (HT1.out.keep hb).o_ (HT1.out.keep hb).a_ (by omega))
    have hkin := regs_one o a
    obtain ⟨hl1, hl2⟩ := hkin.len
    have hsame := regs_same o a
    obtain ⟨hok, _, hpos⟩ := regs_ok o a o
    have hlen := okF_len hok hpos
    have hle : (regs o a o).length ≤ 90 := by omega
    generalize regs o a o = L at *
    generalize regs o o a = M at *
    generalize regs o a a = Q at *
    obtain ⟨dx, hdx⟩ : ∃ z, z = decide (o = a) := ⟨_, rfl⟩
    have Hdx := hide (show dx = true → L.length ≤ 1 from fun e => hsame (of_decide_eq_true (by rw [← hdx]; exact e)))
    rw [← hdx] at HX
    obtain ⟨N, hN⟩ : ∃ N, N = L.length := ⟨_, rfl⟩
    rw [← hno, ← hna] at HR1 HR2 HR3 HX ⊢
    rw [← hN] at Hdx hl1 hl2 hle
    have HN := hide hN
    have HM := hide hl1
    have HQ := hide hl2
    have Hkin := hide hkin
    clear hso hsa hno hna hlong hok hpos hlen hN HT1 HT2 HT3 hkin hl1 hl2 hsame hdx
    go_enter Try.func6, Try.ntmps6
    go_wp2_with fail
    refine (awake_any w).mono ?_
    rintro y w1 ⟨rfl, hb1⟩
    have Hb1 := hide hb1
    clear hb1
    go_wp2_with fail
    refine (HR1.out w1 Hb1.out).mono ?_
    rintro y w2 ⟨v, rfl, hv, hb⟩
    obtain ⟨A1, c1, rfl, he⟩ := hv.rgs
    have He1 := hide he
    have Hb2 := hide (Hb1.out.trans (hb.mono Hb1.out.size))
    have Hs2 := hide hb
    clear hv he hb
    rw [← HN.out]
    go_wp2_with fail
    refine (HR2.out w2 Hb2.out).mono ?_
    rintro y w3 ⟨v, rfl, hv, hb⟩
    obtain ⟨A2, c2, rfl, he⟩ := hv.rgs
    have He2 := hide he
    have Hb3 := hide (Hb2.out.trans (hb.mono Hb2.out.size))
    have Hs3 := hide hb
    clear hv he hb
    rw [HM.out]
    go_wp2_with fail
    refine (HR3.out w3 Hb3.out).mono ?_
    rintro y w4 ⟨v, rfl, hv, hb⟩
    obtain ⟨A3, c3, rfl, he⟩ := hv.rgs
    have He3 := hide he
    have Hb4 := hide (Hb3.out.trans (hb.mono Hb3.out.size))
    have Hs4 := hide hb
    clear hv he hb
    rw [HQ.out]
    have bN : ((N : Int) != (N : Int)) = false := by simp
    have He1' := hide ((He1.out.keep Hs3.out).keep Hs4.out)
    have He2' := hide (He2.out.keep Hs4.out)
    clear He1 He2
    go_wp2
    go_loopw [9] (fun i wr => ∃ k : Nat, k ≤ N ∧ i = .int .i64 k ∧ Hid (Below w4.heap.size w4 wr)) (fun i _ => N - (intOf i).toNat)
    case atStart => exact ⟨0, Nat.zero_le _, rfl, hide (Below.refl _ _)⟩
    case round =>
      obtain ⟨k, hk, rfl, Hb⟩ := hrel
      by_cases hlt : k < N
      · obtain ⟨b0, o0, r, rfl, _, hr, _, p0, _⟩ := He1'.out.at Hb.out (k := k) (by have := HN.out; omega)
        obtain ⟨b1, o1, r1, rfl, _, hr1, _, p1, _⟩ := He2'.out.at Hb.out (k := k) (by have := HM.out; omega)
        obtain ⟨b2, o2, r2, rfl, _, hr2, _, p2, _⟩ := He3.out.at Hb.out (k := k) (by have := HQ.out; omega)
        have hk3 := Hkin.out.at hr hr1 hr2
        have hkw : IntKind.i64.wrap ((k : Int) + 1) = (k : Int) + 1 := IntWalk.i64_in _ (by omega)
        clear hr hr1 hr2
        rcases hk3 with ⟨e1, e2, e3⟩ | ⟨e1, e2, e3⟩
        · rw [e1] at p0
          rw [e2] at p1
          rw [e3] at p2
          clear e1 e2 e3
          go_wp2
          exact ⟨⟨k + 1, by omega, by go_num, Hb⟩, by simp [intOf]; omega⟩
        · rw [e1] at p0
          rw [e2] at p1
          rw [e3] at p2
          clear e1 e2 e3
          go_wp2
          exact ⟨⟨k + 1, by omega, by go_num, Hb⟩, by simp [intOf]; omega⟩
      · obtain rfl : k = N := by omega
        have HXr := hide (HX.out wr (Hb4.out.trans (Hb.out.mono Hb4.out.size)))
        cases dx
        · go_wp2_with fail
          refine HXr.out.mono ?_
          rintro y w5 ⟨rfl, hb5⟩
          have Hb5 := hide (Hb.out.trans (hb5.mono Hb.out.size))
          clear hb5
          go_wp2
          go_ret
          exact ⟨rfl, Hb4.out.trans (Hb5.out.mono Hb4.out.size)⟩
        · have hk1 := Hdx.out rfl
          have dk : decide ((k : Int) ≤ 1) = true := decide_eq_true (by omega)
          have dk2 : decide (k ≤ 1) = true := decide_eq_true hk1
          have dk3 : (k : Int) ≤ 1 := by omega
          clear hlt
          go_wp2_with fail
          refine HXr.out.mono ?_
          rintro y w5 ⟨rfl, hb5⟩
          have Hb5 := hide (Hb.out.trans (hb5.mono Hb.out.size))
          clear hb5
          go_wp2
          go_ret
          exact ⟨by first | rfl | simp [dk], Hb4.out.trans (Hb5.out.mono Hb4.out.size)⟩
end Go.Proofs.Yteehbpnbephojaa.Al
