/-
  The statement AlignWhole, walked.
-/
import Derived.BigQuiet
import Derived.Test.YteehbpnbephojaaJT
namespace Go.Proofs.Yteehbpnbephojaa.Al
open Go Go.RowKit Kt Kg Lw Li Df

theorem okF_cons {o a b : Ls} {x y z : Int} {r : Rg} {l : List Rg} (h : okF o a b x y z (r :: l) = true) : ((0 ≤ r.on ∧ r.on ≤ o.length - x) ∧ (0 ≤ r.an ∧ r.an ≤ a.length - y) ∧ (0 ≤ r.bn ∧ r.bn ≤ b.length - z)) ∧ okF o a b (x + r.on) (y + r.an) (z + r.bn) l = true := by
  rw [okF, Bool.and_eq_true] at h
  obtain ⟨h1, h2⟩ := h
  unfold chk at h1
  rw [Bool.and_eq_true, Bool.and_eq_true, Bool.and_eq_true, fol_yes, fol_yes, fol_yes] at h1
  exact ⟨⟨h1.1.1.1.2, h1.1.1.2.2, h1.1.2.2⟩, h2⟩
theorem okF_small {o a b : Ls} : ∀ {l : List Rg} {x y z : Int}, okF o a b x y z l = true → 0 ≤ x → 0 ≤ y → 0 ≤ z → ∀ r ∈ l, (0 ≤ r.on ∧ r.on ≤ o.length) ∧ (0 ≤ r.an ∧ r.an ≤ a.length) ∧ (0 ≤ r.bn ∧ r.bn ≤ b.length)
  | [], _, _, _, _, _, _, _, _, hr => by cases hr
  | q :: l, x, y, z, h, hx, hy, hz, r, hr => by
    obtain ⟨h1, h2⟩ := okF_cons h
    rcases List.mem_cons.1 hr with rfl | hr
    · omega
    · exact okF_small h2 (by omega) (by omega) (by omega) r hr
theorem okF_len {o a b : Ls} : ∀ {l : List Rg} {x y z : Int}, okF o a b x y z l = true → (∀ r ∈ l, 1 ≤ r.on + r.an + r.bn) → (l.length : Int) ≤ (o.length - x) + (a.length - y) + (b.length - z)
  | [], x, y, z, h, _ => by
    simp [okF] at h
    simp; omega
  | q :: l, x, y, z, h, hp => by
    obtain ⟨h1, h2⟩ := okF_cons h
    have := okF_len h2 fun r hr => hp r (by simp [hr])
    have := hp q (by simp)
    simp only [List.length_cons]
    omega
theorem Trio.keep {w w' : World} {Ao Aa Ab : Option Addr} {co ca cb : Nat} {o a b : Ls} (h : Trio w Ao Aa Ab co ca cb o a b) (hb : Below w.heap.size w w') : Trio w' Ao Aa Ab co ca cb o a b :=
  ⟨vs_keep h.o_ hb, vs_keep h.a_ hb, vs_keep h.b_ hb, h.lo_, h.la_, h.lb_⟩
theorem Trio.in3 {w : World} {Ao Aa Ab : Option Addr} {co ca cb : Nat} {o a b : Ls} (h : Trio w Ao Aa Ab co ca cb o a b) : In3 w Ao Aa Ab co ca cb o a b :=
  ⟨h.o_, h.a_, h.b_, Nat.le_trans h.lo_ (by omega), Nat.le_trans h.la_ (by omega), Nat.le_trans h.lb_ (by omega)⟩
set_option maxHeartbeats 4000000 in
set_option maxRecDepth 100000 in
theorem whole_any (o a b : Ls) (Ao Aa Ab : Option Addr) (co ca cb : Nat) (P P' P2 : Nat → Prop) (w : World) (hso : Vs w P Ao co (texts o)) (hsa : Vs w P' Aa ca (texts a)) (hsb : Vs w P2 Ab cb (texts b)) :
    Calls Try.prog 5 #[.slice Ao o.length co, .slice Aa a.length ca, .slice Ab b.length cb] w fun y w' => y = .returned (.bool true) ∧ Below w.heap.size w w' := by
  obtain ⟨no, hno⟩ : ∃ z, z = o.length := ⟨_, rfl⟩
  obtain ⟨na, hna⟩ : ∃ z, z = a.length := ⟨_, rfl⟩
  obtain ⟨nb, hnb⟩ : ∃ z, z = b.length := ⟨_, rfl⟩
  by_cases hlong : 30 < no ∨ 30 < na ∨ 30 < nb
  · rw [← hno, ← hna, ← hnb]
    clear hso hsa hsb hno hna hnb
    by_cases h1 : 30 < no
    · have d1 : decide (30 < (no : Int)) = true := decide_eq_true (by omega)
      clear hlong h1
      go_enter Try.func5, Try.ntmps5
      go_wp2_with fail
      refine (awake_any w).mono ?_
      rintro y w1 ⟨rfl, hb1⟩
      have Hb1 := hide hb1
      clear hb1
      go_wp2
      go_ret
      exact ⟨rfl, Hb1.out⟩
    · have d1 : decide (30 < (no : Int)) = false := decide_eq_false (by omega)
      by_cases h2 : 30 < na
      · have d2 : decide (30 < (na : Int)) = true := decide_eq_true (by omega)
        clear hlong h1 h2
        go_enter Try.func5, Try.ntmps5
        go_wp2_with fail
        refine (awake_any w).mono ?_
        rintro y w1 ⟨rfl, hb1⟩
        have Hb1 := hide hb1
        clear hb1
        go_wp2
        go_ret
        exact ⟨rfl, Hb1.out⟩
      · have d2 : decide (30 < (na : Int)) = false := decide_eq_false (by omega)
        have d3 : decide (30 < (nb : Int)) = true := decide_eq_true (by omega)
        clear hlong h1 h2
        go_enter Try.func5, Try.ntmps5
        go_wp2_with fail
        refine (awake_any w).mono ?_
        rintro y w1 ⟨rfl, hb1⟩
        have Hb1 := hide hb1
        clear hb1
        go_wp2
        go_ret
        exact ⟨rfl, Hb1.out⟩
  · have d1 : decide (30 < (no : Int)) = false := decide_eq_false (by omega)
    have d2 : decide (30 < (na : Int)) = false := decide_eq_false (by omega)
    have d3 : decide (30 < (nb : Int)) = false := decide_eq_false (by omega)
    have HT := hide (show Trio w Ao Aa Ab co ca cb o a b from ⟨hso.bound, hsa.bound, hsb.bound, by omega, by omega, by omega⟩)
    have HRg := hide (fun w1 (hb : Below w.heap.size w w1) => regions_any (HT.out.keep hb))
    obtain ⟨hok, halt, hpos⟩ := regs_ok o a b
    have HRt := hide (fun w1 A c (hb : Below w.heap.size w w1) (hr : Rgs w1 A c (regs o a b)) => right_any hr (HT.out.keep hb).in3 (by have := okF_len hok hpos; omega))
    rw [hok] at HRt
    have Hsm := hide (okF_small hok (Int.le_refl _) (Int.le_refl _) (Int.le_refl _))
    have hlen := okF_len hok hpos
    generalize regs o a b = L at *
    obtain ⟨N, hN⟩ : ∃ N, N = L.length := ⟨_, rfl⟩
    rw [← hno, ← hna, ← hnb] at HRg HRt Hsm ⊢
    rw [← hN] at HRt
    have HN := hide hN
    have Halt := hide halt
    have Hpos := hide hpos
    have hNs : N ≤ 90 := by omega
    have Hln := hide (show no ≤ 30 ∧ na ≤ 30 ∧ nb ≤ 30 by omega)
    clear hso hsa hsb hno hna hnb hlong hok halt hpos hlen hN HT
    go_enter Try.func5, Try.ntmps5
    go_wp2_with fail
    refine (awake_any w).mono ?_
    rintro y w1 ⟨rfl, hb1⟩
    have Hb1 := hide hb1
    clear hb1
    go_wp2_with fail
    refine (HRg.out w1 Hb1.out).mono ?_
    rintro y w2 ⟨v, rfl, hv, hb2⟩
    obtain ⟨A, c, rfl, he⟩ := hv.rgs
    have He := hide he
    have Hb2 := hide (Hb1.out.trans (hb2.mono Hb1.out.size))
    clear hv he hb2
    rw [← HN.out]
    go_wp2
    go_loopw [9] (fun i wr => ∃ k : Nat, k ≤ N ∧ i = .int .i64 k ∧ Hid (Below w2.heap.size w2 wr)) (fun i _ => N - (intOf i).toNat)
    case atStart => exact ⟨0, Nat.zero_le _, rfl, hide (Below.refl _ _)⟩
    case round =>
      obtain ⟨k, hk, rfl, Hb⟩ := hrel
      by_cases hlt : k < N
      · obtain ⟨b0, o0, r, rfl, hbl, hr, _, c0, c1, c2, c3, c4, c5, c6⟩ := He.out.at Hb.out (k := k) (by have := HN.out; omega)
        obtain ⟨⟨s1, s2⟩, ⟨s3, s4⟩, s5, s6⟩ := Hsm.out r (List.mem_of_getElem? hr)
        have hp := Hpos.out r (List.mem_of_getElem? hr)
        have hln := Hln.out
        have hw1 : IntKind.i64.wrap (r.on + r.an) = r.on + r.an := IntWalk.i64_in _ (by omega)
        have hw2 : IntKind.i64.wrap (r.on + r.an + r.bn) = r.on + r.an + r.bn := IntWalk.i64_in _ (by omega)
        have hd1 : decide (r.on + r.an + r.bn < 1) = false := decide_eq_false (by omega)
        have hd2 : ¬ r.on + r.an + r.bn < 1 := by omega
        have hkw : IntKind.i64.wrap ((k : Int) + 1) = (k : Int) + 1 := IntWalk.i64_in _ (by omega)
        have Hr := hide hr
        clear hbl c1 c3 c5 s1 s2 s3 s4 s5 s6 hp hln hr
        generalize r.on = x1 at *
        generalize r.an = x2 at *
        generalize r.bn = x3 at *
        rcases Nat.eq_zero_or_pos k with hk0 | hk0
        · subst hk0
          go_wp2
          go_quiet (fail)
          go_wp2
          go_quiet (fail)
          go_wp2
          exact ⟨⟨1, by omega, rfl, hide (below_drewN Hb.out _)⟩, by simp [intOf]; omega⟩
        · obtain ⟨m, hm⟩ : ∃ m, k = m + 1 := ⟨k - 1, by omega⟩
          obtain ⟨b1, o1, r', hA, _, hr', _, e0, _⟩ := He.out.at Hb.out (k := m) (by have := HN.out; omega)
          injection hA with hA
          injection hA with hA1 hA2
          subst hA1 hA2
          have hal := Halt.out m r' r hr' (by rw [← hm]; exact Hr.out)
          have hwm : IntKind.i64.wrap ((k : Int) - 1) = (m : Int) := by rw [IntWalk.i64_in _ (by omega)]; omega
          have hmN : m < N := by omega
          clear hm hr'
          generalize r.kind = kd at *
          generalize r'.kind = kd' at *
          by_cases h0 : kd = 0
          · have b0' : (kd == 0) = true := by rw [beq_iff_eq]; exact h0
            have b1' : (kd' == 0) = false := by rw [beq_eq_false_iff_ne]; exact fun e => hal ⟨fun _ => h0, fun _ => e⟩
            clear h0 hal
            have d0 : decide ((0 : Int) < (k : Int)) = true := decide_eq_true (by omega)
            have d00 : (0 : Int) < (k : Int) := by omega
            have d000 : decide (0 < k) = true := decide_eq_true hk0
            go_wp2
            go_quiet (fail)
            go_wp2
            go_quiet (fail)
            go_wp2
            exact ⟨⟨k + 1, by omega, by go_num, hide (below_drewN Hb.out _)⟩, by simp [intOf]; omega⟩
          · have b0' : (kd == 0) = false := by rw [beq_eq_false_iff_ne]; exact h0
            have b1' : (kd' == 0) = true := by
              rw [beq_iff_eq]
              refine Classical.byContradiction fun e => hal ⟨fun h => absurd h e, fun h => absurd h h0⟩
            clear h0 hal
            have d0 : decide ((0 : Int) < (k : Int)) = true := decide_eq_true (by omega)
            have d00 : (0 : Int) < (k : Int) := by omega
            have d000 : decide (0 < k) = true := decide_eq_true hk0
            go_wp2
            go_quiet (fail)
            go_wp2
            go_quiet (fail)
            go_wp2
            exact ⟨⟨k + 1, by omega, by go_num, hide (below_drewN Hb.out _)⟩, by simp [intOf]; omega⟩
      · obtain rfl : k = N := by omega
        have HR := hide (HRt.out wr A c (Hb2.out.trans (Hb.out.mono Hb2.out.size)) (He.out.keep Hb.out))
        go_wp2_with fail
        refine HR.out.mono ?_
        rintro y w5 ⟨rfl, hb5⟩
        have Hb5 := hide (Hb.out.trans (hb5.mono Hb.out.size))
        clear hb5
        go_wp2
        go_ret
        exact ⟨rfl, Hb2.out.trans (Hb5.out.mono Hb2.out.size)⟩
end Go.Proofs.Yteehbpnbephojaa.Al
