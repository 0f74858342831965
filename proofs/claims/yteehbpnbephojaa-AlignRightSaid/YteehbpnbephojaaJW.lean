/-
  The reference's Right, and the statement AlignRight.
-/
import Derived.Test.YteehbpnbephojaaJV
namespace Go.Proofs.Yteehbpnbephojaa.Al
open Go Go.RowKit Kt Kg Lw Li Df Kf

theorem In3.keep {w w' : World} {Ao Aa Ab : Option Addr} {co ca cb : Nat} {o a b : Ls} (h : In3 w Ao Aa Ab co ca cb o a b) (hb : Below w.heap.size w w') : In3 w' Ao Aa Ab co ca cb o a b :=
  ⟨vs_keep h.o_ hb, vs_keep h.a_ hb, vs_keep h.b_ hb, h.lo_, h.la_, h.lb_⟩
theorem holds_range {k : Int} {p q r : Ls} (h : holdsK k p q r = true) : 0 ≤ k ∧ k ≤ 4 := by
  unfold holdsK at h
  by_cases h0 : k = 0
  · omega
  · by_cases h1 : k = 1
    · omega
    · by_cases h2 : k = 2
      · omega
      · by_cases h3 : k = 3
        · omega
        · simp [h0, h1, h2, h3] at h
          omega
/-- a span's lines, or none -/
theorem part_any (x : Nat) (f m : Int) (l : Ls) (A : Option Addr) (c : Nat) (w : World) (hs : Vs w (fun b => b < w.heap.size) A c (texts l)) (hx : x ≤ l.length) (hn : l.length ≤ 1000000000) :
    Calls Try.prog 25 #[.slice A l.length c, .agg #[.int .i64 f, .int .i64 m], .int .i64 x] w fun y w' => ∃ A' n' c' d, y = .returned (.tuple #[.slice A' n' c', .bool d]) ∧ d = fol l.length x f m ∧ (d = true → f = x ∧ m = n' ∧ x + n' ≤ l.length ∧ (cut l x m).length = n' ∧ Vs w' (fun b => b < w'.heap.size) A' c' (texts (cut l x m))) ∧ Below w.heap.size w w' := by
  by_cases hf : fol l.length x f m = true
  · obtain ⟨p1, p2, p3⟩ := fol_yes.1 hf
    obtain ⟨n, hn'⟩ := Int.eq_ofNat_of_zero_le p2
    subst p1 hn'
    refine (part_yes x n l A c _ w hs (by omega) hn).mono ?_
    rintro y w' ⟨⟨A', c', rfl, hv⟩, hb⟩
    refine ⟨A', n, c', true, rfl, hf.symm, fun _ => ⟨rfl, rfl, by omega, ?_, vs_keep hv hb⟩, hb⟩
    unfold cut
    rw [List.length_take, List.length_drop]
    omega
  · have hf' : fol l.length x f m = false := by simpa using hf
    refine (part_no x f m A l.length c w (by omega) hn hf').mono ?_
    rintro y w' ⟨rfl, hb⟩
    exact ⟨none, 0, 0, false, rfl, hf'.symm, (fun h => by cases h), hb⟩
set_option maxRecDepth 100000 in
set_option maxHeartbeats 4000000 in
theorem refRight_any {w : World} {A Ao Aa Ab : Option Addr} {c co ca cb : Nat} {L : List Rg} {o a b : Ls} (hs : Rgs w A c L) (ht : In3 w Ao Aa Ab co ca cb o a b) (hL : L.length ≤ 1000000000) :
    Calls Try.prog 12 #[.slice A L.length c, .slice Ao o.length co, .slice Aa a.length ca, .slice Ab b.length cb] w fun y w' => y = .returned (.bool (okF o a b 0 0 0 L)) ∧ Below w.heap.size w w' := by
  have Hs := hide hs
  have HPo := hide (fun w1 (hb : Below w.heap.size w w1) x f m (hx : x ≤ o.length) => part_any x f m o Ao co w1 (ht.keep hb).o_ hx ht.lo_)
  have HPa := hide (fun w1 (hb : Below w.heap.size w w1) x f m (hx : x ≤ a.length) => part_any x f m a Aa ca w1 (ht.keep hb).a_ hx ht.la_)
  have HPb := hide (fun w1 (hb : Below w.heap.size w w1) x f m (hx : x ≤ b.length) => part_any x f m b Ab cb w1 (ht.keep hb).b_ hx ht.lb_)
  have Ht := hide ht
  obtain ⟨N, hN⟩ : ∃ N, N = L.length := ⟨_, rfl⟩
  obtain ⟨no, hno⟩ : ∃ z, z = o.length := ⟨_, rfl⟩
  obtain ⟨na, hna⟩ : ∃ z, z = a.length := ⟨_, rfl⟩
  obtain ⟨nb, hnb⟩ : ∃ z, z = b.length := ⟨_, rfl⟩
  rw [← hN] at hL ⊢
  rw [← hno] at HPo
  rw [← hna] at HPa
  rw [← hnb] at HPb
  rw [← hno, ← hna, ← hnb]
  have HN := hide hN
  have Hno := hide hno
  have Hna := hide hna
  have Hnb := hide hnb
  have hln : no ≤ 1000000000 ∧ na ≤ 1000000000 ∧ nb ≤ 1000000000 := by have := ht.lo_; have := ht.la_; have := ht.lb_; omega
  have Hln := hide hln
  clear hs ht hN hno hna hnb hln
  go_enter Try.func12, Try.ntmps12
  go_wp2
  go_loopw [12, 9, 10, 11] (fun i vx vy vz wr => ∃ k X Y Z : Nat, k ≤ N ∧ i = .int .i64 k ∧ vx = .int .i64 X ∧ vy = .int .i64 Y ∧ vz = .int .i64 Z ∧ Hid (okF o a b 0 0 0 L = okF o a b X Y Z (L.drop k)) ∧ Hid (Below w.heap.size w wr) ∧ Hid (X ≤ no ∧ Y ≤ na ∧ Z ≤ nb)) (fun i _ _ _ _ => N - (intOf i).toNat)
  case atStart => exact ⟨0, 0, 0, 0, Nat.zero_le _, rfl, rfl, rfl, rfl, rfl, hide (Below.refl _ _), hide (by omega)⟩
  case round =>
    obtain ⟨k, X, Y, Z, hk, rfl, rfl, rfl, rfl, HL, Hb, HB⟩ := hrel
    by_cases hlt : k < N
    · obtain ⟨b0, o0, r, rfl, hbl, hLk, hdrop, d0, d1, d2, d3, d4, d5, d6⟩ := Hs.out.at (w' := wr) Hb.out (k := k) (by have := HN.out; omega)
      obtain ⟨kd, f1, n1, f2, n2, f3, n3⟩ := r
      simp only at d0 d1 d2 d3 d4 d5 d6
      have hlow := HL.out
      rw [hdrop, okF] at hlow
      unfold chk at hlow
      rw [← Hno.out, ← Hna.out, ← Hnb.out] at hlow
      simp only at hlow
      have Hok := hide hlow
      have HBl := hide (show b0 < w.heap.size from hbl)
      clear hlow hdrop hLk hbl HL
      generalize hB10 : Code.region 10 _ _ = B10
      generalize hB15 : Code.region 15 _ _ = B15
      have HB10 := hide hB10
      have HB15 := hide hB15
      clear hB10 hB15
      go_wp2_with fail
      refine (HPo.out wr Hb.out X f1 n1 HB.out.1).mono ?_
      rintro y w1 ⟨A1, m1, c1, e1, rfl, he1, hp1, hb1⟩
      have Hb1 := hide (Hb.out.trans (hb1.mono Hb.out.size))
      have Hb01 := hide hb1
      have He1 := hide he1
      have Hp1 := hide hp1
      have g0 := agree d0 hb1
      have g3 := agree d3 hb1
      have g4 := agree d4 hb1
      have g5 := agree d5 hb1
      have g6 := agree d6 hb1
      clear he1 hp1 hb1 d0 d1 d2 d3 d4 d5 d6
      go_wp2_with fail
      refine (HPa.out w1 Hb1.out Y f2 n2 HB.out.2.1).mono ?_
      rintro y w2 ⟨A2, m2, c2, e2, rfl, he2, hp2, hb2⟩
      have Hb2 := hide (Hb1.out.trans (hb2.mono Hb1.out.size))
      have Hb12 := hide hb2
      have He2 := hide he2
      have Hp2 := hide hp2
      have h0 := agree g0 hb2
      have h5 := agree g5 hb2
      have h6 := agree g6 hb2
      clear he2 hp2 hb2 g0 g3 g4 g5 g6
      go_wp2_with fail
      refine (HPb.out w2 Hb2.out Z f3 n3 HB.out.2.2).mono ?_
      rintro y w3 ⟨A3, m3, c3, e3, rfl, he3, hp3, hb3⟩
      have Hb3 := hide (Hb2.out.trans (hb3.mono Hb2.out.size))
      have Hb23 := hide hb3
      have He3 := hide he3
      have Hp3 := hide hp3
      have i0 := agree h0 hb3
      clear he3 hp3 hb3 h0 h5 h6
      go_wp2
      rename_i KK hKK
      refine rr10 _ _ _ _ _ _ _ _ _ _ _ _ _ _ _ _ _ _ _ _ _ _ _ _ _ _ _ _ _ _ _ _ _ _ _ _ _ _ _ _ _ _ _ _ _ _ _ _ _ _ _ _ _ _ _ _ _ _ _ _ _ _ _ _ _ _ _ _ _ _ _ _ _ _ _ _ _ _ _ _ _ _ _ _ _ _ _ _ _ _ _ _ _ _ _ _ _ _ _ _ _ _ _ _ _ _ _ _ _ _ _ _ _ _ _ _ _ _ _ _ _ _ _ _ _ _ _ _ _ _ _ _ _ _ _ _ _ _ _ _ _ _ _ _ _ _ _ _ _ _ _ _ _ _ _ _ _ _ _ _ _ _ _ _ _ _ _ _ _ (by rw [← HB10.out]; kernel_rfl) e1 e2 e3 hlt i0 ?_
      intro u61 u62 u63 u64 u65 u66 u67 u68 u69 u70 u71 u72 u73 u74 u75 u76 u77 u78 u79 u80 u81 u82 u83 u84 u85
      refine hKK _ _ ?_
      clear hKK KK
      obtain ⟨T, hT⟩ : ∃ T, T = (e1 && e2 && e3 && decide (0 ≤ kd) && decide (kd ≤ 4)) := ⟨_, rfl⟩
      rw [← hT]
      have HT := hide hT
      clear hT
      cases T
      · go_wp2
        go_ret
        refine ⟨?_, Hb3.out⟩
        have ht := HT.out
        rw [He1.out, He2.out, He3.out] at ht
        rw [Hok.out]
        cases q1 : fol no X f1 n1
        · simp
        · cases q2 : fol na Y f2 n2
          · simp
          · cases q3 : fol nb Z f3 n3
            · simp
            · rw [q1, q2, q3] at ht
              have hh : holdsK kd (cut o X n1) (cut a Y n2) (cut b Z n3) = false := by
                cases hq : holdsK kd (cut o X n1) (cut a Y n2) (cut b Z n3)
                · rfl
                · have := holds_range hq
                  simp [this] at ht
              rw [hh]
              simp
      · have ht := HT.out.symm
        simp only [Bool.and_eq_true, decide_eq_true_eq] at ht
        obtain ⟨⟨⟨⟨t1, t2⟩, t3⟩, t4⟩, t5⟩ := ht
        obtain ⟨a1, a2, a3, a4, a5⟩ := Hp1.out t1
        obtain ⟨b1, b2, b3, b4, b5⟩ := Hp2.out t2
        obtain ⟨g1, g2, g3, g4, g5⟩ := Hp3.out t3
        have Hq1 := hide ((He1.out.symm.trans t1))
        have Hq2 := hide ((He2.out.symm.trans t2))
        have Hq3 := hide ((He3.out.symm.trans t3))
        subst a1 a2 b1 b2 g1 g2
        have V1 := hide (vs_keep (vs_keep a5 Hb12.out) Hb23.out)
        have V2 := hide (vs_keep b5 Hb23.out)
        have V3 := hide g5
        have Hok2 := hide (show okF o a b 0 0 0 L = (hkF kd (decide (cut o X m1 = cut a Y m2)) (decide (cut o X m1 = cut b Z m3)) (decide (cut a Y m2 = cut b Z m3)) && okF o a b (X + m1 : Nat) (Y + m2 : Nat) (Z + m3 : Nat) (L.drop (k + 1))) by
          rw [Hok.out, Hq1.out, Hq2.out, Hq3.out, hk_is, Bool.true_and, Bool.true_and, Bool.true_and, Int.natCast_add, Int.natCast_add, Int.natCast_add])
        have HX1 := hide (fun w1 (h1 : Below w3.heap.size w3 w1) => texts_any (cut o X m1) (cut a Y m2) A1 A2 c1 c2 _ _ w1 (vs_keep V1.out h1) (vs_keep V2.out h1) (by have := Hln.out; omega))
        have HX2 := hide (fun w1 (h1 : Below w3.heap.size w3 w1) => texts_any (cut o X m1) (cut b Z m3) A1 A3 c1 c3 _ _ w1 (vs_keep V1.out h1) (vs_keep V3.out h1) (by have := Hln.out; omega))
        have HX3 := hide (fun w1 (h1 : Below w3.heap.size w3 w1) => texts_any (cut a Y m2) (cut b Z m3) A2 A3 c2 c3 _ _ w1 (vs_keep V2.out h1) (vs_keep V3.out h1) (by have := Hln.out; omega))
        rw [a4, b4] at HX1
        rw [a4, g4] at HX2
        rw [b4, g4] at HX3
        obtain ⟨d1, hd1⟩ : ∃ z, z = decide (cut o X m1 = cut a Y m2) := ⟨_, rfl⟩
        obtain ⟨d2, hd2⟩ : ∃ z, z = decide (cut o X m1 = cut b Z m3) := ⟨_, rfl⟩
        obtain ⟨d3, hd3⟩ : ∃ z, z = decide (cut a Y m2 = cut b Z m3) := ⟨_, rfl⟩
        rw [← hd1] at HX1
        rw [← hd2] at HX2
        rw [← hd3] at HX3
        rw [← hd1, ← hd2, ← hd3] at Hok2
        obtain ⟨X', hX'⟩ : ∃ z, z = X + m1 := ⟨_, rfl⟩
        obtain ⟨Y', hY'⟩ : ∃ z, z = Y + m2 := ⟨_, rfl⟩
        obtain ⟨Z', hZ'⟩ : ∃ z, z = Z + m3 := ⟨_, rfl⟩
        have hln := Hln.out
        have wx : IntKind.i64.wrap ((X : Int) + (m1 : Int)) = (X' : Int) := by rw [IntWalk.i64_in _ (by omega)]; omega
        have wy : IntKind.i64.wrap ((Y : Int) + (m2 : Int)) = (Y' : Int) := by rw [IntWalk.i64_in _ (by omega)]; omega
        have wz : IntKind.i64.wrap ((Z : Int) + (m3 : Int)) = (Z' : Int) := by rw [IntWalk.i64_in _ (by omega)]; omega
        have wk : IntKind.i64.wrap ((k : Int) + 1) = (k : Int) + 1 := IntWalk.i64_in _ (by omega)
        rw [← hX', ← hY', ← hZ'] at Hok2
        have HB' := hide (show X' ≤ no ∧ Y' ≤ na ∧ Z' ≤ nb by omega)
        have hkd : 0 ≤ kd ∧ kd ≤ 4 := ⟨t4, t5⟩
        clear t1 t2 t3 t4 t5 a3 a4 a5 b3 b4 b5 g3 g4 g5 hd1 hd2 hd3 hX' hY' hZ' hln
        go_wp2_with fail
        refine (HX1.out w3 (Below.refl _ _)).mono ?_
        rintro y w4 ⟨rfl, hb4⟩
        have Hb4 := hide hb4
        clear hb4
        go_wp2_with fail
        refine (HX2.out w4 Hb4.out).mono ?_
        rintro y w5 ⟨rfl, hb5⟩
        have Hb5 := hide (Hb4.out.trans (hb5.mono Hb4.out.size))
        clear hb5
        go_wp2_with fail
        refine (HX3.out w5 Hb5.out).mono ?_
        rintro y w6 ⟨rfl, hb6⟩
        have Hb6 := hide (Hb5.out.trans (hb6.mono Hb5.out.size))
        clear hb6
        go_wp2
        rename_i KK hKK
        refine rr15 _ _ _ _ _ _ _ _ _ _ _ _ _ _ _ _ _ _ _ _ _ _ _ _ _ _ _ _ _ _ _ _ _ _ _ _ _ _ _ _ _ _ _ _ _ _ _ _ _ _ _ _ _ _ _ _ _ _ _ _ _ _ _ _ _ _ _ _ _ _ _ _ _ _ _ _ _ _ _ _ _ _ _ _ _ _ _ _ _ _ _ _ _ _ _ _ _ _ _ _ _ _ _ _ _ _ _ _ _ _ _ _ _ _ _ _ _ _ _ _ _ _ _ _ _ _ _ _ _ _ _ _ _ _ _ _ _ _ _ _ _ _ _ _ _ _ _ _ _ _ _ _ _ _ _ _ _ _ _ _ _ _ _ _ _ _ _ _ _ (by rw [← HB15.out]; kernel_rfl) d1 d2 d3 hlt (agree i0 Hb6.out) hkd ?_
        intro u96 u97 u98 u99 u100 u101 u102 u103 u104 u105 u106 u107 u108 u109 u110 u111 u112 u113 u114 u115 u116 u117 u118 u119 u120 u121 u122 u123 u124 u125 u126 u127 u128 u129 u130 u131 u132 u133 u134 u135 u136 u137 u138 u139 u140 u141 u142 u143 u144
        refine hKK _ _ ?_
        clear hKK KK
        obtain ⟨T2, hT2⟩ : ∃ z, z = hkF kd d1 d2 d3 := ⟨_, rfl⟩
        rw [← hT2]
        rw [← hT2] at Hok2
        clear hT2
        cases T2
        · go_wp2
          go_ret
          exact ⟨by rw [Hok2.out]; simp, Hb3.out.trans (Hb6.out.mono Hb3.out.size)⟩
        · rw [Bool.true_and] at Hok2
          go_wp2
          exact ⟨⟨k + 1, X', Y', Z', by omega, by go_num, rfl, rfl, rfl, Hok2, hide (Hb3.out.trans (Hb6.out.mono Hb3.out.size)), HB'⟩, by simp [intOf]; omega⟩
    · obtain rfl : k = N := by omega
      have hok := HL.out
      rw [List.drop_of_length_le (by have := HN.out; omega), okF, ← Hno.out, ← Hna.out, ← Hnb.out] at hok
      have Hok := hide hok
      clear hok
      by_cases h1 : (X : Int) = no
      · have q1 : ((X : Int) == (no : Int)) = true := by rw [beq_iff_eq]; exact h1
        rw [decide_eq_true h1] at Hok
        clear h1
        by_cases h2 : (Y : Int) = na
        · have q2 : ((Y : Int) == (na : Int)) = true := by rw [beq_iff_eq]; exact h2
          rw [decide_eq_true h2] at Hok
          clear h2
          by_cases h3 : (Z : Int) = nb
          · have q3 : ((Z : Int) == (nb : Int)) = true := by rw [beq_iff_eq]; exact h3
            rw [decide_eq_true h3] at Hok
            clear h3
            go_wp2
            go_ret
            exact ⟨by rw [Hok.out]; rfl, Hb.out⟩
          · have q3 : ((Z : Int) == (nb : Int)) = false := by rw [beq_eq_false_iff_ne]; exact h3
            rw [decide_eq_false h3] at Hok
            clear h3
            go_wp2
            go_ret
            exact ⟨by rw [Hok.out]; rfl, Hb.out⟩
        · have q2 : ((Y : Int) == (na : Int)) = false := by rw [beq_eq_false_iff_ne]; exact h2
          rw [decide_eq_false h2] at Hok
          clear h2
          go_wp2
          go_ret
          exact ⟨by rw [Hok.out]; simp, Hb.out⟩
      · have q1 : ((X : Int) == (no : Int)) = false := by rw [beq_eq_false_iff_ne]; exact h1
        rw [decide_eq_false h1] at Hok
        clear h1
        go_wp2
        go_ret
        exact ⟨by rw [Hok.out]; simp, Hb.out⟩
end Go.Proofs.Yteehbpnbephojaa.Al
