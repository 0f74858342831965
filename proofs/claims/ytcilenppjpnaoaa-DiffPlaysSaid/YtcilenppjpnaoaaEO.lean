/-
  The statements DiffBack, DiffTurns and DiffChain, walked.
-/
import Derived.Test.YtcilenppjpnaoaaEN
namespace Go.Proofs.Ytcilenppjpnaoaa.Df
open Go Go.RowKit Kt Lw Li

theorem right_len (n : Nat) : ∀ (L : List Ed) (last : Int), -1 ≤ last → right n last L = true → (L.length : Int) ≤ size L
  | [], _, _, _ => by simp [size]
  | e :: l, last, h1, hr => by
    obtain ⟨p, d, ep, ed, hpd, hlp, hne, hr'⟩ := right_head hr h1
    have := right_len n l _ (by omega) hr'
    rw [size, List.length_cons, ed]
    rcases hne with h | h
    · omega
    · have := List.length_pos_iff.2 h
      omega
/-- how large what is between is -/
theorem D_small (a b : Ls) (ha : a.length ≤ 100) (hb : b.length ≤ 100) : size (D a b) ≤ 200 ∧ (D a b).length ≤ 200 := by
  have h1 := D_size a b (Nat.le_trans (mul_le ha hb) (by omega))
  have h2 := right_len _ _ _ (by omega) (D_right a b)
  constructor <;> omega
theorem back_facts (a b : Ls) : play b 0 (turn a 0 (D a b)) = a ∧ right b.length (-1) (turn a 0 (D a b)) = true ∧ size (turn a 0 (D a b)) = size (D a b) := by
  have hr := D_right a b
  have h1 := play_turn a (D a b) 0 (-1) [] 0 0 (by omega) (by omega) hr rfl rfl
  have h2 := right_turn a (D a b) 0 (-1) 0 b.length (by omega) (by omega) hr (by rw [D_play]; simp)
  rw [List.nil_append, D_play, List.drop_zero] at h1
  exact ⟨h1, h2, size_turn a (D a b) (-1) 0 (by omega) hr⟩

set_option maxHeartbeats 1000000 in
set_option maxRecDepth 100000 in
theorem back_any (a b : Ls) (A A' : Option Addr) (c c' : Nat) (P P' : Nat → Prop) (w : World) (hs : Vs w P A c (texts a)) (hs' : Vs w P' A' c' (texts b)) (_hla : a.length ≤ 9223372036854775807) (_hlb : b.length ≤ 9223372036854775807) :
    Calls Try.prog 7 #[.slice A a.length c, .slice A' b.length c'] w fun y w' => y = .returned (.bool true) ∧ Below w.heap.size w w' := by
  have Ha := hide hs.bound
  have Hx := hide hs'.bound
  clear hs hs'
  by_cases ha : a.length ≤ 40
  · have da : decide (40 < (a.length : Int)) = false := by simp; omega
    by_cases hb : b.length ≤ 40
    · have db : decide (40 < (b.length : Int)) = false := by simp; omega
      obtain ⟨hsm1, hsm2⟩ := D_small a b (by omega) (by omega)
      have Hr := hide (D_right a b)
      have Hp := hide (D_play a b)
      obtain ⟨hp2, hr2, hz2⟩ := back_facts a b
      have Hp2 := hide hp2
      have Hr2 := hide hr2
      have Hz2 := hide hz2
      have hml := turn_len a (D a b) 0
      have Hml := hide hml
      clear hp2 hr2 hz2 hml
      have Hd := fun w1 (h1 : Vs w1 (fun b => b < w1.heap.size) A c (texts a)) (h2 : Vs w1 (fun b => b < w1.heap.size) A' c' (texts b)) => diff_any a b A A' c c' _ _ w1 h1 h2 (by omega) (by omega)
      have HD := hide Hd
      clear Hd
      have Hsm1 := hide hsm1
      have Hsm2 := hide hsm2
      clear hsm1 hsm2
      generalize hL : D a b = L at *
      generalize hM : turn a 0 L = M at *
      have Hla := hide ha
      have Hlb := hide hb
      have HM := hide hM
      clear hL hM
      go_enter Try.func7, Try.ntmps7
      go_wp2_with fail
      refine (awake_any w).mono ?_
      rintro y w1 ⟨rfl, hb1⟩
      have Ha1 := hide (vs_keep Ha.out hb1)
      have Hx1 := hide (vs_keep Hx.out hb1)
      have Hb1 := hide hb1
      clear hb1
      go_wp2_with fail
      refine (HD.out w1 Ha1.out Hx1.out).mono ?_
      rintro y w2 ⟨v, rfl, hv, hb2⟩
      obtain ⟨Al, cl, rfl, he⟩ := OwE.es hv
      have Ha2 := hide (vs_keep Ha1.out hb2)
      have Hx2 := hide (vs_keep Hx1.out hb2)
      have He2 := hide he
      have Hb2 := hide (Hb1.out.trans (hb2.mono Hb1.out.size))
      clear hb2 hv he
      go_wp2_with fail
      refine (play_yes a L A Al c cl _ w2 Ha2.out He2.out (by have := Hla.out; omega) (by have := Hsm2.out; omega) (by rw [Hp.out]; have := Hlb.out; omega) Hr.out).mono ?_
      rintro y w3 ⟨v, rfl, hv, hb3⟩
      rw [Hp.out] at hv
      obtain ⟨Ab, cb, rfl, hs⟩ := OwT.vs hv
      have Ha3 := hide (vs_keep Ha2.out hb3)
      have Hx3 := hide (vs_keep Hx2.out hb3)
      have He3 := hide (He2.out.keep hb3)
      have Hs3 := hide (Lw.Vs.bound hs)
      have Hb3 := hide (Hb2.out.trans (hb3.mono Hb2.out.size))
      clear hb3 hv hs
      go_wp2_with fail
      refine (turn_yes a L A Al c cl _ w3 Ha3.out He3.out (by have := Hla.out; omega) (by have := Hsm2.out; omega) (by rw [Hp.out]; have := Hlb.out; omega) Hr.out).mono ?_
      rintro y w4 ⟨v, rfl, hv, hb4⟩
      rw [HM.out] at hv
      obtain ⟨Am, cm, rfl, he⟩ := OwE.es hv
      have Ha4 := hide (vs_keep Ha3.out hb4)
      have Hx4 := hide (vs_keep Hx3.out hb4)
      have He4 := hide (He3.out.keep hb4)
      have Hs4 := hide (vs_keep Hs3.out hb4)
      have Hm4 := hide he
      have Hb4 := hide (Hb3.out.trans (hb4.mono Hb3.out.size))
      clear hb4 hv he
      go_wp2_with fail
      refine (play_yes b M A' Am c' cm _ w4 Hx4.out Hm4.out (by have := Hlb.out; omega) (by have := Hsm2.out; have := Hml.out; omega) (by rw [Hp2.out]; have := Hla.out; omega) Hr2.out).mono ?_
      rintro y w5 ⟨v, rfl, hv, hb5⟩
      rw [Hp2.out] at hv
      obtain ⟨Ac, cc, rfl, hs⟩ := OwT.vs hv
      have Ha5 := hide (vs_keep Ha4.out hb5)
      have Hx5 := hide (vs_keep Hx4.out hb5)
      have He5 := hide (He4.out.keep hb5)
      have Hs5 := hide (vs_keep Hs4.out hb5)
      have Hm5 := hide (Hm4.out.keep hb5)
      have Ht5 := hide (Lw.Vs.bound hs)
      have Hb5 := hide (Hb4.out.trans (hb5.mono Hb4.out.size))
      clear hb5 hv hs
      go_wp2_with fail
      refine (texts_any b b Ab A' cb c' _ _ w5 Hs5.out Hx5.out (by have := Hlb.out; omega)).mono ?_
      rintro y w6 ⟨rfl, hb6⟩
      have Ha6 := hide (vs_keep Ha5.out hb6)
      have He6 := hide (He5.out.keep hb6)
      have Hm6 := hide (Hm5.out.keep hb6)
      have Ht6 := hide (vs_keep Ht5.out hb6)
      have Hb6 := hide (Hb5.out.trans (hb6.mono Hb5.out.size))
      clear hb6
      simp only [decide_true]
      go_wp2_with fail
      refine (texts_any a a Ac A cc c _ _ w6 Ht6.out Ha6.out (by have := Hla.out; omega)).mono ?_
      rintro y w7 ⟨rfl, hb7⟩
      have He7 := hide (He6.out.keep hb7)
      have Hm7 := hide (Hm6.out.keep hb7)
      have Hb7 := hide (Hb6.out.trans (hb7.mono Hb6.out.size))
      clear hb7
      simp only [decide_true]
      go_wp2_with fail
      refine (right_any a.length L Al cl w7 He7.out (by have := Hsm2.out; omega) (by have := Hla.out; omega) (by omega)).mono ?_
      rintro y w8 ⟨rfl, hb8⟩
      have He8 := hide (He7.out.keep hb8)
      have Hm8 := hide (Hm7.out.keep hb8)
      have Hb8 := hide (Hb7.out.trans (hb8.mono Hb7.out.size))
      clear hb8
      rw [Hr.out]
      go_wp2_with fail
      refine (right_any b.length M Am cm w8 Hm8.out (by have := Hsm2.out; have := Hml.out; omega) (by have := Hlb.out; omega) (by omega)).mono ?_
      rintro y w9 ⟨rfl, hb9⟩
      have He9 := hide (He8.out.keep hb9)
      have Hm9 := hide (Hm8.out.keep hb9)
      have Hb9 := hide (Hb8.out.trans (hb9.mono Hb8.out.size))
      clear hb9
      rw [Hr2.out]
      go_wp2_with fail
      refine (size_any L Al cl w9 He9.out (by have := Hsm2.out; omega) (by have := Hsm1.out; omega)).mono ?_
      rintro y w10 ⟨rfl, hb10⟩
      have Hm10 := hide (Hm9.out.keep hb10)
      have Hb10 := hide (Hb9.out.trans (hb10.mono Hb9.out.size))
      clear hb10
      go_wp2_with fail
      refine (size_any M Am cm w10 Hm10.out (by have := Hsm2.out; have := Hml.out; omega) (by rw [Hz2.out]; have := Hsm1.out; omega)).mono ?_
      rintro y w11 ⟨rfl, hb11⟩
      have Hb11 := hide (Hb10.out.trans (hb11.mono Hb10.out.size))
      clear hb11
      rw [Hz2.out]
      go_wp2
      go_ret
      exact ⟨rfl, Hb11.out⟩
    · have db : decide (40 < (b.length : Int)) = true := by simp; omega
      go_enter Try.func7, Try.ntmps7
      go_wp2_with fail
      refine (awake_any w).mono ?_
      rintro y w1 ⟨rfl, hb1⟩
      go_wp2
      go_ret
      exact ⟨rfl, hb1⟩
  · have da : decide (40 < (a.length : Int)) = true := by simp; omega
    go_enter Try.func7, Try.ntmps7
    go_wp2_with fail
    refine (awake_any w).mono ?_
    rintro y w1 ⟨rfl, hb1⟩
    go_wp2
    go_ret
    exact ⟨rfl, hb1⟩
end Go.Proofs.Ytcilenppjpnaoaa.Df
