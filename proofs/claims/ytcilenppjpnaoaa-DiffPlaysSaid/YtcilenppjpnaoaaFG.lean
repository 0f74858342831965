/-
  The statement DiffPlays, walked.
-/
import Derived.Test.YtcilenppjpnaoaaFD
import Derived.Test.YtcilenppjpnaoaaFE
import Derived.Test.YtcilenppjpnaoaaER
namespace Go.Proofs.Ytcilenppjpnaoaa.Df
open Go Go.RowKit Kt Lw Li

theorem play_le (a : Ls) : ∀ (L : List Ed) (at_ : Nat) (last : Int), -1 ≤ last → at_ ≤ last + 1 → right a.length last L = true → at_ ≤ a.length → (∀ e ∈ L, e.ins.length ≤ 20) → (play a at_ L).length ≤ a.length - at_ + 20 * L.length
  | [], at_, last, _, _, _, h, _ => by simp [play]
  | e :: l, at_, last, h1, h2, hr, h, hi => by
    obtain ⟨p, d, ep, ed, hpd, hlp, hne, hr'⟩ := right_head hr h1
    have ih := play_le a l (p + d) ((p + d : Nat) : Int) (by omega) (by omega) hr' hpd (fun x hx => hi x (by simp [hx]))
    have he := hi e (by simp)
    rw [play]
    simp only [ep, ed, Int.toNat_natCast, List.length_append, List.length_take, List.length_drop, List.length_cons]
    omega
theorem turn_ins (a : Ls) : ∀ (L : List Ed) (m : Int) (e : Ed), e ∈ turn a m L → e.ins.length ≤ a.length
  | [], m, e, h => by cases h
  | x :: l, m, e, h => by
    rw [turn] at h
    rcases List.mem_cons.1 h with rfl | h
    · rw [List.length_take, List.length_drop]; omega
    · exact turn_ins a l _ e h

set_option maxHeartbeats 1000000 in
set_option maxRecDepth 100000 in
theorem refPlay_no (a : Ls) (L : List Ed) (A A' : Option Addr) (c c' : Nat) (w : World) (hs' : Es w A' c' L) (hn : a.length ≤ 1000000) (hl : L.length ≤ 1000000) (hr : right a.length (-1) L = false) :
    Calls Try.prog 22 #[.slice A a.length c, .slice A' L.length c'] w fun y w' => y = .returned (.tuple #[.slice none 0 0, .bool false]) ∧ Below w.heap.size w w' := by
  have HR1 := hide (refRight_any a.length L A' c' w hs' hl (by omega) (by omega))
  have Hr := hide hr
  obtain ⟨N, hN⟩ : ∃ N, N = L.length := ⟨_, rfl⟩
  obtain ⟨n, hna⟩ : ∃ n, n = a.length := ⟨_, rfl⟩
  rw [← hN] at HR1 ⊢
  rw [← hna] at HR1 Hr ⊢
  clear hs' hN hr hna hl
  go_enter Try.func22, Try.ntmps22
  go_wp2_with fail
  refine HR1.out.mono ?_
  rintro y w1 ⟨rfl, hb1⟩
  rw [Hr.out]
  have Hb1 := hide hb1
  clear hb1
  go_wp2
  go_ret2
  exact ⟨rfl, Hb1.out⟩
set_option maxHeartbeats 1000000 in
set_option maxRecDepth 100000 in
theorem refTurn_no (a : Ls) (L : List Ed) (A A' : Option Addr) (c c' : Nat) (w : World) (hs' : Es w A' c' L) (hn : a.length ≤ 1000000) (hl : L.length ≤ 1000000) (hr : right a.length (-1) L = false) :
    Calls Try.prog 24 #[.slice A a.length c, .slice A' L.length c'] w fun y w' => y = .returned (.slice none 0 0) ∧ Below w.heap.size w w' := by
  have HR1 := hide (refRight_any a.length L A' c' w hs' hl (by omega) (by omega))
  have Hr := hide hr
  obtain ⟨N, hN⟩ : ∃ N, N = L.length := ⟨_, rfl⟩
  obtain ⟨n, hna⟩ : ∃ n, n = a.length := ⟨_, rfl⟩
  rw [← hN] at HR1 hl ⊢
  rw [← hna] at HR1 Hr ⊢
  clear hs' hN hr hna
  go_enter Try.func24, Try.ntmps24
  go_wp2_with fail
  refine HR1.out.mono ?_
  rintro y w1 ⟨rfl, hb1⟩
  rw [Hr.out]
  have Hb1 := hide hb1
  clear hb1
  go_wp2
  go_loopw [6, 7] (fun v vi wr => v = .slice none 0 0 ∧ vi = .int .i64 0 ∧ Below w.heap.size w wr) (fun _ _ _ => 0)
  case atStart => exact ⟨rfl, rfl, Hb1.out⟩
  case round =>
    obtain ⟨rfl, rfl, hb⟩ := hrel
    have Hb := hide hb
    clear hb
    by_cases hN0 : 0 < N
    · go_wp2
      go_ret
      exact ⟨rfl, Hb.out⟩
    · obtain rfl : N = 0 := by omega
      go_wp2
      go_ret
      exact ⟨rfl, Hb.out⟩

set_option maxHeartbeats 1000000 in
set_option maxRecDepth 100000 in
theorem plays_any (a : Ls) (L : List Ed) (A A' : Option Addr) (c c' : Nat) (P : Nat → Prop) (w : World) (hs : Vs w P A c (texts a)) (hs' : Es w A' c' L) (hl : L.length ≤ 9223372036854775807) :
    Calls Try.prog 6 #[.slice A a.length c, .slice A' L.length c'] w fun y w' => y = .returned (.bool true) ∧ Below w.heap.size w w' := by
  have Ha := hide hs.bound
  have He := hide hs'
  have Hl := hide hl
  clear hs hs' hl
  go_enter Try.func6, Try.ntmps6
  go_wp2_with fail
  refine (awake_any w).mono ?_
  rintro y w1 ⟨rfl, hb1⟩
  have Ha1 := hide (vs_keep Ha.out hb1)
  have He1 := hide (He.out.keep hb1)
  have Hb1 := hide hb1
  clear hb1
  go_wp2_with fail
  refine (few_any L A' c' w1 He1.out Hl.out).mono ?_
  rintro y w2 ⟨rfl, hb2⟩
  have Ha2 := hide (vs_keep Ha1.out hb2)
  have He2 := hide (He1.out.keep hb2)
  have Hb2 := hide (Hb1.out.trans (hb2.mono Hb1.out.size))
  clear hb2
  cases hf : fewL L with
  | false =>
    go_wp2
    go_ret
    exact ⟨rfl, Hb2.out⟩
  | true =>
    by_cases ha : a.length ≤ 24
    · have da : decide (24 < (a.length : Int)) = false := by simp; omega
      obtain ⟨hfe, hf20⟩ := fewL_spec hf
      have hsz := size_few L hfe
      have Hsz := hide (show size L ≤ 30000000 by omega)
      have Hl2 := hide hf20
      have Hins := hide (show ∀ e ∈ L, e.ins.length ≤ 20 from fun e he => (hfe e he).2.2)
      have Hla := hide ha
      clear hf hfe hf20 hsz
      cases hr : right a.length (-1) L with
      | true =>
        have hpl := play_le a L 0 (-1) (by omega) (by omega) hr (Nat.zero_le _) Hins.out
        have Hpl := hide (show (play a 0 L).length ≤ 1000 by have := Hl2.out; omega)
        have Hr := hide hr
        clear hr hpl
        go_wp2_with fail
        refine (play_yes a L A A' c c' _ w2 Ha2.out He2.out (by have := Hla.out; omega) (by have := Hl2.out; omega) (by have := Hpl.out; omega) Hr.out).mono ?_
        rintro y w3 ⟨v, rfl, hv, hb3⟩
        obtain ⟨Ax, cx, rfl, hx⟩ := OwT.vs hv
        have Hx3 := hide (Lw.Vs.bound hx)
        have Ha3 := hide (vs_keep Ha2.out hb3)
        have He3 := hide (He2.out.keep hb3)
        have Hb3 := hide (Hb2.out.trans (hb3.mono Hb2.out.size))
        clear hb3 hv hx
        go_wp2_with fail
        refine (refPlay_yes a L A A' c c' _ w3 Ha3.out He3.out (by have := Hla.out; omega) (by have := Hl2.out; omega) (by have := Hpl.out; omega) Hr.out).mono ?_
        rintro y w4 ⟨v, rfl, hv, hb4⟩
        obtain ⟨Ay, cy, rfl, hx⟩ := OwT.vs hv
        have Hy4 := hide (Lw.Vs.bound hx)
        have Hx4 := hide (vs_keep Hx3.out hb4)
        have Ha4 := hide (vs_keep Ha3.out hb4)
        have He4 := hide (He3.out.keep hb4)
        have Hb4 := hide (Hb3.out.trans (hb4.mono Hb3.out.size))
        clear hb4 hv hx
        go_wp2_with fail
        refine (texts_any (play a 0 L) (play a 0 L) Ax Ay cx cy _ _ w4 Hx4.out Hy4.out (by have := Hpl.out; omega)).mono ?_
        rintro y w5 ⟨rfl, hb5⟩
        have Ha5 := hide (vs_keep Ha4.out hb5)
        have He5 := hide (He4.out.keep hb5)
        have Hb5 := hide (Hb4.out.trans (hb5.mono Hb4.out.size))
        clear hb5
        simp only [decide_true]
        go_wp2_with fail
        refine (turn_yes a L A A' c c' _ w5 Ha5.out He5.out (by have := Hla.out; omega) (by have := Hl2.out; omega) (by have := Hpl.out; omega) Hr.out).mono ?_
        rintro y w6 ⟨v, rfl, hv, hb6⟩
        obtain ⟨Am, cm, rfl, hm⟩ := OwE.es hv
        have Hm6 := hide hm
        have Ha6 := hide (vs_keep Ha5.out hb6)
        have He6 := hide (He5.out.keep hb6)
        have Hb6 := hide (Hb5.out.trans (hb6.mono Hb5.out.size))
        clear hb6 hv hm
        go_wp2_with fail
        refine (refTurn_yes a L A A' c c' _ w6 Ha6.out He6.out (by have := Hla.out; omega) (by have := Hl2.out; omega) (by have := Hsz.out; omega) Hr.out).mono ?_
        rintro y w7 ⟨v, rfl, hv, hb7⟩
        obtain ⟨An, cn, rfl, hm⟩ := OwE.es hv
        have Hn7 := hide hm
        have Hm7 := hide (Hm6.out.keep hb7)
        have Hb7 := hide (Hb6.out.trans (hb7.mono Hb6.out.size))
        clear hb7 hv hm
        go_wp2_with fail
        refine (same_any (turn a 0 L) Am An cm cn w7 Hm7.out Hn7.out (by rw [turn_len]; have := Hl2.out; omega) (fun e he => by have := turn_ins a L 0 e he; have := Hla.out; omega)).mono ?_
        rintro y w8 ⟨rfl, hb8⟩
        have Hb8 := hide (Hb7.out.trans (hb8.mono Hb7.out.size))
        clear hb8
        go_wp2
        go_ret
        exact ⟨rfl, Hb8.out⟩
      | false =>
        have Hr := hide hr
        clear hr
        go_wp2_with fail
        refine (play_no a L A A' c c' w2 He2.out (by have := Hla.out; omega) (by have := Hl2.out; omega) Hr.out).mono ?_
        rintro y w3 ⟨rfl, hb3⟩
        have He3 := hide (He2.out.keep hb3)
        have Hb3 := hide (Hb2.out.trans (hb3.mono Hb2.out.size))
        clear hb3
        go_wp2_with fail
        refine (refPlay_no a L A A' c c' w3 He3.out (by have := Hla.out; omega) (by have := Hl2.out; omega) Hr.out).mono ?_
        rintro y w4 ⟨rfl, hb4⟩
        have He4 := hide (He3.out.keep hb4)
        have Hb4 := hide (Hb3.out.trans (hb4.mono Hb3.out.size))
        clear hb4
        go_wp2_with fail
        refine (texts_any [] [] none none 0 0 (fun _ => True) (fun _ => True) w4 ⟨Nat.zero_le _, fun h => by simp [texts] at h⟩ ⟨Nat.zero_le _, fun h => by simp [texts] at h⟩ (by simp)).mono ?_
        rintro y w5 ⟨rfl, hb5⟩
        have He5 := hide (He4.out.keep hb5)
        have Hb5 := hide (Hb4.out.trans (hb5.mono Hb4.out.size))
        clear hb5
        simp only [decide_true]
        go_wp2_with fail
        refine (turn_no a L A A' c c' w5 He5.out (by have := Hla.out; omega) (by have := Hl2.out; omega) Hr.out).mono ?_
        rintro y w6 ⟨rfl, hb6⟩
        have He6 := hide (He5.out.keep hb6)
        have Hb6 := hide (Hb5.out.trans (hb6.mono Hb5.out.size))
        clear hb6
        go_wp2_with fail
        refine (refTurn_no a L A A' c c' w6 He6.out (by have := Hla.out; omega) (by have := Hl2.out; omega) Hr.out).mono ?_
        rintro y w7 ⟨rfl, hb7⟩
        have Hb7 := hide (Hb6.out.trans (hb7.mono Hb6.out.size))
        clear hb7
        go_wp2_with fail
        refine (same_any [] none none 0 0 w7 (Es.nil _ _ _) (Es.nil _ _ _) (by simp) (fun e h => by cases h)).mono ?_
        rintro y w8 ⟨rfl, hb8⟩
        have Hb8 := hide (Hb7.out.trans (hb8.mono Hb7.out.size))
        clear hb8
        go_wp2
        go_ret
        exact ⟨rfl, Hb8.out⟩
    · have da : decide (24 < (a.length : Int)) = true := by simp; omega
      clear hf
      go_wp2
      go_ret
      exact ⟨rfl, Hb2.out⟩
end Go.Proofs.Ytcilenppjpnaoaa.Df
