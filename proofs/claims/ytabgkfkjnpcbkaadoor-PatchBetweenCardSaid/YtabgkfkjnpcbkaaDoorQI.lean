/-
  What is between two trees, played, is the other one: the law PatchBetween.
-/
import Derived.BigQuiet
import Derived.Test.YtabgkfkjnpcbkaaDoorQQG
namespace Go.Proofs.YtabgkfkjnpcbkaaDoor.Tr
open Go Go.RowKit Kt Lw Li Lx Df Wr

set_option maxRecDepth 100000 in
set_option maxHeartbeats 8000000 in
theorem lawBetween_any (a b : List Fl) (A A' : Option Addr) (c c' : Nat) (w : World) (hs : Fls w A c a) (hs' : Fls w A' c' b) (hE : Env w) (hm : ∀ f ∈ a, f.path.length ≤ 9223372036854775807 ∧ f.text.length ≤ 9223372036854775807) (hn : a.length ≤ 9223372036854775807)
    (hm' : ∀ f ∈ b, f.path.length ≤ 9223372036854775807 ∧ f.text.length ≤ 9223372036854775807) (hn' : b.length ≤ 9223372036854775807) :
    Calls Tryd.prog 7 #[.slice A a.length c, .slice A' b.length c'] w fun y w' => y = .returned (.bool true) ∧ Below w.heap.size w w' := by
  have HFa := hide (fun (wz : World) (h : Fls wz A c a) => few_any a A c wz h)
  have HFb := hide (fun (wz : World) (h : Fls wz A' c' b) => few_any b A' c' wz h)
  have HRa := hide (fun (hl : a.length ≤ 12) (wz : World) (h : Fls wz A c a) => rright_any a A c wz h (by omega) (fun f hf => (hm f hf).1))
  have HRb := hide (fun (hl : b.length ≤ 12) (wz : World) (h : Fls wz A' c' b) => rright_any b A' c' wz h (by omega) (fun f hf => (hm' f hf).1))
  have HBab := hide (fun (g1 : go none a = true) (g2 : go none b = true) (hl : a.length ≤ 12) (hl' : b.length ≤ 12) (wz : World) (h : Fls wz A c a) (h' : Fls wz A' c' b) => between_call a b A A' c c' wz h h' g1 g2 (by have := both_len a b; omega))
  have HBba := hide (fun (g1 : go none a = true) (g2 : go none b = true) (hl : a.length ≤ 12) (hl' : b.length ≤ 12) (wz : World) (h : Fls wz A c a) (h' : Fls wz A' c' b) => between_call b a A' A c' c wz h' h g2 g1 (by have := both_len b a; omega))
  have HPab := hide (fun (g1 : go none a = true) (g2 : go none b = true) (hl : a.length ≤ 12) (hl' : b.length ≤ 12) (wz : World) (B : Option Addr) (d : Nat) (h : Fls wz A c a) (h' : Chs wz B d (betw a b)) (hE : Env wz) => by
    have := play_call a (betw a b) A B c d wz h h' hE.most g1 (betw_go g1 g2) (by have := List.length_filterMap_le (chOf a b) (both a b); have := both_len a b; unfold betw; omega)
    rw [betw_play g1 g2 (by omega)] at this
    exact this)
  have HPba := hide (fun (g1 : go none a = true) (g2 : go none b = true) (hl : a.length ≤ 12) (hl' : b.length ≤ 12) (wz : World) (B : Option Addr) (d : Nat) (h : Fls wz A' c' b) (h' : Chs wz B d (betw b a)) (hE : Env wz) => by
    have := play_call b (betw b a) A' B c' d wz h h' hE.most g2 (betw_go g2 g1) (by have := List.length_filterMap_le (chOf b a) (both b a); have := both_len b a; unfold betw; omega)
    rw [betw_play g2 g1 (by omega)] at this
    exact this)
  have HSa := hide (fun (hl : a.length ≤ 12) (wz : World) (B B' : Option Addr) (d d' : Nat) (h1 : Fls wz B d a) (h2 : Fls wz B' d' a) => same_any a a B B' d d' wz h1 h2 (by omega))
  have HSb := hide (fun (hl : b.length ≤ 12) (wz : World) (B B' : Option Addr) (d d' : Nat) (h1 : Fls wz B d b) (h2 : Fls wz B' d' b) => same_any b b B B' d d' wz h1 h2 (by omega))
  have HSab := hide (fun (hl : a.length ≤ 12) (wz : World) (h1 : Fls wz A c a) (h2 : Fls wz A' c' b) => same_any a b A A' c c' wz h1 h2 (by omega))
  have HRp := hide (fun (f1 : fine a = true) (f2 : fine b = true) (wz : World) (B : Option Addr) (d : Nat) (h : Chs wz B d (betw a b)) (hE : Env wz) => show Calls Tryd.prog 15 #[.agg #[.slice none 0 0, .string ⟨#[]⟩, .string ⟨#[]⟩, .slice B (betw a b).length d]] wz fun y w' => y = .returned (.bool true) ∧ Below wz.heap.size wz w' from by
    have := pright_any (only (betw a b)) none B 0 d wz (pin_only h (fun f hf => by have := betw_short f1 f2 f hf; omega) (by have := betw_len a b; have := (fine_is f1).2.1; have := (fine_is f2).2.1; omega)) hE.most
    rw [betw_right f1 f2] at this
    exact this)
  have HNo := hide (fun (g1 : go none a = true) (g2 : go none b = true) => show ((betw a b).length = 0) = (a = b) from by
    rw [← betw_none g1 g2, List.length_eq_zero_iff])
  have HFi := hide (fun h => (few_is (t := a) h).1)
  have HFj := hide (fun h => (few_is (t := b) h).1)
  have HGa := hide (fun h => (right_go (t := a) h).1)
  have HGb := hide (fun h => (right_go (t := b) h).1)
  have Hfa := hide (show fewB a = true → right a = true → fine a = true from fun h1 h2 => by unfold fine; rw [h1, h2]; rfl)
  have Hfb := hide (show fewB b = true → right b = true → fine b = true from fun h1 h2 => by unfold fine; rw [h1, h2]; rfl)
  obtain ⟨N, hN⟩ : ∃ N, N = a.length := ⟨_, rfl⟩
  obtain ⟨M, hM⟩ : ∃ N, N = b.length := ⟨_, rfl⟩
  obtain ⟨K, hK⟩ : ∃ N, N = (betw a b).length := ⟨_, rfl⟩
  obtain ⟨K', hK'⟩ : ∃ N, N = (betw b a).length := ⟨_, rfl⟩
  rw [← hN] at HFa HRa HFi HBab HBba HPab HPba HSa HSab
  rw [← hM] at HFb HRb HFj HBab HBba HPab HPba HSb HSab
  rw [← hK] at HPab HRp HNo
  rw [← hK'] at HPba
  rw [← hN, ← hM]
  have HK := hide hK
  have HK' := hide hK'
  have HNh := hide hN
  have HMh := hide hM
  generalize betw a b = l at *
  generalize betw b a = l' at *
  generalize fewB a = fb at *
  generalize fewB b = gb at *
  generalize right a = ra at *
  generalize right b = rb at *
  generalize fine a = fa at *
  generalize fine b = fbb at *
  have E_0 := hide (hE)
  have B_0 := hide (Below.refl w.heap.size w)
  have F_0 := hide (hs)
  have G_0 := hide (hs')
  clear hE hs hs' hm hn hm' hn' hN hM hK hK'
  go_enter Tryd.func7, Tryd.ntmps7
  go_wp2_with fail
  refine (pwake_any w E_0.out).mono ?_
  rintro y w1 ⟨rfl, hb1⟩
  have E_1 := hide (E_0.out.keep hb1)
  have B_1 := hide (B_0.out.trans (hb1.mono B_0.out.size))
  have F_1 := hide (F_0.out.keep hb1)
  have G_1 := hide (G_0.out.keep hb1)
  clear hb1 E_0 B_0 F_0 G_0
  go_wp2_with fail
  refine (HFa.out w1 F_1.out).mono ?_
  rintro y w2 ⟨rfl, hb2⟩
  have E_2 := hide (E_1.out.keep hb2)
  have B_2 := hide (B_1.out.trans (hb2.mono B_1.out.size))
  have F_2 := hide (F_1.out.keep hb2)
  have G_2 := hide (G_1.out.keep hb2)
  clear hb2 E_1 B_1 F_1 G_1 HFa
  go_wp2_with fail
  refine (HFb.out w2 G_2.out).mono ?_
  rintro y w3 ⟨rfl, hb3⟩
  have E_3 := hide (E_2.out.keep hb3)
  have B_3 := hide (B_2.out.trans (hb3.mono B_2.out.size))
  have F_3 := hide (F_2.out.keep hb3)
  have G_3 := hide (G_2.out.keep hb3)
  clear hb3 E_2 B_2 F_2 G_2 HFb
  cases fb with
  | false =>
    go_wp2
    go_ret
    exact ⟨rfl, B_3.out⟩
  | true =>
    cases gb with
    | false =>
      go_wp2
      go_ret
      exact ⟨rfl, B_3.out⟩
    | true =>
      have h12 := HFi.out rfl
      have m12 := HFj.out rfl
      go_wp2_with fail
      refine (HRa.out h12 w3 F_3.out).mono ?_
      rintro y w4 ⟨rfl, hb4⟩
      have E_4 := hide (E_3.out.keep hb4)
      have B_4 := hide (B_3.out.trans (hb4.mono B_3.out.size))
      have F_4 := hide (F_3.out.keep hb4)
      have G_4 := hide (G_3.out.keep hb4)
      clear hb4 E_3 B_3 F_3 G_3 HRa
      go_wp2_with fail
      refine (HRb.out m12 w4 G_4.out).mono ?_
      rintro y w5 ⟨rfl, hb5⟩
      have E_5 := hide (E_4.out.keep hb5)
      have B_5 := hide (B_4.out.trans (hb5.mono B_4.out.size))
      have F_5 := hide (F_4.out.keep hb5)
      have G_5 := hide (G_4.out.keep hb5)
      clear hb5 E_4 B_4 F_4 G_4 HRb
      cases ra with
      | false =>
        go_wp2
        go_ret
        exact ⟨rfl, B_5.out⟩
      | true =>
        cases rb with
        | false =>
          go_wp2
          go_ret
          exact ⟨rfl, B_5.out⟩
        | true =>
          have g1 := HGa.out (by trivial)
          have g2 := HGb.out (by trivial)
          have f1 := Hfa.out (by trivial) (by trivial)
          have f2 := Hfb.out (by trivial) (by trivial)
          have Bab := hide (HBab.out g1 g2 h12 m12)
          have Bba := hide (HBba.out g1 g2 h12 m12)
          have Pab := hide (HPab.out g1 g2 h12 m12)
          have Pba := hide (HPba.out g1 g2 h12 m12)
          have Sa := hide (HSa.out h12)
          have Sb := hide (HSb.out m12)
          have Sab := hide (HSab.out h12)
          have Rp := hide (HRp.out f1 f2)
          have No := hide (HNo.out g1 g2)
          clear HGa HGb Hfa Hfb HBab HBba HPab HPba HSa HSb HSab HRp HNo HFi HFj g1 g2 f1 f2 h12 m12
          go_wp2_with fail
          refine (Bab.out w5 F_5.out G_5.out).mono ?_
          rintro y w6 ⟨v6, rfl, hown6, hb6⟩
          obtain ⟨A6, c6, rfl, hf6⟩ := hown6.fls
          rw [← HK.out]
          have E_6 := hide (E_5.out.keep hb6)
          have B_6 := hide (B_5.out.trans (hb6.mono B_5.out.size))
          have F_6 := hide (F_5.out.keep hb6)
          have G_6 := hide (G_5.out.keep hb6)
          have X_6 := hide (hf6)
          clear hb6 E_5 B_5 F_5 G_5 hown6 hf6 Bab
          go_wp2_with fail
          refine (Pab.out w6 A6 c6 F_6.out X_6.out E_6.out).mono ?_
          rintro y w7 ⟨v7, rfl, hown7, hb7⟩
          obtain ⟨A7, c7, rfl, hf7⟩ := hown7.fls
          rw [← HMh.out]
          have E_7 := hide (E_6.out.keep hb7)
          have B_7 := hide (B_6.out.trans (hb7.mono B_6.out.size))
          have F_7 := hide (F_6.out.keep hb7)
          have G_7 := hide (G_6.out.keep hb7)
          have X_7 := hide (X_6.out.keep hb7)
          have Y_7 := hide (hf7)
          clear hb7 E_6 B_6 F_6 G_6 X_6 hown7 hf7 Pab
          go_wp2_with fail
          refine (Sb.out w7 A7 A' c7 c' Y_7.out G_7.out).mono ?_
          rintro y w8 ⟨rfl, hb8⟩
          have E_8 := hide (E_7.out.keep hb8)
          have B_8 := hide (B_7.out.trans (hb8.mono B_7.out.size))
          have F_8 := hide (F_7.out.keep hb8)
          have G_8 := hide (G_7.out.keep hb8)
          have X_8 := hide (X_7.out.keep hb8)
          have Y_8 := hide (Y_7.out.keep hb8)
          clear hb8 E_7 B_7 F_7 G_7 X_7 Y_7 Sb
          go_wp2_with fail
          refine (Rp.out w8 A6 c6 X_8.out E_8.out).mono ?_
          rintro y w9 ⟨rfl, hb9⟩
          have E_9 := hide (E_8.out.keep hb9)
          have B_9 := hide (B_8.out.trans (hb9.mono B_8.out.size))
          have F_9 := hide (F_8.out.keep hb9)
          have G_9 := hide (G_8.out.keep hb9)
          have X_9 := hide (X_8.out.keep hb9)
          have Y_9 := hide (Y_8.out.keep hb9)
          clear hb9 E_8 B_8 F_8 G_8 X_8 Y_8 Rp
          go_wp2_with fail
          refine (Sab.out w9 F_9.out G_9.out).mono ?_
          rintro y w10 ⟨rfl, hb10⟩
          have E_10 := hide (E_9.out.keep hb10)
          have B_10 := hide (B_9.out.trans (hb10.mono B_9.out.size))
          have F_10 := hide (F_9.out.keep hb10)
          have G_10 := hide (G_9.out.keep hb10)
          have X_10 := hide (X_9.out.keep hb10)
          have Y_10 := hide (Y_9.out.keep hb10)
          clear hb10 E_9 B_9 F_9 G_9 X_9 Y_9 Sab
          have z1 : ((K : Int) == 0) = decide (a = b) := by have h := No.out; rw [Bool.eq_iff_iff, beq_iff_eq, decide_eq_true_iff, ← h]; omega
          have z2 : (K == 0) = decide (a = b) := by have h := No.out; rw [Bool.eq_iff_iff, beq_iff_eq, decide_eq_true_iff, ← h]
          have z3 : decide ((K : Int) = 0) = decide (a = b) := by have h := No.out; rw [Bool.eq_iff_iff, decide_eq_true_iff, decide_eq_true_iff, ← h]; omega
          generalize decide (a = b) = eq at *
          go_wp2_with fail
          refine (Bba.out w10 F_10.out G_10.out).mono ?_
          rintro y w11 ⟨v11, rfl, hown11, hb11⟩
          obtain ⟨A11, c11, rfl, hf11⟩ := hown11.fls
          rw [← HK'.out]
          have E_11 := hide (E_10.out.keep hb11)
          have B_11 := hide (B_10.out.trans (hb11.mono B_10.out.size))
          have F_11 := hide (F_10.out.keep hb11)
          have G_11 := hide (G_10.out.keep hb11)
          have X_11 := hide (X_10.out.keep hb11)
          have Y_11 := hide (Y_10.out.keep hb11)
          have Z_11 := hide (hf11)
          clear hb11 E_10 B_10 F_10 G_10 X_10 Y_10 hown11 hf11 Bba
          go_wp2_with fail
          refine (Pba.out w11 A11 c11 G_11.out Z_11.out E_11.out).mono ?_
          rintro y w12 ⟨v12, rfl, hown12, hb12⟩
          obtain ⟨A12, c12, rfl, hf12⟩ := hown12.fls
          rw [← HNh.out]
          have E_12 := hide (E_11.out.keep hb12)
          have B_12 := hide (B_11.out.trans (hb12.mono B_11.out.size))
          have F_12 := hide (F_11.out.keep hb12)
          have G_12 := hide (G_11.out.keep hb12)
          have X_12 := hide (X_11.out.keep hb12)
          have Y_12 := hide (Y_11.out.keep hb12)
          have Z_12 := hide (Z_11.out.keep hb12)
          have V_12 := hide (hf12)
          clear hb12 E_11 B_11 F_11 G_11 X_11 Y_11 Z_11 hown12 hf12 Pba
          go_wp2_with fail
          refine (Sa.out w12 A12 A c12 c V_12.out F_12.out).mono ?_
          rintro y w13 ⟨rfl, hb13⟩
          have E_13 := hide (E_12.out.keep hb13)
          have B_13 := hide (B_12.out.trans (hb13.mono B_12.out.size))
          have F_13 := hide (F_12.out.keep hb13)
          have G_13 := hide (G_12.out.keep hb13)
          have X_13 := hide (X_12.out.keep hb13)
          have Y_13 := hide (Y_12.out.keep hb13)
          have Z_13 := hide (Z_12.out.keep hb13)
          have V_13 := hide (V_12.out.keep hb13)
          clear hb13 E_12 B_12 F_12 G_12 X_12 Y_12 Z_12 V_12 Sa
          go_wp2
          go_ret
          exact ⟨by simp [*], B_13.out⟩
end Go.Proofs.YtabgkfkjnpcbkaaDoor.Tr
