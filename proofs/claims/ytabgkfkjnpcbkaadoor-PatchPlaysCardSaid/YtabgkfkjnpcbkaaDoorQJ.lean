/-
  What trees are with changes, and the changes between any two, is as the document says: the law PatchPlays.
-/
import Derived.BigQuiet
import Derived.Test.YtabgkfkjnpcbkaaDoorQQG
import Derived.Test.YtabgkfkjnpcbkaaDoorQB
import Derived.Test.YtabgkfkjnpcbkaaDoorQE
import Derived.Test.YtabgkfkjnpcbkaaDoorQF
namespace Go.Proofs.YtabgkfkjnpcbkaaDoor.Tr
open Go Go.RowKit Kt Lw Li Lx Df Wr

set_option maxRecDepth 100000 in
set_option maxHeartbeats 8000000 in
theorem lawPlays_any (a b : List Fl) (l : List Ch) (A A' L : Option Addr) (c c' d : Nat) (w : World) (hs : Fls w A c a) (hs' : Fls w A' c' b) (hl : Chs w L d l) (hE : Env w) (hm : ∀ f ∈ a, f.path.length ≤ 9223372036854775807 ∧ f.text.length ≤ 9223372036854775807) (hn : a.length ≤ 9223372036854775807)
    (hm' : ∀ f ∈ b, f.path.length ≤ 9223372036854775807 ∧ f.text.length ≤ 9223372036854775807) (hn' : b.length ≤ 9223372036854775807) (hml : ∀ f ∈ l, f.path.length ≤ 9223372036854775807 ∧ f.text.length ≤ 9223372036854775807) (hnl : l.length ≤ 9223372036854775807) :
    Calls Tryd.prog 5 #[.slice A a.length c, .slice A' b.length c', .slice L l.length d] w fun y w' => y = .returned (.bool true) ∧ Below w.heap.size w w' := by
  have HFa := hide (fun (wz : World) (h : Fls wz A c a) => few_any a A c wz h)
  have HFb := hide (fun (wz : World) (h : Fls wz A' c' b) => few_any b A' c' wz h)
  have HFp := hide (fun (wz : World) (h : Chs wz L d l) => show Calls Tryd.prog 11 #[.agg #[.slice none 0 0, .string ⟨#[]⟩, .string ⟨#[]⟩, .slice L l.length d]] wz _ from pfew_any (only l) none L 0 d _ wz (pin_only h hml hnl).ids h (Nat.zero_le _) (Nat.zero_le _))
  have HRa := hide (fun (hl : a.length ≤ 12) (wz : World) (h : Fls wz A c a) => rright_any a A c wz h (by omega) (fun f hf => (hm f hf).1))
  have HRb := hide (fun (hl : b.length ≤ 12) (wz : World) (h : Fls wz A' c' b) => rright_any b A' c' wz h (by omega) (fun f hf => (hm' f hf).1))
  have HRp := hide (fun (wz : World) (h : Chs wz L d l) => show Calls Tryd.prog 16 #[.agg #[.slice none 0 0, .string ⟨#[]⟩, .string ⟨#[]⟩, .slice L l.length d]] wz _ from rright12_any (only l) none L 0 d wz (pin_only h hml hnl))
  have HP1 := hide (fun (h1 : a.length ≤ 12) (h2 : l.length ≤ 12) (g1 : go none a = true) (g2 : cgo none l = true) (wz : World) (h : Fls wz A c a) (h' : Chs wz L d l) (hE : Env wz) => play_call a l A L c d wz h h' hE.most g1 g2 (by omega))
  have HP2 := hide (fun (h1 : a.length ≤ 12) (h2 : l.length ≤ 12) (g1 : go none a = true) (g2 : cgo none l = true) (wz : World) (h : Fls wz A c a) (h' : Chs wz L d l) => rplay_call a l A L c d wz h h' g1 g2 (by omega))
  have HX := hide (fun (h1 : a.length ≤ 12) (h2 : l.length ≤ 12) (g1 : go none a = true) (g2 : cgo none l = true) => show (play a l).length ≤ 24 from by
    obtain ⟨_, a1, _⟩ := play_any g2 g1 (by omega)
    omega)
  have HS := hide (fun (hn1 : (play a l).length ≤ 24) (wz : World) (B B' : Option Addr) (d d' : Nat) (h1 : Fls wz B d (play a l)) (h2 : Fls wz B' d' (play a l)) => same_any (play a l) (play a l) B B' d d' wz h1 h2 (by omega))
  have HB1 := hide (fun (g1 : go none a = true) (g2 : go none b = true) (hl : a.length ≤ 12) (hl' : b.length ≤ 12) (wz : World) (h : Fls wz A c a) (h' : Fls wz A' c' b) => between_call a b A A' c c' wz h h' g1 g2 (by have := both_len a b; omega))
  have HB2 := hide (fun (g1 : go none a = true) (g2 : go none b = true) (hl : a.length ≤ 12) (hl' : b.length ≤ 12) (wz : World) (h : Fls wz A c a) (h' : Fls wz A' c' b) => rbetween_call a b A A' c c' wz h h' g1 g2 (by omega))
  have HC := hide (fun (hl : a.length ≤ 12) (hl' : b.length ≤ 12) (wz : World) (B B' : Option Addr) (d d' : Nat) (h1 : Chs wz B d (betw a b)) (h2 : Chs wz B' d' (betw a b)) => changes_any (betw a b) (betw a b) B B' d d' wz h1 h2 (by have := betw_len a b; omega))
  have HFi := hide (fun h => (few_is (t := a) h).1)
  have HFj := hide (fun h => (few_is (t := b) h).1)
  have HFk := hide (fun h => (fewP_is (p := only l) h).2.1)
  have HGa := hide (fun h => (right_go (t := a) h).1)
  have HGb := hide (fun h => (right_go (t := b) h).1)
  have HGl := hide (fun h => only_cgo (l := l) h)
  obtain ⟨N, hN⟩ : ∃ N, N = a.length := ⟨_, rfl⟩
  obtain ⟨M, hM⟩ : ∃ N, N = b.length := ⟨_, rfl⟩
  obtain ⟨K, hK⟩ : ∃ N, N = l.length := ⟨_, rfl⟩
  simp only [] at HFk
  rw [← hN] at HFa HRa HP1 HP2 HX HB1 HB2 HC HFi
  rw [← hM] at HFb HRb HB1 HB2 HC HFj
  rw [← hK] at HFp HRp HP1 HP2 HX HFk
  rw [← hN, ← hM, ← hK]
  generalize play a l = X at *
  generalize betw a b = Y at *
  generalize fewB a = fa at *
  generalize fewB b = fb at *
  generalize fewP (only l) = fl at *
  generalize right a = ra at *
  generalize right b = rb at *
  generalize pright (only l) = rl at *
  have E_0 := hide (hE)
  have B_0 := hide (Below.refl w.heap.size w)
  have F_0 := hide (hs)
  have G_0 := hide (hs')
  have L_0 := hide (hl)
  clear hE hs hs' hl hm hn hm' hn' hml hnl hN hM hK
  go_enter Tryd.func5, Tryd.ntmps5
  go_wp2_with fail
  refine (pwake_any w E_0.out).mono ?_
  rintro y w1 ⟨rfl, hb1⟩
  have E_1 := hide (E_0.out.keep hb1)
  have B_1 := hide (B_0.out.trans (hb1.mono B_0.out.size))
  have F_1 := hide (F_0.out.keep hb1)
  have G_1 := hide (G_0.out.keep hb1)
  have L_1 := hide (L_0.out.keep hb1)
  clear hb1 E_0 B_0 F_0 G_0 L_0
  go_wp2_with fail
  refine (HFa.out w1 F_1.out).mono ?_
  rintro y w2 ⟨rfl, hb2⟩
  have E_2 := hide (E_1.out.keep hb2)
  have B_2 := hide (B_1.out.trans (hb2.mono B_1.out.size))
  have F_2 := hide (F_1.out.keep hb2)
  have G_2 := hide (G_1.out.keep hb2)
  have L_2 := hide (L_1.out.keep hb2)
  clear hb2 E_1 B_1 F_1 G_1 L_1 HFa
  go_wp2_with fail
  refine (HFb.out w2 G_2.out).mono ?_
  rintro y w3 ⟨rfl, hb3⟩
  have E_3 := hide (E_2.out.keep hb3)
  have B_3 := hide (B_2.out.trans (hb3.mono B_2.out.size))
  have F_3 := hide (F_2.out.keep hb3)
  have G_3 := hide (G_2.out.keep hb3)
  have L_3 := hide (L_2.out.keep hb3)
  clear hb3 E_2 B_2 F_2 G_2 L_2 HFb
  go_wp2_with fail
  refine (HFp.out w3 L_3.out).mono ?_
  rintro y w4 ⟨rfl, hb4⟩
  have E_4 := hide (E_3.out.keep hb4)
  have B_4 := hide (B_3.out.trans (hb4.mono B_3.out.size))
  have F_4 := hide (F_3.out.keep hb4)
  have G_4 := hide (G_3.out.keep hb4)
  have L_4 := hide (L_3.out.keep hb4)
  clear hb4 E_3 B_3 F_3 G_3 L_3 HFp
  cases fa with
  | false =>
    go_wp2
    go_ret
    exact ⟨rfl, B_4.out⟩
  | true =>
    cases fb with
    | false =>
      go_wp2
      go_ret
      exact ⟨rfl, B_4.out⟩
    | true =>
      cases fl with
      | false =>
        go_wp2
        go_ret
        exact ⟨rfl, B_4.out⟩
      | true =>
        have h12 := HFi.out rfl
        have m12 := HFj.out rfl
        have k12 := HFk.out rfl
        go_wp2_with fail
        refine (HRa.out h12 w4 F_4.out).mono ?_
        rintro y w5 ⟨rfl, hb5⟩
        have E_5 := hide (E_4.out.keep hb5)
        have B_5 := hide (B_4.out.trans (hb5.mono B_4.out.size))
        have F_5 := hide (F_4.out.keep hb5)
        have G_5 := hide (G_4.out.keep hb5)
        have L_5 := hide (L_4.out.keep hb5)
        clear hb5 E_4 B_4 F_4 G_4 L_4 HRa
        go_wp2_with fail
        refine (HRb.out m12 w5 G_5.out).mono ?_
        rintro y w6 ⟨rfl, hb6⟩
        have E_6 := hide (E_5.out.keep hb6)
        have B_6 := hide (B_5.out.trans (hb6.mono B_5.out.size))
        have F_6 := hide (F_5.out.keep hb6)
        have G_6 := hide (G_5.out.keep hb6)
        have L_6 := hide (L_5.out.keep hb6)
        clear hb6 E_5 B_5 F_5 G_5 L_5 HRb
        go_wp2_with fail
        refine (HRp.out w6 L_6.out).mono ?_
        rintro y w7 ⟨rfl, hb7⟩
        have E_7 := hide (E_6.out.keep hb7)
        have B_7 := hide (B_6.out.trans (hb7.mono B_6.out.size))
        have F_7 := hide (F_6.out.keep hb7)
        have G_7 := hide (G_6.out.keep hb7)
        have L_7 := hide (L_6.out.keep hb7)
        clear hb7 E_6 B_6 F_6 G_6 L_6 HRp
        cases ra with
        | false =>
          go_wp2
          go_ret
          exact ⟨rfl, B_7.out⟩
        | true =>
          cases rb with
          | false =>
            go_wp2
            go_ret
            exact ⟨rfl, B_7.out⟩
          | true =>
            cases rl with
            | false =>
              go_wp2
              go_ret
              exact ⟨rfl, B_7.out⟩
            | true =>
              have g1 := HGa.out (by trivial)
              have g2 := HGb.out (by trivial)
              have g3 := HGl.out (by trivial)
              have P1 := hide (HP1.out h12 k12 g1 g3)
              have P2 := hide (HP2.out h12 k12 g1 g3)
              have S1 := hide (HS.out (HX.out h12 k12 g1 g3))
              have B1 := hide (HB1.out g1 g2 h12 m12)
              have B2 := hide (HB2.out g1 g2 h12 m12)
              have C1 := hide (HC.out h12 m12)
              clear HGa HGb HGl HP1 HP2 HS HX HB1 HB2 HC HFi HFj HFk g1 g2 g3 h12 m12 k12
              go_wp2_with fail
              refine (P1.out w7 F_7.out L_7.out E_7.out).mono ?_
              rintro y w8 ⟨v8, rfl, hown8, hb8⟩
              obtain ⟨A8, c8, rfl, hf8⟩ := hown8.fls
              have E_8 := hide (E_7.out.keep hb8)
              have B_8 := hide (B_7.out.trans (hb8.mono B_7.out.size))
              have F_8 := hide (F_7.out.keep hb8)
              have G_8 := hide (G_7.out.keep hb8)
              have L_8 := hide (L_7.out.keep hb8)
              have X_8 := hide (hf8)
              clear hb8 E_7 B_7 F_7 G_7 L_7 hown8 hf8 P1
              go_wp2_with fail
              refine (P2.out w8 F_8.out L_8.out).mono ?_
              rintro y w9 ⟨v9, rfl, hown9, hb9⟩
              obtain ⟨A9, c9, rfl, hf9⟩ := hown9.fls
              have E_9 := hide (E_8.out.keep hb9)
              have B_9 := hide (B_8.out.trans (hb9.mono B_8.out.size))
              have F_9 := hide (F_8.out.keep hb9)
              have G_9 := hide (G_8.out.keep hb9)
              have L_9 := hide (L_8.out.keep hb9)
              have X_9 := hide (X_8.out.keep hb9)
              have Y_9 := hide (hf9)
              clear hb9 E_8 B_8 F_8 G_8 L_8 X_8 hown9 hf9 P2
              go_wp2_with fail
              refine (S1.out w9 A8 A9 c8 c9 X_9.out Y_9.out).mono ?_
              rintro y w10 ⟨rfl, hb10⟩
              have E_10 := hide (E_9.out.keep hb10)
              have B_10 := hide (B_9.out.trans (hb10.mono B_9.out.size))
              have F_10 := hide (F_9.out.keep hb10)
              have G_10 := hide (G_9.out.keep hb10)
              have L_10 := hide (L_9.out.keep hb10)
              have X_10 := hide (X_9.out.keep hb10)
              have Y_10 := hide (Y_9.out.keep hb10)
              clear hb10 E_9 B_9 F_9 G_9 L_9 X_9 Y_9 S1
              go_wp2_with fail
              refine (B1.out w10 F_10.out G_10.out).mono ?_
              rintro y w11 ⟨v11, rfl, hown11, hb11⟩
              obtain ⟨A11, c11, rfl, hf11⟩ := hown11.fls
              have E_11 := hide (E_10.out.keep hb11)
              have B_11 := hide (B_10.out.trans (hb11.mono B_10.out.size))
              have F_11 := hide (F_10.out.keep hb11)
              have G_11 := hide (G_10.out.keep hb11)
              have L_11 := hide (L_10.out.keep hb11)
              have X_11 := hide (X_10.out.keep hb11)
              have Y_11 := hide (Y_10.out.keep hb11)
              have Z_11 := hide (hf11)
              clear hb11 E_10 B_10 F_10 G_10 L_10 X_10 Y_10 hown11 hf11 B1
              go_wp2_with fail
              refine (B2.out w11 F_11.out G_11.out).mono ?_
              rintro y w12 ⟨v12, rfl, hown12, hb12⟩
              obtain ⟨A12, c12, rfl, hf12⟩ := hown12.fls
              have E_12 := hide (E_11.out.keep hb12)
              have B_12 := hide (B_11.out.trans (hb12.mono B_11.out.size))
              have F_12 := hide (F_11.out.keep hb12)
              have G_12 := hide (G_11.out.keep hb12)
              have L_12 := hide (L_11.out.keep hb12)
              have X_12 := hide (X_11.out.keep hb12)
              have Y_12 := hide (Y_11.out.keep hb12)
              have Z_12 := hide (Z_11.out.keep hb12)
              have V_12 := hide (hf12)
              clear hb12 E_11 B_11 F_11 G_11 L_11 X_11 Y_11 Z_11 hown12 hf12 B2
              go_wp2_with fail
              refine (C1.out w12 A11 A12 c11 c12 Z_12.out V_12.out).mono ?_
              rintro y w13 ⟨rfl, hb13⟩
              have E_13 := hide (E_12.out.keep hb13)
              have B_13 := hide (B_12.out.trans (hb13.mono B_12.out.size))
              have F_13 := hide (F_12.out.keep hb13)
              have G_13 := hide (G_12.out.keep hb13)
              have L_13 := hide (L_12.out.keep hb13)
              have X_13 := hide (X_12.out.keep hb13)
              have Y_13 := hide (Y_12.out.keep hb13)
              have Z_13 := hide (Z_12.out.keep hb13)
              have V_13 := hide (V_12.out.keep hb13)
              clear hb13 E_12 B_12 F_12 G_12 L_12 X_12 Y_12 Z_12 V_12 C1
              go_wp2
              go_ret
              exact ⟨by simp, B_13.out⟩
end Go.Proofs.YtabgkfkjnpcbkaaDoor.Tr
