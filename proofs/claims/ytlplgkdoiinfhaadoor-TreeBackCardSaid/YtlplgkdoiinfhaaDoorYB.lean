/-
  Each right tree has one form, and each form is one tree's: the law TreeBack.
-/
import Derived.BigQuiet
import Derived.Test.YtlplgkdoiinfhaaDoorYA
import Derived.Test.YtlplgkdoiinfhaaDoorQ6
namespace Go.Proofs.YtlplgkdoiinfhaaDoor.Tr
open Go Go.RowKit Kt Lw Li Lx Df Wr

set_option maxRecDepth 100000 in
set_option maxHeartbeats 8000000 in
theorem lawBack_any (t : List Fl) (b : Bs) (A A' : Option Addr) (c c' : Nat) (Pb : Nat → Prop) (w : World) (hs : Fls w A c t) (hb : Sl w Pb A' c' b) (hE : Env w) (hm : ∀ f ∈ t, f.path.length ≤ 9223372036854775807 ∧ f.text.length ≤ 9223372036854775807) (hn : t.length ≤ 9223372036854775807) (hbn : b.length ≤ 9223372036854775807) :
    Calls Tryd.prog 7 #[.slice A t.length c, .slice A' b.length c'] w fun y w' => y = .returned (.bool true) ∧ Below w.heap.size w w' := by
  have Hs := hide hs
  have Hsb := hide (hb.imp (Q := fun _ => True) fun _ _ _ => trivial)
  have HE := hide hE
  have HFew := hide (fun (wz : World) (h : Fls wz A c t) => few_any t A c wz h)
  have HEn := hide (fun (wz : World) (h : Fls wz A c t) (hE : Env wz) => tencode_any t A c wz h hE.most (fun f hf => (hm f hf).1) hn)
  have HRt := hide (fun (wz : World) (h : Fls wz A c t) (hE : Env wz) => tright_any t A c wz h hE.most (fun f hf => (hm f hf).1) hn)
  have HDb := hide (fun (hl : b.length ≤ 600) (wz : World) (h : Sl wz (fun _ => True) A' c' b) (hE : Env wz) => tdecode_any b A' c' _ wz h hE.most (by omega))
  have HSm := hide (fun (hl : t.length ≤ 12) (wz : World) A1 c1 (h1 : Fls wz A1 c1 t) (h : Fls wz A c t) => same_any t t A1 A c1 c wz h1 h (by omega))
  obtain ⟨N, hN⟩ : ∃ N, N = t.length := ⟨_, rfl⟩
  obtain ⟨M, hM⟩ : ∃ M, M = b.length := ⟨_, rfl⟩
  rw [← hN] at HFew HEn HRt HSm ⊢
  rw [← hM] at HDb hbn ⊢
  have HM := hide hM
  have HN := hide hN
  clear hs hb hE hm hn hN hM
  go_enter Tryd.func7, Tryd.ntmps7
  have E_0 := hide (HE.out)
  have B_0 := hide (Below.refl w.heap.size w)
  have F_0 := hide (Hs.out)
  have S_0 := hide (Hsb.out)
  clear Hs Hsb HE
  go_wp2_with fail
  refine (wake_any w E_0.out).mono ?_
  rintro y w1 ⟨rfl, hb1⟩
  have E_1 := hide (E_0.out.keep hb1)
  have B_1 := hide (B_0.out.trans (hb1.mono B_0.out.size))
  have F_1 := hide (F_0.out.keep hb1)
  have S_1 := hide (S_0.out.move (w' := w1) fun b _ hlt => hb1.block b hlt)
  clear hb1 E_0 B_0 F_0 S_0
  go_wp2_with fail
  refine (HFew.out w1 F_1.out).mono ?_
  rintro y w2 ⟨rfl, hb2⟩
  have E_2 := hide (E_1.out.keep hb2)
  have B_2 := hide (B_1.out.trans (hb2.mono B_1.out.size))
  have F_2 := hide (F_1.out.keep hb2)
  have S_2 := hide (S_1.out.move (w' := w2) fun b _ hlt => hb2.block b hlt)
  clear hb2 E_1 B_1 F_1 S_1 HFew
  cases hf : fewB t with
  | false =>
    clear hf
    go_wp2
    go_ret
    exact ⟨rfl, B_2.out⟩
  | true =>
    obtain ⟨hf1, hf2⟩ := few_is hf
    clear hf
    by_cases hlong : 600 < M
    · have d1 : decide (600 < (M : Int)) = true := decide_eq_true (by omega)
      have d2 : decide (600 < M) = true := decide_eq_true hlong
      clear hlong hf1 hf2
      go_wp2
      go_ret
      exact ⟨rfl, B_2.out⟩
    · have d1 : decide (600 < (M : Int)) = false := decide_eq_false (by omega)
      have d2 : decide (600 < M) = false := decide_eq_false hlong
      have HL := hide (show M ≤ 600 by omega)
      have HD := hide (HDb.out (by omega))
      have HS2 := hide (HSm.out (by have := HN.out; omega))
      clear HDb HSm hf1 hf2 hlong hbn
      cases hr : right t with
      | true =>
        rw [show encode t = (enc t, 0) by unfold encode; rw [if_pos hr]] at HEn
        rw [hr] at HRt
        have HDe := hide (show ∀ (wz : World) A1 c1, Sl wz (fun _ => True) A1 c1 (enc t) → Env wz → _ from fun wz A1 c1 h hE => by
          have hl : (enc t).length ≤ 70368744177664 := by
            have h1 := enc_le (right_short hr)
            have h2 := (right_go hr).2
            have h3 := form_ten (n := t.length) (by omega)
            unfold enc
            rw [List.length_append]
            have := Nat.mul_le_mul_right 65756 h2
            omega
          have := tdecode_any (enc t) A1 c1 _ wz h hE.most hl
          rw [decode_enc hr] at this
          exact this)
        clear hr
        go_wp2_with fail
        refine (HEn.out w2 F_2.out E_2.out).mono ?_
        rintro y w3 ⟨v3, rfl, hown3, hb3⟩
        obtain ⟨A3, c3, rfl, hs3⟩ := hown3.sl
        have E_3 := hide (E_2.out.keep hb3)
        have B_3 := hide (B_2.out.trans (hb3.mono B_2.out.size))
        have F_3 := hide (F_2.out.keep hb3)
        have S_3 := hide (S_2.out.move (w' := w3) fun b _ hlt => hb3.block b hlt)
        have X_3 := hide (hs3.imp (Q := fun _ => True) fun _ _ _ => trivial)
        clear hb3 E_2 B_2 F_2 S_2 hown3 hs3 HEn
        obtain ⟨n3, hn3⟩ : ∃ n3, n3 = (enc t).length := ⟨_, rfl⟩
        rw [← hn3] at HDe ⊢
        clear hn3
        go_wp2_with fail
        refine (HDe.out w3 A3 c3 X_3.out E_3.out).mono ?_
        rintro y w4 ⟨v4, rfl, hown4, hb4⟩
        obtain ⟨A4, c4, rfl, hs4⟩ := hown4.fls
        obtain ⟨n4, hn4⟩ : ∃ n4, n4 = t.length := ⟨_, rfl⟩
        simp only at hs4 ⊢
        rw [← HN.out] at *
        have E_4 := hide (E_3.out.keep hb4)
        have B_4 := hide (B_3.out.trans (hb4.mono B_3.out.size))
        have F_4 := hide (F_3.out.keep hb4)
        have S_4 := hide (S_3.out.move (w' := w4) fun b _ hlt => hb4.block b hlt)
        have Y_4 := hide (hs4)
        clear hb4 E_3 B_3 F_3 S_3 X_3 hown4 hs4 HDe hn4
        go_wp2_with fail
        refine (HS2.out w4 A4 c4 Y_4.out F_4.out).mono ?_
        rintro y w5 ⟨rfl, hb5⟩
        have E_5 := hide (E_4.out.keep hb5)
        have B_5 := hide (B_4.out.trans (hb5.mono B_4.out.size))
        have F_5 := hide (F_4.out.keep hb5)
        have S_5 := hide (S_4.out.move (w' := w5) fun b _ hlt => hb5.block b hlt)
        clear hb5 E_4 B_4 F_4 S_4 Y_4 HS2
        obtain ⟨y, f, hd⟩ : ∃ y f, decode b = (y, f) := ⟨_, _, rfl⟩
        by_cases hf : f = 0
        · subst hf
          obtain ⟨hen, hry⟩ := enc_decode hd
          rw [hd] at HD
          have HE2 := hide (show ∀ (wz : World) A1 c1, Fls wz A1 c1 y → Env wz → _ from fun wz A1 c1 h hE => by
            have := tencode_any y A1 c1 wz h hE.most (fun f hf => by have := (right_short hry f hf).1; omega) (by have := (right_go hry).2; omega)
            rw [hen] at this
            exact this)
          have HBy := hide (fun (wz : World) A1 c1 (h1 : Sl wz (fun _ => True) A1 c1 b) (h2 : Sl wz (fun _ => True) A' c' b) => bytes_any b b A1 A' c1 c' _ _ wz h1 h2 (by have := HM.out; have := HL.out; omega))
          clear hd hen hry
          go_wp2_with fail
          refine (HD.out w5 S_5.out E_5.out).mono ?_
          rintro y w6 ⟨v6, rfl, hown6, hb6⟩
          obtain ⟨A6, c6, rfl, hs6⟩ := hown6.fls
          have E_6 := hide (E_5.out.keep hb6)
          have B_6 := hide (B_5.out.trans (hb6.mono B_5.out.size))
          have F_6 := hide (F_5.out.keep hb6)
          have S_6 := hide (S_5.out.move (w' := w6) fun b _ hlt => hb6.block b hlt)
          have Y_6 := hide (hs6)
          clear hb6 E_5 B_5 F_5 S_5 hown6 hs6 HD
          go_wp2_with fail
          refine (HE2.out w6 A6 c6 Y_6.out E_6.out).mono ?_
          rintro y w7 ⟨v7, rfl, hown7, hb7⟩
          obtain ⟨A7, c7, rfl, hs7⟩ := hown7.sl
          have E_7 := hide (E_6.out.keep hb7)
          have B_7 := hide (B_6.out.trans (hb7.mono B_6.out.size))
          have F_7 := hide (F_6.out.keep hb7)
          have S_7 := hide (S_6.out.move (w' := w7) fun b _ hlt => hb7.block b hlt)
          have Z_7 := hide (hs7.imp (Q := fun _ => True) fun _ _ _ => trivial)
          clear hb7 E_6 B_6 F_6 S_6 Y_6 hown7 hs7 HE2
          go_wp2_with fail
          refine (HRt.out w7 F_7.out E_7.out).mono ?_
          rintro y w8 ⟨rfl, hb8⟩
          have E_8 := hide (E_7.out.keep hb8)
          have B_8 := hide (B_7.out.trans (hb8.mono B_7.out.size))
          have F_8 := hide (F_7.out.keep hb8)
          have S_8 := hide (S_7.out.move (w' := w8) fun b _ hlt => hb8.block b hlt)
          have Z_8 := hide (Z_7.out.move (w' := w8) fun b _ hlt => hb8.block b hlt)
          clear hb8 E_7 B_7 F_7 S_7 Z_7 HRt
          rw [← HM.out] at HBy ⊢
          go_wp2_with fail
          refine (HBy.out w8 A7 c7 Z_8.out S_8.out).mono ?_
          rintro y w9 ⟨rfl, hb9⟩
          have E_9 := hide (E_8.out.keep hb9)
          have B_9 := hide (B_8.out.trans (hb9.mono B_8.out.size))
          have F_9 := hide (F_8.out.keep hb9)
          have S_9 := hide (S_8.out.move (w' := w9) fun b _ hlt => hb9.block b hlt)
          have Z_9 := hide (Z_8.out.move (w' := w9) fun b _ hlt => hb9.block b hlt)
          clear hb9 E_8 B_8 F_8 S_8 Z_8 HBy
          go_wp2
          go_ret
          exact ⟨by simp, B_9.out⟩
        · have hy : y = [] := by have := decode_none (b := b) (by rw [hd]; exact hf); rw [hd] at this; exact this
          subst hy
          rw [hd] at HD
          have hfe : ((f : Int) == 0) = false := by rw [beq_eq_false_iff_ne]; omega
          have hfn : ((f : Int) != 0) = true := by rw [bne_iff_ne]; omega
          have HE2 := hide (show ∀ (wz : World) A1 c1, Fls wz A1 c1 [] → Env wz → _ from fun wz A1 c1 h hE => by
            have := tencode_any [] A1 c1 wz h hE.most (fun f hf => by cases hf) (by decide)
            rw [show encode [] = (enc [], 0) from rfl] at this
            exact this)
          clear hd hf
          go_wp2_with fail
          refine (HD.out w5 S_5.out E_5.out).mono ?_
          rintro y w6 ⟨v6, rfl, hown6, hb6⟩
          obtain ⟨A6, c6, rfl, hs6⟩ := hown6.fls
          have E_6 := hide (E_5.out.keep hb6)
          have B_6 := hide (B_5.out.trans (hb6.mono B_5.out.size))
          have F_6 := hide (F_5.out.keep hb6)
          have S_6 := hide (S_5.out.move (w' := w6) fun b _ hlt => hb6.block b hlt)
          have Y_6 := hide (hs6)
          clear hb6 E_5 B_5 F_5 S_5 hown6 hs6 HD
          go_wp2_with fail
          refine (HE2.out w6 A6 c6 Y_6.out E_6.out).mono ?_
          rintro y w7 ⟨v7, rfl, hown7, hb7⟩
          obtain ⟨A7, c7, rfl, hs7⟩ := hown7.sl
          have E_7 := hide (E_6.out.keep hb7)
          have B_7 := hide (B_6.out.trans (hb7.mono B_6.out.size))
          have F_7 := hide (F_6.out.keep hb7)
          have S_7 := hide (S_6.out.move (w' := w7) fun b _ hlt => hb7.block b hlt)
          have Z_7 := hide (hs7.imp (Q := fun _ => True) fun _ _ _ => trivial)
          clear hb7 E_6 B_6 F_6 S_6 Y_6 hown7 hs7 HE2
          go_wp2_with fail
          refine (HRt.out w7 F_7.out E_7.out).mono ?_
          rintro y w8 ⟨rfl, hb8⟩
          have E_8 := hide (E_7.out.keep hb8)
          have B_8 := hide (B_7.out.trans (hb8.mono B_7.out.size))
          have F_8 := hide (F_7.out.keep hb8)
          have S_8 := hide (S_7.out.move (w' := w8) fun b _ hlt => hb8.block b hlt)
          have Z_8 := hide (Z_7.out.move (w' := w8) fun b _ hlt => hb8.block b hlt)
          clear hb8 E_7 B_7 F_7 S_7 Z_7 HRt
          go_wp2
          go_ret
          exact ⟨by simp, B_8.out⟩
      | false =>
        rw [show encode t = ([], 1) by unfold encode; rw [if_neg (by rw [hr]; decide)]] at HEn
        rw [hr] at HRt
        clear hr
        go_wp2_with fail
        refine (HEn.out w2 F_2.out E_2.out).mono ?_
        rintro y w3 ⟨v3, rfl, hown3, hb3⟩
        obtain ⟨A3, c3, rfl, hs3⟩ := hown3.sl
        have E_3 := hide (E_2.out.keep hb3)
        have B_3 := hide (B_2.out.trans (hb3.mono B_2.out.size))
        have F_3 := hide (F_2.out.keep hb3)
        have S_3 := hide (S_2.out.move (w' := w3) fun b _ hlt => hb3.block b hlt)
        clear hb3 E_2 B_2 F_2 S_2 hown3 hs3 HEn
        obtain ⟨y, f, hd⟩ : ∃ y f, decode b = (y, f) := ⟨_, _, rfl⟩
        by_cases hf : f = 0
        · subst hf
          obtain ⟨hen, hry⟩ := enc_decode hd
          rw [hd] at HD
          have HE2 := hide (show ∀ (wz : World) A1 c1, Fls wz A1 c1 y → Env wz → _ from fun wz A1 c1 h hE => by
            have := tencode_any y A1 c1 wz h hE.most (fun f hf => by have := (right_short hry f hf).1; omega) (by have := (right_go hry).2; omega)
            rw [hen] at this
            exact this)
          have HBy := hide (fun (wz : World) A1 c1 (h1 : Sl wz (fun _ => True) A1 c1 b) (h2 : Sl wz (fun _ => True) A' c' b) => bytes_any b b A1 A' c1 c' _ _ wz h1 h2 (by have := HM.out; have := HL.out; omega))
          clear hd hen hry
          go_wp2_with fail
          refine (HD.out w3 S_3.out E_3.out).mono ?_
          rintro y w4 ⟨v6, rfl, hown6, hb4⟩
          obtain ⟨A6, c6, rfl, hs6⟩ := hown6.fls
          have E_4 := hide (E_3.out.keep hb4)
          have B_4 := hide (B_3.out.trans (hb4.mono B_3.out.size))
          have F_4 := hide (F_3.out.keep hb4)
          have S_4 := hide (S_3.out.move (w' := w4) fun b _ hlt => hb4.block b hlt)
          have Y_4 := hide (hs6)
          clear hb4 E_3 B_3 F_3 S_3 hown6 hs6 HD
          go_wp2_with fail
          refine (HE2.out w4 A6 c6 Y_4.out E_4.out).mono ?_
          rintro y w5 ⟨v7, rfl, hown7, hb5⟩
          obtain ⟨A7, c7, rfl, hs7⟩ := hown7.sl
          have E_5 := hide (E_4.out.keep hb5)
          have B_5 := hide (B_4.out.trans (hb5.mono B_4.out.size))
          have F_5 := hide (F_4.out.keep hb5)
          have S_5 := hide (S_4.out.move (w' := w5) fun b _ hlt => hb5.block b hlt)
          have Z_5 := hide (hs7.imp (Q := fun _ => True) fun _ _ _ => trivial)
          clear hb5 E_4 B_4 F_4 S_4 Y_4 hown7 hs7 HE2
          go_wp2_with fail
          refine (HRt.out w5 F_5.out E_5.out).mono ?_
          rintro y w6 ⟨rfl, hb6⟩
          have E_6 := hide (E_5.out.keep hb6)
          have B_6 := hide (B_5.out.trans (hb6.mono B_5.out.size))
          have F_6 := hide (F_5.out.keep hb6)
          have S_6 := hide (S_5.out.move (w' := w6) fun b _ hlt => hb6.block b hlt)
          have Z_6 := hide (Z_5.out.move (w' := w6) fun b _ hlt => hb6.block b hlt)
          clear hb6 E_5 B_5 F_5 S_5 Z_5 HRt
          rw [← HM.out] at HBy ⊢
          go_wp2_with fail
          refine (HBy.out w6 A7 c7 Z_6.out S_6.out).mono ?_
          rintro y w7 ⟨rfl, hb7⟩
          have E_7 := hide (E_6.out.keep hb7)
          have B_7 := hide (B_6.out.trans (hb7.mono B_6.out.size))
          have F_7 := hide (F_6.out.keep hb7)
          have S_7 := hide (S_6.out.move (w' := w7) fun b _ hlt => hb7.block b hlt)
          have Z_7 := hide (Z_6.out.move (w' := w7) fun b _ hlt => hb7.block b hlt)
          clear hb7 E_6 B_6 F_6 S_6 Z_6 HBy
          go_wp2
          go_ret
          exact ⟨by simp, B_7.out⟩
        · have hy : y = [] := by have := decode_none (b := b) (by rw [hd]; exact hf); rw [hd] at this; exact this
          subst hy
          rw [hd] at HD
          have hfe : ((f : Int) == 0) = false := by rw [beq_eq_false_iff_ne]; omega
          have hfn : ((f : Int) != 0) = true := by rw [bne_iff_ne]; omega
          have HE2 := hide (show ∀ (wz : World) A1 c1, Fls wz A1 c1 [] → Env wz → _ from fun wz A1 c1 h hE => by
            have := tencode_any [] A1 c1 wz h hE.most (fun f hf => by cases hf) (by decide)
            rw [show encode [] = (enc [], 0) from rfl] at this
            exact this)
          clear hd hf
          go_wp2_with fail
          refine (HD.out w3 S_3.out E_3.out).mono ?_
          rintro y w4 ⟨v6, rfl, hown6, hb4⟩
          obtain ⟨A6, c6, rfl, hs6⟩ := hown6.fls
          have E_4 := hide (E_3.out.keep hb4)
          have B_4 := hide (B_3.out.trans (hb4.mono B_3.out.size))
          have F_4 := hide (F_3.out.keep hb4)
          have S_4 := hide (S_3.out.move (w' := w4) fun b _ hlt => hb4.block b hlt)
          have Y_4 := hide (hs6)
          clear hb4 E_3 B_3 F_3 S_3 hown6 hs6 HD
          go_wp2_with fail
          refine (HE2.out w4 A6 c6 Y_4.out E_4.out).mono ?_
          rintro y w5 ⟨v7, rfl, hown7, hb5⟩
          obtain ⟨A7, c7, rfl, hs7⟩ := hown7.sl
          have E_5 := hide (E_4.out.keep hb5)
          have B_5 := hide (B_4.out.trans (hb5.mono B_4.out.size))
          have F_5 := hide (F_4.out.keep hb5)
          have S_5 := hide (S_4.out.move (w' := w5) fun b _ hlt => hb5.block b hlt)
          have Z_5 := hide (hs7.imp (Q := fun _ => True) fun _ _ _ => trivial)
          clear hb5 E_4 B_4 F_4 S_4 Y_4 hown7 hs7 HE2
          go_wp2_with fail
          refine (HRt.out w5 F_5.out E_5.out).mono ?_
          rintro y w6 ⟨rfl, hb6⟩
          have E_6 := hide (E_5.out.keep hb6)
          have B_6 := hide (B_5.out.trans (hb6.mono B_5.out.size))
          have F_6 := hide (F_5.out.keep hb6)
          have S_6 := hide (S_5.out.move (w' := w6) fun b _ hlt => hb6.block b hlt)
          have Z_6 := hide (Z_5.out.move (w' := w6) fun b _ hlt => hb6.block b hlt)
          clear hb6 E_5 B_5 F_5 S_5 Z_5 HRt
          go_wp2
          go_ret
          exact ⟨by simp, B_6.out⟩
end Go.Proofs.YtlplgkdoiinfhaaDoor.Tr
