/-
  What any right tree has at any path, and is with any file, and without one: the law TreeTurns.
-/
import Derived.BigQuiet
import Derived.Test.YtlplgkdoiinfhaaDoorYA
import Derived.Test.YtlplgkdoiinfhaaDoorTI
import Derived.Test.YtlplgkdoiinfhaaDoorQ6
namespace Go.Proofs.YtlplgkdoiinfhaaDoor.Tr
open Go Go.RowKit Kt Lw Li Lx Df Wr

theorem put_short (t : List Fl) (f : Fl) : (put t f).1.length ≤ t.length + 1 := by
  unfold put
  split
  · simp
  · split
    · simp
    · exact put_len t f
set_option maxRecDepth 100000 in
set_option maxHeartbeats 8000000 in
theorem lawTurns_any (t : List Fl) (f : Fl) (q : Bs) (A : Option Addr) (c : Nat) (w : World) (hs : Fls w A c t) (hE : Env w) (hm : ∀ f ∈ t, f.path.length ≤ 9223372036854775807 ∧ f.text.length ≤ 9223372036854775807) (hn : t.length ≤ 9223372036854775807) (hp : f.path.length ≤ 9223372036854775807) (hx : f.text.length ≤ 9223372036854775807) (hq : q.length ≤ 9223372036854775807) :
    Calls Tryd.prog 5 #[.slice A t.length c, .agg #[.string ⟨f.path.toArray⟩, .string ⟨f.text.toArray⟩], .string ⟨q.toArray⟩] w fun y w' => y = .returned (.bool true) ∧ Below w.heap.size w w' := by
  obtain ⟨p, x⟩ := f
  simp only at hp hx
  have hrow := Row.fresh w tF #[.string ⟨p.toArray⟩, .string ⟨x.toArray⟩]
  have hb1 := (Below.refl w.heap.size w).alloc (Nat.le_refl _) (.cells #[.string ⟨p.toArray⟩, .string ⟨x.toArray⟩] tF)
  obtain ⟨w1, hw1⟩ : ∃ w1, w1 = w.alloc (.cells #[.string ⟨p.toArray⟩, .string ⟨x.toArray⟩] tF) := ⟨_, rfl⟩
  obtain ⟨g, hgw⟩ : ∃ g, g = w.heap.size := ⟨_, rfl⟩
  rw [← hw1] at hrow hb1
  rw [← hgw] at hrow
  have c0 : w1.cell? ⟨g, 0, none⟩ = some (.string ⟨p.toArray⟩) := hrow.cell 0
  have c1 : w1.cell? ⟨g, 1, none⟩ = some (.string ⟨x.toArray⟩) := hrow.cell 1
  have HFew := hide (fun (wz : World) (h : Fls wz A c t) => few_any t A c wz h)
  have HRr := hide (fun (hl : t.length ≤ 12) (wz : World) (h : Fls wz A c t) => rright_any t A c wz h (by omega) (fun f hf => (hm f hf).1))
  have HG1 := hide (fun (hl : t.length ≤ 12) (hg : right t = true) (wz : World) (h : Fls wz A c t) => tget_any t q A c wz h (by omega) (right_go hg).1)
  have HG2 := hide (fun (hl : t.length ≤ 12) (wz : World) (h : Fls wz A c t) => rget_any t q A c wz h (by omega))
  have HP1 := hide (fun (hl : t.length ≤ 12) (hg : right t = true) (wz : World) (h : Fls wz A c t) (hE : Env wz) => tput_any t ⟨p, x⟩ A c wz h hE.most (by omega) hp (right_go hg).1)
  have HP2 := hide (fun (hl : t.length ≤ 12) (hg : right t = true) (wz : World) (h : Fls wz A c t) => rput_any t ⟨p, x⟩ A c wz h (by omega) hp (fun f hf => by have := (right_short hg f hf).1; omega))
  have HD1 := hide (fun (hl : t.length ≤ 12) (hg : right t = true) (wz : World) (h : Fls wz A c t) => tdrop_any t q A c wz h (by omega) (right_go hg).1)
  have HD2 := hide (fun (hl : t.length ≤ 12) (wz : World) (h : Fls wz A c t) => rdrop_any t q A c wz h (by omega))
  have HS1 := hide (fun (hl : t.length ≤ 12) (wz : World) A1 A2 c1 c2 (h1 : Fls wz A1 c1 (put t ⟨p, x⟩).1) (h2 : Fls wz A2 c2 (put t ⟨p, x⟩).1) => same_any (put t ⟨p, x⟩).1 (put t ⟨p, x⟩).1 A1 A2 c1 c2 wz h1 h2 (by have := put_short t ⟨p, x⟩; omega))
  have HS2 := hide (fun (hl : t.length ≤ 12) (wz : World) A1 A2 c1 c2 (h1 : Fls wz A1 c1 (drop t q)) (h2 : Fls wz A2 c2 (drop t q)) => same_any (drop t q) (drop t q) A1 A2 c1 c2 wz h1 h2 (by have := drop_le t q; omega))
  have HFi := hide (fun h => (few_is (t := t) h).1)
  obtain ⟨N, hN⟩ : ∃ N, N = t.length := ⟨_, rfl⟩
  rw [← hN] at HFew HRr HG1 HG2 HP1 HP2 HD1 HD2 HFi
  rw [← hN] at HS1 HS2
  rw [← hN]
  have W1 := hide hw1
  have G1 := hide hgw
  generalize (put t ⟨p, x⟩).1 = X at *
  generalize (put t ⟨p, x⟩).2 = e at *
  generalize drop t q = D at *
  generalize (get t q).1 = u at *
  generalize (get t q).2 = bu at *
  generalize fewB t = fb at *
  have E_0 := hide (hE)
  have B_0 := hide (Below.refl w.heap.size w)
  have F_0 := hide (hs)
  have E_1 := hide (E_0.out.keep hb1)
  have B_1 := hide (B_0.out.trans (hb1.mono B_0.out.size))
  have F_1 := hide (F_0.out.keep hb1)
  have P_1 := hide (c0)
  have Q_1 := hide (c1)
  clear hb1 E_0 B_0 F_0 c0 c1 hrow hs hE hm hn hN hw1 hgw
  go_enter Tryd.func5, Tryd.ntmps5
  go_wp2_with fail
  rw [← W1.out, ← G1.out]
  refine (wake_any w1 E_1.out).mono ?_
  rintro y w2 ⟨rfl, hb2⟩
  have E_2 := hide (E_1.out.keep hb2)
  have B_2 := hide (B_1.out.trans (hb2.mono B_1.out.size))
  have F_2 := hide (F_1.out.keep hb2)
  have P_2 := hide (agr P_1.out hb2)
  have Q_2 := hide (agr Q_1.out hb2)
  clear hb2 E_1 B_1 F_1 P_1 Q_1
  go_wp2_with fail
  refine (HFew.out w2 F_2.out).mono ?_
  rintro y w3 ⟨rfl, hb3⟩
  have E_3 := hide (E_2.out.keep hb3)
  have B_3 := hide (B_2.out.trans (hb3.mono B_2.out.size))
  have F_3 := hide (F_2.out.keep hb3)
  have P_3 := hide (agr P_2.out hb3)
  have Q_3 := hide (agr Q_2.out hb3)
  clear hb3 E_2 B_2 F_2 P_2 Q_2 HFew
  cases fb with
  | false =>
    go_wp2
    go_ret
    exact ⟨rfl, B_3.out⟩
  | true =>
    have H12 := HFi.out rfl
    have d_P := P_3.out
    have d_Q := Q_3.out
    by_cases hlong : 300 < p.length
    · have e1 : decide (300 < (p.length : Int)) = true := decide_eq_true (by omega)
      have e2 : decide (300 < p.length) = true := decide_eq_true hlong
      clear hlong
      go_wp2
      go_ret
      exact ⟨rfl, B_3.out⟩
    · have e_p : decide (300 < (p.length : Int)) = false := decide_eq_false (by omega)
      have e2_p : decide (300 < p.length) = false := decide_eq_false hlong
      clear hlong
      by_cases hlong : 300 < x.length
      · have e1 : decide (300 < (x.length : Int)) = true := decide_eq_true (by omega)
        have e2 : decide (300 < x.length) = true := decide_eq_true hlong
        clear hlong
        go_wp2
        go_ret
        exact ⟨rfl, B_3.out⟩
      · have e_x : decide (300 < (x.length : Int)) = false := decide_eq_false (by omega)
        have e2_x : decide (300 < x.length) = false := decide_eq_false hlong
        clear hlong
        by_cases hlong : 300 < q.length
        · have e1 : decide (300 < (q.length : Int)) = true := decide_eq_true (by omega)
          have e2 : decide (300 < q.length) = true := decide_eq_true hlong
          clear hlong
          go_wp2
          go_ret
          exact ⟨rfl, B_3.out⟩
        · have e_q : decide (300 < (q.length : Int)) = false := decide_eq_false (by omega)
          have e2_q : decide (300 < q.length) = false := decide_eq_false hlong
          clear hlong
          go_wp2_with fail
          refine (HRr.out H12 w3 F_3.out).mono ?_
          rintro y w4 ⟨rfl, hb4⟩
          have E_4 := hide (E_3.out.keep hb4)
          have B_4 := hide (B_3.out.trans (hb4.mono B_3.out.size))
          have F_4 := hide (F_3.out.keep hb4)
          have P_4 := hide (agr P_3.out hb4)
          have Q_4 := hide (agr Q_3.out hb4)
          clear hb4 E_3 B_3 F_3 P_3 Q_3 HRr e_p e_x e_q e2_p e2_x e2_q d_P d_Q
          cases hr : right t with
          | false =>
            clear hr
            go_wp2
            go_ret
            exact ⟨rfl, B_4.out⟩
          | true =>
            have G1 := hide (HG1.out H12 hr)
            have G2 := hide (HG2.out H12)
            have P1 := hide (HP1.out H12 hr)
            have P2 := hide (HP2.out H12 hr)
            have D1 := hide (HD1.out H12 hr)
            have D2 := hide (HD2.out H12)
            have S1 := hide (HS1.out H12)
            have S2 := hide (HS2.out H12)
            clear HG1 HG2 HP1 HP2 HD1 HD2 HS1 HS2 HFi H12 hr hp hx hq
            go_wp2_with fail
            refine (G1.out w4 F_4.out).mono ?_
            rintro y w5 ⟨rfl, hb5⟩
            have E_5 := hide (E_4.out.keep hb5)
            have B_5 := hide (B_4.out.trans (hb5.mono B_4.out.size))
            have F_5 := hide (F_4.out.keep hb5)
            have P_5 := hide (agr P_4.out hb5)
            have Q_5 := hide (agr Q_4.out hb5)
            clear hb5 E_4 B_4 F_4 P_4 Q_4 G1
            go_wp2_with fail
            refine (G2.out w5 F_5.out).mono ?_
            rintro y w6 ⟨rfl, hb6⟩
            have E_6 := hide (E_5.out.keep hb6)
            have B_6 := hide (B_5.out.trans (hb6.mono B_5.out.size))
            have F_6 := hide (F_5.out.keep hb6)
            have P_6 := hide (agr P_5.out hb6)
            have Q_6 := hide (agr Q_5.out hb6)
            clear hb6 E_5 B_5 F_5 P_5 Q_5 G2
            have d_P := P_6.out
            have d_Q := Q_6.out
            go_wp2_with fail
            refine (P1.out w6 F_6.out E_6.out).mono ?_
            rintro y w7 ⟨v7, rfl, hown7, hb7⟩
            obtain ⟨A7, c7, rfl, hs7⟩ := hown7.fls
            have E_7 := hide (E_6.out.keep hb7)
            have B_7 := hide (B_6.out.trans (hb7.mono B_6.out.size))
            have F_7 := hide (F_6.out.keep hb7)
            have P_7 := hide (agr P_6.out hb7)
            have Q_7 := hide (agr Q_6.out hb7)
            have X_7 := hide (hs7)
            clear hb7 E_6 B_6 F_6 P_6 Q_6 hown7 hs7 P1 d_P d_Q
            have d_P := P_7.out
            have d_Q := Q_7.out
            go_wp2_with fail
            refine (P2.out w7 F_7.out).mono ?_
            rintro y w8 ⟨v8, rfl, hown8, hb8⟩
            obtain ⟨A8, c8, rfl, hs8⟩ := hown8.fls
            have E_8 := hide (E_7.out.keep hb8)
            have B_8 := hide (B_7.out.trans (hb8.mono B_7.out.size))
            have F_8 := hide (F_7.out.keep hb8)
            have X_8 := hide (X_7.out.keep hb8)
            have Y_8 := hide (hs8)
            clear hb8 E_7 B_7 F_7 P_7 Q_7 X_7 hown8 hs8 P2 d_P d_Q
            go_wp2_with fail
            refine (D1.out w8 F_8.out).mono ?_
            rintro y w9 ⟨v9, rfl, hown9, hb9⟩
            obtain ⟨A9, c9, rfl, hs9⟩ := hown9.fls
            have E_9 := hide (E_8.out.keep hb9)
            have B_9 := hide (B_8.out.trans (hb9.mono B_8.out.size))
            have F_9 := hide (F_8.out.keep hb9)
            have X_9 := hide (X_8.out.keep hb9)
            have Y_9 := hide (Y_8.out.keep hb9)
            have Z_9 := hide (hs9)
            clear hb9 E_8 B_8 F_8 X_8 Y_8 hown9 hs9 D1
            go_wp2_with fail
            refine (D2.out w9 F_9.out).mono ?_
            rintro y w10 ⟨v10, rfl, hown10, hb10⟩
            obtain ⟨A10, c10, rfl, hs10⟩ := hown10.fls
            have E_10 := hide (E_9.out.keep hb10)
            have B_10 := hide (B_9.out.trans (hb10.mono B_9.out.size))
            have F_10 := hide (F_9.out.keep hb10)
            have X_10 := hide (X_9.out.keep hb10)
            have Y_10 := hide (Y_9.out.keep hb10)
            have Z_10 := hide (Z_9.out.keep hb10)
            have V_10 := hide (hs10)
            clear hb10 E_9 B_9 F_9 X_9 Y_9 Z_9 hown10 hs10 D2
            go_wp2_with fail
            refine (S1.out w10 A7 A8 c7 c8 X_10.out Y_10.out).mono ?_
            rintro y w11 ⟨rfl, hb11⟩
            have E_11 := hide (E_10.out.keep hb11)
            have B_11 := hide (B_10.out.trans (hb11.mono B_10.out.size))
            have F_11 := hide (F_10.out.keep hb11)
            have X_11 := hide (X_10.out.keep hb11)
            have Y_11 := hide (Y_10.out.keep hb11)
            have Z_11 := hide (Z_10.out.keep hb11)
            have V_11 := hide (V_10.out.keep hb11)
            clear hb11 E_10 B_10 F_10 X_10 Y_10 Z_10 V_10 S1
            go_wp2_with fail
            refine (S2.out w11 A9 A10 c9 c10 Z_11.out V_11.out).mono ?_
            rintro y w12 ⟨rfl, hb12⟩
            have E_12 := hide (E_11.out.keep hb12)
            have B_12 := hide (B_11.out.trans (hb12.mono B_11.out.size))
            have F_12 := hide (F_11.out.keep hb12)
            have X_12 := hide (X_11.out.keep hb12)
            have Y_12 := hide (Y_11.out.keep hb12)
            have Z_12 := hide (Z_11.out.keep hb12)
            have V_12 := hide (V_11.out.keep hb12)
            clear hb12 E_11 B_11 F_11 X_11 Y_11 Z_11 V_11 S2
            go_wp2
            go_ret
            exact ⟨by simp, B_12.out⟩
end Go.Proofs.YtlplgkdoiinfhaaDoor.Tr
