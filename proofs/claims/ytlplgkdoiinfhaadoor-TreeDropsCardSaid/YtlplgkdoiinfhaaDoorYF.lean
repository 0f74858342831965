/-
  What is put, and dropped, was never there: the law TreeDrops.
-/
import Derived.BigQuiet
import Derived.Test.YtlplgkdoiinfhaaDoorYA
import Derived.Test.YtlplgkdoiinfhaaDoorQ6
namespace Go.Proofs.YtlplgkdoiinfhaaDoor.Tr
open Go Go.RowKit Kt Lw Li Lx Df Wr

set_option maxRecDepth 100000 in
set_option maxHeartbeats 8000000 in
theorem lawDrops_any (t : List Fl) (f : Fl) (A : Option Addr) (c : Nat) (w : World) (hs : Fls w A c t) (hE : Env w) (hm : ∀ f ∈ t, f.path.length ≤ 9223372036854775807 ∧ f.text.length ≤ 9223372036854775807) (hn : t.length ≤ 9223372036854775807) (hp : f.path.length ≤ 140737488351232) (hx : f.text.length ≤ 140737488351232) :
    Calls Tryd.prog 9 #[.slice A t.length c, .agg #[.string ⟨f.path.toArray⟩, .string ⟨f.text.toArray⟩]] w fun y w' => y = .returned (.bool true) ∧ Below w.heap.size w w' := by
  obtain ⟨p, x⟩ := f
  simp only at hp hx
  have hrow := Row.fresh w tF #[.string ⟨p.toArray⟩, .string ⟨x.toArray⟩]
  have hb1 := (Below.refl w.heap.size w).alloc (Nat.le_refl _) (.cells #[.string ⟨p.toArray⟩, .string ⟨x.toArray⟩] tF)
  obtain ⟨w1, hw1⟩ : ∃ w1, w1 = w.alloc (.cells #[.string ⟨p.toArray⟩, .string ⟨x.toArray⟩] tF) := ⟨_, rfl⟩
  obtain ⟨g, hgw⟩ : ∃ g, g = w.heap.size := ⟨_, rfl⟩
  rw [← hw1] at hrow hb1
  rw [← hgw] at hrow
  have c0 : w1.cell? ⟨g, 0, none⟩ = some (.string ⟨p.toArray⟩) := hrow.cell 0
  have c1 : w1.cell? ⟨g, 1, none⟩ = some (.string ⟨x.toArray⟩) := hrow.cell 1
  have HFew := hide (fun (wz : World) (h : Fls wz A c t) => few_any t A c wz h)
  have HRt := hide (fun (wz : World) (h : Fls wz A c t) (hE : Env wz) => tright_any t A c wz h hE.most (fun f hf => (hm f hf).1) hn)
  have HPa := hide (fun (wz : World) (hE : Env wz) => path_any p wz hE.most (by omega))
  have HAll := hide (fun (hr : right t = true) (hl : t.length ≤ 12) (hc : can p = true) (lf : x.length ≤ 65536) => drops_any (t := t) (f := ⟨p, x⟩) hr hl hc lf)
  have HPut := hide (fun (wz : World) (h : Fls wz A c t) (hE : Env wz) (hl : t.length ≤ 12) (hg : right t = true) => tput_any t ⟨p, x⟩ A c wz h hE.most (by omega) (show p.length ≤ _ by omega) (right_go hg).1)
  have HDt := hide (fun (wz : World) (h : Fls wz A c t) (hl : t.length ≤ 12) (hg : right t = true) => tdrop_any t p A c wz h (by omega) (right_go hg).1)
  obtain ⟨N, hN⟩ : ∃ N, N = t.length := ⟨_, rfl⟩
  have HN := hide hN
  rw [← hN] at HFew HRt HPut HDt ⊢
  have W1 := hide hw1
  have G1 := hide hgw
  have E_0 := hide (hE)
  have B_0 := hide (Below.refl w.heap.size w)
  have F_0 := hide (hs)
  have E_1 := hide (E_0.out.keep hb1)
  have B_1 := hide (B_0.out.trans (hb1.mono B_0.out.size))
  have F_1 := hide (F_0.out.keep hb1)
  have P_1 := hide (c0)
  have Q_1 := hide (c1)
  clear hb1 E_0 B_0 F_0 c0 c1 hrow hs hE hm hn hN hw1 hgw
  go_enter Tryd.func9, Tryd.ntmps9
  go_wp2_with fail
  rw [← W1.out, ← G1.out]
  refine (wake_any w1 E_1.out).mono ?_
  rintro y w2 ⟨rfl, hb2⟩
  have E_2 := hide (E_1.out.keep hb2)
  have B_2 := hide (B_1.out.trans (hb2.mono B_1.out.size))
  have F_2 := hide (F_1.out.keep hb2)
  have P_2 := hide (agr P_1.out hb2)
  have Q_2 := hide (agr Q_1.out hb2)
  clear hb2 E_1 B_1 F_1 P_1 Q_1
  go_wp2_with fail
  refine (HFew.out w2 F_2.out).mono ?_
  rintro y w3 ⟨rfl, hb3⟩
  have E_3 := hide (E_2.out.keep hb3)
  have B_3 := hide (B_2.out.trans (hb3.mono B_2.out.size))
  have F_3 := hide (F_2.out.keep hb3)
  have P_3 := hide (agr P_2.out hb3)
  have Q_3 := hide (agr Q_2.out hb3)
  clear hb3 E_2 B_2 F_2 P_2 Q_2 HFew
  cases hf : fewB t with
  | false =>
    clear hf
    go_wp2
    go_ret
    exact ⟨rfl, B_3.out⟩
  | true =>
    have hl12 := (few_is hf).1
    clear hf
    by_cases hlong : 40 < p.length + x.length
    · have d1 : decide (40 < (p.length : Int) + (x.length : Int)) = true := decide_eq_true (by omega)
      have d_P := P_3.out
      have d_Q := Q_3.out
      have d2 : decide (40 < p.length + x.length) = true := decide_eq_true hlong
      clear hlong hl12
      go_wp2
      go_ret
      exact ⟨rfl, B_3.out⟩
    · have d1 : decide (40 < (p.length : Int) + (x.length : Int)) = false := decide_eq_false (by omega)
      have d_P := P_3.out
      have d_Q := Q_3.out
      have d2 : decide (40 < p.length + x.length) = false := decide_eq_false hlong
      go_wp2_with fail
      refine (HRt.out w3 F_3.out E_3.out).mono ?_
      rintro y w4 ⟨rfl, hb4⟩
      have E_4 := hide (E_3.out.keep hb4)
      have B_4 := hide (B_3.out.trans (hb4.mono B_3.out.size))
      have F_4 := hide (F_3.out.keep hb4)
      have P_4 := hide (agr P_3.out hb4)
      have Q_4 := hide (agr Q_3.out hb4)
      clear hb4 E_3 B_3 F_3 P_3 Q_3 HRt d1 d2 d_P d_Q
      have d_P := P_4.out
      go_wp2_with fail
      refine (HPa.out w4 E_4.out).mono ?_
      rintro y w5 ⟨rfl, hb5⟩
      have E_5 := hide (E_4.out.keep hb5)
      have B_5 := hide (B_4.out.trans (hb5.mono B_4.out.size))
      have F_5 := hide (F_4.out.keep hb5)
      have P_5 := hide (agr P_4.out hb5)
      have Q_5 := hide (agr Q_4.out hb5)
      clear hb5 E_4 B_4 F_4 P_4 Q_4 HPa d_P
      cases hr : right t with
      | false =>
        clear hr hlong hl12
        go_wp2
        go_ret
        exact ⟨rfl, B_5.out⟩
      | true =>
        cases hc : can p with
        | false =>
          clear hr hc hlong hl12
          go_wp2
          go_ret
          exact ⟨rfl, B_5.out⟩
        | true =>
          obtain ⟨e1, e2, e3, e4, e5⟩ := HAll.out hr hl12 hc (by omega)
          have hPt := fun (wz : World) (h : Fls wz A c t) (hE : Env wz) => HPut.out wz h hE (by have := HN.out; omega) hr
          rw [e1] at hPt
          have HPt := hide hPt
          have HDd := hide (fun (wz : World) (h : Fls wz A c t) => HDt.out wz h (by have := HN.out; omega) hr)
          have hgo := go_put (f := ⟨p, x⟩) (right_go hr).1 hc (show x.length ≤ 65536 by omega)
          have hln := put_len t ⟨p, x⟩
          simp only at e2 e3 e4 e5 hgo hln hPt
          have hDa := fun (wz : World) A1 c1 (h : Fls wz A1 c1 (ins ⟨p, x⟩ (drop t p))) => tdrop_any (ins ⟨p, x⟩ (drop t p)) p A1 c1 wz h (by omega) hgo
          rw [e2, decide_eq_true e3] at hDa
          have HDa := hide hDa
          have hdl := drop_le t p
          have HR2 := hide (fun (wz : World) A1 c1 (h : Fls wz A1 c1 (drop t p)) (hE : Env wz) => tright_any (drop t p) A1 c1 wz h hE.most (fun f hf => by have := (right_short e4 f hf).1; omega) (by omega))
          rw [e4] at HR2
          have HS1 := hide (fun (wz : World) A1 A2 c1 c2 (h1 : Fls wz A1 c1 (drop t p)) (h2 : Fls wz A2 c2 (drop t p)) => same_any (drop t p) (drop t p) A1 A2 c1 c2 wz h1 h2 (by omega))
          have HS2 := hide (fun (he : drop t p = t) (wz : World) A1 c1 (h1 : Fls wz A1 c1 (drop t p)) (h2 : Fls wz A c t) => same_any (drop t p) t A1 A c1 c wz h1 h2 (by omega))
          rw [← HN.out] at HS2 e5
          have He5 := hide e5
          clear e1 e2 e3 e4 e5 hPt hDa hgo hln hdl hr hc hlong hl12 HAll HPut HDt
          generalize ins ⟨p, x⟩ (drop t p) = X at *
          generalize drop t p = D at *
          have d_P := P_5.out
          have d_Q := Q_5.out
          go_wp2_with fail
          refine (HPt.out w5 F_5.out E_5.out).mono ?_
          rintro y w6 ⟨v5, rfl, hown5, hb6⟩
          obtain ⟨A5, c5, rfl, hs5⟩ := hown5.fls
          have E_6 := hide (E_5.out.keep hb6)
          have B_6 := hide (B_5.out.trans (hb6.mono B_5.out.size))
          have F_6 := hide (F_5.out.keep hb6)
          have P_6 := hide (agr P_5.out hb6)
          have Q_6 := hide (agr Q_5.out hb6)
          have X_6 := hide (hs5)
          clear hb6 E_5 B_5 F_5 P_5 Q_5 hown5 hs5 HPt d_P d_Q
          have d_P := P_6.out
          go_wp2_with fail
          refine (HDa.out w6 A5 c5 X_6.out).mono ?_
          rintro y w7 ⟨v6, rfl, hown6, hb7⟩
          obtain ⟨A6, c6, rfl, hs6⟩ := hown6.fls
          have E_7 := hide (E_6.out.keep hb7)
          have B_7 := hide (B_6.out.trans (hb7.mono B_6.out.size))
          have F_7 := hide (F_6.out.keep hb7)
          have P_7 := hide (agr P_6.out hb7)
          have Q_7 := hide (agr Q_6.out hb7)
          have Y_7 := hide (hs6)
          clear hb7 E_6 B_6 F_6 P_6 Q_6 X_6 hown6 hs6 HDa d_P
          have d_P := P_7.out
          go_wp2_with fail
          refine (HDd.out w7 F_7.out).mono ?_
          rintro y w8 ⟨v7, rfl, hown7, hb8⟩
          obtain ⟨A7, c7, rfl, hs7⟩ := hown7.fls
          have E_8 := hide (E_7.out.keep hb8)
          have B_8 := hide (B_7.out.trans (hb8.mono B_7.out.size))
          have F_8 := hide (F_7.out.keep hb8)
          have Y_8 := hide (Y_7.out.keep hb8)
          have Z_8 := hide (hs7)
          clear hb8 E_7 B_7 F_7 P_7 Q_7 Y_7 hown7 hs7 HDd d_P
          go_wp2_with fail
          refine (HS1.out w8 A6 A7 c6 c7 Y_8.out Z_8.out).mono ?_
          rintro y w9 ⟨rfl, hb9⟩
          have E_9 := hide (E_8.out.keep hb9)
          have B_9 := hide (B_8.out.trans (hb9.mono B_8.out.size))
          have F_9 := hide (F_8.out.keep hb9)
          have Y_9 := hide (Y_8.out.keep hb9)
          have Z_9 := hide (Z_8.out.keep hb9)
          clear hb9 E_8 B_8 F_8 Y_8 Z_8 HS1
          by_cases hlt : D.length < N
          · have k1 : decide (D.length < N) = true := decide_eq_true hlt
            clear hlt
            go_wp2_with fail
            refine (HR2.out w9 A6 c6 Y_9.out E_9.out).mono ?_
            rintro y w10 ⟨rfl, hb10⟩
            have E_10 := hide (E_9.out.keep hb10)
            have B_10 := hide (B_9.out.trans (hb10.mono B_9.out.size))
            have F_10 := hide (F_9.out.keep hb10)
            have Y_10 := hide (Y_9.out.keep hb10)
            have Z_10 := hide (Z_9.out.keep hb10)
            clear hb10 E_9 B_9 F_9 Y_9 Z_9 HR2
            go_wp2
            go_ret
            exact ⟨by simp, B_10.out⟩
          · have k1 : decide (D.length < N) = false := decide_eq_false hlt
            have hDt : D = t := He5.out.resolve_left hlt
            have hS3 := HS2.out hDt
            rw [decide_eq_true hDt] at hS3
            have HS3 := hide hS3
            clear hlt hDt hS3
            go_wp2_with fail
            refine (HS3.out w9 A7 c7 Z_9.out F_9.out).mono ?_
            rintro y w10 ⟨rfl, hb10⟩
            have E_10 := hide (E_9.out.keep hb10)
            have B_10 := hide (B_9.out.trans (hb10.mono B_9.out.size))
            have F_10 := hide (F_9.out.keep hb10)
            have Y_10 := hide (Y_9.out.keep hb10)
            have Z_10 := hide (Z_9.out.keep hb10)
            clear hb10 E_9 B_9 F_9 Y_9 Z_9 HS3
            go_wp2_with fail
            refine (HR2.out w10 A6 c6 Y_10.out E_10.out).mono ?_
            rintro y w11 ⟨rfl, hb11⟩
            have E_11 := hide (E_10.out.keep hb11)
            have B_11 := hide (B_10.out.trans (hb11.mono B_10.out.size))
            have F_11 := hide (F_10.out.keep hb11)
            have Y_11 := hide (Y_10.out.keep hb11)
            have Z_11 := hide (Z_10.out.keep hb11)
            clear hb11 E_10 B_10 F_10 Y_10 Z_10 HR2
            go_wp2
            go_ret
            exact ⟨by simp, B_11.out⟩
end Go.Proofs.YtlplgkdoiinfhaaDoor.Tr
