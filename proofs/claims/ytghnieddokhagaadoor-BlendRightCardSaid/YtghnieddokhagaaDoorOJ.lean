/-
  The laws of two trees, together: BlendRight.
-/
import Derived.BigQuiet
import Derived.Test.YtghnieddokhagaaDoorOG
import Derived.Test.YtghnieddokhagaaDoorNK
import Derived.Test.YtghnieddokhagaaDoorQTO
import Derived.Test.YtghnieddokhagaaDoorQWS
import Derived.Test.YtghnieddokhagaaDoorQEG
namespace Go.Proofs.YtghnieddokhagaaDoor.Tr
open Go Go.RowKit Kt Lw Li Lx Df Al

set_option maxRecDepth 100000 in
set_option maxHeartbeats 4000000 in
theorem lawRight_any (o a b : List Fl) (Ao Aa Ab : Option Addr) (co ca cb : Nat) (w : World) (ho : Fls w Ao co o) (ha : Fls w Aa ca a) (hb : Fls w Ab cb b) (hM : Most w) :
    Calls Tryd.prog 3 #[.slice Ao o.length co, .slice Aa a.length ca, .slice Ab b.length cb] w fun y w' => y = .returned (.bool true) ∧ Below w.heap.size w w' := by
  have HX := hide (fun (wz : World) (h : Fls wz Ao co o) => good_any o Ao co wz h)
  have HY := hide (fun (wz : World) (h : Fls wz Aa ca a) => good_any a Aa ca wz h)
  have HZ := hide (fun (wz : World) (h : Fls wz Ab cb b) => good_any b Ab cb wz h)
  have HT := hide (fun (wz : World) (h1 : Fls wz Ao co o) (h2 : Fls wz Aa ca a) (h3 : Fls wz Ab cb b) (fo : fine o = true) (fa : fine a = true) (fb : fine b = true) => bfine_any o a b Ao Aa Ab co ca cb wz h1 h2 h3 fo fa fb)
  have HS := hide (fun (fa : fine a = true) (fb : fine b = true) => trees_right_all (o := o) fa fb)
  have HL := hide (trees_len o a b)
  have HGa := hide (fun (fa : fine a = true) (p : Bs) (wz : World) (h : Fls wz Aa ca a) => tget_any a p Aa ca wz h (fine_texts fa).1 (fine_is fa).1)
  have HGb := hide (fun (fb : fine b = true) (p : Bs) (wz : World) (h : Fls wz Ab cb b) => tget_any b p Ab cb wz h (fine_texts fb).1 (fine_is fb).1)
  have HNa := hide (fun (fa : fine a = true) (fb : fine b = true) => show a.length ≤ 12 ∧ b.length ≤ 12 from ⟨(fine_is fa).2.1, (fine_is fb).2.1⟩)
  obtain ⟨ko, hko⟩ : ∃ ko, ko = o.length := ⟨_, rfl⟩
  obtain ⟨ka, hka⟩ : ∃ ka, ka = a.length := ⟨_, rfl⟩
  obtain ⟨kb, hkb⟩ : ∃ kb, kb = b.length := ⟨_, rfl⟩
  rw [← hko] at HX HT ⊢
  rw [← hka] at HY HT HGa HL HNa ⊢
  rw [← hkb] at HZ HT HGb HL HNa ⊢
  have HKa := hide hka
  clear hko hka hkb
  generalize trees mgT o a b = T at *
  obtain ⟨X, l⟩ := T
  generalize fine o = fo at *
  generalize fine a = fa at *
  generalize fine b = fb at *
  have B_0 := hide (Below.refl w.heap.size w)
  have F_0 := hide (ho)
  have G_0 := hide (ha)
  have H_0 := hide (hb)
  have E_0 := hide (hM)
  clear ho ha hb hM
  go_enter Tryd.func3, Tryd.ntmps3
  go_wp2_with fail
  refine (wake_any w).mono ?_
  rintro y w1 ⟨rfl, hb1⟩
  have B_1 := hide (B_0.out.trans (hb1.mono B_0.out.size))
  have F_1 := hide (F_0.out.keep hb1)
  have G_1 := hide (G_0.out.keep hb1)
  have H_1 := hide (H_0.out.keep hb1)
  have E_1 := hide (E_0.out.keep hb1)
  clear hb1 B_0 F_0 G_0 H_0 E_0
  go_wp2_with fail
  refine (HX.out w1 F_1.out).mono ?_
  rintro y w2 ⟨rfl, hb2⟩
  have B_2 := hide (B_1.out.trans (hb2.mono B_1.out.size))
  have F_2 := hide (F_1.out.keep hb2)
  have G_2 := hide (G_1.out.keep hb2)
  have H_2 := hide (H_1.out.keep hb2)
  have E_2 := hide (E_1.out.keep hb2)
  clear hb2 B_1 F_1 G_1 H_1 E_1 HX
  go_wp2_with fail
  refine (HY.out w2 G_2.out).mono ?_
  rintro y w3 ⟨rfl, hb3⟩
  have B_3 := hide (B_2.out.trans (hb3.mono B_2.out.size))
  have F_3 := hide (F_2.out.keep hb3)
  have G_3 := hide (G_2.out.keep hb3)
  have H_3 := hide (H_2.out.keep hb3)
  have E_3 := hide (E_2.out.keep hb3)
  clear hb3 B_2 F_2 G_2 H_2 E_2 HY
  go_wp2_with fail
  refine (HZ.out w3 H_3.out).mono ?_
  rintro y w4 ⟨rfl, hb4⟩
  have B_4 := hide (B_3.out.trans (hb4.mono B_3.out.size))
  have F_4 := hide (F_3.out.keep hb4)
  have G_4 := hide (G_3.out.keep hb4)
  have H_4 := hide (H_3.out.keep hb4)
  have E_4 := hide (E_3.out.keep hb4)
  clear hb4 B_3 F_3 G_3 H_3 E_3 HZ
  cases fo with
  | false =>
    clear HT HS HL HGa HGb HNa
    go_wp2
    go_ret
    exact ⟨rfl, B_4.out⟩
  | true =>
    cases fa with
    | false =>
      clear HT HS HL HGa HGb HNa
      go_wp2
      go_ret
      exact ⟨rfl, B_4.out⟩
    | true =>
      cases fb with
      | false =>
        clear HT HS HL HGa HGb HNa
        go_wp2
        go_ret
        exact ⟨rfl, B_4.out⟩
      | true =>
        obtain ⟨hr1, hr2, hr3, hr4, hr5⟩ := HS.out (by simp) (by simp)
        obtain ⟨na, nb⟩ := HNa.out (by simp) (by simp)
        have hl1 : X.length ≤ 1000 := HL.out.1
        have hl2 : l.length ≤ ka + kb := HL.out.2
        have HQa := hide (fun (p : Bs) (wz : World) (h : Fls wz Aa ca a) => HGa.out (by simp) p wz h)
        have HQb := hide (fun (p : Bs) (wz : World) (h : Fls wz Ab cb b) => HGb.out (by simp) p wz h)
        have Hr3 := hide hr3
        have Hr4 := hide hr4
        have Hr5 := hide hr5
        have HGX := hide (fun (p : Bs) (A : Option Addr) (c : Nat) (wz : World) (h : Fls wz A c X) => tget_any X p A c wz h (by omega) hr2)
        have HRX := hide (fun (A : Option Addr) (c : Nat) (wz : World) (h : Fls wz A c X) (hM : Most wz) => tright_any X A c wz h hM (fun f hf => by have := (go_above hr2 f hf).2.1; have := (can_lt this).2; omega) (by omega))
        rw [hr1] at HRX
        have Hl1 := hide hl1
        have Hl2 := hide hl2
        obtain ⟨N, hN⟩ : ∃ N, N = X.length := ⟨_, rfl⟩
        obtain ⟨M, hM⟩ : ∃ M, M = l.length := ⟨_, rfl⟩
        rw [← hN] at HGX HRX
        have HN := hide hN
        have HM := hide hM
        have hM9 : M ≤ 24 := by rw [hM]; omega
        clear HS HL HGa HGb HNa hr1 hr2 hr3 hr4 hr5 hl1 hl2 hN hM nb
        go_wp2_with fail
        refine (HT.out w4 F_4.out G_4.out H_4.out (by simp) (by simp) (by simp)).mono ?_
        rintro y w5 ⟨v5, u5, rfl, hf5, ht5, hb5⟩
        obtain ⟨A5, c5, rfl, hF5⟩ := hf5.fls
        obtain ⟨D5, d5, rfl, hT5⟩ := ht5.vs
        have hV5 := hT5.bound
        have B_5 := hide (B_4.out.trans (hb5.mono B_4.out.size))
        have G_5 := hide (G_4.out.keep hb5)
        have H_5 := hide (H_4.out.keep hb5)
        have E_5 := hide (E_4.out.keep hb5)
        have X_5 := hide (hF5)
        have V_5 := hide (hV5)
        clear hb5 B_4 F_4 G_4 H_4 E_4 hf5 ht5 HT hF5 hT5 hV5
        rw [show X.length = N from HN.out.symm, show l.length = M from HM.out.symm]
        go_wp2_with fail
        refine (HRX.out _ _ w5 X_5.out E_5.out).mono ?_
        rintro y w6 ⟨rfl, hb6⟩
        have B_6 := hide (B_5.out.trans (hb6.mono B_5.out.size))
        have G_6 := hide (G_5.out.keep hb6)
        have H_6 := hide (H_5.out.keep hb6)
        have X_6 := hide (X_5.out.keep hb6)
        have V_6 := hide (vs_keep V_5.out hb6)
        clear hb6 B_5 G_5 H_5 E_5 X_5 V_5 HRX
        go_wp2
        go_loopw [13] (fun i wr => ∃ k : Nat, k ≤ ka ∧ i = .int .i64 k ∧ Hid (Below w6.heap.size w6 wr)) (fun i _ => ka - (intOf i).toNat)
        case atStart => exact ⟨0, Nat.zero_le _, rfl, hide (Below.refl _ _)⟩
        case round =>
          obtain ⟨k, hk, rfl, Hbe⟩ := hrel
          have Gr := hide (G_6.out.keep Hbe.out)
          have Hr := hide (H_6.out.keep Hbe.out)
          have Xr := hide (X_6.out.keep Hbe.out)
          by_cases hlt : k < ka
          · obtain ⟨b1, o1, f, rfl, _, hf, _, c0, _⟩ := Gr.out.at (w' := wr) (Below.refl _ _) (k := k) (by have := HKa.out; omega)
            have hq := Hr3.out f (List.mem_of_getElem? hf)
            obtain ⟨p, x⟩ := f
            simp only at c0 hq
            have Hq := hide hq
            have C0 := hide (fun (wz : World) (h : Below wr.heap.size wr wz) => agr c0 h)
            obtain ⟨w1, hw1⟩ : ∃ z, z = wr := ⟨_, rfl⟩
            subst hw1
            have hd : decide ((k : Int) < (ka : Int)) = true := decide_eq_true (by omega)
            clear hf hq
            go_wp2_with fail
            refine (HQb.out p w1 Hr.out).mono ?_
            rintro y w2 ⟨rfl, hb2⟩
            have c1 := C0.out w2 hb2
            have Xr2 := hide (Xr.out.keep hb2)
            have Hbe2 := hide (Hbe.out.trans (hb2.mono Hbe.out.size))
            clear c0 hb2
            go_wp2_with fail
            refine (HGX.out p _ _ w2 Xr2.out).mono ?_
            rintro y w3 ⟨rfl, hb3⟩
            have Hbe3 := hide (Hbe2.out.trans (hb3.mono Hbe2.out.size))
            clear hb3 c1 Xr2 Hbe2
            cases hg : (get b p).2 with
            | false =>
              go_wp2
              exact ⟨⟨k + 1, by omega, by go_num, Hbe3⟩, by simp [intOf]; omega⟩
            | true =>
              have hg2 : (get X p).2 = true := Hq.out hg
              go_wp2
              exact ⟨⟨k + 1, by omega, by go_num, Hbe3⟩, by simp [intOf]; omega⟩
          · obtain rfl : k = ka := by omega
            have hd : decide ((k : Int) < (k : Int)) = false := decide_eq_false (by omega)
            have Vr := hide (vs_keep V_6.out Hbe.out)
            have Bq := hide (B_6.out.trans (Hbe.out.mono B_6.out.size))
            obtain ⟨w1, hw1⟩ : ∃ z, z = wr := ⟨_, rfl⟩
            subst hw1
            clear G_6 H_6 X_6 V_6 B_6 Hbe HKa Hr3
            go_wp2
            clear hd
            go_loopw [18] (fun i wr => ∃ j : Nat, j ≤ M ∧ i = .int .i64 j ∧ Hid (Below w1.heap.size w1 wr)) (fun i _ => M - (intOf i).toNat)
            case atStart => exact ⟨0, Nat.zero_le _, rfl, hide (Below.refl _ _)⟩
            case round =>
              obtain ⟨j, hj, rfl, Hbz⟩ := hrel
              by_cases hjl : j < M
              · obtain ⟨D, d, rfl, z0⟩ := vs_at Vr.out (k := j) (by have := HM.out; omega)
                have hmem := mem_getD (l := l) (j := j) (by have := HM.out; omega)
                have hq := Hr4.out _ hmem
                have hprev : 0 < j → wr.cell? ⟨D, d + (j - 1), none⟩ = some (.string ⟨(l.getD (j - 1) []).toArray⟩) ∧ lt (l.getD (j - 1) []) (l.getD j []) = true := fun h0 => by
                  obtain ⟨D', d', e, z1⟩ := vs_at Vr.out (k := j - 1) (by have := HM.out; omega)
                  injection e with e
                  injection e with e1 e2
                  subst e1 e2
                  have h2 := asc_at Hr5.out (j - 1) (by have := HM.out; omega)
                  rw [show j - 1 + 1 = j by omega] at h2
                  exact ⟨agr z1 Hbz.out, h2⟩
                obtain ⟨p, hp⟩ : ∃ p, p = l.getD j [] := ⟨_, rfl⟩
                rw [← hp] at z0 hq hprev
                obtain ⟨r, hr⟩ : ∃ r, r = l.getD (j - 1) [] := ⟨_, rfl⟩
                rw [← hr] at hprev
                have C0 := hide (fun (wz : World) (h : Below w1.heap.size w1 wz) => agr z0 h)
                have Hprev := hide (fun (wz : World) (h : Below wr.heap.size wr wz) (h0 : 0 < j) => show wz.cell? ⟨D, d + (j - 1), none⟩ = some (.string ⟨r.toArray⟩) ∧ lt r p = true from ⟨agr (hprev h0).1 h, (hprev h0).2⟩)
                have Hq := hide hq
                obtain ⟨w2, hw2⟩ : ∃ z, z = wr := ⟨_, rfl⟩
                subst hw2
                have hd : decide ((j : Int) < (M : Int)) = true := decide_eq_true (by omega)
                have c1 := C0.out w2 Hbz.out
                have Gz := hide (Gr.out.keep Hbz.out)
                clear hp hr hmem hq hprev z0
                go_wp2_with fail
                refine (HQa.out p w2 Gz.out).mono ?_
                rintro y w3 ⟨rfl, hb3⟩
                have Hb3 := hide hb3
                have Hbz3 := hide (Hbz.out.trans (hb3.mono Hbz.out.size))
                have c2 := C0.out w3 Hbz3.out
                have Hz := hide (Hr.out.keep Hbz3.out)
                clear c1 hb3 Gz
                go_wp2_with fail
                refine (HQb.out p w3 Hz.out).mono ?_
                rintro y w4 ⟨rfl, hb4⟩
                have Hb4 := hide (Hb3.out.trans (hb4.mono Hb3.out.size))
                have Hbz4 := hide (Hbz.out.trans (Hb4.out.mono Hbz.out.size))
                have c3 := C0.out w4 Hbz4.out
                have Xz := hide (Xr.out.keep Hbz4.out)
                clear c2 hb4 Hb3 Hbz3 Hz
                go_wp2_with fail
                refine (HGX.out p _ _ w4 Xz.out).mono ?_
                rintro y w5 ⟨rfl, hb5⟩
                have Hb5 := hide (Hb4.out.trans (hb5.mono Hb4.out.size))
                have Hbz5 := hide (Hbz.out.trans (Hb5.out.mono Hbz.out.size))
                have c4 := C0.out w5 Hbz5.out
                have hgX : (get X p).2 = true := Hq.out.2
                have hor := Hq.out.1
                have hle := run_leq p r
                clear c3 hb5 Hb4 Hbz4 Xz Hbz Hq
                generalize (get a p).2 = ga at *
                generalize (get b p).2 = gb at *
                by_cases h0 : 0 < j
                · obtain ⟨c5, hlt5⟩ := Hprev.out w5 Hb5.out h0
                  rw [hlt5] at hle
                  have hj0 : decide ((0 : Int) < (j : Int)) = true := decide_eq_true (by omega)
                  have hjm : (j : Int) - 1 = ((j - 1 : Nat) : Int) := by omega
                  clear Hprev hlt5
                  cases ga with
                  | true =>
                    clear hor
                    go_wp2
                    go_quiet (fail)
                    go_wp2
                    exact ⟨⟨j + 1, by omega, by go_num, hide (below_drewN Hbz5.out _)⟩, by simp [intOf]; omega⟩
                  | false =>
                    obtain rfl : gb = true := by simpa using hor
                    clear hor
                    go_wp2
                    go_quiet (fail)
                    go_wp2
                    exact ⟨⟨j + 1, by omega, by go_num, hide (below_drewN Hbz5.out _)⟩, by simp [intOf]; omega⟩
                · have hj0 : decide ((0 : Int) < (j : Int)) = false := decide_eq_false (by omega)
                  clear Hprev hle
                  cases ga with
                  | true =>
                    clear hor
                    go_wp2
                    go_quiet (fail)
                    go_wp2
                    exact ⟨⟨j + 1, by omega, by go_num, hide (below_drewN Hbz5.out _)⟩, by simp [intOf]; omega⟩
                  | false =>
                    obtain rfl : gb = true := by simpa using hor
                    clear hor
                    go_wp2
                    go_quiet (fail)
                    go_wp2
                    exact ⟨⟨j + 1, by omega, by go_num, hide (below_drewN Hbz5.out _)⟩, by simp [intOf]; omega⟩
              · obtain rfl : j = M := by omega
                have hd : decide ((j : Int) < (j : Int)) = false := decide_eq_false (by omega)
                have HBf := hide (Bq.out.trans (Hbz.out.mono Bq.out.size))
                clear Hbz Bq Vr Gr Hr Xr
                go_wp2
                go_ret
                exact ⟨rfl, HBf.out⟩
end Go.Proofs.YtghnieddokhagaaDoor.Tr
