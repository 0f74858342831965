/-
  Each right patch has one form, and each form is one patch's: the law PatchBack.
-/
import Derived.BigQuiet
import Derived.Test.YtabgkfkjnpcbkaaDoorQQG
namespace Go.Proofs.YtabgkfkjnpcbkaaDoor.Tr
open Go Go.RowKit Kt Lw Li Lx Df Wr

/-- what was decoded lies in memory -/
theorem dec_pin {bs : Bs} {D : Pch} {f : Nat} (hd : pdecode bs = (D, f)) {w : World} {B : Nat} {vi vc : Value} (h1 : OwT w B tI vi D.ids) (h2 : OwC w B vc D.chs) :
    ∃ Ai ci Ac cc, vi = .slice Ai D.ids.length ci ∧ vc = .slice Ac D.chs.length cc ∧ PIn w D Ai Ac ci cc := by
  obtain ⟨Ai, ci, e1, hv1⟩ := h1.vs
  obtain ⟨Ac, cc, e2, hv2⟩ := h2.fls
  have hsm : (∀ q ∈ D.ids, q.length ≤ 32) ∧ (∀ c ∈ D.chs, c.path.length ≤ 200 ∧ c.text.length ≤ 65536) ∧ D.ids.length ≤ 16 ∧ D.author.length ≤ 100 ∧ D.note.length ≤ 1000 ∧ D.chs.length ≤ 100 := by
    by_cases hf : f = 0
    · subst hf
      have hr := (pform_decode hd).2
      have hw : withinB D = true := by rw [pright_within, Bool.and_eq_true] at hr; exact hr.1
      obtain ⟨i1, i2, i3, i4, i5, i6⟩ := within_is hw
      exact ⟨fun q hq => by have := i5 q hq; omega, i6, i1, i2, i3, i4⟩
    · have := pdecode_none (b := bs) (by rw [hd]; exact hf)
      rw [hd] at this
      simp only at this
      subst this
      exact ⟨fun q hq => (by cases hq), fun f hf => (by cases hf), by simp, by simp, by simp, by simp⟩
  refine ⟨Ai, ci, Ac, cc, e1, e2, ⟨hv1.1, fun h => by obtain ⟨b, oo, k1, _, k2⟩ := hv1.2 h; exact ⟨b, oo, k1, trivial, k2⟩⟩, hv2, fun q hq => ?_, fun c hc => ?_, ?_, ?_, ?_, ?_⟩
  · have := hsm.1 q hq; omega
  · have := hsm.2.1 c hc; omega
  · have := hsm.2.2.1; omega
  · have := hsm.2.2.2.1; omega
  · have := hsm.2.2.2.2.1; omega
  · have := hsm.2.2.2.2.2; omega
set_option maxRecDepth 100000 in
set_option maxHeartbeats 8000000 in
theorem lawBack12_any (p : Pch) (b : Bs) (Ai Ac A' : Option Addr) (ci cc c' : Nat) (Pb : Nat → Prop) (w : World) (hp : PIn w p Ai Ac ci cc) (hb : Sl w Pb A' c' b) (hE : Env w) (hn : b.length ≤ 9223372036854775807) :
    Calls Tryd.prog 6 #[PchV p Ai Ac ci cc, .slice A' b.length c'] w fun y w' => y = .returned (.bool true) ∧ Below w.heap.size w w' := by
  have HFw := hide (fun (wz : World) (h : PIn wz p Ai Ac ci cc) => pfew_any p Ai Ac ci cc _ wz h.ids h.chs h.l2 h.l3)
  have HE1 := hide (fun (wz : World) (h : PIn wz p Ai Ac ci cc) (hE : Env wz) => pencode_any p Ai Ac ci cc wz h hE.most)
  have HN1 := hide (fun (wz : World) (h : PIn wz p Ai Ac ci cc) (hE : Env wz) => pname_any p Ai Ac ci cc wz h hE.most hE.tab)
  have HFi := hide (fun h => fewP_is (p := p) h)
  -- the patch's form, read again
  have HD1 := hide (fun (hr : pright p = true) (wz : World) B d (h : Sl wz (fun _ => True) B d (pform p)) (hE : Env wz) => show Calls Tryd.prog 19 #[.slice B (pform p).length d] wz fun y w' => ∃ Bi di Bc dc, y = .returned (.tuple #[PchV p Bi Bc di dc, .int .i64 0]) ∧ PIn w' p Bi Bc di dc ∧ Below wz.heap.size wz w' from by
    have hd := pdecode_form hr
    refine (pdecode_any (pform p) B d _ wz h hE.most (by have := (pright_is hr).2.2.2.2.2.2; omega)).mono ?_
    rw [hd]
    rintro y w' ⟨vi, vc, rfl, k1, k2, k3⟩
    obtain ⟨Bi, di, Bc, dc, rfl, rfl, hpin⟩ := dec_pin hd k1 k2
    exact ⟨Bi, di, Bc, dc, rfl, hpin, k3⟩)
  have HS1 := hide (fun (h12 : p.ids.length ≤ 18 ∧ p.chs.length ≤ 12) (wz : World) Bi Bc di dc (h : PIn wz p Ai Ac ci cc) (h' : PIn wz p Bi Bc di dc) => show Calls Tryd.prog 21 #[PchV p Ai Ac ci cc, PchV p Bi Bc di dc] wz fun y w' => y = .returned (.bool true) ∧ Below wz.heap.size wz w' from by
    have := psame_any p p Ai Ac Bi Bc ci cc di dc _ _ wz h.ids h.chs h'.ids h'.chs (by omega) (by omega)
    rw [decide_eq_true rfl] at this
    exact this)
  have HN2 := hide (fun (wz : World) Bi Bc di dc (h : PIn wz p Bi Bc di dc) (hE : Env wz) => pname_any p Bi Bc di dc wz h hE.most hE.tab)
  -- the bytes, read
  obtain ⟨D, f, hdb⟩ : ∃ D f, pdecode b = (D, f) := ⟨_, _, rfl⟩
  have HDb := hide (fun (hl : b.length ≤ 800) (wz : World) (h : Sl wz (fun _ => True) A' c' b) (hE : Env wz) => show Calls Tryd.prog 19 #[.slice A' b.length c'] wz fun y w' => ∃ Bi di Bc dc, y = .returned (.tuple #[PchV D Bi Bc di dc, .int .i64 (f : Int)]) ∧ PIn w' D Bi Bc di dc ∧ Below wz.heap.size wz w' from by
    refine (pdecode_any b A' c' _ wz h hE.most (by omega)).mono ?_
    rw [hdb]
    rintro y w' ⟨vi, vc, rfl, k1, k2, k3⟩
    obtain ⟨Bi, di, Bc, dc, rfl, rfl, hpin⟩ := dec_pin hdb k1 k2
    exact ⟨Bi, di, Bc, dc, rfl, hpin, k3⟩)
  have HEd := hide (fun (wz : World) Bi Bc di dc (h : PIn wz D Bi Bc di dc) (hE : Env wz) => pencode_any D Bi Bc di dc wz h hE.most)
  have Hok := hide (show f = 0 → pencode D = (b, 0) from fun hf => by
    subst hf
    obtain ⟨k1, k2⟩ := pform_decode hdb
    unfold pencode
    rw [if_pos k2, k1])
  have Hbad := hide (show f ≠ 0 → D = noPch from fun hf => by
    have := pdecode_none (b := b) (by rw [hdb]; exact hf)
    rw [hdb] at this
    exact this)
  have HSn := hide (fun (wz : World) Bi Bc di dc (h : PIn wz noPch Bi Bc di dc) => show Calls Tryd.prog 21 #[PchV noPch Bi Bc di dc, .agg #[.slice none 0 0, .string ⟨#[]⟩, .string ⟨#[]⟩, .slice none 0 0]] wz fun y w' => y = .returned (.bool true) ∧ Below wz.heap.size wz w' from by
    have := psame_any noPch noPch Bi Bc none none di dc 0 0 _ _ wz h.ids h.chs (pin_none wz).ids (pin_none wz).chs (by decide) (by decide)
    rw [decide_eq_true rfl] at this
    exact this)
  have HBy := hide (fun (hl : b.length ≤ 800) (wz : World) B d (h1 : Sl wz (fun _ => True) B d b) (h2 : Sl wz (fun _ => True) A' c' b) => bytes_any b b B A' d c' _ _ wz h1 h2 (by omega))
  have Hen := hide (show pencode p = if pright p then (pform p, 0) else ([], 1) from rfl)
  obtain ⟨N, hN⟩ : ∃ n, n = p.ids.length := ⟨_, rfl⟩
  obtain ⟨M, hM⟩ : ∃ n, n = p.chs.length := ⟨_, rfl⟩
  obtain ⟨nb, hnb⟩ : ∃ n, n = b.length := ⟨_, rfl⟩
  obtain ⟨nf, hnf⟩ : ∃ n, n = (pform p).length := ⟨_, rfl⟩
  have hb' := hb.imp (Q := fun _ => True) fun _ _ _ => trivial
  unfold PchV at HFw HE1 HN1 HD1 HS1 HN2 ⊢
  rw [← hN, ← hM] at HFw HE1 HN1 HD1 HS1 HN2 ⊢
  rw [← hnb] at HDb HBy ⊢
  rw [← hnf] at HD1
  rw [← hN, ← hM] at HFi
  have HNB := hide hnb
  have HNF := hide hnf
  generalize p.author = a at *
  generalize p.note = o at *
  generalize pname p = nm at *
  generalize pright p = pr at *
  generalize pform p = pf at *
  generalize pencode p = en at *
  generalize fewP p = fp at *
  obtain ⟨g, hg⟩ : ∃ g, g = w.heap.size := ⟨_, rfl⟩
  obtain ⟨w1, hw1⟩ : ∃ w1, w1 = w.alloc (.cells #[.slice Ai N ci, .string ⟨a.toArray⟩, .string ⟨o.toArray⟩, .slice Ac M cc] tP) := ⟨_, rfl⟩
  have hrow := Row.fresh w tP #[.slice Ai N ci, .string ⟨a.toArray⟩, .string ⟨o.toArray⟩, .slice Ac M cc]
  have hb1 : Below w.heap.size w w1 := by rw [hw1]; exact (Below.refl _ w).alloc (Nat.le_refl _) _
  rw [← hw1, ← hg] at hrow
  have HC := hide (show ∀ wz, Below w1.heap.size w1 wz → wz.cell? ⟨g, 0, none⟩ = some (.slice Ai N ci) ∧ wz.cell? ⟨g, 1, none⟩ = some (.string ⟨a.toArray⟩) ∧ wz.cell? ⟨g, 2, none⟩ = some (.string ⟨o.toArray⟩) ∧ wz.cell? ⟨g, 3, none⟩ = some (.slice Ac M cc) from fun wz hz => by
    have hr := hrow.below hz hrow.lt
    exact ⟨hr.cell 0, hr.cell 1, hr.cell 2, hr.cell 3⟩)
  have W1 := hide hw1
  have G1 := hide hg
  have E_0 := hide (hE)
  have B_0 := hide (Below.refl w.heap.size w)
  have P_0 := hide (hp)
  have S_0 := hide (hb')
  clear hE hp hb hb' hN hM hnb hnf hn hdb
  have hbx := hb1
  have E_1 := hide (E_0.out.keep hbx)
  have B_1 := hide (B_0.out.trans (hbx.mono B_0.out.size))
  have P_1 := hide (P_0.out.keep hbx)
  have S_1 := hide (S_0.out.move (w' := w1) fun b _ hlt => hbx.block b hlt)
  have R_1 := hide (Below.refl w1.heap.size w1)
  clear hbx E_0 B_0 P_0 S_0 hrow hb1 hw1 hg
  go_enter Tryd.func6, Tryd.ntmps6
  go_wp2_with (first | rw [← W1.out, ← G1.out] | fail)
  refine (pwake_any w1 E_1.out).mono ?_
  rintro y w2 ⟨rfl, hb2⟩
  have E_2 := hide (E_1.out.keep hb2)
  have B_2 := hide (B_1.out.trans (hb2.mono B_1.out.size))
  have P_2 := hide (P_1.out.keep hb2)
  have S_2 := hide (S_1.out.move (w' := w2) fun b _ hlt => hb2.block b hlt)
  have R_2 := hide (R_1.out.trans (hb2.mono R_1.out.size))
  clear hb2 E_1 B_1 P_1 S_1 R_1
  obtain ⟨k0, k1, k2, k3⟩ := HC.out w2 R_2.out
  go_wp2_with fail
  refine (HFw.out w2 P_2.out).mono ?_
  rintro y w3 ⟨rfl, hb3⟩
  have E_3 := hide (E_2.out.keep hb3)
  have B_3 := hide (B_2.out.trans (hb3.mono B_2.out.size))
  have P_3 := hide (P_2.out.keep hb3)
  have S_3 := hide (S_2.out.move (w' := w3) fun b _ hlt => hb3.block b hlt)
  have R_3 := hide (R_2.out.trans (hb3.mono R_2.out.size))
  clear hb3 E_2 B_2 P_2 S_2 R_2 HFw k0 k1 k2 k3
  cases fp with
  | false =>
    go_wp2
    go_ret
    exact ⟨rfl, B_3.out⟩
  | true =>
    obtain ⟨f1, f2, _, _⟩ := HFi.out rfl
    by_cases hlong : 800 < nb
    · have e1 : decide (800 < (nb : Int)) = true := decide_eq_true (by omega)
      have e2 : decide (800 < nb) = true := decide_eq_true hlong
      clear hlong f1 f2
      go_wp2
      go_ret
      exact ⟨rfl, B_3.out⟩
    · have e1 : decide (800 < (nb : Int)) = false := decide_eq_false (by omega)
      have e2 : decide (800 < nb) = false := decide_eq_false hlong
      have HDc := hide (HDb.out (by omega))
      have HBz := hide (HBy.out (by omega))
      have HSp := hide (HS1.out ⟨f1, f2⟩)
      clear HDb HBy HS1 hlong f1 f2 HFi
      obtain ⟨k0, k1, k2, k3⟩ := HC.out w3 R_3.out
      go_wp2_with fail
      refine (HE1.out w3 P_3.out E_3.out).mono ?_
      rintro y w4 ⟨v4, rfl, hown4, hb4⟩
      obtain ⟨A4, c4, rfl, hs4⟩ := hown4.sl
      have E_4 := hide (E_3.out.keep hb4)
      have B_4 := hide (B_3.out.trans (hb4.mono B_3.out.size))
      have P_4 := hide (P_3.out.keep hb4)
      have S_4 := hide (S_3.out.move (w' := w4) fun b _ hlt => hb4.block b hlt)
      have R_4 := hide (R_3.out.trans (hb4.mono R_3.out.size))
      clear hb4 E_3 B_3 P_3 S_3 R_3 hown4 HE1 k0 k1 k2 k3
      cases pr with
      | false =>
        have he := Hen.out
        rw [if_neg (by decide)] at he
        rw [he] at hs4 ⊢
        clear he hs4 HD1 HSp HN1 HN2 Hen
        go_wp2_with fail
        refine (HDc.out w4 S_4.out E_4.out).mono ?_
        rintro y w5 ⟨Bi, di, Bc, dc, rfl, hpin, hb5⟩
        have E_5 := hide (E_4.out.keep hb5)
        have B_5 := hide (B_4.out.trans (hb5.mono B_4.out.size))
        have P_5 := hide (P_4.out.keep hb5)
        have S_5 := hide (S_4.out.move (w' := w5) fun b _ hlt => hb5.block b hlt)
        have R_5 := hide (R_4.out.trans (hb5.mono R_4.out.size))
        have D_5 := hide (hpin)
        clear hb5 E_4 B_4 P_4 S_4 R_4 hpin HDc
        unfold PchV at HEd HSn ⊢
        obtain ⟨n1, hn1⟩ : ∃ n, n = D.ids.length := ⟨_, rfl⟩
        obtain ⟨n2, hn2⟩ : ∃ n, n = D.chs.length := ⟨_, rfl⟩
        have HEe := hide (HEd.out)
        rw [← hn1, ← hn2] at HEe ⊢
        have HN1' := hide hn1
        have HN2' := hide hn2
        obtain ⟨da, hda⟩ : ∃ x, x = D.author := ⟨_, rfl⟩
        obtain ⟨dn, hdn⟩ : ∃ x, x = D.note := ⟨_, rfl⟩
        rw [← hda, ← hdn] at HEe ⊢
        have HDA := hide hda
        have HDN := hide hdn
        clear hn1 hn2 HEd hda hdn
        obtain ⟨qb, hqb⟩ : ∃ q, q = w5.heap.size := ⟨_, rfl⟩
        have hrw := Row.fresh w5 tP #[.slice Bi n1 di, .string ⟨da.toArray⟩, .string ⟨dn.toArray⟩, .slice Bc n2 dc]
        have hbP := (Below.refl w5.heap.size w5).alloc (Nat.le_refl _) (.cells #[.slice Bi n1 di, .string ⟨da.toArray⟩, .string ⟨dn.toArray⟩, .slice Bc n2 dc] tP)
        obtain ⟨w6, hwP⟩ : ∃ z, z = w5.alloc (.cells #[.slice Bi n1 di, .string ⟨da.toArray⟩, .string ⟨dn.toArray⟩, .slice Bc n2 dc] tP) := ⟨_, rfl⟩
        rw [← hwP] at hrw hbP
        rw [← hqb] at hrw
        have HQb := hide (show ∀ wz, Below w6.heap.size w6 wz → wz.cell? ⟨qb, 0, none⟩ = some (.slice Bi n1 di) ∧ wz.cell? ⟨qb, 1, none⟩ = some (.string ⟨da.toArray⟩) ∧ wz.cell? ⟨qb, 2, none⟩ = some (.string ⟨dn.toArray⟩) ∧ wz.cell? ⟨qb, 3, none⟩ = some (.slice Bc n2 dc) from fun wz hz => by
          have hr := hrw.below hz hrw.lt
          exact ⟨hr.cell 0, hr.cell 1, hr.cell 2, hr.cell 3⟩)
        have Hwqb := hide hwP
        have Hqqb := hide hqb
        clear hwP hqb
        have E_6 := hide (E_5.out.keep hbP)
        have B_6 := hide (B_5.out.trans (hbP.mono B_5.out.size))
        have P_6 := hide (P_5.out.keep hbP)
        have S_6 := hide (S_5.out.move (w' := w6) fun b _ hlt => hbP.block b hlt)
        have R_6 := hide (R_5.out.trans (hbP.mono R_5.out.size))
        have D_6 := hide (D_5.out.keep hbP)
        have Qb_6 := hide (Below.refl w6.heap.size w6)
        clear hbP E_5 B_5 P_5 S_5 R_5 D_5 hrw
        obtain ⟨k0, k1, k2, k3⟩ := HQb.out w6 Qb_6.out
        go_wp2_with (first | rw [← Hwqb.out, ← Hqqb.out] | fail)
        refine (HEe.out w6 Bi Bc di dc D_6.out E_6.out).mono ?_
        rintro y w7 ⟨v9, rfl, hown9, hb7⟩
        obtain ⟨A9, c9, rfl, hs9⟩ := hown9.sl
        have E_7 := hide (E_6.out.keep hb7)
        have B_7 := hide (B_6.out.trans (hb7.mono B_6.out.size))
        have P_7 := hide (P_6.out.keep hb7)
        have S_7 := hide (S_6.out.move (w' := w7) fun b _ hlt => hb7.block b hlt)
        have R_7 := hide (R_6.out.trans (hb7.mono R_6.out.size))
        have D_7 := hide (D_6.out.keep hb7)
        have Qb_7 := hide (Qb_6.out.trans (hb7.mono Qb_6.out.size))
        clear hb7 E_6 B_6 P_6 S_6 R_6 D_6 Qb_6 hown9 HEe k0 k1 k2 k3
        by_cases hf : f = 0
        · have hpd := Hok.out hf
          rw [hpd] at hs9 ⊢
          have e3 : ((f : Int) != 0) = false := by rw [bne_eq_false_iff_eq]; omega
          have e4 : ((f : Int) == 0) = true := by rw [beq_iff_eq]; omega
          have e5 : decide ((f : Int) = 0) = true := decide_eq_true (by omega)
          have Hs9 := hide (hs9.imp (Q := fun _ => True) fun _ _ _ => trivial)
          simp only
          rw [← HNB.out]
          clear hf hpd hs9 HSn Hbad Hok
          go_wp2_with fail
          refine (HBz.out w7 A9 c9 Hs9.out S_7.out).mono ?_
          rintro y w8 ⟨rfl, hb8⟩
          have E_8 := hide (E_7.out.keep hb8)
          have B_8 := hide (B_7.out.trans (hb8.mono B_7.out.size))
          have P_8 := hide (P_7.out.keep hb8)
          have S_8 := hide (S_7.out.move (w' := w8) fun b _ hlt => hb8.block b hlt)
          have R_8 := hide (R_7.out.trans (hb8.mono R_7.out.size))
          have D_8 := hide (D_7.out.keep hb8)
          have Qb_8 := hide (Qb_7.out.trans (hb8.mono Qb_7.out.size))
          clear hb8 E_7 B_7 P_7 S_7 R_7 D_7 Qb_7 HBz Hs9
          go_wp2
          go_ret
          exact ⟨by simp, B_8.out⟩
        · have hD := Hbad.out hf
          have e3 : ((f : Int) != 0) = true := by rw [bne_iff_ne]; omega
          have e4 : ((f : Int) == 0) = false := by rw [beq_eq_false_iff_ne]; omega
          have e5 : decide ((f : Int) = 0) = false := decide_eq_false (by omega)
          obtain ⟨k0, k1, k2, k3⟩ := HQb.out w7 Qb_7.out
          have HSm := hide (show Calls Tryd.prog 21 #[.agg #[.slice Bi n1 di, .string ⟨da.toArray⟩, .string ⟨dn.toArray⟩, .slice Bc n2 dc], .agg #[.slice none 0 0, .string ⟨#[]⟩, .string ⟨#[]⟩, .slice none 0 0]] w7 fun y w' => y = .returned (.bool true) ∧ Below w7.heap.size w7 w' from by
            have hd := D_7.out
            have h1 := HN1'.out
            have h2 := HN2'.out
            have h3 := HDA.out
            have h4 := HDN.out
            rw [hD] at hd h1 h2 h3 h4
            rw [h1, h2, h3, h4]
            exact HSn.out _ Bi Bc di dc hd)
          clear hf hD hs9 HSn Hbad Hok
          generalize (pencode D).1 = ys at *
          generalize (pencode D).2 = ye at *
          go_wp2_with fail
          refine (HSm.out).mono ?_
          rintro y w8 ⟨rfl, hb8⟩
          have E_8 := hide (E_7.out.keep hb8)
          have B_8 := hide (B_7.out.trans (hb8.mono B_7.out.size))
          have P_8 := hide (P_7.out.keep hb8)
          have S_8 := hide (S_7.out.move (w' := w8) fun b _ hlt => hb8.block b hlt)
          have R_8 := hide (R_7.out.trans (hb8.mono R_7.out.size))
          have D_8 := hide (D_7.out.keep hb8)
          have Qb_8 := hide (Qb_7.out.trans (hb8.mono Qb_7.out.size))
          clear hb8 E_7 B_7 P_7 S_7 R_7 D_7 Qb_7 HSm k0 k1 k2 k3
          go_wp2
          go_ret
          exact ⟨by simp, B_8.out⟩
      | true =>
        have he := Hen.out
        rw [if_pos rfl] at he
        rw [he] at hs4 ⊢
        have HsX := hide (hs4.imp (Q := fun _ => True) fun _ _ _ => trivial)
        simp only
        rw [← HNF.out]
        clear he hs4 Hen
        go_wp2_with fail
        refine (HD1.out (by trivial) w4 A4 c4 HsX.out E_4.out).mono ?_
        rintro y w5 ⟨Bi, di, Bc, dc, rfl, hpin, hb5⟩
        have E_5 := hide (E_4.out.keep hb5)
        have B_5 := hide (B_4.out.trans (hb5.mono B_4.out.size))
        have P_5 := hide (P_4.out.keep hb5)
        have S_5 := hide (S_4.out.move (w' := w5) fun b _ hlt => hb5.block b hlt)
        have R_5 := hide (R_4.out.trans (hb5.mono R_4.out.size))
        have X_5 := hide (hpin)
        clear hb5 E_4 B_4 P_4 S_4 R_4 hpin HD1 HsX
        obtain ⟨qa, hqa⟩ : ∃ q, q = w5.heap.size := ⟨_, rfl⟩
        have hrw := Row.fresh w5 tP #[.slice Bi N di, .string ⟨a.toArray⟩, .string ⟨o.toArray⟩, .slice Bc M dc]
        have hbP := (Below.refl w5.heap.size w5).alloc (Nat.le_refl _) (.cells #[.slice Bi N di, .string ⟨a.toArray⟩, .string ⟨o.toArray⟩, .slice Bc M dc] tP)
        obtain ⟨w6, hwP⟩ : ∃ z, z = w5.alloc (.cells #[.slice Bi N di, .string ⟨a.toArray⟩, .string ⟨o.toArray⟩, .slice Bc M dc] tP) := ⟨_, rfl⟩
        rw [← hwP] at hrw hbP
        rw [← hqa] at hrw
        have HQa := hide (show ∀ wz, Below w6.heap.size w6 wz → wz.cell? ⟨qa, 0, none⟩ = some (.slice Bi N di) ∧ wz.cell? ⟨qa, 1, none⟩ = some (.string ⟨a.toArray⟩) ∧ wz.cell? ⟨qa, 2, none⟩ = some (.string ⟨o.toArray⟩) ∧ wz.cell? ⟨qa, 3, none⟩ = some (.slice Bc M dc) from fun wz hz => by
          have hr := hrw.below hz hrw.lt
          exact ⟨hr.cell 0, hr.cell 1, hr.cell 2, hr.cell 3⟩)
        have Hwqa := hide hwP
        have Hqqa := hide hqa
        clear hwP hqa
        have E_6 := hide (E_5.out.keep hbP)
        have B_6 := hide (B_5.out.trans (hbP.mono B_5.out.size))
        have P_6 := hide (P_5.out.keep hbP)
        have S_6 := hide (S_5.out.move (w' := w6) fun b _ hlt => hbP.block b hlt)
        have R_6 := hide (R_5.out.trans (hbP.mono R_5.out.size))
        have X_6 := hide (X_5.out.keep hbP)
        have Qa_6 := hide (Below.refl w6.heap.size w6)
        clear hbP E_5 B_5 P_5 S_5 R_5 X_5 hrw
        go_wp2_with (first | rw [← Hwqa.out, ← Hqqa.out] | fail)
        obtain ⟨t0, t1, t2, t3⟩ := HC.out w6.drew R_6.out.drew
        obtain ⟨u0, u1, u2, u3⟩ := HQa.out w6.drew Qa_6.out.drew
        refine Rg.wp_region_ord (fun w' => (w'.cell? ⟨g, 0, none⟩ = some (.slice Ai N ci) ∧ w'.cell? ⟨g, 1, none⟩ = some (.string ⟨a.toArray⟩) ∧ w'.cell? ⟨g, 2, none⟩ = some (.string ⟨o.toArray⟩) ∧ w'.cell? ⟨g, 3, none⟩ = some (.slice Ac M cc)) ∧ w'.cell? ⟨qa, 0, none⟩ = some (.slice Bi N di) ∧ w'.cell? ⟨qa, 1, none⟩ = some (.string ⟨a.toArray⟩) ∧ w'.cell? ⟨qa, 2, none⟩ = some (.string ⟨o.toArray⟩) ∧ w'.cell? ⟨qa, 3, none⟩ = some (.slice Bc M dc)) [(0, true), (1, true), (2, true), (3, true), (4, true), (5, false), (6, true), (7, true), (8, true), (9, true), (11, true), (10, false), (12, false), (13, true), (14, true)] (by kernel_rfl) (by kernel_rfl) ?_
        simp only [Rg.pick, List.map_cons, List.map_nil, List.getD_cons_zero, List.getD_cons_succ]
        iterate 3 (refine Rg.ord_quiet (v := ?_) rfl (fun w' hS => ?_) ⟨⟨t0, t1, t2, t3⟩, u0, u1, u2, u3⟩ ?_; rotate_left; (obtain ⟨⟨z0, z1, z2, z3⟩, y0, y1, y2, y3⟩ := hS; go_simp; with_reducible rfl); simp only [Act.put, List.setIfInBounds_toArray, List.set_cons_succ, List.set_cons_zero])
        iterate 2 (refine Rg.ord_guarded (v := ?_) (by rfl) (fun w' hS => ?_) ⟨⟨t0, t1, t2, t3⟩, u0, u1, u2, u3⟩ ?_; rotate_left; (obtain ⟨⟨z0, z1, z2, z3⟩, y0, y1, y2, y3⟩ := hS; go_simp; with_reducible rfl); simp only [Act.put, List.setIfInBounds_toArray, List.set_cons_succ, List.set_cons_zero])
        have hbd := (Below.refl w6.heap.size w6).drew
        obtain ⟨w7, hwd⟩ : ∃ z, z = w6.drew := ⟨_, rfl⟩
        rw [← hwd] at hbd t0 t1 t2 t3 u0 u1 u2 u3 ⊢
        have Hwd := hide hwd
        clear hwd
        have E_7 := hide (E_6.out.keep hbd)
        have B_7 := hide (B_6.out.trans (hbd.mono B_6.out.size))
        have P_7 := hide (P_6.out.keep hbd)
        have S_7 := hide (S_6.out.move (w' := w7) fun b _ hlt => hbd.block b hlt)
        have R_7 := hide (R_6.out.trans (hbd.mono R_6.out.size))
        have X_7 := hide (X_6.out.keep hbd)
        have Qa_7 := hide (Qa_6.out.trans (hbd.mono Qa_6.out.size))
        clear hbd E_6 B_6 P_6 S_6 R_6 X_6 Qa_6
        refine Rg.ord_loud (by rfl) (fun K hK => ?_)
        go_simp
        refine (HSp.out w7 Bi Bc di dc P_7.out X_7.out).mono ?_
        rintro y w8 ⟨rfl, hb8⟩
        have E_8 := hide (E_7.out.keep hb8)
        have B_8 := hide (B_7.out.trans (hb8.mono B_7.out.size))
        have P_8 := hide (P_7.out.keep hb8)
        have S_8 := hide (S_7.out.move (w' := w8) fun b _ hlt => hb8.block b hlt)
        have R_8 := hide (R_7.out.trans (hb8.mono R_7.out.size))
        have X_8 := hide (X_7.out.keep hb8)
        have Qa_8 := hide (Qa_7.out.trans (hb8.mono Qa_7.out.size))
        clear hb8 E_7 B_7 P_7 S_7 R_7 X_7 Qa_7
        obtain ⟨t0, t1, t2, t3⟩ := HC.out w8 R_8.out
        obtain ⟨u0, u1, u2, u3⟩ := HQa.out w8 Qa_8.out
        refine hK _ _ (fun _ => ⟨⟨t0, t1, t2, t3⟩, u0, u1, u2, u3⟩) ?_
        clear hK K HSp
        iterate 1 (refine Rg.ord_guarded (v := ?_) (by rfl) (fun w' hS => ?_) ⟨⟨t0, t1, t2, t3⟩, u0, u1, u2, u3⟩ ?_; rotate_left; (obtain ⟨⟨z0, z1, z2, z3⟩, y0, y1, y2, y3⟩ := hS; go_simp; with_reducible rfl); simp only [Act.put, List.setIfInBounds_toArray, List.set_cons_succ, List.set_cons_zero])
        iterate 2 (refine Rg.ord_quiet (v := ?_) rfl (fun w' hS => ?_) ⟨⟨t0, t1, t2, t3⟩, u0, u1, u2, u3⟩ ?_; rotate_left; (obtain ⟨⟨z0, z1, z2, z3⟩, y0, y1, y2, y3⟩ := hS; go_simp; with_reducible rfl); simp only [Act.put, List.setIfInBounds_toArray, List.set_cons_succ, List.set_cons_zero])
        iterate 2 (refine Rg.ord_guarded (v := ?_) (by rfl) (fun w' hS => ?_) ⟨⟨t0, t1, t2, t3⟩, u0, u1, u2, u3⟩ ?_; rotate_left; (obtain ⟨⟨z0, z1, z2, z3⟩, y0, y1, y2, y3⟩ := hS; go_simp; with_reducible rfl); simp only [Act.put, List.setIfInBounds_toArray, List.set_cons_succ, List.set_cons_zero])
        refine Rg.ord_loud (by rfl) (fun K hK => ?_)
        go_simp
        refine (HN2.out w8 Bi Bc di dc X_8.out E_8.out).mono ?_
        rintro y w9 ⟨rfl, hb9⟩
        have E_9 := hide (E_8.out.keep hb9)
        have B_9 := hide (B_8.out.trans (hb9.mono B_8.out.size))
        have P_9 := hide (P_8.out.keep hb9)
        have S_9 := hide (S_8.out.move (w' := w9) fun b _ hlt => hb9.block b hlt)
        have R_9 := hide (R_8.out.trans (hb9.mono R_8.out.size))
        have X_9 := hide (X_8.out.keep hb9)
        have Qa_9 := hide (Qa_8.out.trans (hb9.mono Qa_8.out.size))
        clear hb9 E_8 B_8 P_8 S_8 R_8 X_8 Qa_8
        obtain ⟨t0, t1, t2, t3⟩ := HC.out w9 R_9.out
        obtain ⟨u0, u1, u2, u3⟩ := HQa.out w9 Qa_9.out
        refine hK _ _ (fun _ => ⟨⟨t0, t1, t2, t3⟩, u0, u1, u2, u3⟩) ?_
        clear hK K HN2
        refine Rg.ord_loud (by rfl) (fun K hK => ?_)
        go_simp
        refine (HN1.out w9 P_9.out E_9.out).mono ?_
        rintro y w10 ⟨rfl, hb10⟩
        have E_10 := hide (E_9.out.keep hb10)
        have B_10 := hide (B_9.out.trans (hb10.mono B_9.out.size))
        have P_10 := hide (P_9.out.keep hb10)
        have S_10 := hide (S_9.out.move (w' := w10) fun b _ hlt => hb10.block b hlt)
        have R_10 := hide (R_9.out.trans (hb10.mono R_9.out.size))
        have X_10 := hide (X_9.out.keep hb10)
        have Qa_10 := hide (Qa_9.out.trans (hb10.mono Qa_9.out.size))
        clear hb10 E_9 B_9 P_9 S_9 R_9 X_9 Qa_9
        obtain ⟨t0, t1, t2, t3⟩ := HC.out w10 R_10.out
        obtain ⟨u0, u1, u2, u3⟩ := HQa.out w10 Qa_10.out
        refine hK _ _ (fun _ => ⟨⟨t0, t1, t2, t3⟩, u0, u1, u2, u3⟩) ?_
        clear hK K HN1
        iterate 1 (refine Rg.ord_guarded (v := ?_) (by rfl) (fun w' hS => ?_) ⟨⟨t0, t1, t2, t3⟩, u0, u1, u2, u3⟩ ?_; rotate_left; (obtain ⟨⟨z0, z1, z2, z3⟩, y0, y1, y2, y3⟩ := hS; go_simp; with_reducible rfl); simp only [Act.put, List.setIfInBounds_toArray, List.set_cons_succ, List.set_cons_zero])
        iterate 1 (refine Rg.ord_quiet (v := ?_) rfl (fun w' hS => ?_) ⟨⟨t0, t1, t2, t3⟩, u0, u1, u2, u3⟩ ?_; rotate_left; (obtain ⟨⟨z0, z1, z2, z3⟩, y0, y1, y2, y3⟩ := hS; go_simp; with_reducible rfl); simp only [Act.put, List.setIfInBounds_toArray, List.set_cons_succ, List.set_cons_zero])
        refine Rg.ord_nil ?_
        clear t0 t1 t2 t3 u0 u1 u2 u3
        have en1 : (nm != nm) = false := by simp
        go_wp2_with fail
        refine (HDc.out w10 S_10.out E_10.out).mono ?_
        rintro y w11 ⟨Bi, di, Bc, dc, rfl, hpin, hb11⟩
        have E_11 := hide (E_10.out.keep hb11)
        have B_11 := hide (B_10.out.trans (hb11.mono B_10.out.size))
        have P_11 := hide (P_10.out.keep hb11)
        have S_11 := hide (S_10.out.move (w' := w11) fun b _ hlt => hb11.block b hlt)
        have R_11 := hide (R_10.out.trans (hb11.mono R_10.out.size))
        have D_11 := hide (hpin)
        clear hb11 E_10 B_10 P_10 S_10 R_10 hpin HDc
        unfold PchV at HEd HSn ⊢
        obtain ⟨n1, hn1⟩ : ∃ n, n = D.ids.length := ⟨_, rfl⟩
        obtain ⟨n2, hn2⟩ : ∃ n, n = D.chs.length := ⟨_, rfl⟩
        have HEe := hide (HEd.out)
        rw [← hn1, ← hn2] at HEe ⊢
        have HN1' := hide hn1
        have HN2' := hide hn2
        obtain ⟨da, hda⟩ : ∃ x, x = D.author := ⟨_, rfl⟩
        obtain ⟨dn, hdn⟩ : ∃ x, x = D.note := ⟨_, rfl⟩
        rw [← hda, ← hdn] at HEe ⊢
        have HDA := hide hda
        have HDN := hide hdn
        clear hn1 hn2 HEd hda hdn
        obtain ⟨qb, hqb⟩ : ∃ q, q = w11.heap.size := ⟨_, rfl⟩
        have hrw := Row.fresh w11 tP #[.slice Bi n1 di, .string ⟨da.toArray⟩, .string ⟨dn.toArray⟩, .slice Bc n2 dc]
        have hbP := (Below.refl w11.heap.size w11).alloc (Nat.le_refl _) (.cells #[.slice Bi n1 di, .string ⟨da.toArray⟩, .string ⟨dn.toArray⟩, .slice Bc n2 dc] tP)
        obtain ⟨w12, hwP⟩ : ∃ z, z = w11.alloc (.cells #[.slice Bi n1 di, .string ⟨da.toArray⟩, .string ⟨dn.toArray⟩, .slice Bc n2 dc] tP) := ⟨_, rfl⟩
        rw [← hwP] at hrw hbP
        rw [← hqb] at hrw
        have HQb := hide (show ∀ wz, Below w12.heap.size w12 wz → wz.cell? ⟨qb, 0, none⟩ = some (.slice Bi n1 di) ∧ wz.cell? ⟨qb, 1, none⟩ = some (.string ⟨da.toArray⟩) ∧ wz.cell? ⟨qb, 2, none⟩ = some (.string ⟨dn.toArray⟩) ∧ wz.cell? ⟨qb, 3, none⟩ = some (.slice Bc n2 dc) from fun wz hz => by
          have hr := hrw.below hz hrw.lt
          exact ⟨hr.cell 0, hr.cell 1, hr.cell 2, hr.cell 3⟩)
        have Hwqb := hide hwP
        have Hqqb := hide hqb
        clear hwP hqb
        have E_12 := hide (E_11.out.keep hbP)
        have B_12 := hide (B_11.out.trans (hbP.mono B_11.out.size))
        have P_12 := hide (P_11.out.keep hbP)
        have S_12 := hide (S_11.out.move (w' := w12) fun b _ hlt => hbP.block b hlt)
        have R_12 := hide (R_11.out.trans (hbP.mono R_11.out.size))
        have D_12 := hide (D_11.out.keep hbP)
        have Qb_12 := hide (Below.refl w12.heap.size w12)
        clear hbP E_11 B_11 P_11 S_11 R_11 D_11 hrw
        obtain ⟨k0, k1, k2, k3⟩ := HQb.out w12 Qb_12.out
        go_wp2_with (first | rw [← Hwqb.out, ← Hqqb.out] | fail)
        refine (HEe.out w12 Bi Bc di dc D_12.out E_12.out).mono ?_
        rintro y w13 ⟨v9, rfl, hown9, hb13⟩
        obtain ⟨A9, c9, rfl, hs9⟩ := hown9.sl
        have E_13 := hide (E_12.out.keep hb13)
        have B_13 := hide (B_12.out.trans (hb13.mono B_12.out.size))
        have P_13 := hide (P_12.out.keep hb13)
        have S_13 := hide (S_12.out.move (w' := w13) fun b _ hlt => hb13.block b hlt)
        have R_13 := hide (R_12.out.trans (hb13.mono R_12.out.size))
        have D_13 := hide (D_12.out.keep hb13)
        have Qb_13 := hide (Qb_12.out.trans (hb13.mono Qb_12.out.size))
        clear hb13 E_12 B_12 P_12 S_12 R_12 D_12 Qb_12 hown9 HEe k0 k1 k2 k3
        by_cases hf : f = 0
        · have hpd := Hok.out hf
          rw [hpd] at hs9 ⊢
          have e3 : ((f : Int) != 0) = false := by rw [bne_eq_false_iff_eq]; omega
          have e4 : ((f : Int) == 0) = true := by rw [beq_iff_eq]; omega
          have e5 : decide ((f : Int) = 0) = true := decide_eq_true (by omega)
          have Hs9 := hide (hs9.imp (Q := fun _ => True) fun _ _ _ => trivial)
          simp only
          rw [← HNB.out]
          clear hf hpd hs9 HSn Hbad Hok
          go_wp2_with fail
          refine (HBz.out w13 A9 c9 Hs9.out S_13.out).mono ?_
          rintro y w14 ⟨rfl, hb14⟩
          have E_14 := hide (E_13.out.keep hb14)
          have B_14 := hide (B_13.out.trans (hb14.mono B_13.out.size))
          have P_14 := hide (P_13.out.keep hb14)
          have S_14 := hide (S_13.out.move (w' := w14) fun b _ hlt => hb14.block b hlt)
          have R_14 := hide (R_13.out.trans (hb14.mono R_13.out.size))
          have D_14 := hide (D_13.out.keep hb14)
          have Qb_14 := hide (Qb_13.out.trans (hb14.mono Qb_13.out.size))
          clear hb14 E_13 B_13 P_13 S_13 R_13 D_13 Qb_13 HBz Hs9
          go_wp2
          go_ret
          exact ⟨by simp, B_14.out⟩
        · have hD := Hbad.out hf
          have e3 : ((f : Int) != 0) = true := by rw [bne_iff_ne]; omega
          have e4 : ((f : Int) == 0) = false := by rw [beq_eq_false_iff_ne]; omega
          have e5 : decide ((f : Int) = 0) = false := decide_eq_false (by omega)
          obtain ⟨k0, k1, k2, k3⟩ := HQb.out w13 Qb_13.out
          have HSm := hide (show Calls Tryd.prog 21 #[.agg #[.slice Bi n1 di, .string ⟨da.toArray⟩, .string ⟨dn.toArray⟩, .slice Bc n2 dc], .agg #[.slice none 0 0, .string ⟨#[]⟩, .string ⟨#[]⟩, .slice none 0 0]] w13 fun y w' => y = .returned (.bool true) ∧ Below w13.heap.size w13 w' from by
            have hd := D_13.out
            have h1 := HN1'.out
            have h2 := HN2'.out
            have h3 := HDA.out
            have h4 := HDN.out
            rw [hD] at hd h1 h2 h3 h4
            rw [h1, h2, h3, h4]
            exact HSn.out _ Bi Bc di dc hd)
          clear hf hD hs9 HSn Hbad Hok
          generalize (pencode D).1 = ys at *
          generalize (pencode D).2 = ye at *
          go_wp2_with fail
          refine (HSm.out).mono ?_
          rintro y w14 ⟨rfl, hb14⟩
          have E_14 := hide (E_13.out.keep hb14)
          have B_14 := hide (B_13.out.trans (hb14.mono B_13.out.size))
          have P_14 := hide (P_13.out.keep hb14)
          have S_14 := hide (S_13.out.move (w' := w14) fun b _ hlt => hb14.block b hlt)
          have R_14 := hide (R_13.out.trans (hb14.mono R_13.out.size))
          have D_14 := hide (D_13.out.keep hb14)
          have Qb_14 := hide (Qb_13.out.trans (hb14.mono Qb_13.out.size))
          clear hb14 E_13 B_13 P_13 S_13 R_13 D_13 Qb_13 HSm k0 k1 k2 k3
          go_wp2
          go_ret
          exact ⟨by simp, B_14.out⟩
end Go.Proofs.YtabgkfkjnpcbkaaDoor.Tr
