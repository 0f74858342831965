/-
  The patch of any bytes, or why there is none, is as the document says: the law PatchDecodes.
-/
import Derived.BigQuiet
import Derived.Test.YtabgkfkjnpcbkaaDoorQD
import Derived.Test.YtabgkfkjnpcbkaaDoorQL
namespace Go.Proofs.YtabgkfkjnpcbkaaDoor.Tr
open Go Go.RowKit Kt Lw Li Lx Df Wr

set_option maxRecDepth 100000 in
set_option maxHeartbeats 4000000 in
theorem lawDecodes12_any (b : Bs) (A' : Option Addr) (c' : Nat) (Pb : Nat → Prop) (w : World) (hb : Sl w Pb A' c' b) (hE : Env w) (hn : b.length ≤ 9223372036854775807) :
    Calls Tryd.prog 4 #[.slice A' b.length c'] w fun y w' => y = .returned (.bool true) ∧ Below w.heap.size w w' := by
  obtain ⟨D, f, hdb⟩ : ∃ D f, pdecode b = (D, f) := ⟨_, _, rfl⟩
  have HD1 := hide (fun (hl : b.length ≤ 800) (wz : World) (h : Sl wz (fun _ => True) A' c' b) (hE : Env wz) => show Calls Tryd.prog 19 #[.slice A' b.length c'] wz fun y w' => ∃ Bi di Bc dc, y = .returned (.tuple #[PchV D Bi Bc di dc, .int .i64 (f : Int)]) ∧ PIn w' D Bi Bc di dc ∧ Below wz.heap.size wz w' from by
    refine (pdecode_any b A' c' _ wz h hE.most (by omega)).mono ?_
    rw [hdb]
    rintro y w' ⟨vi, vc, rfl, k1, k2, k3⟩
    obtain ⟨Bi, di, Bc, dc, rfl, rfl, hpin⟩ := dec_pin hdb k1 k2
    exact ⟨Bi, di, Bc, dc, rfl, hpin, k3⟩)
  have HD2 := hide (fun (hl : b.length ≤ 800) (wz : World) (h : Sl wz (fun _ => True) A' c' b) => show Calls Tryd.prog 20 #[.slice A' b.length c'] wz fun y w' => ∃ Bi di Bc dc, y = .returned (.tuple #[PchV D Bi Bc di dc, .int .i64 (f : Int)]) ∧ PIn w' D Bi Bc di dc ∧ Below wz.heap.size wz w' from by
    refine (rdecode12_any b A' c' wz h (by omega)).mono ?_
    rw [hdb]
    rintro y w' ⟨vi, vc, rfl, k1, k2, k3⟩
    obtain ⟨Bi, di, Bc, dc, rfl, rfl, hpin⟩ := dec_pin hdb k1 k2
    exact ⟨Bi, di, Bc, dc, rfl, hpin, k3⟩)
  have HLn := hide (show D.ids.length ≤ 1000000 ∧ D.chs.length ≤ 1000000 from by
    by_cases hf : f = 0
    · subst hf
      have hr := pright_is (pform_decode hdb).2
      omega
    · have := pdecode_none (b := b) (by rw [hdb]; exact hf)
      rw [hdb] at this
      simp only at this
      subst this
      exact ⟨by decide, by decide⟩)
  have HS1 := hide (fun (wz : World) Ai Ac ci cc Bi Bc di dc (h : PIn wz D Ai Ac ci cc) (h' : PIn wz D Bi Bc di dc) => show Calls Tryd.prog 21 #[PchV D Ai Ac ci cc, PchV D Bi Bc di dc] wz fun y w' => y = .returned (.bool true) ∧ Below wz.heap.size wz w' from by
    have := psame_any D D Ai Ac Bi Bc ci cc di dc _ _ wz h.ids h.chs h'.ids h'.chs HLn.out.1 HLn.out.2
    rw [decide_eq_true rfl] at this
    exact this)
  obtain ⟨nb, hnb⟩ : ∃ n, n = b.length := ⟨_, rfl⟩
  obtain ⟨n1, hn1⟩ : ∃ n, n = D.ids.length := ⟨_, rfl⟩
  obtain ⟨n2, hn2⟩ : ∃ n, n = D.chs.length := ⟨_, rfl⟩
  have hb' := hb.imp (Q := fun _ => True) fun _ _ _ => trivial
  unfold PchV at HD1 HD2 HS1
  rw [← hn1, ← hn2] at HD1 HD2 HS1
  rw [← hnb] at HD1 HD2 ⊢
  generalize D.author = a at *
  generalize D.note = o at *
  have E_0 := hide (hE)
  have B_0 := hide (Below.refl w.heap.size w)
  have S_0 := hide (hb')
  clear hE hb hb' hn1 hn2 hnb hn hdb HLn
  go_enter Tryd.func4, Tryd.ntmps4
  go_wp2_with fail
  refine (pwake_any w E_0.out).mono ?_
  rintro y w1 ⟨rfl, hb1⟩
  have E_1 := hide (E_0.out.keep hb1)
  have B_1 := hide (B_0.out.trans (hb1.mono B_0.out.size))
  have S_1 := hide (S_0.out.move (w' := w1) fun b _ hlt => hb1.block b hlt)
  clear hb1 E_0 B_0 S_0
  by_cases hlong : 800 < nb
  · have e1 : decide (800 < (nb : Int)) = true := decide_eq_true (by omega)
    clear hlong
    go_wp2
    go_ret
    exact ⟨rfl, B_1.out⟩
  · have e1 : decide (800 < (nb : Int)) = false := decide_eq_false (by omega)
    have HDp := hide (HD1.out (by omega))
    have HDr := hide (HD2.out (by omega))
    clear HD1 HD2 hlong
    go_wp2_with fail
    clear e1
    refine (HDp.out w1 S_1.out E_1.out).mono ?_
    rintro y w2 ⟨Ai, ci, Ac, cc, rfl, hpin, hb2⟩
    have E_2 := hide (E_1.out.keep hb2)
    have B_2 := hide (B_1.out.trans (hb2.mono B_1.out.size))
    have S_2 := hide (S_1.out.move (w' := w2) fun b _ hlt => hb2.block b hlt)
    have X_2 := hide hpin
    clear hb2 E_1 B_1 S_1 hpin HDp
    obtain ⟨q3, hq⟩ : ∃ q, q = w2.heap.size := ⟨_, rfl⟩
    have hrw := Row.fresh w2 tP #[.slice Ai n1 ci, .string ⟨a.toArray⟩, .string ⟨o.toArray⟩, .slice Ac n2 cc]
    have hbP := (Below.refl w2.heap.size w2).alloc (Nat.le_refl _) (.cells #[.slice Ai n1 ci, .string ⟨a.toArray⟩, .string ⟨o.toArray⟩, .slice Ac n2 cc] tP)
    obtain ⟨w3, hwP⟩ : ∃ z, z = w2.alloc (.cells #[.slice Ai n1 ci, .string ⟨a.toArray⟩, .string ⟨o.toArray⟩, .slice Ac n2 cc] tP) := ⟨_, rfl⟩
    rw [← hwP] at hrw hbP
    rw [← hq] at hrw
    have HC3 := hide (show ∀ wz, Below w3.heap.size w3 wz → wz.cell? ⟨q3, 0, none⟩ = some (.slice Ai n1 ci) ∧ wz.cell? ⟨q3, 1, none⟩ = some (.string ⟨a.toArray⟩) ∧ wz.cell? ⟨q3, 2, none⟩ = some (.string ⟨o.toArray⟩) ∧ wz.cell? ⟨q3, 3, none⟩ = some (.slice Ac n2 cc) from fun wz hz => by
      have hr := hrw.below hz hrw.lt
      exact ⟨hr.cell 0, hr.cell 1, hr.cell 2, hr.cell 3⟩)
    have WP3 := hide hwP
    have QP3 := hide hq
    have E_3 := hide (E_2.out.keep hbP)
    have B_3 := hide (B_2.out.trans (hbP.mono B_2.out.size))
    have S_3 := hide (S_2.out.move fun b _ hlt => hbP.block b hlt)
    have X_3 := hide (X_2.out.keep hbP)
    have T_3 := hide (Below.refl w3.heap.size w3)
    clear hrw hbP hwP hq E_2 B_2 S_2 X_2
    go_wp2_with (first | rw [← WP3.out, ← QP3.out] | fail)
    refine (HDr.out w3 S_3.out).mono ?_
    rintro y w4 ⟨Bi, di, Bc, dc, rfl, hpin, hb4⟩
    have B_4 := hide (B_3.out.trans (hb4.mono B_3.out.size))
    have X_4 := hide (X_3.out.keep hb4)
    have T_4 := hide (T_3.out.trans (hb4.mono T_3.out.size))
    have Y_4 := hide hpin
    clear hb4 B_3 X_3 T_3 S_3 hpin HDr WP3 QP3
    obtain ⟨q5, hq⟩ : ∃ q, q = w4.heap.size := ⟨_, rfl⟩
    have hrw := Row.fresh w4 tP #[.slice Bi n1 di, .string ⟨a.toArray⟩, .string ⟨o.toArray⟩, .slice Bc n2 dc]
    have hbP := (Below.refl w4.heap.size w4).alloc (Nat.le_refl _) (.cells #[.slice Bi n1 di, .string ⟨a.toArray⟩, .string ⟨o.toArray⟩, .slice Bc n2 dc] tP)
    obtain ⟨w5, hwP⟩ : ∃ z, z = w4.alloc (.cells #[.slice Bi n1 di, .string ⟨a.toArray⟩, .string ⟨o.toArray⟩, .slice Bc n2 dc] tP) := ⟨_, rfl⟩
    rw [← hwP] at hrw hbP
    rw [← hq] at hrw
    have HC5 := hide (show ∀ wz, Below w5.heap.size w5 wz → wz.cell? ⟨q5, 0, none⟩ = some (.slice Bi n1 di) ∧ wz.cell? ⟨q5, 1, none⟩ = some (.string ⟨a.toArray⟩) ∧ wz.cell? ⟨q5, 2, none⟩ = some (.string ⟨o.toArray⟩) ∧ wz.cell? ⟨q5, 3, none⟩ = some (.slice Bc n2 dc) from fun wz hz => by
      have hr := hrw.below hz hrw.lt
      exact ⟨hr.cell 0, hr.cell 1, hr.cell 2, hr.cell 3⟩)
    have WP5 := hide hwP
    have QP5 := hide hq
    have B_5 := hide (B_4.out.trans (hbP.mono B_4.out.size))
    have X_5 := hide (X_4.out.keep hbP)
    have Y_5 := hide (Y_4.out.keep hbP)
    have T_5 := hide (T_4.out.trans (hbP.mono T_4.out.size))
    have U_5 := hide (Below.refl w5.heap.size w5)
    clear hrw hbP hwP hq B_4 X_4 Y_4 T_4
    obtain ⟨k0, k1, k2, k3⟩ := HC3.out w5 T_5.out
    obtain ⟨l0, l1, l2, l3⟩ := HC5.out w5 U_5.out
    have hff : ((f : Int) == (f : Int)) = true := by simp
    go_wp2_with (first | rw [← WP5.out, ← QP5.out] | fail)
    refine (HS1.out w5 Ai Ac ci cc Bi Bc di dc X_5.out Y_5.out).mono ?_
    rintro y w6 ⟨rfl, hb6⟩
    have B_6 := hide (B_5.out.trans (hb6.mono B_5.out.size))
    clear hb6 k0 k1 k2 k3 l0 l1 l2 l3
    go_wp2
    go_ret
    exact ⟨rfl, B_6.out⟩
end Go.Proofs.YtabgkfkjnpcbkaaDoor.Tr
