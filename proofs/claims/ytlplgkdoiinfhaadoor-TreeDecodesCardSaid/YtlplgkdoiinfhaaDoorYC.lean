/-
  The tree of any bytes, or why there is none: the law TreeDecodes.
-/
import Derived.BigQuiet
import Derived.Test.YtlplgkdoiinfhaaDoorYA
import Derived.Test.YtlplgkdoiinfhaaDoorQ6
namespace Go.Proofs.YtlplgkdoiinfhaaDoor.Tr
open Go Go.RowKit Kt Lw Li Lx Df Wr

theorem decode_len (b : Bs) : (decode b).1.length ≤ 1000 := by
  by_cases h : (decode b).2 = 0
  · exact (right_go (enc_decode (b := b) (t := (decode b).1) (by rw [← h])).2).2
  · rw [decode_none h]; simp
set_option maxRecDepth 100000 in
set_option maxHeartbeats 4000000 in
theorem lawDecodes_any (b : Bs) (A' : Option Addr) (c' : Nat) (Pb : Nat → Prop) (w : World) (hb : Sl w Pb A' c' b) (hE : Env w) (hbn : b.length ≤ 9223372036854775807) :
    Calls Tryd.prog 4 #[.slice A' b.length c'] w fun y w' => y = .returned (.bool true) ∧ Below w.heap.size w w' := by
  have Hsb := hide (hb.imp (Q := fun _ => True) fun _ _ _ => trivial)
  have HE := hide hE
  have HDb := hide (fun (hl : b.length ≤ 600) (wz : World) (h : Sl wz (fun _ => True) A' c' b) (hE : Env wz) => tdecode_any b A' c' _ wz h hE.most (by omega))
  have HRb := hide (fun (hl : b.length ≤ 600) (wz : World) (h : Sl wz (fun _ => True) A' c' b) => rdecode_any b A' c' wz h (by omega))
  have HSm := hide (fun (wz : World) A1 A2 c1 c2 (h1 : Fls wz A1 c1 (decode b).1) (h : Fls wz A2 c2 (decode b).1) => same_any (decode b).1 (decode b).1 A1 A2 c1 c2 wz h1 h (by have := decode_len b; omega))
  generalize (decode b).1 = Y at *
  generalize (decode b).2 = f at *
  obtain ⟨M, hM⟩ : ∃ M, M = b.length := ⟨_, rfl⟩
  rw [← hM] at HDb HRb hbn ⊢
  clear hb hE hM
  go_enter Tryd.func4, Tryd.ntmps4
  have E_0 := hide (HE.out)
  have B_0 := hide (Below.refl w.heap.size w)
  have S_0 := hide (Hsb.out)
  clear Hsb HE
  go_wp2_with fail
  refine (wake_any w E_0.out).mono ?_
  rintro y w1 ⟨rfl, hb1⟩
  have E_1 := hide (E_0.out.keep hb1)
  have B_1 := hide (B_0.out.trans (hb1.mono B_0.out.size))
  have S_1 := hide (S_0.out.move (w' := w1) fun b _ hlt => hb1.block b hlt)
  clear hb1 E_0 B_0 S_0
  by_cases hlong : 600 < M
  · have d1 : decide (600 < (M : Int)) = true := decide_eq_true (by omega)
    have d2 : decide (600 < M) = true := decide_eq_true hlong
    clear hlong
    go_wp2
    go_ret
    exact ⟨rfl, B_1.out⟩
  · have d1 : decide (600 < (M : Int)) = false := decide_eq_false (by omega)
    have d2 : decide (600 < M) = false := decide_eq_false hlong
    have HD := hide (HDb.out (by omega))
    have HR := hide (HRb.out (by omega))
    clear hlong HDb HRb hbn
    go_wp2_with fail
    refine (HD.out w1 S_1.out E_1.out).mono ?_
    rintro y w2 ⟨v2, rfl, hown2, hb2⟩
    obtain ⟨A2, c2, rfl, hs2⟩ := hown2.fls
    have E_2 := hide (E_1.out.keep hb2)
    have B_2 := hide (B_1.out.trans (hb2.mono B_1.out.size))
    have S_2 := hide (S_1.out.move (w' := w2) fun b _ hlt => hb2.block b hlt)
    have X_2 := hide (hs2)
    clear hb2 E_1 B_1 S_1 hown2 hs2 HD
    go_wp2_with fail
    refine (HR.out w2 S_2.out).mono ?_
    rintro y w3 ⟨v3, rfl, hown3, hb3⟩
    obtain ⟨A3, c3, rfl, hs3⟩ := hown3.fls
    have E_3 := hide (E_2.out.keep hb3)
    have B_3 := hide (B_2.out.trans (hb3.mono B_2.out.size))
    have S_3 := hide (S_2.out.move (w' := w3) fun b _ hlt => hb3.block b hlt)
    have X_3 := hide (X_2.out.keep hb3)
    have Y_3 := hide (hs3)
    clear hb3 E_2 B_2 S_2 X_2 hown3 hs3 HR
    go_wp2_with fail
    refine (HSm.out w3 A2 A3 c2 c3 X_3.out Y_3.out).mono ?_
    rintro y w4 ⟨rfl, hb4⟩
    have E_4 := hide (E_3.out.keep hb4)
    have B_4 := hide (B_3.out.trans (hb4.mono B_3.out.size))
    have S_4 := hide (S_3.out.move (w' := w4) fun b _ hlt => hb4.block b hlt)
    have X_4 := hide (X_3.out.keep hb4)
    have Y_4 := hide (Y_3.out.keep hb4)
    clear hb4 E_3 B_3 S_3 X_3 Y_3 HSm
    go_wp2
    go_ret
    exact ⟨by simp, B_4.out⟩
end Go.Proofs.YtlplgkdoiinfhaaDoor.Tr
