/-
  The statement DiffLeast, walked.
-/
import Derived.Test.YtcilenppjpnaoaaEO
import Derived.Test.YtcilenppjpnaoaaES
namespace Go.Proofs.Ytcilenppjpnaoaa.Df
open Go Go.RowKit Kt Lw Li

set_option maxHeartbeats 1000000 in
set_option maxRecDepth 100000 in
theorem least_any (a b : Ls) (A A' : Option Addr) (c c' : Nat) (P P' : Nat → Prop) (w : World) (hs : Vs w P A c (texts a)) (hs' : Vs w P' A' c' (texts b)) :
    Calls Try.prog 8 #[.slice A a.length c, .slice A' b.length c'] w fun y w' => y = .returned (.bool true) ∧ Below w.heap.size w w' := by
  have Ha := hide hs.bound
  have Hx := hide hs'.bound
  clear hs hs'
  by_cases ha : a.length ≤ 24
  · have da : decide (24 < (a.length : Int)) = false := by simp; omega
    by_cases hb : b.length ≤ 24
    · have db : decide (24 < (b.length : Int)) = false := by simp; omega
      have Hsm := hide (D_small a b (by omega) (by omega))
      have h1 := D_size a b (Nat.le_trans (mul_le ha hb) (by omega))
      have hl6 := lcs_le_left a b
      have hnil : (((D a b).length : Int) == 0) = decide (a = b) := by
        rw [Bool.eq_iff_iff, beq_iff_eq, decide_eq_true_iff, ← D_nil_iff]
        omega
      have Hd := hide (fun w1 (h1 : Vs w1 (fun b => b < w1.heap.size) A c (texts a)) (h2 : Vs w1 (fun b => b < w1.heap.size) A' c' (texts b)) => diff_any a b A A' c c' _ _ w1 h1 h2 (by omega) (by omega))
      have He := hide (fun w1 (h1 : Vs w1 (fun b => b < w1.heap.size) A c (texts a)) => diff_any a a A A c c _ _ w1 h1 h1 (by omega) (by omega))
      have Hc := hide (fun w1 (h1 : Vs w1 (fun b => b < w1.heap.size) A c (texts a)) (h2 : Vs w1 (fun b => b < w1.heap.size) A' c' (texts b)) => common_any a b A A' c c' _ _ w1 h1 h2 (by omega) (by omega))
      have Ht := hide (fun w1 (h1 : Vs w1 (fun b => b < w1.heap.size) A c (texts a)) (h2 : Vs w1 (fun b => b < w1.heap.size) A' c' (texts b)) => texts_any a b A A' c c' _ _ w1 h1 h2 (by omega))
      rw [D_self] at He
      generalize D a b = L at *
      generalize decide (a = b) = q at *
      generalize lcs a b = u at *
      obtain ⟨m, hm⟩ : ∃ m, m = a.length := ⟨_, rfl⟩
      obtain ⟨n, hn⟩ : ∃ n, n = b.length := ⟨_, rfl⟩
      obtain ⟨z, hz⟩ : ∃ z, z = size L := ⟨_, rfl⟩
      have Hz := hide hz
      rw [← hz] at h1
      rw [← hm] at ha da h1 hl6 Hd He Hc Ht ⊢
      rw [← hn] at hb db h1 Hd Hc Ht ⊢
      have heq : (z == (m : Int) + n - 2 * (u : Int)) = true := by rw [beq_iff_eq]; omega
      obtain ⟨k, hk⟩ : ∃ k, k = L.length := ⟨_, rfl⟩
      rw [← hk] at hnil
      have Hk := hide hk
      clear h1 hz hm hn hk
      go_enter Try.func8, Try.ntmps8
      go_wp2_with fail
      refine (awake_any w).mono ?_
      rintro y w1 ⟨rfl, hb1⟩
      have Ha1 := hide (vs_keep Ha.out hb1)
      have Hx1 := hide (vs_keep Hx.out hb1)
      have Hb1 := hide hb1
      clear hb1
      go_wp2_with fail
      refine (Hd.out w1 Ha1.out Hx1.out).mono ?_
      rintro y w2 ⟨v, rfl, hv, hb2⟩
      obtain ⟨Al, cl, rfl, he⟩ := OwE.es hv
      have Ha2 := hide (vs_keep Ha1.out hb2)
      have Hx2 := hide (vs_keep Hx1.out hb2)
      have He2 := hide he
      have Hb2 := hide (Hb1.out.trans (hb2.mono Hb1.out.size))
      clear hb2 hv he
      rw [← Hk.out]
      go_wp2_with fail
      refine (Hc.out w2 Ha2.out Hx2.out).mono ?_
      rintro y w3 ⟨rfl, hb3⟩
      have Ha3 := hide (vs_keep Ha2.out hb3)
      have Hx3 := hide (vs_keep Hx2.out hb3)
      have He3 := hide (He2.out.keep hb3)
      have Hb3 := hide (Hb2.out.trans (hb3.mono Hb2.out.size))
      clear hb3
      go_wp2_with fail
      rw [Hk.out]
      refine (size_any L Al cl w3 He3.out (by have := Hsm.out; omega) (by have := Hsm.out; omega)).mono ?_
      rintro y w4 ⟨rfl, hb4⟩
      rw [← Hz.out, ← Hk.out]
      have Ha4 := hide (vs_keep Ha3.out hb4)
      have Hx4 := hide (vs_keep Hx3.out hb4)
      have Hb4 := hide (Hb3.out.trans (hb4.mono Hb3.out.size))
      clear hb4
      go_wp2_with fail
      refine (Ht.out w4 Ha4.out Hx4.out).mono ?_
      rintro y w5 ⟨rfl, hb5⟩
      have Ha5 := hide (vs_keep Ha4.out hb5)
      have Hb5 := hide (Hb4.out.trans (hb5.mono Hb4.out.size))
      clear hb5
      go_wp2_with fail
      refine (He.out w5 Ha5.out).mono ?_
      rintro y w6 ⟨v, rfl, hv, hb6⟩
      obtain ⟨Am, cm, rfl, _⟩ := OwE.es hv
      have Hb6 := hide (Hb5.out.trans (hb6.mono Hb5.out.size))
      clear hb6 hv
      simp only [List.length_nil]
      go_wp2
      go_ret
      exact ⟨rfl, Hb6.out⟩
    · have db : decide (24 < (b.length : Int)) = true := by simp; omega
      go_enter Try.func8, Try.ntmps8
      go_wp2_with fail
      refine (awake_any w).mono ?_
      rintro y w1 ⟨rfl, hb1⟩
      go_wp2
      go_ret
      exact ⟨rfl, hb1⟩
  · have da : decide (24 < (a.length : Int)) = true := by simp; omega
    go_enter Try.func8, Try.ntmps8
    go_wp2_with fail
    refine (awake_any w).mono ?_
    rintro y w1 ⟨rfl, hb1⟩
    go_wp2
    go_ret
    exact ⟨rfl, hb1⟩
end Go.Proofs.Ytcilenppjpnaoaa.Df
