/-
  The statements DiffTurns and DiffChain, walked.
-/
import Derived.Test.YtcilenppjpnaoaaEO
namespace Go.Proofs.Ytcilenppjpnaoaa.Df
open Go Go.RowKit Kt Lw Li

set_option maxHeartbeats 1000000 in
set_option maxRecDepth 100000 in
theorem turns_any (a b : Ls) (A A' : Option Addr) (c c' : Nat) (P P' : Nat → Prop) (w : World) (hs : Vs w P A c (texts a)) (hs' : Vs w P' A' c' (texts b)) (_hla : a.length ≤ 9223372036854775807) (_hlb : b.length ≤ 9223372036854775807) :
    Calls Try.prog 10 #[.slice A a.length c, .slice A' b.length c'] w fun y w' => y = .returned (.bool true) ∧ Below w.heap.size w w' := by
  have Ha := hide hs.bound
  have Hx := hide hs'.bound
  clear hs hs'
  by_cases ha : a.length ≤ 40
  · have da : decide (40 < (a.length : Int)) = false := by simp; omega
    by_cases hb : b.length ≤ 40
    · have db : decide (40 < (b.length : Int)) = false := by simp; omega
      have Hsm := hide (D_small a b (by omega) (by omega))
      have Hsm' := hide (D_small b a (by omega) (by omega))
      have h1 := D_size a b (Nat.le_trans (mul_le ha hb) (by omega))
      have h2 := D_size b a (Nat.le_trans (mul_le hb ha) (by omega))
      rw [lcs_comm b a] at h2
      have Hd := fun w1 (h1 : Vs w1 (fun b => b < w1.heap.size) A c (texts a)) (h2 : Vs w1 (fun b => b < w1.heap.size) A' c' (texts b)) => diff_any a b A A' c c' _ _ w1 h1 h2 (by omega) (by omega)
      have HD := hide Hd
      have Hd' := fun w1 (h1 : Vs w1 (fun b => b < w1.heap.size) A c (texts a)) (h2 : Vs w1 (fun b => b < w1.heap.size) A' c' (texts b)) => diff_any b a A' A c' c _ _ w1 h2 h1 (by omega) (by omega)
      have HD' := hide Hd'
      clear Hd Hd'
      generalize D a b = L at *
      generalize D b a = M at *
      have Hsz := hide (show size M = size L by omega)
      have Hpos := hide (size_pos L)
      obtain ⟨z, hz⟩ : ∃ z, z = size L := ⟨_, rfl⟩
      have Hz := hide hz
      rw [← hz] at h1
      have hz0 : 0 ≤ z := by rw [hz]; exact Hpos.out
      have hz2 : z ≤ 200 := by rw [hz]; exact Hsm.out.1
      have hpar : (z % 2 == ((a.length : Int) + b.length) % 2) = true := by rw [beq_iff_eq]; omega
      obtain ⟨m, hm⟩ : ∃ m, m = a.length := ⟨_, rfl⟩
      obtain ⟨n, hn⟩ : ∃ n, n = b.length := ⟨_, rfl⟩
      rw [← hm] at ha da hpar HD HD' ⊢
      rw [← hn] at hb db hpar HD HD' ⊢
      clear h1 h2 hz hm hn
      go_enter Try.func10, Try.ntmps10
      go_wp2_with fail
      refine (awake_any w).mono ?_
      rintro y w1 ⟨rfl, hb1⟩
      have Ha1 := hide (vs_keep Ha.out hb1)
      have Hx1 := hide (vs_keep Hx.out hb1)
      have Hb1 := hide hb1
      clear hb1
      go_wp2_with fail
      refine (HD.out w1 Ha1.out Hx1.out).mono ?_
      rintro y w2 ⟨v, rfl, hv, hb2⟩
      obtain ⟨Al, cl, rfl, he⟩ := OwE.es hv
      have Ha2 := hide (vs_keep Ha1.out hb2)
      have Hx2 := hide (vs_keep Hx1.out hb2)
      have He2 := hide he
      have Hb2 := hide (Hb1.out.trans (hb2.mono Hb1.out.size))
      clear hb2 hv he
      go_wp2_with fail
      refine (HD'.out w2 Ha2.out Hx2.out).mono ?_
      rintro y w3 ⟨v, rfl, hv, hb3⟩
      obtain ⟨Am, cm, rfl, he⟩ := OwE.es hv
      have He3 := hide (He2.out.keep hb3)
      have Hm3 := hide he
      have Hb3 := hide (Hb2.out.trans (hb3.mono Hb2.out.size))
      clear hb3 hv he
      go_wp2_with fail
      refine (size_any L Al cl w3 He3.out (by have := Hsm.out; omega) (by have := Hsm.out; omega)).mono ?_
      rintro y w4 ⟨rfl, hb4⟩
      rw [← Hz.out]
      have He4 := hide (He3.out.keep hb4)
      have Hm4 := hide (Hm3.out.keep hb4)
      have Hb4 := hide (Hb3.out.trans (hb4.mono Hb3.out.size))
      clear hb4
      go_wp2_with fail
      refine (size_any M Am cm w4 Hm4.out (by have := Hsm'.out; omega) (by have := Hsm'.out; omega)).mono ?_
      rintro y w5 ⟨rfl, hb5⟩
      rw [Hsz.out, ← Hz.out]
      have He5 := hide (He4.out.keep hb5)
      have Hb5 := hide (Hb4.out.trans (hb5.mono Hb4.out.size))
      clear hb5
      go_wp2_with fail
      refine (size_any L Al cl w5 He5.out (by have := Hsm.out; omega) (by have := Hsm.out; omega)).mono ?_
      rintro y w6 ⟨rfl, hb6⟩
      rw [← Hz.out]
      have Hb6 := hide (Hb5.out.trans (hb6.mono Hb5.out.size))
      clear hb6
      go_wp2
      go_ret
      exact ⟨rfl, Hb6.out⟩
    · have db : decide (40 < (b.length : Int)) = true := by simp; omega
      go_enter Try.func10, Try.ntmps10
      go_wp2_with fail
      refine (awake_any w).mono ?_
      rintro y w1 ⟨rfl, hb1⟩
      go_wp2
      go_ret
      exact ⟨rfl, hb1⟩
  · have da : decide (40 < (a.length : Int)) = true := by simp; omega
    go_enter Try.func10, Try.ntmps10
    go_wp2_with fail
    refine (awake_any w).mono ?_
    rintro y w1 ⟨rfl, hb1⟩
    go_wp2
    go_ret
    exact ⟨rfl, hb1⟩

set_option maxHeartbeats 1000000 in
set_option maxRecDepth 100000 in
theorem chain_any (a b d : Ls) (A A' A2 : Option Addr) (c c' c2 : Nat) (P P' P2 : Nat → Prop) (w : World) (hs : Vs w P A c (texts a)) (hs' : Vs w P' A' c' (texts b)) (hs2 : Vs w P2 A2 c2 (texts d)) :
    Calls Try.prog 11 #[.slice A a.length c, .slice A' b.length c', .slice A2 d.length c2] w fun y w' => y = .returned (.bool true) ∧ Below w.heap.size w w' := by
  have Ha := hide hs.bound
  have Hx := hide hs'.bound
  have Hy := hide hs2.bound
  clear hs hs' hs2
  by_cases ha : a.length ≤ 30
  · have da : decide (30 < (a.length : Int)) = false := by simp; omega
    by_cases hb : b.length ≤ 30
    · have db : decide (30 < (b.length : Int)) = false := by simp; omega
      by_cases hd : d.length ≤ 30
      · have dd : decide (30 < (d.length : Int)) = false := by simp; omega
        have Hsm := hide (D_small a d (by omega) (by omega))
        have Hsm1 := hide (D_small a b (by omega) (by omega))
        have Hsm2 := hide (D_small b d (by omega) (by omega))
        have h1 := D_size a d (Nat.le_trans (mul_le ha hd) (by omega))
        have h2 := D_size a b (Nat.le_trans (mul_le ha hb) (by omega))
        have h3 := D_size b d (Nat.le_trans (mul_le hb hd) (by omega))
        have h4 := lcs_chain a b d
        have Hda := hide (fun w1 (h1 : Vs w1 (fun b => b < w1.heap.size) A c (texts a)) (h2 : Vs w1 (fun b => b < w1.heap.size) A2 c2 (texts d)) => diff_any a d A A2 c c2 _ _ w1 h1 h2 (by omega) (by omega))
        have Hdb := hide (fun w1 (h1 : Vs w1 (fun b => b < w1.heap.size) A c (texts a)) (h2 : Vs w1 (fun b => b < w1.heap.size) A' c' (texts b)) => diff_any a b A A' c c' _ _ w1 h1 h2 (by omega) (by omega))
        have Hdc := hide (fun w1 (h1 : Vs w1 (fun b => b < w1.heap.size) A' c' (texts b)) (h2 : Vs w1 (fun b => b < w1.heap.size) A2 c2 (texts d)) => diff_any b d A' A2 c' c2 _ _ w1 h1 h2 (by omega) (by omega))
        generalize D a d = L at *
        generalize D a b = M at *
        generalize D b d = K at *
        have hl0 := size_pos L
        have hm0 := size_pos M
        have hk0 := size_pos K
        obtain ⟨z, hz⟩ : ∃ z, z = size L := ⟨_, rfl⟩
        obtain ⟨u, hu⟩ : ∃ u, u = size M := ⟨_, rfl⟩
        obtain ⟨v, hv⟩ : ∃ v, v = size K := ⟨_, rfl⟩
        have hu2 : u ≤ 200 := by rw [hu]; exact Hsm1.out.1
        have hv2 : v ≤ 200 := by rw [hv]; exact Hsm2.out.1
        have hz2 : z ≤ 200 := by rw [hz]; exact Hsm.out.1
        rw [← hz] at h1 hl0
        rw [← hu] at h2 hm0
        rw [← hv] at h3 hk0
        have hle : z ≤ u + v := by omega
        have Hz := hide hz
        have Hu := hide hu
        have Hv := hide hv
        obtain ⟨m, hm⟩ : ∃ m, m = a.length := ⟨_, rfl⟩
        obtain ⟨n, hn⟩ : ∃ n, n = b.length := ⟨_, rfl⟩
        obtain ⟨k, hk⟩ : ∃ k, k = d.length := ⟨_, rfl⟩
        rw [← hm] at ha da Hda Hdb ⊢
        rw [← hn] at hb db Hdb Hdc ⊢
        rw [← hk] at hd dd Hda Hdc ⊢
        clear h1 h2 h3 h4 hz hu hv hm hn hk
        go_enter Try.func11, Try.ntmps11
        go_wp2_with fail
        refine (awake_any w).mono ?_
        rintro y w1 ⟨rfl, hb1⟩
        have Ha1 := hide (vs_keep Ha.out hb1)
        have Hx1 := hide (vs_keep Hx.out hb1)
        have Hy1 := hide (vs_keep Hy.out hb1)
        have Hb1 := hide hb1
        clear hb1
        go_wp2_with fail
        refine (Hda.out w1 Ha1.out Hy1.out).mono ?_
        rintro y w2 ⟨v, rfl, hv, hb2⟩
        obtain ⟨Al, cl, rfl, he⟩ := OwE.es hv
        have Ha2 := hide (vs_keep Ha1.out hb2)
        have Hx2 := hide (vs_keep Hx1.out hb2)
        have Hy2 := hide (vs_keep Hy1.out hb2)
        have He2 := hide he
        have Hb2 := hide (Hb1.out.trans (hb2.mono Hb1.out.size))
        clear hb2 hv he
        go_wp2_with fail
        refine (size_any L Al cl w2 He2.out (by have := Hsm.out; omega) (by have := Hsm.out; omega)).mono ?_
        rintro y w3 ⟨rfl, hb3⟩
        rw [← Hz.out]
        have Ha3 := hide (vs_keep Ha2.out hb3)
        have Hx3 := hide (vs_keep Hx2.out hb3)
        have Hy3 := hide (vs_keep Hy2.out hb3)
        have Hb3 := hide (Hb2.out.trans (hb3.mono Hb2.out.size))
        clear hb3
        go_wp2_with fail
        refine (Hdb.out w3 Ha3.out Hx3.out).mono ?_
        rintro y w4 ⟨v, rfl, hv, hb4⟩
        obtain ⟨Am, cm, rfl, he⟩ := OwE.es hv
        have Hx4 := hide (vs_keep Hx3.out hb4)
        have Hy4 := hide (vs_keep Hy3.out hb4)
        have He4 := hide he
        have Hb4 := hide (Hb3.out.trans (hb4.mono Hb3.out.size))
        clear hb4 hv he
        go_wp2_with fail
        refine (size_any M Am cm w4 He4.out (by have := Hsm1.out; omega) (by have := Hsm1.out; omega)).mono ?_
        rintro y w5 ⟨rfl, hb5⟩
        rw [← Hu.out]
        have Hx5 := hide (vs_keep Hx4.out hb5)
        have Hy5 := hide (vs_keep Hy4.out hb5)
        have Hb5 := hide (Hb4.out.trans (hb5.mono Hb4.out.size))
        clear hb5
        go_wp2_with fail
        refine (Hdc.out w5 Hx5.out Hy5.out).mono ?_
        rintro y w6 ⟨v, rfl, hv, hb6⟩
        obtain ⟨Ak, ck, rfl, he⟩ := OwE.es hv
        have He6 := hide he
        have Hb6 := hide (Hb5.out.trans (hb6.mono Hb5.out.size))
        clear hb6 hv he
        go_wp2_with fail
        refine (size_any K Ak ck w6 He6.out (by have := Hsm2.out; omega) (by have := Hsm2.out; omega)).mono ?_
        rintro y w7 ⟨rfl, hb7⟩
        rw [← Hv.out]
        have Hb7 := hide (Hb6.out.trans (hb7.mono Hb6.out.size))
        clear hb7
        go_wp2
        go_ret
        exact ⟨rfl, Hb7.out⟩
      · have dd : decide (30 < (d.length : Int)) = true := by simp; omega
        go_enter Try.func11, Try.ntmps11
        go_wp2_with fail
        refine (awake_any w).mono ?_
        rintro y w1 ⟨rfl, hb1⟩
        go_wp2
        go_ret
        exact ⟨rfl, hb1⟩
    · have db : decide (30 < (b.length : Int)) = true := by simp; omega
      go_enter Try.func11, Try.ntmps11
      go_wp2_with fail
      refine (awake_any w).mono ?_
      rintro y w1 ⟨rfl, hb1⟩
      go_wp2
      go_ret
      exact ⟨rfl, hb1⟩
  · have da : decide (30 < (a.length : Int)) = true := by simp; omega
    go_enter Try.func11, Try.ntmps11
    go_wp2_with fail
    refine (awake_any w).mono ?_
    rintro y w1 ⟨rfl, hb1⟩
    go_wp2
    go_ret
    exact ⟨rfl, hb1⟩
end Go.Proofs.Ytcilenppjpnaoaa.Df
