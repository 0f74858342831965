/-
  diff.Diff.
-/
import Derived.Test.YtghnieddokhagaaDoorEK
namespace Go.Proofs.YtghnieddokhagaaDoor.Df
open Go Go.RowKit Kt Lw Li

theorem D_walk (a b : Ls) (h : (mid a (fr a b) (bk a b)).length * (mid b (fr a b) (bk a b)).length ≤ 65536) : D a b = go (mid a (fr a b) (bk a b)) (mid b (fr a b) (bk a b)) (fr a b) 0 [] := if_pos h
theorem D_add (a b : Ls) (h : mid a (fr a b) (bk a b) = [] ∨ mid b (fr a b) (bk a b) = [] ∨ 65536 < (mid a (fr a b) (bk a b)).length * (mid b (fr a b) (bk a b)).length) :
    D a b = emitI (fr a b : Nat) ((mid a (fr a b) (bk a b)).length : Nat) (mid b (fr a b) (bk a b)) := by
  rw [emitI_nat]
  rcases h with h | h | h
  · unfold D; rw [h, if_pos (by simp), go_all_come]; rfl
  · unfold D; rw [h, if_pos (by simp), go_all_gone, Nat.zero_add]
  · unfold D; rw [if_neg (by omega)]
set_option maxHeartbeats 2000000 in
set_option maxRecDepth 100000 in
theorem diff_any (a b : Ls) (A A' : Option Addr) (c c' : Nat) (P P' : Nat → Prop) (w : World) (hs : Vs w P A c (texts a)) (hs' : Vs w P' A' c' (texts b)) (ha : a.length ≤ 1000) (hb : b.length ≤ 1000) :
    Calls Tryd.prog 50 #[.slice A a.length c, .slice A' b.length c'] w fun e w' => ∃ v, e = .returned v ∧ OwE w' w.heap.size v (D a b) ∧ Below w.heap.size w w' := by
  have Hs := hide hs.bound
  have Hs' := hide hs'.bound
  have hcap := hs.1
  have hcap' := hs'.1
  rw [texts_len] at hcap hcap'
  obtain ⟨m, hm⟩ : ∃ m, m = a.length := ⟨_, rfl⟩
  obtain ⟨n, hn⟩ : ∃ n, n = b.length := ⟨_, rfl⟩
  rw [← hm] at ha hcap ⊢
  rw [← hn] at hb hcap' ⊢
  have Hm := hide hm
  have Hn := hide hn
  obtain ⟨K, hK⟩ : ∃ K, K = min m n := ⟨_, rfl⟩
  have Hk := hide hK
  clear hs hs' hm hn hK
  go_enter Tryd.func50, Tryd.ntmps50
  have hmin : (if n < m then (n : Int) else (m : Int)) = (K : Int) := by have := Hk.out; split <;> omega
  have hb1 := ((Below.refl _ w).alloc (Nat.le_refl _) (.cells #[.slice A m c] 25)).alloc (by simp) (.cells #[.slice A' n c'] 25)
  have h1 := (((Row.fresh w 25 #[.slice A m c]).alloc (.cells #[.slice A' n c'] 25)).cell 0)
  have h2 := (Row.fresh (w.alloc (.cells #[.slice A m c] 25)) 25 #[.slice A' n c']).cell 0
  rw [World.size_alloc] at h2
  simp only [List.getElem?_cons_zero] at h1 h2
  have Hv2 := hide (vs_keep Hs.out hb1)
  have Hv2' := hide (vs_keep Hs'.out hb1)
  go_wp2_with fail
  obtain ⟨w2, hw2⟩ : ∃ w2, w2 = (w.alloc (.cells #[.slice A m c] 25)).alloc (.cells #[.slice A' n c'] 25) := ⟨_, rfl⟩
  obtain ⟨g, hg⟩ : ∃ g, g = w.heap.size := ⟨_, rfl⟩
  obtain ⟨g', hg'⟩ : ∃ g', g' = w.heap.size + 1 := ⟨_, rfl⟩
  rw [← hw2] at hb1 h1 h2 Hv2 Hv2' ⊢
  rw [← hg'] at h2 ⊢
  rw [← hg] at h1 ⊢
  have Hb1 := hide hb1
  have Hg := hide hg
  clear hw2 hg hg' hb1 hmin
  have hmK : K ≤ m := by have := Hk.out; omega
  have hnK : K ≤ n := by have := Hk.out; omega
  refine (alike_front a b A A' c c' K g g' w2 (by rw [← Hm.out]; exact h1) (by rw [← Hn.out]; exact h2) Hv2.out Hv2'.out (by rw [← Hm.out]; exact hmK) (by rw [← Hn.out]; exact hnK) (by rw [← Hm.out]; omega) (by rw [← Hn.out]; omega)).mono ?_
  rintro e w3 ⟨⟨f, rfl, hrun⟩, nq, rfl⟩
  have Hf := hide (hrun.uniq (by rw [Hk.out, Hm.out, Hn.out]; exact fr_is a b))
  have hfK := hrun.le
  obtain ⟨K2, hK2⟩ : ∃ K2, K2 = K - f := ⟨_, rfl⟩
  have hKf : (K : Int) - (f : Int) = (K2 : Int) := by omega
  have HK2 := hide hK2
  clear hrun hK2
  go_wp2_with fail
  refine (alike_back a b A A' c c' K2 g g' (w2.drewN nq) (by rw [← Hm.out]; exact h1) (by rw [← Hn.out]; exact h2) Hv2.out Hv2'.out (by rw [← Hm.out]; omega) (by rw [← Hn.out]; omega) (by rw [← Hm.out]; omega) (by rw [← Hn.out]; omega)).mono ?_
  rintro _ w4 ⟨⟨e, rfl, hrun⟩, nq2, rfl⟩
  have hK2 := HK2.out
  have He := hide (hrun.uniq (by rw [hK2, Hk.out, Hm.out, Hn.out, Hf.out]; exact bk_is a b))
  have heK := hrun.le
  obtain ⟨w4, hw4⟩ : ∃ w4, w4 = (w2.drewN nq).drewN nq2 := ⟨_, rfl⟩
  have h1' : w4.cell? ⟨g, 0, none⟩ = some (.slice A m c) := by rw [hw4]; exact h1
  have h2' : w4.cell? ⟨g', 0, none⟩ = some (.slice A' n c') := by rw [hw4]; exact h2
  have Hb4 := hide (show Below w.heap.size w w4 by rw [hw4]; exact below_drewN (below_drewN Hb1.out _) _)
  rw [← hw4]
  obtain ⟨me, hme⟩ : ∃ me, me = m - e := ⟨_, rfl⟩
  obtain ⟨ne, hne⟩ : ∃ ne, ne = n - e := ⟨_, rfl⟩
  have hw1 : IntKind.i64.wrap ((m : Int) - e) = (me : Int) := by rw [IntWalk.i64_in _ (by omega)]; omega
  have hw2 : IntKind.i64.wrap ((n : Int) - e) = (ne : Int) := by rw [IntWalk.i64_in _ (by omega)]; omega
  have hcut := fun w => run_cut2 w A m c f me (by omega) (by omega)
  have hcut' := fun w => run_cut2 w A' n c' f ne (by omega) (by omega)
  obtain ⟨A2, hA2⟩ : ∃ A2, (if c = f then A else A.map (·.add f)) = A2 := ⟨_, rfl⟩
  obtain ⟨A2', hA2'⟩ : ∃ A2', (if c' = f then A' else A'.map (·.add f)) = A2' := ⟨_, rfl⟩
  have hvX := vs_cut Hs.out (i := f) (j := me) (by omega) (by rw [← Hm.out]; omega)
  have hvY := vs_cut Hs'.out (i := f) (j := ne) (by omega) (by rw [← Hn.out]; omega)
  rw [hA2] at hvX
  rw [hA2'] at hvY
  simp only [hA2] at hcut
  simp only [hA2'] at hcut'
  obtain ⟨X, hX⟩ : ∃ X, X = mid a f e := ⟨_, rfl⟩
  obtain ⟨Y, hY⟩ : ∃ Y, Y = mid b f e := ⟨_, rfl⟩
  have hlX : X.length = me - f := by rw [hX, mid_len _ _ _ (by rw [← Hm.out]; omega), ← Hm.out, hme]
  have hlY : Y.length = ne - f := by rw [hY, mid_len _ _ _ (by rw [← Hn.out]; omega), ← Hn.out, hne]
  rw [show (a.drop f).take (me - f) = X by rw [hX, mid, ← Hm.out, hme]] at hvX
  rw [show (b.drop f).take (ne - f) = Y by rw [hY, mid, ← Hn.out, hne]] at hvY
  rw [← hlX] at hcut
  rw [← hlY] at hcut'
  have hX6 : X.length ≤ 1000 := by omega
  have hY6 : Y.length ≤ 1000 := by omega
  have hf6 : f ≤ 1000 := by omega
  have HX := hide hX
  have HY := hide hY
  have hem : e ≤ m := by omega
  have hen : e ≤ n := by omega
  clear hrun hw4 hme hne hA2 hA2' hX hY hlX hlY h1 h2 hK2 heK hfK hKf hmK hnK
  go_wp2
  go_quiet (fail)
  have Hb5 := hide (below_drewN Hb4.out nq)
  obtain ⟨w5, hw5⟩ : ∃ w5, w5 = w4.drewN nq := ⟨_, rfl⟩
  rw [← hw5] at Hb5 ⊢
  have HvX := hide (Lw.Vs.below hvX Hb5.out)
  have HvY := hide (Lw.Vs.below hvY Hb5.out)
  clear hw5 hvX hvY hw1 hw2 hcut hcut' h1' h2'
  have H0 : ∀ l : Ls, ((l.length : Int) == 0) = decide (l = []) := by
    intro l
    rw [Bool.eq_iff_iff, beq_iff_eq, decide_eq_true_iff]
    exact ⟨fun h => List.eq_nil_of_length_eq_zero (by omega), fun h => by rw [h]; rfl⟩
  by_cases hx0 : X = []
  · have dx : ((X.length : Int) == 0) = true := by rw [H0, decide_eq_true hx0]
    have HD := hide (D_add a b (by rw [← Hf.out, ← He.out, ← HX.out, ← HY.out]; exact .inl hx0))
    rw [← Hf.out, ← He.out, ← HX.out, ← HY.out] at HD
    clear H0 hx0
    go_wp2_with fail
    refine (add_any w.heap.size (.slice none 0 0) [] f X.length Y A2' _ _ _ (OwE.nil _ _) HvY.out Hb5.out.size (by simp) (by omega)).mono ?_
    rintro e w6 ⟨v, rfl, hown, hb6, _⟩
    rw [List.nil_append, ← HD.out] at hown
    have Hown := hide hown
    have Hb6 := hide (Hb5.out.trans hb6)
    clear hown hb6
    go_wp2
    go_ret
    exact ⟨v, rfl, Hown.out, Hb6.out⟩
  have dx : ((X.length : Int) == 0) = false := by rw [H0, decide_eq_false hx0]
  by_cases hy0 : Y = []
  · have dy : ((Y.length : Int) == 0) = true := by rw [H0, decide_eq_true hy0]
    have HD := hide (D_add a b (by rw [← Hf.out, ← He.out, ← HX.out, ← HY.out]; exact .inr (.inl hy0)))
    rw [← Hf.out, ← He.out, ← HX.out, ← HY.out] at HD
    clear H0 hx0 hy0
    go_wp2_with fail
    refine (add_any w.heap.size (.slice none 0 0) [] f X.length Y A2' _ _ _ (OwE.nil _ _) HvY.out Hb5.out.size (by simp) (by omega)).mono ?_
    rintro e w6 ⟨v, rfl, hown, hb6, _⟩
    rw [List.nil_append, ← HD.out] at hown
    have Hown := hide hown
    have Hb6 := hide (Hb5.out.trans hb6)
    clear hown hb6
    go_wp2
    go_ret
    exact ⟨v, rfl, Hown.out, Hb6.out⟩
  have dy : ((Y.length : Int) == 0) = false := by rw [H0, decide_eq_false hy0]
  clear hx0 hy0 H0
  obtain ⟨Q, hQ⟩ : ∃ Q, Q = X.length * Y.length := ⟨_, rfl⟩
  have hQ' : (X.length : Int) * (Y.length : Int) = (Q : Int) := by rw [hQ]; simp
  have hQ6 : Q ≤ 1000000 := by rw [hQ]; exact Nat.le_trans (mul_le hX6 hY6) (by omega)
  by_cases hq : 65536 < Q
  · have dq : decide (65536 < (Q : Int)) = true := by simp; omega
    have HD := hide (D_add a b (by rw [← Hf.out, ← He.out, ← HX.out, ← HY.out]; exact .inr (.inr (by rw [← hQ]; exact hq))))
    rw [← Hf.out, ← He.out, ← HX.out, ← HY.out] at HD
    clear hQ hq
    go_wp2_with fail
    refine (add_any w.heap.size (.slice none 0 0) [] f X.length Y A2' _ _ _ (OwE.nil _ _) HvY.out Hb5.out.size (by simp) (by omega)).mono ?_
    rintro e w6 ⟨v, rfl, hown, hb6, _⟩
    rw [List.nil_append, ← HD.out] at hown
    have Hown := hide hown
    have Hb6 := hide (Hb5.out.trans hb6)
    clear hown hb6
    go_wp2
    go_ret
    exact ⟨v, rfl, Hown.out, Hb6.out⟩
  · have dq : decide (65536 < (Q : Int)) = false := by simp; omega
    have HD := hide (D_walk a b (by rw [← Hf.out, ← He.out, ← HX.out, ← HY.out, ← hQ]; omega))
    rw [← Hf.out, ← He.out, ← HX.out, ← HY.out] at HD
    have hXY : (X.length + 1) * (Y.length + 1) ≤ 1000000 := by
      rw [Nat.succ_mul, Nat.mul_succ, ← hQ]; omega
    clear hQ hq
    go_wp2_with fail
    refine (walk_any f X Y A2 A2' _ _ _ _ _ HvX.out HvY.out (by omega) (by omega) hXY (by omega)).mono ?_
    rintro e w6 ⟨v, rfl, hown, hb6⟩
    rw [← HD.out] at hown
    have Hown := hide (hown.base (B' := w.heap.size) Hb5.out.size)
    have Hb6 := hide (Hb5.out.trans (hb6.mono Hb5.out.size))
    clear hown hb6
    go_wp2
    go_ret
    exact ⟨v, rfl, Hown.out, Hb6.out⟩
end Go.Proofs.YtghnieddokhagaaDoor.Df
namespace Go.Proofs.YtghnieddokhagaaDoor.Df
open Go Go.RowKit Kt Lw Li

theorem cell_keep {w w' : World} {p : Addr} {v : Value} (hb : Below w.heap.size w w') (hc : w.cell? p = some v) : w'.cell? p = some v :=
  (World.cell?_of_block (hb.block p.block (World.block_lt_of_cell? w p hc))).trans hc
end Go.Proofs.YtghnieddokhagaaDoor.Df
