/-
  The reference's Diff: the front, the end, the cases without a way.
-/
import Derived.Test.YtghnieddokhagaaQKE
import Derived.Test.YtghnieddokhagaaQJS
import Derived.Deep.CutBlock
import Derived.Deep.DeepCutAuto
namespace Go.Proofs.Ytghnieddokhagaa.Df
open Go Go.RowKit Kt Lw Li

theorem OwE.lit {w : World} {B : Nat} {e : Ed} {vi : Value} (h : OwT w B tS vi e.ins) (hB : B ≤ w.heap.size) : OwE (w.alloc (.cells (edC e vi).toArray tE)) B (.slice (some ⟨w.heap.size, 0, none⟩) 1 1) [e] := by
  refine ⟨[(e, vi)], rfl, ?_, fun p hp => ?_⟩
  · have := World.ownsRow_lit (e := tE) (size := 3) (base := B) w (edC e vi).toArray 1 hB (by decide) rfl
    simpa [pairC] using this
  · obtain rfl : p = (e, vi) := by simpa using hp
    exact OwT.alloc h _
theorem D_one (a b : Ls) (h : mid a (fr a b) (bk a b) = [] ∨ mid b (fr a b) (bk a b) = [] ∨ 65536 < (mid a (fr a b) (bk a b)).length * (mid b (fr a b) (bk a b)).length)
    (h2 : ¬ ((mid a (fr a b) (bk a b)).length = 0 ∧ mid b (fr a b) (bk a b) = [])) : D a b = [⟨(fr a b : Nat), ((mid a (fr a b) (bk a b)).length : Nat), mid b (fr a b) (bk a b)⟩] := by
  rw [D_add a b h]
  unfold emitI
  rw [if_neg]
  rintro ⟨h3, h4⟩
  exact h2 ⟨by omega, h4⟩

set_option maxHeartbeats 16000000 in
set_option maxRecDepth 100000 in
theorem refDiff_any (a b : Ls) (A A' : Option Addr) (c c' : Nat) (P P' : Nat → Prop) (w : World) (hs : Vs w P A c (texts a)) (hs' : Vs w P' A' c' (texts b)) (ha : a.length ≤ 700) (hb : b.length ≤ 700) :
    Calls Try.prog 67 #[.slice A a.length c, .slice A' b.length c'] w fun e w' => ∃ v, e = .returned v ∧ OwE w' w.heap.size v (D a b) ∧ Below w.heap.size w w' := by
  have Hs := hide hs.bound
  have Hs' := hide hs'.bound
  have hcap := hs.1
  have hcap' := hs'.1
  rw [texts_len] at hcap hcap'
  obtain ⟨m, hm⟩ : ∃ m, m = a.length := ⟨_, rfl⟩
  obtain ⟨n, hn⟩ : ∃ n, n = b.length := ⟨_, rfl⟩
  rw [← hm] at ha hcap ⊢
  rw [← hn] at hb hcap' ⊢
  have Hm := hide hm
  have Hn := hide hn
  have Hfr := hide (fr_is a b)
  rw [← hm, ← hn] at Hfr
  clear hs hs' hm hn
  go_enter Try.func67, Try.ntmps67
  go_upto_block 0 with fail
  go_cut [5] (fun s5 wx => s5 = .int .i64 (fr a b : Nat) ∧ Below w.heap.size w wx)
  case first =>
    go_wp2_with fail
    go_loopw [5] (fun i wr => ∃ k : Nat, k ≤ min m n ∧ i = .int .i64 k ∧ (∀ j, j < k → frP a b j = true) ∧ Below w.heap.size w wr) (fun i _ => min m n - (intOf i).toNat)
    case atStart => exact ⟨0, Nat.zero_le _, rfl, fun j h => absurd h (Nat.not_lt_zero _), Below.refl _ _⟩
    case round =>
      obtain ⟨k, hk, rfl, hall, hbl⟩ := hrel
      have Hall := hide hall
      have Hbl := hide hbl
      clear hall hbl
      by_cases hkm : k < m
      · have dm : decide (k < m) = true := decide_eq_true hkm
        by_cases hkn : k < n
        · have dn : decide (k < n) = true := decide_eq_true hkn
          obtain ⟨ba, oa, hA, ca⟩ := Hs.out.text Hbl.out (k := k) (by have := Hm.out; omega)
          obtain ⟨bb, ob, hA', cb⟩ := Hs'.out.text Hbl.out (k := k) (by have := Hn.out; omega)
          subst hA hA'
          have Hf := hide (show frP a b k = decide (a.getD k [] = b.getD k []) from rfl)
          obtain ⟨X, hX⟩ : ∃ X, X = a.getD k [] := ⟨_, rfl⟩
          obtain ⟨Y, hY⟩ : ∃ Y, Y = b.getD k [] := ⟨_, rfl⟩
          rw [← hX] at ca Hf
          rw [← hY] at cb Hf
          clear hX hY
          by_cases hXY : X = Y
          · have hbq : (X == Y) = true := by rw [hXY]; exact beq_self_eq_true _
            have Hf2 := hide (show frP a b k = true by rw [Hf.out, decide_eq_true hXY])
            clear hXY Hf
            go_wp2
            go_quiet (fail)
            go_wp2
            refine ⟨⟨k + 1, by omega, by go_num, fun j hj => ?_, below_drewN Hbl.out nq⟩, by simp [intOf]; omega⟩
            rcases Nat.lt_or_ge j k with hl | hl
            · exact Hall.out j hl
            · obtain rfl : j = k := by omega
              exact Hf2.out
          · have hbq : (X == Y) = false := by rw [beq_eq_false_iff_ne]; exact hXY
            have Hf2 := hide (show k = fr a b from IsRun.uniq ⟨by omega, Hall.out, fun _ => by rw [Hf.out, decide_eq_false hXY]⟩ Hfr.out)
            clear hXY Hf
            go_wp2
            go_quiet (fail)
            go_wp2
            go_meet
            exact ⟨by rw [← Hf2.out], below_drewN Hbl.out nq⟩
        · have dn : decide (k < n) = false := decide_eq_false hkn
          have Hf2 := hide (show k = fr a b from IsRun.uniq ⟨by omega, Hall.out, fun h => absurd h (by omega)⟩ Hfr.out)
          go_wp2
          go_quiet (fail)
          go_wp2
          go_meet
          exact ⟨by rw [← Hf2.out], below_drewN Hbl.out nq⟩
      · have dm : decide (k < m) = false := decide_eq_false hkm
        have Hf2 := hide (show k = fr a b from IsRun.uniq ⟨by omega, Hall.out, fun h => absurd h (by omega)⟩ Hfr.out)
        go_wp2
        go_quiet (fail)
        go_wp2
        go_meet
        exact ⟨by rw [← Hf2.out], below_drewN Hbl.out nq⟩
  case rest =>
    obtain ⟨rfl, hb1⟩ := hcut
    have Hb1 := hide hb1
    clear hb1
    have Hbk := hide (bk_is a b)
    rw [← Hm.out, ← Hn.out] at Hbk
    have hfK := Hfr.out.le
    obtain ⟨f, hf⟩ : ∃ f, f = fr a b := ⟨_, rfl⟩
    rw [← hf] at Hbk hfK ⊢
    have Hf := hide hf
    clear hf
    go_upto_block 2 with fail
    go_cut [6, 7] (fun s6 s7 wx => s6 = .int .i64 (m - bk a b : Nat) ∧ s7 = .int .i64 (n - bk a b : Nat) ∧ Below w.heap.size w wx)
    case first =>
      go_wp2_with fail
      go_loopw [6, 7] (fun s6 s7 wr => ∃ k : Nat, k ≤ min m n - f ∧ s6 = .int .i64 (m - k : Nat) ∧ s7 = .int .i64 (n - k : Nat) ∧ (∀ j, j < k → bkP a b j = true) ∧ Below w.heap.size w wr) (fun s6 _ _ => (intOf s6).toNat)
      case atStart => exact ⟨0, Nat.zero_le _, rfl, rfl, fun j h => absurd h (Nat.not_lt_zero _), Hb1.out⟩
      case round =>
        obtain ⟨k, hk, rfl, rfl, hall, hbl⟩ := hrel
        have Hall := hide hall
        have Hbl := hide hbl
        clear hall hbl
        obtain ⟨mk, hmk⟩ : ∃ mk, mk = m - k := ⟨_, rfl⟩
        obtain ⟨nk, hnk⟩ : ∃ nk, nk = n - k := ⟨_, rfl⟩
        rw [← hmk, ← hnk]
        have Hmk := hide (show mk = m - k ∧ nk = n - k from ⟨hmk, hnk⟩)
        have hmk1 : mk ≤ 700 := by omega
        have hnk1 : nk ≤ 700 := by omega
        clear hmk hnk
        by_cases hkm : f < mk
        · have dm : decide (f < mk) = true := decide_eq_true hkm
          by_cases hkn : f < nk
          · have dn : decide (f < nk) = true := decide_eq_true hkn
            obtain ⟨mk1, hmk2⟩ : ∃ mk1, mk1 = mk - 1 := ⟨_, rfl⟩
            obtain ⟨nk1, hnk2⟩ : ∃ nk1, nk1 = nk - 1 := ⟨_, rfl⟩
            have hmm : mk1 = m - 1 - k := by have := Hmk.out; omega
            have hnn : nk1 = n - 1 - k := by have := Hmk.out; omega
            obtain ⟨ba, oa, hA, ca⟩ := Hs.out.text Hbl.out (k := mk1) (by have := Hm.out; have := Hmk.out; omega)
            obtain ⟨bb, ob, hA', cb⟩ := Hs'.out.text Hbl.out (k := nk1) (by have := Hn.out; have := Hmk.out; omega)
            subst hA hA'
            have Hf2 := hide (show bkP a b k = decide (a.getD mk1 [] = b.getD nk1 []) by rw [hmm, hnn, Hm.out, Hn.out]; rfl)
            obtain ⟨X, hX⟩ : ∃ X, X = a.getD mk1 [] := ⟨_, rfl⟩
            obtain ⟨Y, hY⟩ : ∃ Y, Y = b.getD nk1 [] := ⟨_, rfl⟩
            rw [← hX] at ca Hf2
            rw [← hY] at cb Hf2
            have hw1 : IntKind.i64.wrap ((mk : Int) - 1) = (mk1 : Int) := by rw [IntWalk.i64_in _ (by omega)]; omega
            have hw2 : IntKind.i64.wrap ((nk : Int) - 1) = (nk1 : Int) := by rw [IntWalk.i64_in _ (by omega)]; omega
            have h1m : mk1 < m := by have := Hmk.out; omega
            have h1n : nk1 < n := by have := Hmk.out; omega
            have Hnext := hide (show (mk : Int) - 1 = ((m - (k + 1) : Nat) : Int) ∧ (nk : Int) - 1 = ((n - (k + 1) : Nat) : Int) ∧ k + 1 ≤ min m n - f by have := Hmk.out; refine ⟨?_, ?_, ?_⟩ <;> omega)
            clear hX hY hmm hnn hmk2 hnk2
            by_cases hXY : X = Y
            · have hbq : (X == Y) = true := by rw [hXY]; exact beq_self_eq_true _
              have Hf3 := hide (show bkP a b k = true by rw [Hf2.out, decide_eq_true hXY])
              clear hXY Hf2
              go_wp2
              go_quiet (fail)
              clear hw1 hw2
              go_wp2
              refine ⟨⟨k + 1, Hnext.out.2.2, by rw [← Hnext.out.1], by rw [← Hnext.out.2.1], fun j hj => ?_, below_drewN Hbl.out nq⟩, by simp [intOf]; omega⟩
              rcases Nat.lt_or_ge j k with hl | hl
              · exact Hall.out j hl
              · obtain rfl : j = k := by omega
                exact Hf3.out
            · have hbq : (X == Y) = false := by rw [beq_eq_false_iff_ne]; exact hXY
              have Hf3 := hide (show k = bk a b from IsRun.uniq ⟨hk, Hall.out, fun _ => by rw [Hf2.out, decide_eq_false hXY]⟩ Hbk.out)
              clear hXY Hf2
              go_wp2
              go_quiet (fail)
              clear hw1 hw2
              go_wp2
              go_meet
              exact ⟨by rw [← Hf3.out, Hmk.out.1], by rw [← Hf3.out, Hmk.out.2], below_drewN Hbl.out nq⟩
          · have dn : decide (f < nk) = false := decide_eq_false hkn
            have Hf3 := hide (show k = bk a b from IsRun.uniq ⟨hk, Hall.out, fun h => absurd h (by have := Hmk.out; omega)⟩ Hbk.out)
            go_wp2
            go_quiet (fail)
            go_wp2
            go_meet
            exact ⟨by rw [← Hf3.out, Hmk.out.1], by rw [← Hf3.out, Hmk.out.2], below_drewN Hbl.out nq⟩
        · have dm : decide (f < mk) = false := decide_eq_false hkm
          have Hf3 := hide (show k = bk a b from IsRun.uniq ⟨hk, Hall.out, fun h => absurd h (by have := Hmk.out; omega)⟩ Hbk.out)
          go_wp2
          go_quiet (fail)
          go_wp2
          go_meet
          exact ⟨by rw [← Hf3.out, Hmk.out.1], by rw [← Hf3.out, Hmk.out.2], below_drewN Hbl.out nq⟩
    case rest =>
      obtain ⟨rfl, rfl, hb2⟩ := hcut
      have Hb5 := hide hb2
      have heK := Hbk.out.le
      obtain ⟨e, he⟩ : ∃ e, e = bk a b := ⟨_, rfl⟩
      rw [← he] at heK ⊢
      have He := hide he
      obtain ⟨me, hme⟩ : ∃ me, me = m - e := ⟨_, rfl⟩
      obtain ⟨ne, hne⟩ : ∃ ne, ne = n - e := ⟨_, rfl⟩
      rw [← hme, ← hne]
      have hcut := fun w => run_cut2 w A m c f me (by omega) (by omega)
      have hcut' := fun w => run_cut2 w A' n c' f ne (by omega) (by omega)
      obtain ⟨A2, hA2⟩ : ∃ A2, (if c = f then A else A.map (·.add f)) = A2 := ⟨_, rfl⟩
      obtain ⟨A2', hA2'⟩ : ∃ A2', (if c' = f then A' else A'.map (·.add f)) = A2' := ⟨_, rfl⟩
      have hvX := vs_cut (Lw.Vs.below Hs.out hb2) (i := f) (j := me) (by omega) (by rw [← Hm.out]; omega)
      have hvY := vs_cut (Lw.Vs.below Hs'.out hb2) (i := f) (j := ne) (by omega) (by rw [← Hn.out]; omega)
      have hwX := vs_cut Hs.out (i := f) (j := me) (by omega) (by rw [← Hm.out]; omega)
      have hwY := vs_cut Hs'.out (i := f) (j := ne) (by omega) (by rw [← Hn.out]; omega)
      rw [hA2] at hvX hwX
      rw [hA2'] at hvY hwY
      simp only [hA2] at hcut
      simp only [hA2'] at hcut'
      obtain ⟨X, hX⟩ : ∃ X, X = mid a f e := ⟨_, rfl⟩
      obtain ⟨Y, hY⟩ : ∃ Y, Y = mid b f e := ⟨_, rfl⟩
      have hlX : X.length = me - f := by rw [hX, mid_len _ _ _ (by rw [← Hm.out]; omega), ← Hm.out, hme]
      have hlY : Y.length = ne - f := by rw [hY, mid_len _ _ _ (by rw [← Hn.out]; omega), ← Hn.out, hne]
      rw [show (a.drop f).take (me - f) = X by rw [hX, mid, ← Hm.out, hme]] at hvX hwX
      rw [show (b.drop f).take (ne - f) = Y by rw [hY, mid, ← Hn.out, hne]] at hvY hwY
      rw [← hlX] at hcut
      rw [← hlY] at hcut'
      have hX6 : X.length ≤ 700 := by omega
      have hY6 : Y.length ≤ 700 := by omega
      have hf6 : f ≤ 700 := by omega
      have hfX : f + X.length ≤ 700 := by omega
      have HX := hide hX
      have HY := hide hY
      have HvX := hide hvX
      have HvY := hide hvY
      have HwX := hide hwX
      have HwY := hide hwY
      have hfm : f ≤ me := by omega
      have hfn : f ≤ ne := by omega
      have hmc : me ≤ c := by omega
      have hnc : ne ≤ c' := by omega
      clear hb2 he hme hne hA2 hA2' hX hY hlX hlY hvX hvY hwX hwY heK hfK
      have H0 : ∀ l : Ls, ((l.length : Int) == 0) = decide (l = []) := by
        intro l
        rw [Bool.eq_iff_iff, beq_iff_eq, decide_eq_true_iff]
        exact ⟨fun h => List.eq_nil_of_length_eq_zero (by omega), fun h => by rw [h]; rfl⟩
      by_cases hx0 : X = []
      · have dx : ((X.length : Int) == 0) = true := by rw [H0, decide_eq_true hx0]
        by_cases hy0 : Y = []
        · have dy : ((Y.length : Int) == 0) = true := by rw [H0, decide_eq_true hy0]
          have HD := hide (show D a b = [] by
            have h1 := D_walk a b (by rw [← Hf.out, ← He.out, ← HX.out, hx0]; simp)
            rw [← Hf.out, ← He.out, ← HX.out, ← HY.out, hx0, hy0, go_nil] at h1
            exact h1)
          clear H0 hx0 hy0
          go_wp2
          go_ret
          exact ⟨_, rfl, by rw [HD.out]; exact OwE.nil _ _, Hb5.out⟩
        · have dy : ((Y.length : Int) == 0) = false := by rw [H0, decide_eq_false hy0]
          have HD := hide (D_one a b (by rw [← Hf.out, ← He.out, ← HX.out, ← HY.out]; exact .inl hx0) (by rw [← Hf.out, ← He.out, ← HX.out, ← HY.out]; exact fun h => hy0 h.2))
          rw [← Hf.out, ← He.out, ← HX.out, ← HY.out] at HD
          clear H0 hx0 hy0
          go_wp2_with (refine wpList_catT rfl (.tmp 102) (.tmp 103) 25 rfl Try.underlying25 infoText w.heap.size w _ [] Y _ A2' _ rfl rfl (OwT.lit _ w.heap.size 9 [] #[] rfl Hb5.out.size (Nat.zero_le _)) (Lw.Vs.below HvY.out ((Below.refl _ _).alloc (Nat.le_refl _) _)) (by simp; omega) (Hb5.out.alloc Hb5.out.size _) (by have := Hb5.out.size; simp; omega) ?_; intro vi x2 hvi hx2 _; rw [List.nil_append] at hvi; obtain ⟨Ai, ci, rfl, _⟩ := OwT.vs hvi; have Hvi := hide hvi; have Hx2 := hide hx2; clear hvi hx2)
          go_ret
          exact ⟨_, rfl, by rw [HD.out]; exact OwE.lit (e := ⟨(f : Int), (X.length : Int), Y⟩) Hvi.out Hx2.out.size, Hx2.out.alloc Hx2.out.size _⟩
      · have dx : ((X.length : Int) == 0) = false := by rw [H0, decide_eq_false hx0]
        by_cases hy0 : Y = []
        · have dy : ((Y.length : Int) == 0) = true := by rw [H0, decide_eq_true hy0]
          have HD := hide (D_one a b (by rw [← Hf.out, ← He.out, ← HX.out, ← HY.out]; exact .inr (.inl hy0)) (by rw [← Hf.out, ← He.out, ← HX.out, ← HY.out]; exact fun h => hx0 (List.eq_nil_of_length_eq_zero h.1)))
          rw [← Hf.out, ← He.out, ← HX.out, ← HY.out] at HD
          clear H0 hx0 hy0
          go_wp2_with (refine wpList_catT rfl (.tmp 102) (.tmp 103) 25 rfl Try.underlying25 infoText w.heap.size w _ [] Y _ A2' _ rfl rfl (OwT.lit _ w.heap.size 9 [] #[] rfl Hb5.out.size (Nat.zero_le _)) (Lw.Vs.below HvY.out ((Below.refl _ _).alloc (Nat.le_refl _) _)) (by simp; omega) (Hb5.out.alloc Hb5.out.size _) (by have := Hb5.out.size; simp; omega) ?_; intro vi x2 hvi hx2 _; rw [List.nil_append] at hvi; obtain ⟨Ai, ci, rfl, _⟩ := OwT.vs hvi; have Hvi := hide hvi; have Hx2 := hide hx2; clear hvi hx2)
          go_ret
          exact ⟨_, rfl, by rw [HD.out]; exact OwE.lit (e := ⟨(f : Int), (X.length : Int), Y⟩) Hvi.out Hx2.out.size, Hx2.out.alloc Hx2.out.size _⟩
        · have dy : ((Y.length : Int) == 0) = false := by rw [H0, decide_eq_false hy0]
          obtain ⟨Q, hQ⟩ : ∃ Q, Q = X.length * Y.length := ⟨_, rfl⟩
          have hQ' : (X.length : Int) * (Y.length : Int) = (Q : Int) := by rw [hQ]; simp
          have hQ6 : Q ≤ 1000000 := by rw [hQ]; exact Nat.le_trans (mul_le hX6 hY6) (by omega)
          by_cases hq : 65536 < Q
          · have dq : decide (65536 < (Q : Int)) = true := decide_eq_true (by omega)
            have dq2 : decide (65536 < Q) = true := decide_eq_true hq
            have HD := hide (D_one a b (by rw [← Hf.out, ← He.out, ← HX.out, ← HY.out, ← hQ]; exact .inr (.inr hq)) (by rw [← Hf.out, ← He.out, ← HX.out, ← HY.out]; exact fun h => hy0 h.2))
            rw [← Hf.out, ← He.out, ← HX.out, ← HY.out] at HD
            clear hQ H0 hx0 hy0 hq
            go_wp2_with (refine wpList_catT rfl (.tmp 102) (.tmp 103) 25 rfl Try.underlying25 infoText w.heap.size w _ [] Y _ A2' _ rfl rfl (OwT.lit _ w.heap.size 9 [] #[] rfl Hb5.out.size (Nat.zero_le _)) (Lw.Vs.below HvY.out ((Below.refl _ _).alloc (Nat.le_refl _) _)) (by simp; omega) (Hb5.out.alloc Hb5.out.size _) (by have := Hb5.out.size; simp; omega) ?_; intro vi x2 hvi hx2 _; rw [List.nil_append] at hvi; obtain ⟨Ai, ci, rfl, _⟩ := OwT.vs hvi; have Hvi := hide hvi; have Hx2 := hide hx2; clear hvi hx2)
            go_ret
            exact ⟨_, rfl, by rw [HD.out]; exact OwE.lit (e := ⟨(f : Int), (X.length : Int), Y⟩) Hvi.out Hx2.out.size, Hx2.out.alloc Hx2.out.size _⟩
          have dq : decide (65536 < (Q : Int)) = false := decide_eq_false (by omega)
          have HD := hide (D_walk a b (by rw [← Hf.out, ← He.out, ← HX.out, ← HY.out, ← hQ]; omega))
          clear hq
          rw [← Hf.out, ← He.out, ← HX.out, ← HY.out] at HD
          clear hQ H0 hx0 hy0
          go_wp2
          go_loopw [8, 9, 10, 11, 12] (fun v8 v9 v10 v11 v12 wr => ∃ (xs ys : Ls) (q nx ny : Nat) (Ax Ay : Option Addr) (cx cy : Nat) (v u : Value), v = v10 ∧ u = v11 ∧ v8 = .slice Ax nx cx ∧ v9 = .slice Ay ny cy ∧ v12 = .int .i64 q ∧ (nx = xs.length ∧ ny = ys.length ∧ nx ≤ cx ∧ ny ≤ cy ∧ q + nx ≤ 700 ∧ ny ≤ 700) ∧ Lw.Vs w (fun b => b < w.heap.size) Ax cx (texts xs) ∧ Lw.Vs w (fun b => b < w.heap.size) Ay cy (texts ys) ∧ Below w.heap.size w wr ∧ St wr w.heap.size v u q xs ys (D a b)) (fun v8 v9 _ _ _ _ => slen v8 + slen v9)
          case atStart =>
            have hx1 := HwX.out.1
            have hy1 := HwY.out.1
            rw [texts_len] at hx1 hy1
            exact ⟨X, Y, f, _, _, _, _, _, _, _, _, rfl, rfl, rfl, rfl, rfl, ⟨rfl, rfl, hx1, hy1, by omega, hY6⟩, HwX.out, HwY.out, Hb5.out, .inl ⟨rfl, [], OwE.nil _ _, by rw [HD.out]; rfl, by simp; omega⟩⟩
          case round =>
            obtain ⟨xs, ys, q, nx, ny, Ax, Ay, cx, cy, v, u, rfl, rfl, rfl, rfl, rfl, ⟨hnx, hny, hxc, hyc, hq6, hy6⟩, hvx, hvy, hb, hst⟩ := hrel
            have Hb := hide hb
            have Hst := hide hst
            have hx6 : nx ≤ 700 := by omega
            clear hb hst HD HvX HvY HwX HwY hQ' dq
            clear dx dy hcut hcut'
            rcases xs with _ | ⟨x, xs⟩
            · obtain rfl : nx = 0 := hnx
              rcases ys with _ | ⟨y, ys⟩
              · obtain rfl : ny = 0 := hny
                have Hend := hide Hst.out.ends
                clear hvx hvy
                go_wp2
                go_ret
                exact ⟨_, rfl, Hend.out, Hb.out⟩
              · skip
                obtain ⟨ny1, hny1⟩ : ∃ ny1, ny1 = ys.length := ⟨_, rfl⟩
                have hny2 : ny = ny1 + 1 := by rw [hny, hny1]; rfl
                obtain ⟨blky, offy, hAy, cay⟩ := hvy.text Hb.out (k := 0) (by simp)
                simp only [List.getD_cons_zero, Nat.add_zero] at cay
                have hvy' := vs_tail hvy
                have hcuty := fun w => run_tail w Ay ny cy (by omega)
                rw [show ny - 1 = ny1 by omega] at hcuty
                obtain ⟨Ay2, hAy2⟩ : ∃ Ay2, (if cy = 1 then Ay else Ay.map (·.add 1)) = Ay2 := ⟨_, rfl⟩
                rw [hAy2] at hvy'
                simp only [hAy2] at hcuty
                have Hvy := hide hvy
                have Hvy' := hide hvy'
                have cy0 : (0 : Int) < (ny : Int) := by omega
                have dy : decide ((0 : Int) < (ny : Int)) = true := decide_eq_true cy0
                have ey : ((ny : Int) == 0) = false := by rw [beq_eq_false_iff_ne]; omega
                have py : 0 < ny := by omega
                have ly : ny1 < ny := by omega
                have Hny := hide hny
                have Hny1 := hide hny1
                have Hny2 := hide hny2
                have Hny3 := hide (Hvy'.out.1)
                rw [texts_len, ← hny1] at Hny3
                subst hAy
                clear hvy hvy' hAy2 hny hny1 hny2
                rcases Hst.out with ⟨rfl, O, hown, hT, hlen⟩ | ⟨rfl, g, cap, Ai, ci, O, p, d, I, rfl, hown, hdi, hq, hT, hlen, hil⟩
                · skip
                  have hq : q ≤ 700 := by omega
                  have Hown := hide hown
                  have HT := hide hT
                  obtain ⟨N, hN⟩ : ∃ N, N = O.length := ⟨_, rfl⟩
                  obtain ⟨M, hM⟩ : ∃ M, M = O.length + 1 := ⟨_, rfl⟩
                  have HN := hide hN
                  have HM := hide hM
                  have Hlen := hide hlen
                  have Hq := hide hq
                  have hMN : (M : Int) - 1 = (N : Int) := by omega
                  have hM6 : M ≤ 1402 := by omega
                  have hNM : N < M := by omega
                  have hwM : IntKind.i64.wrap ((M : Int) - 1) = (N : Int) := by rw [IntWalk.i64_in _ (by omega)]; omega
                  obtain ⟨q1, hq1⟩ : ∃ q1, q1 = q + 1 := ⟨_, rfl⟩
                  have hwq : IntKind.i64.wrap ((q : Int) + 1) = (q1 : Int) := by rw [IntWalk.i64_in _ (by omega)]; omega
                  have Hq1 := hide hq1
                  clear hMN
                  clear hown hT hN hM hlen hq hq1
                  go_wp2
                  go_quiet (fail)
                  clear cay
                  go_wp2_with (refine wpList_pushL rfl (.tmp 141) (.tmp 144) rfl w.heap.size w _ O (q : Int) _ rfl rfl rfl (Hown.out.drewN _) M HM.out (by have := Hlen.out; omega) (below_drewN Hb.out _) (below_drewN Hb.out nq).size ?_; intro g cap w2 hl2 hb2; have Hl2 := hide hl2; have Hb2 := hide hb2; have hNc := hl2.lt.2.2; rw [← HN.out] at hNc; have cd1 := (hl2.cell HN.out 1 (by omega)).1; have fd1 := (hl2.cell HN.out 1 (by omega)).2; simp only [edC, List.getElem?_cons_succ, List.getElem?_cons_zero] at cd1; clear hl2 hb2)
                  go_wp2
                  have Hl6 := hide Hl2.out.drew
                  have Hb6 := hide Hb2.out.drew
                  have s0 := (Hl2.out.cell HN.out 2 (by omega)).1
                  simp only [edC, List.getElem?_cons_succ, List.getElem?_cons_zero] at s0
                  obtain ⟨bq, oq, hAy', s1⟩ := Hvy.out.text Hb2.out (k := 0) (by simp)
                  simp only [List.getD_cons_zero, Nat.add_zero] at s1
                  injection hAy' with hAy'
                  injection hAy' with hAy1 hAy2 _
                  subst hAy1 hAy2
                  refine Rg.wp_region_ord (fun w' => w'.cell? ⟨g, N * 3 + 2, none⟩ = some (.slice none 0 0) ∧ w'.cell? ⟨blky, offy, none⟩ = some (.string ⟨y.toArray⟩)) [(0, true), (1, true), (2, true), (3, true), (4, true), (5, true), (6, true), (7, true), (8, true), (9, true), (10, false), (11, false), (12, true), (13, true), (14, false)] (by kernel_rfl) (by kernel_rfl) ?_
                  simp only [Rg.pick, List.map_cons, List.map_nil, List.getD_cons_zero, List.getD_cons_succ]
                  iterate 10 (refine Rg.ord_quiet (v := ?_) rfl (fun w' hS => ?_) ⟨s0, s1⟩ ?_; rotate_left; (obtain ⟨t0, t1⟩ := hS; go_simp; with_reducible rfl); simp only [Act.put, List.setIfInBounds_toArray, List.set_cons_succ, List.set_cons_zero])
                  refine Rg.ord_loud rfl (fun K hK => ?_)
                  go_simp
                  refine hK _ _ (fun hf => ⟨?_, ?_⟩) ?_
                  · exact cell_keep ((Below.refl _ _).alloc (Nat.le_refl _) _).drew s0
                  · exact cell_keep ((Below.refl _ _).alloc (Nat.le_refl _) _).drew s1
                  clear hK K
                  refine Rg.ord_loud rfl (fun K hK => ?_)
                  refine wp_pushT (.tmp 190) (.tmp 194) rfl w.heap.size w (.slice none 0 0) [] y _ rfl rfl rfl Hl6.out.ins (by simp) Hb6.out Hb6.out.size ?_
                  intro v7 w7 hv7 hb7 hg7 hbl7
                  have g0 := Hl6.out.grown HN.out hg7 2 (by omega)
                  simp only [edC, List.getElem?_cons_succ, List.getElem?_cons_zero] at g0
                  obtain ⟨bq2, oq2, hAy', g1⟩ := Hvy.out.text hb7 (k := 0) (by simp)
                  simp only [List.getD_cons_zero, Nat.add_zero] at g1
                  injection hAy' with hAy'
                  injection hAy' with hAy1 hAy2 _
                  subst hAy1 hAy2
                  obtain ⟨A7, c7, hv7e, _⟩ := OwT.vs hv7
                  subst hv7e
                  obtain ⟨n7, hn7⟩ : ∃ n7, n7 = ([] ++ [y]).length := ⟨_, rfl⟩
                  have Hn7 := hide hn7
                  rw [← hn7]
                  have Hl7 := hide (Hl6.out.setIns HN.out hg7 hv7 (hbl7.imp id fun h => ⟨_, h, Nat.le_succ _⟩))
                  have Hb7 := hide hb7
                  have hf7 := g0.2
                  have hs7 := g0.1
                  refine hK _ _ (fun _ => ⟨hs7, g1⟩) ?_
                  clear hK K s0 s1 hv7 hb7 hg7 hbl7 g0 hn7
                  iterate 2 (refine Rg.ord_quiet (v := ?_) rfl (fun w' hS => ?_) ⟨hs7, g1⟩ ?_; rotate_left; (obtain ⟨t0, t1⟩ := hS; go_simp; with_reducible rfl); simp only [Act.put, List.setIfInBounds_toArray, List.set_cons_succ, List.set_cons_zero])
                  refine Rg.ord_loud rfl (fun K hK => ?_)
                  go_simp
                  refine hK _ _ (fun hf => absurd (show Rg.sink _ 14 = true from by kernel_rfl) (by rw [hf]; decide)) ?_
                  clear hK K hs7 hf7 g1
                  refine Rg.ord_nil ?_
                  go_wp2
                  refine ⟨⟨[], ys, q, 0, ny1, _, Ay2, cx, cy - 1, _, _, rfl, rfl, rfl, rfl, rfl, ⟨rfl, Hny1.out, by omega, by have := Hny2.out; omega, by omega, by omega⟩, hvx, Hvy'.out, below_put Hb7.out Hl2.out.lt.1 _, .inr ⟨rfl, g, cap, _, _, O, q, 0, [] ++ [y], by rw [HM.out], by rw [Hn7.out]; exact Hl7.out, .inr (by simp), rfl, by rw [← HT.out, go_come], by have := Hlen.out; simp at this ⊢ <;> omega, by have := Hlen.out; simp at this ⊢ <;> omega⟩⟩, by simp [slen]; have := Hny2.out; omega⟩
                · skip
                  have Hown := hide hown
                  have HT := hide hT
                  obtain ⟨N, hN⟩ : ∃ N, N = O.length := ⟨_, rfl⟩
                  obtain ⟨M, hM⟩ : ∃ M, M = O.length + 1 := ⟨_, rfl⟩
                  rw [← hM]
                  have HN := hide hN
                  have HM := hide hM
                  have Hlen := hide hlen
                  have Hq := hide hq
                  have hMN : (M : Int) - 1 = (N : Int) := by omega
                  have hM6 : M ≤ 1402 := by omega
                  have hNM : N < M := by omega
                  have hwM : IntKind.i64.wrap ((M : Int) - 1) = (N : Int) := by rw [IntWalk.i64_in _ (by omega)]; omega
                  obtain ⟨q1, hq1⟩ : ∃ q1, q1 = q + 1 := ⟨_, rfl⟩
                  have hwq : IntKind.i64.wrap ((q : Int) + 1) = (q1 : Int) := by rw [IntWalk.i64_in _ (by omega)]; omega
                  have Hq1 := hide hq1
                  clear hMN
                  have Hil := hide hil
                  have Hdi := hide hdi
                  have Hins := hide Hown.out.ins
                  obtain ⟨d1, hd1⟩ : ∃ d1, d1 = d + 1 := ⟨_, rfl⟩
                  have hd6 : d ≤ 700 := by omega
                  have hwd : IntKind.i64.wrap ((d : Int) + 1) = (d1 : Int) := by rw [IntWalk.i64_in _ (by omega)]; omega
                  have Hd1 := hide hd1
                  have hNc := Hown.out.lt.2.2
                  rw [← hN] at hNc
                  clear hown hT hN hM hlen hq hq1 hd1 hil hdi
                  go_wp2
                  go_quiet (fail)
                  have Hl2 := hide (Hown.out.drewN nq)
                  have Hb2 := hide (below_drewN Hb.out nq)
                  obtain ⟨w2, hw2⟩ : ∃ w2, w2 = wr.drewN nq := ⟨_, rfl⟩
                  rw [← hw2] at Hl2 Hb2 ⊢
                  have cd1 := (Hl2.out.cell HN.out 1 (by omega)).1
                  have fd1 := (Hl2.out.cell HN.out 1 (by omega)).2
                  simp only [edC, List.getElem?_cons_succ, List.getElem?_cons_zero] at cd1
                  clear hw2
                  clear cay
                  go_wp2
                  have Hl6 := hide Hl2.out.drew
                  have Hb6 := hide Hb2.out.drew
                  have s0 := (Hl2.out.cell HN.out 2 (by omega)).1
                  simp only [edC, List.getElem?_cons_succ, List.getElem?_cons_zero] at s0
                  obtain ⟨bq, oq, hAy', s1⟩ := Hvy.out.text Hb2.out (k := 0) (by simp)
                  simp only [List.getD_cons_zero, Nat.add_zero] at s1
                  injection hAy' with hAy'
                  injection hAy' with hAy1 hAy2 _
                  subst hAy1 hAy2
                  refine Rg.wp_region_ord (fun w' => w'.cell? ⟨g, N * 3 + 2, none⟩ = some (.slice Ai I.length ci) ∧ w'.cell? ⟨blky, offy, none⟩ = some (.string ⟨y.toArray⟩)) [(0, true), (1, true), (2, true), (3, true), (4, true), (5, true), (6, true), (7, true), (8, true), (9, true), (10, false), (11, false), (12, true), (13, true), (14, false)] (by kernel_rfl) (by kernel_rfl) ?_
                  simp only [Rg.pick, List.map_cons, List.map_nil, List.getD_cons_zero, List.getD_cons_succ]
                  iterate 10 (refine Rg.ord_quiet (v := ?_) rfl (fun w' hS => ?_) ⟨s0, s1⟩ ?_; rotate_left; (obtain ⟨t0, t1⟩ := hS; go_simp; with_reducible rfl); simp only [Act.put, List.setIfInBounds_toArray, List.set_cons_succ, List.set_cons_zero])
                  refine Rg.ord_loud rfl (fun K hK => ?_)
                  go_simp
                  refine hK _ _ (fun hf => ⟨?_, ?_⟩) ?_
                  · exact cell_keep ((Below.refl _ _).alloc (Nat.le_refl _) _).drew s0
                  · exact cell_keep ((Below.refl _ _).alloc (Nat.le_refl _) _).drew s1
                  clear hK K
                  refine Rg.ord_loud rfl (fun K hK => ?_)
                  refine wp_pushT (.tmp 190) (.tmp 194) rfl w.heap.size w (.slice Ai I.length ci) I y _ rfl rfl rfl Hl6.out.ins (by have := Hil.out; simp at this ⊢ <;> omega) Hb6.out Hb6.out.size ?_
                  intro v7 w7 hv7 hb7 hg7 hbl7
                  have g0 := Hl6.out.grown HN.out hg7 2 (by omega)
                  simp only [edC, List.getElem?_cons_succ, List.getElem?_cons_zero] at g0
                  obtain ⟨bq2, oq2, hAy', g1⟩ := Hvy.out.text hb7 (k := 0) (by simp)
                  simp only [List.getD_cons_zero, Nat.add_zero] at g1
                  injection hAy' with hAy'
                  injection hAy' with hAy1 hAy2 _
                  subst hAy1 hAy2
                  obtain ⟨A7, c7, hv7e, _⟩ := OwT.vs hv7
                  subst hv7e
                  obtain ⟨n7, hn7⟩ : ∃ n7, n7 = (I ++ [y]).length := ⟨_, rfl⟩
                  have Hn7 := hide hn7
                  rw [← hn7]
                  have Hl7 := hide (Hl6.out.setIns HN.out hg7 hv7 (hbl7.imp id fun h => ⟨_, h, Nat.le_succ _⟩))
                  have Hb7 := hide hb7
                  have hf7 := g0.2
                  have hs7 := g0.1
                  refine hK _ _ (fun _ => ⟨hs7, g1⟩) ?_
                  clear hK K s0 s1 hv7 hb7 hg7 hbl7 g0 hn7
                  iterate 2 (refine Rg.ord_quiet (v := ?_) rfl (fun w' hS => ?_) ⟨hs7, g1⟩ ?_; rotate_left; (obtain ⟨t0, t1⟩ := hS; go_simp; with_reducible rfl); simp only [Act.put, List.setIfInBounds_toArray, List.set_cons_succ, List.set_cons_zero])
                  refine Rg.ord_loud rfl (fun K hK => ?_)
                  go_simp
                  refine hK _ _ (fun hf => absurd (show Rg.sink _ 14 = true from by kernel_rfl) (by rw [hf]; decide)) ?_
                  clear hK K hs7 hf7 g1
                  refine Rg.ord_nil ?_
                  go_wp2
                  refine ⟨⟨[], ys, q, 0, ny1, _, Ay2, cx, cy - 1, _, _, rfl, rfl, rfl, rfl, rfl, ⟨rfl, Hny1.out, by omega, by have := Hny2.out; omega, by omega, by omega⟩, hvx, Hvy'.out, below_put Hb7.out Hl2.out.lt.1 _, .inr ⟨rfl, g, cap, _, _, O, p, d, I ++ [y], by rw [HM.out], by rw [Hn7.out]; exact Hl7.out, .inr (by simp), Hq.out, by rw [← HT.out, go_come], by have := Hlen.out; simp at this ⊢ <;> omega, by have := Hil.out; simp at this ⊢ <;> omega⟩⟩, by simp [slen]; have := Hny2.out; omega⟩
            · skip
              rcases ys with _ | ⟨y, ys⟩
              · obtain rfl : ny = 0 := hny
                obtain ⟨nx1, hnx1⟩ : ∃ nx1, nx1 = xs.length := ⟨_, rfl⟩
                have hnx2 : nx = nx1 + 1 := by rw [hnx, hnx1]; rfl
                obtain ⟨blkx, offx, hAx, cax⟩ := hvx.text Hb.out (k := 0) (by simp)
                simp only [List.getD_cons_zero, Nat.add_zero] at cax
                have hvx' := vs_tail hvx
                have hcutx := fun w => run_tail w Ax nx cx (by omega)
                rw [show nx - 1 = nx1 by omega] at hcutx
                obtain ⟨Ax2, hAx2⟩ : ∃ Ax2, (if cx = 1 then Ax else Ax.map (·.add 1)) = Ax2 := ⟨_, rfl⟩
                rw [hAx2] at hvx'
                simp only [hAx2] at hcutx
                have Hvx := hide hvx
                have Hvx' := hide hvx'
                have cx0 : (0 : Int) < (nx : Int) := by omega
                have dx : decide ((0 : Int) < (nx : Int)) = true := decide_eq_true cx0
                have ex : ((nx : Int) == 0) = false := by rw [beq_eq_false_iff_ne]; omega
                have px : 0 < nx := by omega
                have lx : nx1 < nx := by omega
                have Hnx := hide hnx
                have Hnx1 := hide hnx1
                have Hnx2 := hide hnx2
                have Hnx3 := hide (Hvx'.out.1)
                rw [texts_len, ← hnx1] at Hnx3
                subst hAx
                clear hvx hvx' hAx2 hnx hnx1 hnx2
                rcases Hst.out with ⟨rfl, O, hown, hT, hlen⟩ | ⟨rfl, g, cap, Ai, ci, O, p, d, I, rfl, hown, hdi, hq, hT, hlen, hil⟩
                · skip
                  have hq : q ≤ 700 := by omega
                  have Hown := hide hown
                  have HT := hide hT
                  obtain ⟨N, hN⟩ : ∃ N, N = O.length := ⟨_, rfl⟩
                  obtain ⟨M, hM⟩ : ∃ M, M = O.length + 1 := ⟨_, rfl⟩
                  have HN := hide hN
                  have HM := hide hM
                  have Hlen := hide hlen
                  have Hq := hide hq
                  have hMN : (M : Int) - 1 = (N : Int) := by omega
                  have hM6 : M ≤ 1402 := by omega
                  have hNM : N < M := by omega
                  have hwM : IntKind.i64.wrap ((M : Int) - 1) = (N : Int) := by rw [IntWalk.i64_in _ (by omega)]; omega
                  obtain ⟨q1, hq1⟩ : ∃ q1, q1 = q + 1 := ⟨_, rfl⟩
                  have hwq : IntKind.i64.wrap ((q : Int) + 1) = (q1 : Int) := by rw [IntWalk.i64_in _ (by omega)]; omega
                  have Hq1 := hide hq1
                  clear hMN
                  clear hown hT hN hM hlen hq hq1
                  go_wp2
                  go_quiet (fail)
                  clear cax
                  go_wp2_with (refine wpList_pushL rfl (.tmp 141) (.tmp 144) rfl w.heap.size w _ O (q : Int) _ rfl rfl rfl (Hown.out.drewN _) M HM.out (by have := Hlen.out; omega) (below_drewN Hb.out _) (below_drewN Hb.out nq).size ?_; intro g cap w2 hl2 hb2; have Hl2 := hide hl2; have Hb2 := hide hb2; have hNc := hl2.lt.2.2; rw [← HN.out] at hNc; have cd1 := (hl2.cell HN.out 1 (by omega)).1; have fd1 := (hl2.cell HN.out 1 (by omega)).2; simp only [edC, List.getElem?_cons_succ, List.getElem?_cons_zero] at cd1; clear hl2 hb2)
                  go_wp2
                  clear hwM hwq
                  refine ⟨⟨xs, [], q1, nx1, 0, Ax2, _, cx - 1, cy, _, _, rfl, rfl, rfl, rfl, by go_num, ⟨Hnx1.out, rfl, by have := Hnx2.out; omega, by omega, by have := Hnx2.out; have := Hq1.out; omega, by omega⟩, Hvx'.out, hvy, below_put Hb2.out Hl2.out.lt.1 _, .inr ⟨rfl, g, cap, _, _, O, q, 1, [], by rw [HM.out], Hl2.out.setDel HN.out _, .inl (by decide), by have := Hq1.out; omega, by rw [← HT.out, go_gone], by have := Hlen.out; simp at this ⊢ <;> omega, by have := Hlen.out; simp at this ⊢ <;> omega⟩⟩, by simp [slen]; have := Hnx2.out; omega⟩
                · skip
                  have Hown := hide hown
                  have HT := hide hT
                  obtain ⟨N, hN⟩ : ∃ N, N = O.length := ⟨_, rfl⟩
                  obtain ⟨M, hM⟩ : ∃ M, M = O.length + 1 := ⟨_, rfl⟩
                  rw [← hM]
                  have HN := hide hN
                  have HM := hide hM
                  have Hlen := hide hlen
                  have Hq := hide hq
                  have hMN : (M : Int) - 1 = (N : Int) := by omega
                  have hM6 : M ≤ 1402 := by omega
                  have hNM : N < M := by omega
                  have hwM : IntKind.i64.wrap ((M : Int) - 1) = (N : Int) := by rw [IntWalk.i64_in _ (by omega)]; omega
                  obtain ⟨q1, hq1⟩ : ∃ q1, q1 = q + 1 := ⟨_, rfl⟩
                  have hwq : IntKind.i64.wrap ((q : Int) + 1) = (q1 : Int) := by rw [IntWalk.i64_in _ (by omega)]; omega
                  have Hq1 := hide hq1
                  clear hMN
                  have Hil := hide hil
                  have Hdi := hide hdi
                  have Hins := hide Hown.out.ins
                  obtain ⟨d1, hd1⟩ : ∃ d1, d1 = d + 1 := ⟨_, rfl⟩
                  have hd6 : d ≤ 700 := by omega
                  have hwd : IntKind.i64.wrap ((d : Int) + 1) = (d1 : Int) := by rw [IntWalk.i64_in _ (by omega)]; omega
                  have Hd1 := hide hd1
                  have hNc := Hown.out.lt.2.2
                  rw [← hN] at hNc
                  clear hown hT hN hM hlen hq hq1 hd1 hil hdi
                  go_wp2
                  go_quiet (fail)
                  have Hl2 := hide (Hown.out.drewN nq)
                  have Hb2 := hide (below_drewN Hb.out nq)
                  obtain ⟨w2, hw2⟩ : ∃ w2, w2 = wr.drewN nq := ⟨_, rfl⟩
                  rw [← hw2] at Hl2 Hb2 ⊢
                  have cd1 := (Hl2.out.cell HN.out 1 (by omega)).1
                  have fd1 := (Hl2.out.cell HN.out 1 (by omega)).2
                  simp only [edC, List.getElem?_cons_succ, List.getElem?_cons_zero] at cd1
                  clear hw2
                  clear cax
                  go_wp2
                  clear hwM hwq
                  refine ⟨⟨xs, [], q1, nx1, 0, Ax2, _, cx - 1, cy, _, _, rfl, rfl, rfl, rfl, by go_num, ⟨Hnx1.out, rfl, by have := Hnx2.out; omega, by omega, by have := Hnx2.out; have := Hq1.out; omega, by omega⟩, Hvx'.out, hvy, below_put Hb2.out Hl2.out.lt.1 _, .inr ⟨rfl, g, cap, _, _, O, p, d1, I, by rw [HM.out], Hl2.out.setDel HN.out _, .inl (by have := Hd1.out; omega), by have := Hq1.out; have := Hd1.out; have := Hq.out; omega, by rw [← HT.out, go_gone]; have := Hd1.out; rw [this], by have := Hlen.out; simp at this ⊢ <;> omega, by have := Hil.out; simp at this ⊢ <;> omega⟩⟩, by simp [slen]; have := Hnx2.out; omega⟩
              · skip
                obtain ⟨nx1, hnx1⟩ : ∃ nx1, nx1 = xs.length := ⟨_, rfl⟩
                have hnx2 : nx = nx1 + 1 := by rw [hnx, hnx1]; rfl
                obtain ⟨blkx, offx, hAx, cax⟩ := hvx.text Hb.out (k := 0) (by simp)
                simp only [List.getD_cons_zero, Nat.add_zero] at cax
                have hvx' := vs_tail hvx
                have hcutx := fun w => run_tail w Ax nx cx (by omega)
                rw [show nx - 1 = nx1 by omega] at hcutx
                obtain ⟨Ax2, hAx2⟩ : ∃ Ax2, (if cx = 1 then Ax else Ax.map (·.add 1)) = Ax2 := ⟨_, rfl⟩
                rw [hAx2] at hvx'
                simp only [hAx2] at hcutx
                have Hvx := hide hvx
                have Hvx' := hide hvx'
                have cx0 : (0 : Int) < (nx : Int) := by omega
                have dx : decide ((0 : Int) < (nx : Int)) = true := decide_eq_true cx0
                have ex : ((nx : Int) == 0) = false := by rw [beq_eq_false_iff_ne]; omega
                have px : 0 < nx := by omega
                have lx : nx1 < nx := by omega
                have Hnx := hide hnx
                have Hnx1 := hide hnx1
                have Hnx2 := hide hnx2
                have Hnx3 := hide (Hvx'.out.1)
                rw [texts_len, ← hnx1] at Hnx3
                subst hAx
                clear hvx hvx' hAx2 hnx hnx1 hnx2
                obtain ⟨ny1, hny1⟩ : ∃ ny1, ny1 = ys.length := ⟨_, rfl⟩
                have hny2 : ny = ny1 + 1 := by rw [hny, hny1]; rfl
                obtain ⟨blky, offy, hAy, cay⟩ := hvy.text Hb.out (k := 0) (by simp)
                simp only [List.getD_cons_zero, Nat.add_zero] at cay
                have hvy' := vs_tail hvy
                have hcuty := fun w => run_tail w Ay ny cy (by omega)
                rw [show ny - 1 = ny1 by omega] at hcuty
                obtain ⟨Ay2, hAy2⟩ : ∃ Ay2, (if cy = 1 then Ay else Ay.map (·.add 1)) = Ay2 := ⟨_, rfl⟩
                rw [hAy2] at hvy'
                simp only [hAy2] at hcuty
                have Hvy := hide hvy
                have Hvy' := hide hvy'
                have cy0 : (0 : Int) < (ny : Int) := by omega
                have dy : decide ((0 : Int) < (ny : Int)) = true := decide_eq_true cy0
                have ey : ((ny : Int) == 0) = false := by rw [beq_eq_false_iff_ne]; omega
                have py : 0 < ny := by omega
                have ly : ny1 < ny := by omega
                have Hny := hide hny
                have Hny1 := hide hny1
                have Hny2 := hide hny2
                have Hny3 := hide (Hvy'.out.1)
                rw [texts_len, ← hny1] at Hny3
                subst hAy
                clear hvy hvy' hAy2 hny hny1 hny2
                by_cases hxy : x = y
                · have hbq : (x == y) = true := by rw [hxy]; exact beq_self_eq_true _
                  obtain ⟨q1, hq1⟩ : ∃ q1, q1 = q + 1 := ⟨_, rfl⟩
                  have hwq : IntKind.i64.wrap ((q : Int) + 1) = (q1 : Int) := by rw [IntWalk.i64_in _ (by omega)]; omega
                  have Hst2 := hide (show St wr w.heap.size v (.bool false) q1 xs ys (D a b) by rw [hq1]; exact St.stay (x := x) (by have := Hst.out; rw [← hxy] at this; exact this))
                  have Hq1 := hide hq1
                  clear hxy hq1
                  go_wp2
                  go_quiet (fail)
                  go_wp2
                  clear hwq
                  exact ⟨⟨xs, ys, q1, nx1, ny1, Ax2, Ay2, cx - 1, cy - 1, _, _, rfl, rfl, rfl, rfl, by go_num, ⟨Hnx1.out, Hny1.out, by have := Hnx2.out; omega, by have := Hny2.out; omega, by have := Hnx2.out; have := Hq1.out; omega, by omega⟩, Hvx'.out, Hvy'.out, below_drewN Hb.out nq, Hst2.out.drewN nq⟩, by simp [slen]; have := Hnx2.out; have := Hny2.out; omega⟩
                · have hbq : (x == y) = false := by rw [beq_eq_false_iff_ne]; exact hxy
                  obtain ⟨u, hu⟩ : ∃ u, u = lcs xs (y :: ys) := ⟨_, rfl⟩
                  obtain ⟨z, hz⟩ : ∃ z, z = lcs (x :: xs) ys := ⟨_, rfl⟩
                  have Hz := hide (show (z ≤ u → ∀ p d I, go (x :: xs) (y :: ys) p d I = go xs (y :: ys) p (d + 1) I) ∧ (¬ z ≤ u → ∀ p d I, go (x :: xs) (y :: ys) p d I = go (x :: xs) ys p d (I ++ [y])) from
                    ⟨fun h p d I => by rw [go_both, if_neg hxy, if_pos (by rw [← hz, ← hu]; exact h)], fun h p d I => by rw [go_both, if_neg hxy, if_neg (by rw [← hz, ← hu]; exact h)]⟩)
                  have hC1 := fun w1 (hb : Below w.heap.size w w1) => common_any xs (y :: ys) Ax2 _ (cx - 1) cy _ _ w1 (Lw.Vs.below Hvx'.out hb) (Lw.Vs.below Hvy.out hb) (by rw [← Hnx1.out]; omega) (by rw [← Hny.out]; omega)
                  rw [← Hnx1.out, ← Hny.out, ← hu] at hC1
                  have hC2 := fun w1 (hb : Below w.heap.size w w1) => common_any (x :: xs) ys _ Ay2 cx (cy - 1) _ _ w1 (Lw.Vs.below Hvx.out hb) (Lw.Vs.below Hvy'.out hb) (by rw [← Hnx.out]; omega) (by rw [← Hny1.out]; omega)
                  rw [← Hny1.out, ← Hnx.out, ← hz] at hC2
                  have HC1 := hide hC1
                  have HC2 := hide hC2
                  have hz6 : z ≤ 100000 := by rw [hz]; have := lcs_le_right (x :: xs) ys; rw [← Hny1.out] at this; omega
                  have hu6 : u ≤ 100000 := by rw [hu]; have := lcs_le_left xs (y :: ys); rw [← Hnx1.out] at this; omega
                  clear hC1 hC2 hz hu hxy
                  rcases Hst.out with ⟨rfl, O, hown, hT, hlen⟩ | ⟨rfl, g, cap, Ai, ci, O, p, d, I, rfl, hown, hdi, hq, hT, hlen, hil⟩
                  · skip
                    have hq : q ≤ 700 := by omega
                    have Hown := hide hown
                    have HT := hide hT
                    obtain ⟨N, hN⟩ : ∃ N, N = O.length := ⟨_, rfl⟩
                    obtain ⟨M, hM⟩ : ∃ M, M = O.length + 1 := ⟨_, rfl⟩
                    have HN := hide hN
                    have HM := hide hM
                    have Hlen := hide hlen
                    have Hq := hide hq
                    have hMN : (M : Int) - 1 = (N : Int) := by omega
                    have hM6 : M ≤ 1402 := by omega
                    have hNM : N < M := by omega
                    have hwM : IntKind.i64.wrap ((M : Int) - 1) = (N : Int) := by rw [IntWalk.i64_in _ (by omega)]; omega
                    obtain ⟨q1, hq1⟩ : ∃ q1, q1 = q + 1 := ⟨_, rfl⟩
                    have hwq : IntKind.i64.wrap ((q : Int) + 1) = (q1 : Int) := by rw [IntWalk.i64_in _ (by omega)]; omega
                    have Hq1 := hide hq1
                    clear hMN
                    clear hown hT hN hM hlen hq hq1
                    go_wp2
                    go_quiet (fail)
                    clear cax cay
                    go_wp2_with (refine wpList_pushL rfl (.tmp 141) (.tmp 144) rfl w.heap.size w _ O (q : Int) _ rfl rfl rfl (Hown.out.drewN _) M HM.out (by have := Hlen.out; omega) (below_drewN Hb.out _) (below_drewN Hb.out nq).size ?_; intro g cap w2 hl2 hb2; have Hl2 := hide hl2; have Hb2 := hide hb2; have hNc := hl2.lt.2.2; rw [← HN.out] at hNc; have cd1 := (hl2.cell HN.out 1 (by omega)).1; have fd1 := (hl2.cell HN.out 1 (by omega)).2; simp only [edC, List.getElem?_cons_succ, List.getElem?_cons_zero] at cd1; clear hl2 hb2)
                    clear cd1 fd1
                    refine Rg.wp_region_ord (fun _ => True) [(0, true), (1, true), (2, true), (4, true), (5, true), (6, true), (3, false), (7, false), (8, true), (9, true)] (by kernel_rfl) (by kernel_rfl) ?_
                    simp only [Rg.pick, List.map_cons, List.map_nil, List.getD_cons_zero, List.getD_cons_succ]
                    iterate 6 (refine Rg.ord_quiet (v := ?_) rfl (fun w' hS => ?_) trivial ?_; rotate_left; (go_simp; with_reducible rfl); simp only [Act.put, List.setIfInBounds_toArray, List.set_cons_succ, List.set_cons_zero])
                    refine Rg.ord_loud rfl (fun K hK => ?_)
                    go_simp
                    refine (HC1.out _ Hb2.out.drew).mono ?_
                    rintro e w3 ⟨rfl, hb3⟩
                    have Hl3 := hide (Hl2.out.drew.keep hb3)
                    have Hb3 := hide (Hb2.out.drew.trans (hb3.mono Hb2.out.size))
                    clear hb3
                    refine hK _ _ (fun _ => trivial) ?_
                    clear hK K
                    refine Rg.ord_loud rfl (fun K hK => ?_)
                    go_simp
                    refine (HC2.out _ Hb3.out).mono ?_
                    rintro e w4 ⟨rfl, hb4⟩
                    have Hl4 := hide (Hl3.out.keep hb4)
                    have Hb4 := hide (Hb3.out.trans (hb4.mono Hb3.out.size))
                    clear hb4
                    refine hK _ _ (fun _ => trivial) ?_
                    clear hK K
                    iterate 2 (refine Rg.ord_quiet (v := ?_) rfl (fun w' hS => ?_) trivial ?_; rotate_left; (go_simp; with_reducible rfl); simp only [Act.put, List.setIfInBounds_toArray, List.set_cons_succ, List.set_cons_zero])
                    refine Rg.ord_nil ?_
                    have cd1 := (Hl4.out.cell HN.out 1 (by omega)).1
                    have fd1 := (Hl4.out.cell HN.out 1 (by omega)).2
                    simp only [edC, List.getElem?_cons_succ, List.getElem?_cons_zero] at cd1
                    by_cases hl : z ≤ u
                    · have dl : decide (z ≤ u) = true := decide_eq_true hl
                      have dl2 : decide ((z : Int) ≤ (u : Int)) = true := decide_eq_true (by omega)
                      have Hgo := hide (Hz.out.1 hl)
                      clear hl
                      first | rw [dl] | rw [dl2]
                      go_wp2
                      clear hwM hwq
                      refine ⟨⟨xs, (y :: ys), q1, nx1, ny, Ax2, _, cx - 1, cy, _, _, rfl, rfl, rfl, rfl, by go_num, ⟨Hnx1.out, Hny.out, by have := Hnx2.out; omega, by omega, by have := Hnx2.out; have := Hq1.out; omega, by omega⟩, Hvx'.out, Hvy.out, below_put Hb4.out Hl4.out.lt.1 _, .inr ⟨rfl, g, cap, _, _, O, q, 1, [], by rw [HM.out], Hl4.out.setDel HN.out _, .inl (by decide), by have := Hq1.out; omega, by rw [← HT.out, Hgo.out], by have := Hlen.out; simp at this ⊢ <;> omega, by have := Hlen.out; simp at this ⊢ <;> omega⟩⟩, by simp [slen]; have := Hnx2.out; omega⟩
                    · have dl : decide (z ≤ u) = false := decide_eq_false hl
                      have dl2 : decide ((z : Int) ≤ (u : Int)) = false := decide_eq_false (by omega)
                      have Hgo := hide (Hz.out.2 hl)
                      clear hl
                      first | rw [dl] | rw [dl2]
                      go_wp2
                      have Hl6 := hide Hl4.out.drew
                      have Hb6 := hide Hb4.out.drew
                      have s0 := (Hl4.out.cell HN.out 2 (by omega)).1
                      simp only [edC, List.getElem?_cons_succ, List.getElem?_cons_zero] at s0
                      obtain ⟨bq, oq, hAy', s1⟩ := Hvy.out.text Hb4.out (k := 0) (by simp)
                      simp only [List.getD_cons_zero, Nat.add_zero] at s1
                      injection hAy' with hAy'
                      injection hAy' with hAy1 hAy2 _
                      subst hAy1 hAy2
                      refine Rg.wp_region_ord (fun w' => w'.cell? ⟨g, N * 3 + 2, none⟩ = some (.slice none 0 0) ∧ w'.cell? ⟨blky, offy, none⟩ = some (.string ⟨y.toArray⟩)) [(0, true), (1, true), (2, true), (3, true), (4, true), (5, true), (6, true), (7, true), (8, true), (9, true), (10, false), (11, false), (12, true), (13, true), (14, false)] (by kernel_rfl) (by kernel_rfl) ?_
                      simp only [Rg.pick, List.map_cons, List.map_nil, List.getD_cons_zero, List.getD_cons_succ]
                      iterate 10 (refine Rg.ord_quiet (v := ?_) rfl (fun w' hS => ?_) ⟨s0, s1⟩ ?_; rotate_left; (obtain ⟨t0, t1⟩ := hS; go_simp; with_reducible rfl); simp only [Act.put, List.setIfInBounds_toArray, List.set_cons_succ, List.set_cons_zero])
                      refine Rg.ord_loud rfl (fun K hK => ?_)
                      go_simp
                      refine hK _ _ (fun hf => ⟨?_, ?_⟩) ?_
                      · exact cell_keep ((Below.refl _ _).alloc (Nat.le_refl _) _).drew s0
                      · exact cell_keep ((Below.refl _ _).alloc (Nat.le_refl _) _).drew s1
                      clear hK K
                      refine Rg.ord_loud rfl (fun K hK => ?_)
                      refine wp_pushT (.tmp 190) (.tmp 194) rfl w.heap.size w (.slice none 0 0) [] y _ rfl rfl rfl Hl6.out.ins (by simp) Hb6.out Hb6.out.size ?_
                      intro v7 w7 hv7 hb7 hg7 hbl7
                      have g0 := Hl6.out.grown HN.out hg7 2 (by omega)
                      simp only [edC, List.getElem?_cons_succ, List.getElem?_cons_zero] at g0
                      obtain ⟨bq2, oq2, hAy', g1⟩ := Hvy.out.text hb7 (k := 0) (by simp)
                      simp only [List.getD_cons_zero, Nat.add_zero] at g1
                      injection hAy' with hAy'
                      injection hAy' with hAy1 hAy2 _
                      subst hAy1 hAy2
                      obtain ⟨A7, c7, hv7e, _⟩ := OwT.vs hv7
                      subst hv7e
                      obtain ⟨n7, hn7⟩ : ∃ n7, n7 = ([] ++ [y]).length := ⟨_, rfl⟩
                      have Hn7 := hide hn7
                      rw [← hn7]
                      have Hl7 := hide (Hl6.out.setIns HN.out hg7 hv7 (hbl7.imp id fun h => ⟨_, h, Nat.le_succ _⟩))
                      have Hb7 := hide hb7
                      have hf7 := g0.2
                      have hs7 := g0.1
                      refine hK _ _ (fun _ => ⟨hs7, g1⟩) ?_
                      clear hK K s0 s1 hv7 hb7 hg7 hbl7 g0 hn7
                      iterate 2 (refine Rg.ord_quiet (v := ?_) rfl (fun w' hS => ?_) ⟨hs7, g1⟩ ?_; rotate_left; (obtain ⟨t0, t1⟩ := hS; go_simp; with_reducible rfl); simp only [Act.put, List.setIfInBounds_toArray, List.set_cons_succ, List.set_cons_zero])
                      refine Rg.ord_loud rfl (fun K hK => ?_)
                      go_simp
                      refine hK _ _ (fun hf => absurd (show Rg.sink _ 14 = true from by kernel_rfl) (by rw [hf]; decide)) ?_
                      clear hK K hs7 hf7 g1
                      refine Rg.ord_nil ?_
                      go_wp2
                      refine ⟨⟨(x :: xs), ys, q, nx, ny1, _, Ay2, cx, cy - 1, _, _, rfl, rfl, rfl, rfl, rfl, ⟨Hnx.out, Hny1.out, by omega, by have := Hny2.out; omega, by omega, by omega⟩, Hvx.out, Hvy'.out, below_put Hb7.out Hl4.out.lt.1 _, .inr ⟨rfl, g, cap, _, _, O, q, 0, [] ++ [y], by rw [HM.out], by rw [Hn7.out]; exact Hl7.out, .inr (by simp), rfl, by rw [← HT.out, Hgo.out], by have := Hlen.out; simp at this ⊢ <;> omega, by have := Hlen.out; simp at this ⊢ <;> omega⟩⟩, by simp [slen]; have := Hny2.out; omega⟩
                  · skip
                    have Hown := hide hown
                    have HT := hide hT
                    obtain ⟨N, hN⟩ : ∃ N, N = O.length := ⟨_, rfl⟩
                    obtain ⟨M, hM⟩ : ∃ M, M = O.length + 1 := ⟨_, rfl⟩
                    rw [← hM]
                    have HN := hide hN
                    have HM := hide hM
                    have Hlen := hide hlen
                    have Hq := hide hq
                    have hMN : (M : Int) - 1 = (N : Int) := by omega
                    have hM6 : M ≤ 1402 := by omega
                    have hNM : N < M := by omega
                    have hwM : IntKind.i64.wrap ((M : Int) - 1) = (N : Int) := by rw [IntWalk.i64_in _ (by omega)]; omega
                    obtain ⟨q1, hq1⟩ : ∃ q1, q1 = q + 1 := ⟨_, rfl⟩
                    have hwq : IntKind.i64.wrap ((q : Int) + 1) = (q1 : Int) := by rw [IntWalk.i64_in _ (by omega)]; omega
                    have Hq1 := hide hq1
                    clear hMN
                    have Hil := hide hil
                    have Hdi := hide hdi
                    have Hins := hide Hown.out.ins
                    obtain ⟨d1, hd1⟩ : ∃ d1, d1 = d + 1 := ⟨_, rfl⟩
                    have hd6 : d ≤ 700 := by omega
                    have hwd : IntKind.i64.wrap ((d : Int) + 1) = (d1 : Int) := by rw [IntWalk.i64_in _ (by omega)]; omega
                    have Hd1 := hide hd1
                    have hNc := Hown.out.lt.2.2
                    rw [← hN] at hNc
                    clear hown hT hN hM hlen hq hq1 hd1 hil hdi
                    go_wp2
                    go_quiet (fail)
                    have Hl2 := hide (Hown.out.drewN nq)
                    have Hb2 := hide (below_drewN Hb.out nq)
                    obtain ⟨w2, hw2⟩ : ∃ w2, w2 = wr.drewN nq := ⟨_, rfl⟩
                    rw [← hw2] at Hl2 Hb2 ⊢
                    have cd1 := (Hl2.out.cell HN.out 1 (by omega)).1
                    have fd1 := (Hl2.out.cell HN.out 1 (by omega)).2
                    simp only [edC, List.getElem?_cons_succ, List.getElem?_cons_zero] at cd1
                    clear hw2
                    clear cax cay
                    go_wp2
                    clear cd1 fd1
                    refine Rg.wp_region_ord (fun _ => True) [(0, true), (1, true), (2, true), (4, true), (5, true), (6, true), (3, false), (7, false), (8, true), (9, true)] (by kernel_rfl) (by kernel_rfl) ?_
                    simp only [Rg.pick, List.map_cons, List.map_nil, List.getD_cons_zero, List.getD_cons_succ]
                    iterate 6 (refine Rg.ord_quiet (v := ?_) rfl (fun w' hS => ?_) trivial ?_; rotate_left; (go_simp; with_reducible rfl); simp only [Act.put, List.setIfInBounds_toArray, List.set_cons_succ, List.set_cons_zero])
                    refine Rg.ord_loud rfl (fun K hK => ?_)
                    go_simp
                    refine (HC1.out _ Hb2.out.drew).mono ?_
                    rintro e w3 ⟨rfl, hb3⟩
                    have Hl3 := hide (Hl2.out.drew.keep hb3)
                    have Hb3 := hide (Hb2.out.drew.trans (hb3.mono Hb2.out.size))
                    clear hb3
                    refine hK _ _ (fun _ => trivial) ?_
                    clear hK K
                    refine Rg.ord_loud rfl (fun K hK => ?_)
                    go_simp
                    refine (HC2.out _ Hb3.out).mono ?_
                    rintro e w4 ⟨rfl, hb4⟩
                    have Hl4 := hide (Hl3.out.keep hb4)
                    have Hb4 := hide (Hb3.out.trans (hb4.mono Hb3.out.size))
                    clear hb4
                    refine hK _ _ (fun _ => trivial) ?_
                    clear hK K
                    iterate 2 (refine Rg.ord_quiet (v := ?_) rfl (fun w' hS => ?_) trivial ?_; rotate_left; (go_simp; with_reducible rfl); simp only [Act.put, List.setIfInBounds_toArray, List.set_cons_succ, List.set_cons_zero])
                    refine Rg.ord_nil ?_
                    have cd1 := (Hl4.out.cell HN.out 1 (by omega)).1
                    have fd1 := (Hl4.out.cell HN.out 1 (by omega)).2
                    simp only [edC, List.getElem?_cons_succ, List.getElem?_cons_zero] at cd1
                    by_cases hl : z ≤ u
                    · have dl : decide (z ≤ u) = true := decide_eq_true hl
                      have dl2 : decide ((z : Int) ≤ (u : Int)) = true := decide_eq_true (by omega)
                      have Hgo := hide (Hz.out.1 hl)
                      clear hl
                      first | rw [dl] | rw [dl2]
                      go_wp2
                      clear hwM hwq
                      refine ⟨⟨xs, (y :: ys), q1, nx1, ny, Ax2, _, cx - 1, cy, _, _, rfl, rfl, rfl, rfl, by go_num, ⟨Hnx1.out, Hny.out, by have := Hnx2.out; omega, by omega, by have := Hnx2.out; have := Hq1.out; omega, by omega⟩, Hvx'.out, Hvy.out, below_put Hb4.out Hl4.out.lt.1 _, .inr ⟨rfl, g, cap, _, _, O, p, d1, I, by rw [HM.out], Hl4.out.setDel HN.out _, .inl (by have := Hd1.out; omega), by have := Hq1.out; have := Hd1.out; have := Hq.out; omega, by rw [← HT.out, Hgo.out]; have := Hd1.out; rw [this], by have := Hlen.out; simp at this ⊢ <;> omega, by have := Hil.out; simp at this ⊢ <;> omega⟩⟩, by simp [slen]; have := Hnx2.out; omega⟩
                    · have dl : decide (z ≤ u) = false := decide_eq_false hl
                      have dl2 : decide ((z : Int) ≤ (u : Int)) = false := decide_eq_false (by omega)
                      have Hgo := hide (Hz.out.2 hl)
                      clear hl
                      first | rw [dl] | rw [dl2]
                      go_wp2
                      have Hl6 := hide Hl4.out.drew
                      have Hb6 := hide Hb4.out.drew
                      have s0 := (Hl4.out.cell HN.out 2 (by omega)).1
                      simp only [edC, List.getElem?_cons_succ, List.getElem?_cons_zero] at s0
                      obtain ⟨bq, oq, hAy', s1⟩ := Hvy.out.text Hb4.out (k := 0) (by simp)
                      simp only [List.getD_cons_zero, Nat.add_zero] at s1
                      injection hAy' with hAy'
                      injection hAy' with hAy1 hAy2 _
                      subst hAy1 hAy2
                      refine Rg.wp_region_ord (fun w' => w'.cell? ⟨g, N * 3 + 2, none⟩ = some (.slice Ai I.length ci) ∧ w'.cell? ⟨blky, offy, none⟩ = some (.string ⟨y.toArray⟩)) [(0, true), (1, true), (2, true), (3, true), (4, true), (5, true), (6, true), (7, true), (8, true), (9, true), (10, false), (11, false), (12, true), (13, true), (14, false)] (by kernel_rfl) (by kernel_rfl) ?_
                      simp only [Rg.pick, List.map_cons, List.map_nil, List.getD_cons_zero, List.getD_cons_succ]
                      iterate 10 (refine Rg.ord_quiet (v := ?_) rfl (fun w' hS => ?_) ⟨s0, s1⟩ ?_; rotate_left; (obtain ⟨t0, t1⟩ := hS; go_simp; with_reducible rfl); simp only [Act.put, List.setIfInBounds_toArray, List.set_cons_succ, List.set_cons_zero])
                      refine Rg.ord_loud rfl (fun K hK => ?_)
                      go_simp
                      refine hK _ _ (fun hf => ⟨?_, ?_⟩) ?_
                      · exact cell_keep ((Below.refl _ _).alloc (Nat.le_refl _) _).drew s0
                      · exact cell_keep ((Below.refl _ _).alloc (Nat.le_refl _) _).drew s1
                      clear hK K
                      refine Rg.ord_loud rfl (fun K hK => ?_)
                      refine wp_pushT (.tmp 190) (.tmp 194) rfl w.heap.size w (.slice Ai I.length ci) I y _ rfl rfl rfl Hl6.out.ins (by have := Hil.out; simp at this ⊢ <;> omega) Hb6.out Hb6.out.size ?_
                      intro v7 w7 hv7 hb7 hg7 hbl7
                      have g0 := Hl6.out.grown HN.out hg7 2 (by omega)
                      simp only [edC, List.getElem?_cons_succ, List.getElem?_cons_zero] at g0
                      obtain ⟨bq2, oq2, hAy', g1⟩ := Hvy.out.text hb7 (k := 0) (by simp)
                      simp only [List.getD_cons_zero, Nat.add_zero] at g1
                      injection hAy' with hAy'
                      injection hAy' with hAy1 hAy2 _
                      subst hAy1 hAy2
                      obtain ⟨A7, c7, hv7e, _⟩ := OwT.vs hv7
                      subst hv7e
                      obtain ⟨n7, hn7⟩ : ∃ n7, n7 = (I ++ [y]).length := ⟨_, rfl⟩
                      have Hn7 := hide hn7
                      rw [← hn7]
                      have Hl7 := hide (Hl6.out.setIns HN.out hg7 hv7 (hbl7.imp id fun h => ⟨_, h, Nat.le_succ _⟩))
                      have Hb7 := hide hb7
                      have hf7 := g0.2
                      have hs7 := g0.1
                      refine hK _ _ (fun _ => ⟨hs7, g1⟩) ?_
                      clear hK K s0 s1 hv7 hb7 hg7 hbl7 g0 hn7
                      iterate 2 (refine Rg.ord_quiet (v := ?_) rfl (fun w' hS => ?_) ⟨hs7, g1⟩ ?_; rotate_left; (obtain ⟨t0, t1⟩ := hS; go_simp; with_reducible rfl); simp only [Act.put, List.setIfInBounds_toArray, List.set_cons_succ, List.set_cons_zero])
                      refine Rg.ord_loud rfl (fun K hK => ?_)
                      go_simp
                      refine hK _ _ (fun hf => absurd (show Rg.sink _ 14 = true from by kernel_rfl) (by rw [hf]; decide)) ?_
                      clear hK K hs7 hf7 g1
                      refine Rg.ord_nil ?_
                      go_wp2
                      refine ⟨⟨(x :: xs), ys, q, nx, ny1, _, Ay2, cx, cy - 1, _, _, rfl, rfl, rfl, rfl, rfl, ⟨Hnx.out, Hny1.out, by omega, by have := Hny2.out; omega, by omega, by omega⟩, Hvx.out, Hvy'.out, below_put Hb7.out Hl4.out.lt.1 _, .inr ⟨rfl, g, cap, _, _, O, p, d, I ++ [y], by rw [HM.out], by rw [Hn7.out]; exact Hl7.out, .inr (by simp), Hq.out, by rw [← HT.out, Hgo.out], by have := Hlen.out; simp at this ⊢ <;> omega, by have := Hil.out; simp at this ⊢ <;> omega⟩⟩, by simp [slen]; have := Hny2.out; omega⟩
end Go.Proofs.Ytghnieddokhagaa.Df
