/-
  The reference of patches: is a patch right?
-/
import Derived.BigQuiet
import Derived.Test.YtabgkfkjnpcbkaaDoorQA
import Derived.Test.YtabgkfkjnpcbkaaDoorQTW
import Derived.Test.YtabgkfkjnpcbkaaDoorQWS
namespace Go.Proofs.YtabgkfkjnpcbkaaDoor.Tr
open Go Go.RowKit Kt Lw Li Lx Df Wr

theorem getD_in {l : List Bs} {k : Nat} (h : k < l.length) : l.getD k [] ∈ l := by
  rw [List.getD_eq_getElem?_getD, List.getElem?_eq_getElem h]; exact List.getElem_mem h
theorem aheadI_is {l : List Bs} {k : Nat} (h0 : 0 < k) (h : k - 1 < l.length) : aheadI l k = some (l.getD (k - 1) []) := by
  unfold aheadI
  rw [if_neg (by omega), List.getElem?_eq_getElem h, List.getD_eq_getElem?_getD, List.getElem?_eq_getElem h]; rfl
set_option maxRecDepth 100000 in
set_option maxHeartbeats 8000000 in
theorem rright12_any (p : Pch) (Ai Ac : Option Addr) (ci cc : Nat) (w : World) (hp : PIn w p Ai Ac ci cc) :
    Calls Tryd.prog 16 #[PchV p Ai Ac ci cc] w fun y w' => y = .returned (.bool (pright p)) ∧ Below w.heap.size w w' := by
  have HFm := hide (fun (hf : fitP p) (wz : World) (h : Below w.heap.size w wz) => rform_any p Ai Ac ci cc _ wz (hp.keep h).ids (hp.keep h).chs hf)
  have HPr := hide (pright_within p)
  have HFt := hide (fit_of (p := p))
  have hsh := fit_short (p := p)
  obtain ⟨ids, a, o, chs⟩ := p
  have Hi := hide hp.ids.bound
  have Hc := hide hp.chs
  have Hlc := hide hp.lc
  obtain ⟨N, hN⟩ : ∃ n, n = ids.length := ⟨_, rfl⟩
  obtain ⟨M, hM⟩ : ∃ n, n = chs.length := ⟨_, rfl⟩
  have hWi : withinB ⟨ids, a, o, chs⟩ = (decide (N ≤ 16) && decide (a.length ≤ 100) && decide (o.length ≤ 1000) && decide (M ≤ 100) && igo none ids && cgo none chs) := by rw [hN, hM]; rfl
  unfold PchV at HFm ⊢
  simp only at HFm Hi Hc Hlc ⊢
  rw [← hN, ← hM] at HFm ⊢
  have HN := hide hN
  have HM := hide hM
  obtain ⟨nf, hnf⟩ : ∃ n, n = (pform ⟨ids, a, o, chs⟩).length := ⟨_, rfl⟩
  rw [← hnf] at HPr hsh
  have Hnf := hide hnf
  have Hsh := hide hsh
  generalize hpr : pright ⟨ids, a, o, chs⟩ = pr at *
  generalize hwi : withinB ⟨ids, a, o, chs⟩ = wi at *
  obtain ⟨g, hg⟩ : ∃ g, g = w.heap.size := ⟨_, rfl⟩
  obtain ⟨w1, hw1⟩ : ∃ w1, w1 = w.alloc (.cells #[.slice Ai N ci, .string ⟨a.toArray⟩, .string ⟨o.toArray⟩, .slice Ac M cc] tP) := ⟨_, rfl⟩
  have hrow := Row.fresh w tP #[.slice Ai N ci, .string ⟨a.toArray⟩, .string ⟨o.toArray⟩, .slice Ac M cc]
  have hb1 : Below w.heap.size w w1 := by rw [hw1]; exact (Below.refl _ w).alloc (Nat.le_refl _) _
  rw [← hw1, ← hg] at hrow
  have HC := hide (show ∀ wz, Below w1.heap.size w1 wz → wz.cell? ⟨g, 0, none⟩ = some (.slice Ai N ci) ∧ wz.cell? ⟨g, 1, none⟩ = some (.string ⟨a.toArray⟩) ∧ wz.cell? ⟨g, 2, none⟩ = some (.string ⟨o.toArray⟩) ∧ wz.cell? ⟨g, 3, none⟩ = some (.slice Ac M cc) from fun wz hz => by
    have hr := hrow.below hz hrow.lt
    exact ⟨hr.cell 0, hr.cell 1, hr.cell 2, hr.cell 3⟩)
  have HF := hide (show ∀ wz, Below w1.heap.size w1 wz → Below w.heap.size w wz from fun wz h => hb1.trans (h.mono hb1.size))
  have W1 := hide hw1
  have G1 := hide hg
  have Hwi := hide hWi
  obtain ⟨k0, k1, k2, k3⟩ := HC.out w1 (Below.refl _ _)
  clear hp hN hM hsh hpr hwi hrow hb1 hw1 hg hWi hnf
  by_cases h0 : N ≤ 16
  case neg =>
    have Hr := hide (show pr = false by rw [HPr.out, Hwi.out, decide_eq_false h0]; simp)
    have x0 : decide (16 < (N : Int)) = true := decide_eq_true (by omega)
    have y0 : decide (16 < N) = true := decide_eq_true (by omega)
    clear h0
    go_enter Tryd.func16, Tryd.ntmps16
    go_wp2_with (first | rw [← W1.out, ← G1.out] | fail)
    go_ret
    exact ⟨by rw [Hr.out]; rfl, HF.out _ (Below.refl _ _)⟩
  by_cases h1 : a.length ≤ 100
  case neg =>
    have Hr := hide (show pr = false by rw [HPr.out, Hwi.out, decide_eq_true h0, decide_eq_false h1]; simp)
    have x0 : decide (16 < (N : Int)) = false := decide_eq_false (by omega)
    have y0 : decide (16 < N) = false := decide_eq_false (by omega)
    have x1 : decide (100 < (a.length : Int)) = true := decide_eq_true (by omega)
    have y1 : decide (100 < a.length) = true := decide_eq_true (by omega)
    clear h0 h1
    go_enter Tryd.func16, Tryd.ntmps16
    go_wp2_with (first | rw [← W1.out, ← G1.out] | fail)
    go_ret
    exact ⟨by rw [Hr.out]; rfl, HF.out _ (Below.refl _ _)⟩
  by_cases h2 : o.length ≤ 1000
  case neg =>
    have Hr := hide (show pr = false by rw [HPr.out, Hwi.out, decide_eq_true h0, decide_eq_true h1, decide_eq_false h2]; simp)
    have x0 : decide (16 < (N : Int)) = false := decide_eq_false (by omega)
    have y0 : decide (16 < N) = false := decide_eq_false (by omega)
    have x1 : decide (100 < (a.length : Int)) = false := decide_eq_false (by omega)
    have y1 : decide (100 < a.length) = false := decide_eq_false (by omega)
    have x2 : decide (1000 < (o.length : Int)) = true := decide_eq_true (by omega)
    have y2 : decide (1000 < o.length) = true := decide_eq_true (by omega)
    clear h0 h1 h2
    go_enter Tryd.func16, Tryd.ntmps16
    go_wp2_with (first | rw [← W1.out, ← G1.out] | fail)
    go_ret
    exact ⟨by rw [Hr.out]; rfl, HF.out _ (Below.refl _ _)⟩
  by_cases h3 : M ≤ 100
  case neg =>
    have Hr := hide (show pr = false by rw [HPr.out, Hwi.out, decide_eq_true h0, decide_eq_true h1, decide_eq_true h2, decide_eq_false h3]; simp)
    have x0 : decide (16 < (N : Int)) = false := decide_eq_false (by omega)
    have y0 : decide (16 < N) = false := decide_eq_false (by omega)
    have x1 : decide (100 < (a.length : Int)) = false := decide_eq_false (by omega)
    have y1 : decide (100 < a.length) = false := decide_eq_false (by omega)
    have x2 : decide (1000 < (o.length : Int)) = false := decide_eq_false (by omega)
    have y2 : decide (1000 < o.length) = false := decide_eq_false (by omega)
    have x3 : decide (100 < (M : Int)) = true := decide_eq_true (by omega)
    have y3 : decide (100 < M) = true := decide_eq_true (by omega)
    clear h0 h1 h2 h3
    go_enter Tryd.func16, Tryd.ntmps16
    go_wp2_with (first | rw [← W1.out, ← G1.out] | fail)
    go_ret
    exact ⟨by rw [Hr.out]; rfl, HF.out _ (Below.refl _ _)⟩
  have x0 : decide (16 < (N : Int)) = false := decide_eq_false (by omega)
  have y0 : decide (16 < N) = false := decide_eq_false (by omega)
  have x1 : decide (100 < (a.length : Int)) = false := decide_eq_false (by omega)
  have y1 : decide (100 < a.length) = false := decide_eq_false (by omega)
  have x2 : decide (1000 < (o.length : Int)) = false := decide_eq_false (by omega)
  have y2 : decide (1000 < o.length) = false := decide_eq_false (by omega)
  have x3 : decide (100 < (M : Int)) = false := decide_eq_false (by omega)
  have y3 : decide (100 < M) = false := decide_eq_false (by omega)
  have HPd := hide (show pr = (igo none ids && cgo none chs && decide ((nf : Int) ≤ 131072)) by
    rw [HPr.out, Hwi.out, decide_eq_true h0, decide_eq_true h1, decide_eq_true h2, decide_eq_true h3]
    have : decide ((nf : Int) ≤ 131072) = decide (nf ≤ 131072) := by rw [decide_eq_decide]; omega
    rw [this]
    rfl)
  have HWt := hide (show igo none ids = true → cgo none chs = true → wi = true from fun g1 g2 => by
    rw [Hwi.out, decide_eq_true h0, decide_eq_true h1, decide_eq_true h2, decide_eq_true h3, g1, g2]; rfl)
  have hN16 : N ≤ 16 := h0
  have hM100 : M ≤ 100 := h3
  clear HPr Hwi h0 h1 h2 h3
  go_enter Tryd.func16, Tryd.ntmps16
  go_wp2_with (first | rw [← W1.out, ← G1.out] | fail)
  clear x0 x1 x2 x3 y0 y1 y2 y3 k0 k1 k2 k3
  go_loopw [3] (fun i wr => ∃ k : Nat, k ≤ N ∧ i = .int .i64 k ∧ Hid (igo none ids = igo (aheadI ids k) (ids.drop k) ∧ (0 < k → (ids.getD (k - 1) []).length = 32)) ∧ Below w1.heap.size w1 wr) (fun i _ => N - (intOf i).toNat)
  case atStart => exact ⟨0, Nat.zero_le _, rfl, by show Hid _; exact hide ⟨rfl, fun h => absurd h (by omega)⟩, Below.refl _ _⟩
  case round =>
    obtain ⟨k, hk, rfl, HR, hb⟩ := hrel
    have Hb := hide hb
    clear hb
    obtain ⟨c0, c1, c2, c3⟩ := HC.out wr Hb.out
    by_cases hlt : k < N
    · have hkl : k < ids.length := by rw [← HN.out]; exact hlt
      obtain ⟨b, oo, rfl, _, ht⟩ := Hi.out.2 (by rw [texts_len]; omega)
      have ck : wr.cell? ⟨b, oo + k, none⟩ = some (.string ⟨(ids.getD k []).toArray⟩) := by
        obtain ⟨b', o', e1, e2⟩ := Hi.out.text (HF.out _ Hb.out) (k := k) hkl
        cases e1
        exact e2
      have hstep := igo_step hkl
      rw [← HR.out.1] at hstep
      obtain ⟨x, hx⟩ : ∃ x, x = ids.getD k [] := ⟨_, rfl⟩
      rw [← hx] at ck hstep
      have Hx := hide hx
      clear hx ht
      by_cases h32 : x.length = 32
      · have z0 : ((x.length : Int) != 32) = false := by rw [bne_eq_false_iff_eq]; omega
        have z1 : (x.length != 32) = false := by rw [bne_eq_false_iff_eq]; exact h32
        rw [decide_eq_true h32, Bool.true_and] at hstep
        have Hn32 := hide (show 0 < k + 1 → (ids.getD (k + 1 - 1) []).length = 32 from fun _ => by rw [Nat.add_sub_cancel, ← Hx.out]; exact h32)
        have hx32 : x.length ≤ 100000 := by omega
        by_cases hk0 : k = 0
        · subst hk0
          have Hnx := hide (show igo none ids = igo (aheadI ids 1) (ids.drop 1) by rw [hstep, show above (aheadI ids 0) x = true from rfl, Bool.true_and])
          simp only [Nat.add_zero] at ck
          clear hstep h32 HR
          go_wp2
          refine Rg.wp_region_ord (fun w' => w' = wr.drew) [(0, true), (1, true), (2, true), (3, true), (4, true), (5, true), (6, true), (7, true), (8, true), (9, true), (10, true), (11, true), (12, true), (13, true), (14, true), (15, true), (16, true)] (by kernel_rfl) (by kernel_rfl) ?_
          simp only [Rg.pick, List.map_cons, List.map_nil, List.getD_cons_zero, List.getD_cons_succ]
          iterate 3 (refine Rg.ord_quiet (v := ?_) rfl (fun w' hS => ?_) rfl ?_; rotate_left; (subst hS; go_simp; with_reducible rfl); simp only [Act.put, List.setIfInBounds_toArray, List.set_cons_succ, List.set_cons_zero])
          iterate 13 (refine Rg.ord_passed (by rfl) rfl ?_; simp only [Act.put, List.setIfInBounds_toArray, List.set_cons_succ, List.set_cons_zero])
          iterate 1 (refine Rg.ord_quiet (v := ?_) rfl (fun w' hS => ?_) rfl ?_; rotate_left; (subst hS; go_simp; with_reducible rfl); simp only [Act.put, List.setIfInBounds_toArray, List.set_cons_succ, List.set_cons_zero])
          refine Rg.ord_nil ?_
          have Hbd := hide (Hb.out.drew)
          go_wp2
          exact ⟨⟨1, by omega, by go_num, by show Hid _; exact hide ⟨Hnx.out, Hn32.out⟩, Hbd.out⟩, by simp [intOf]; omega⟩
        · obtain ⟨km, hkm⟩ : ∃ z, z = k - 1 := ⟨_, rfl⟩
          have hkml : km < ids.length := by omega
          have hah := aheadI_is (l := ids) (k := k) (by omega) (by omega)
          have h32' := HR.out.2 (by omega)
          rw [← hkm] at hah h32'
          have cm : wr.cell? ⟨b, oo + km, none⟩ = some (.string ⟨(ids.getD km []).toArray⟩) := by
            obtain ⟨b', o', e1, e2⟩ := Hi.out.text (HF.out _ Hb.out) (k := km) hkml
            cases e1
            exact e2
          obtain ⟨p0, hp0⟩ : ∃ z, z = ids.getD km [] := ⟨_, rfl⟩
          rw [← hp0] at cm hah h32'
          rw [hah, show above (some p0) x = Op.bytesLess p0 x from rfl] at hstep
          have HLs := hide (fun w => rless_any p0 x w (by omega) (by omega))
          have hkw : IntKind.i64.wrap ((k : Int) - 1) = (km : Int) := by rw [IntWalk.i64_in _ (by omega)]; omega
          have hk1 : decide ((0 : Int) < (k : Int)) = true := decide_eq_true (by omega)
          have hk2 : (0 : Int) < (k : Int) := by omega
          have hk3 : decide (0 < k) = true := decide_eq_true (by omega)
          have hk4 : 0 < k := by omega
          have hkmN : km < N := by omega
          have Hstep := hide hstep
          clear hkm hp0 hah hk0 hstep h32 h32' hkml HR
          go_wp2
          have s0 : wr.drew.cell? ⟨b, oo + km, none⟩ = some (.string ⟨p0.toArray⟩) := cm
          have s1 : wr.drew.cell? ⟨b, oo + k, none⟩ = some (.string ⟨x.toArray⟩) := ck
          have s2 : wr.drew.cell? ⟨g, 0, none⟩ = some (.slice (some ⟨b, oo, none⟩) N ci) := c0
          refine Rg.wp_region_ord (fun w' => w'.cell? ⟨b, oo + km, none⟩ = some (.string ⟨p0.toArray⟩) ∧ w'.cell? ⟨b, oo + k, none⟩ = some (.string ⟨x.toArray⟩) ∧ w'.cell? ⟨g, 0, none⟩ = some (.slice (some ⟨b, oo, none⟩) N ci)) [(0, true), (1, true), (2, true), (3, true), (4, true), (5, true), (6, true), (7, true), (8, true), (9, true), (10, true), (11, true), (12, true), (13, true), (14, false), (15, true), (16, true)] (by kernel_rfl) (by kernel_rfl) ?_
          simp only [Rg.pick, List.map_cons, List.map_nil, List.getD_cons_zero, List.getD_cons_succ]
          iterate 3 (refine Rg.ord_quiet (v := ?_) rfl (fun w' hS => ?_) ⟨s0, s1, s2⟩ ?_; rotate_left; (obtain ⟨q0, q1, q2⟩ := hS; go_simp; with_reducible rfl); simp only [Act.put, List.setIfInBounds_toArray, List.set_cons_succ, List.set_cons_zero])
          iterate 11 (refine Rg.ord_guarded (v := ?_) (by rfl) (fun w' hS => ?_) ⟨s0, s1, s2⟩ ?_; rotate_left; (obtain ⟨q0, q1, q2⟩ := hS; go_simp; with_reducible rfl); simp only [Act.put, List.setIfInBounds_toArray, List.set_cons_succ, List.set_cons_zero])
          refine Rg.ord_loud (by rfl) (fun K hK => ?_)
          go_simp
          refine (HLs.out _).mono ?_
          rintro y w2 ⟨rfl, hb2⟩
          have r0 := agr s0 hb2
          have r1 := agr s1 hb2
          have r2 := agr s2 hb2
          refine hK _ _ (fun _ => ⟨r0, r1, r2⟩) ?_
          clear hK K
          have Hb2 := hide (Hb.out.drew.trans (hb2.mono Hb.out.drew.size))
          clear hb2 s0 s1 s2 ck cm c0 c1 c2 c3
          cases hL : Op.bytesLess p0 x
          · have Hnx := hide (show pr = false by rw [HPd.out, Hstep.out, hL]; rfl)
            iterate 1 (refine Rg.ord_guarded (v := ?_) (by rfl) (fun w' hS => ?_) ⟨r0, r1, r2⟩ ?_; rotate_left; (obtain ⟨q0, q1, q2⟩ := hS; go_simp; with_reducible rfl); simp only [Act.put, List.setIfInBounds_toArray, List.set_cons_succ, List.set_cons_zero])
            iterate 1 (refine Rg.ord_quiet (v := ?_) rfl (fun w' hS => ?_) ⟨r0, r1, r2⟩ ?_; rotate_left; (obtain ⟨q0, q1, q2⟩ := hS; go_simp; with_reducible rfl); simp only [Act.put, List.setIfInBounds_toArray, List.set_cons_succ, List.set_cons_zero])
            refine Rg.ord_nil ?_
            clear r0 r1 r2 hL
            go_wp2
            go_ret
            exact ⟨by rw [Hnx.out]; rfl, HF.out _ Hb2.out⟩
          · have Hnx := hide (show igo none ids = igo (aheadI ids (k + 1)) (ids.drop (k + 1)) by rw [Hstep.out, hL, Bool.true_and])
            iterate 1 (refine Rg.ord_guarded (v := ?_) (by rfl) (fun w' hS => ?_) ⟨r0, r1, r2⟩ ?_; rotate_left; (obtain ⟨q0, q1, q2⟩ := hS; go_simp; with_reducible rfl); simp only [Act.put, List.setIfInBounds_toArray, List.set_cons_succ, List.set_cons_zero])
            iterate 1 (refine Rg.ord_quiet (v := ?_) rfl (fun w' hS => ?_) ⟨r0, r1, r2⟩ ?_; rotate_left; (obtain ⟨q0, q1, q2⟩ := hS; go_simp; with_reducible rfl); simp only [Act.put, List.setIfInBounds_toArray, List.set_cons_succ, List.set_cons_zero])
            refine Rg.ord_nil ?_
            clear r0 r1 r2 hL hk1 hk2 hk3 hk4 hkw
            go_wp2
            exact ⟨⟨k + 1, by omega, by go_num, by show Hid _; exact hide ⟨Hnx.out, Hn32.out⟩, Hb2.out⟩, by simp [intOf]; omega⟩
      · have z0 : ((x.length : Int) != 32) = true := by rw [bne_iff_ne]; omega
        have z1 : (x.length != 32) = true := by rw [bne_iff_ne]; exact h32
        rw [decide_eq_false h32, Bool.false_and, Bool.false_and] at hstep
        have Hr := hide (show pr = false by rw [HPd.out, hstep]; rfl)
        clear hstep h32 HR
        go_wp2
        go_ret
        exact ⟨by rw [Hr.out]; rfl, HF.out _ Hb.out⟩
    · obtain rfl : k = N := by omega
      have Hig := hide (show igo none ids = true by rw [HR.out.1, HN.out, List.drop_length]; rfl)
      obtain ⟨wv, hwv⟩ : ∃ z, z = wr := ⟨_, rfl⟩
      subst hwv
      clear HR
      go_wp2_with fail
      clear c0 c1 c2 c3
      go_loopw [4] (fun i wr => ∃ j : Nat, j ≤ M ∧ i = .int .i64 j ∧ Hid (cgo none chs = cgo (aheadC chs j) (chs.drop j) ∧ (0 < j → ∃ g, chs[j - 1]? = some g ∧ g.path.length ≤ 200)) ∧ Below w1.heap.size w1 wr) (fun i _ => M - (intOf i).toNat)
      case atStart => exact ⟨0, Nat.zero_le _, rfl, by show Hid _; exact hide ⟨rfl, fun h => absurd h (by omega)⟩, Hb.out⟩
      case round =>
        obtain ⟨j, hj, rfl, HR, hb⟩ := hrel
        clear Hb
        have Hb := hide hb
        clear hb
        obtain ⟨c0, c1, c2, c3⟩ := HC.out wr Hb.out
        by_cases hlt : j < M
        · obtain ⟨b, oo, f, rfl, hbl, hf, hd, d0, dm, d1⟩ := Hc.out.at (w' := wr) (HF.out _ Hb.out) (k := j) (by have := HM.out; omega)
          have hstep := cgo_step hf hd
          rw [← HR.out.1] at hstep
          have HP := hide (fun w => rpath_any f.path w (Hlc.out f (List.mem_of_getElem? hf)).1)
          have Hf := hide hf
          have HK := hide HR.out.2
          obtain ⟨p, gn, x⟩ := f
          simp only at hstep HP d0 dm d1
          obtain ⟨q, hq⟩ : ∃ q, q = wr.heap.size := ⟨_, rfl⟩
          have hrow := Row.fresh wr tC #[.string ⟨p.toArray⟩, .bool gn, .string ⟨x.toArray⟩]
          have hb8 := (Below.refl wr.heap.size wr).alloc (Nat.le_refl _) (.cells #[.string ⟨p.toArray⟩, .bool gn, .string ⟨x.toArray⟩] tC)
          obtain ⟨w8, hw8⟩ : ∃ w8, w8 = wr.alloc (.cells #[.string ⟨p.toArray⟩, .bool gn, .string ⟨x.toArray⟩] tC) := ⟨_, rfl⟩
          rw [← hw8] at hrow hb8
          rw [← hq] at hrow
          have e0 : w8.cell? ⟨q, 0, none⟩ = some (.string ⟨p.toArray⟩) := hrow.cell 0
          have e1 : w8.cell? ⟨q, 1, none⟩ = some (.bool gn) := hrow.cell 1
          have e2 : w8.cell? ⟨q, 2, none⟩ = some (.string ⟨x.toArray⟩) := hrow.cell 2
          have Hb8 := hide (Hb.out.trans (hb8.mono Hb.out.size))
          have W8 := hide hw8
          have Q8 := hide hq
          clear hf hd hbl HR hrow hb8 hw8 hq
          generalize hcan : can p = cn at *
          by_cases hall : cn = true ∧ x.length ≤ 65536 ∧ (gn = true → x = [])
          · obtain ⟨a1, a2, a3⟩ := hall
            subst a1
            have hp2 : p.length ≤ 200 := (can_lt hcan).2
            have y0 : decide (65536 < (x.length : Int)) = false := decide_eq_false (by omega)
            have y1 : decide (65536 < x.length) = false := decide_eq_false (by omega)
            have hst2 : cgo none chs = (above (aheadC chs j) p && cgo (aheadC chs (j + 1)) (chs.drop (j + 1))) := by
              rw [hstep, decide_eq_true a2]
              cases gn with
              | false => rfl
              | true => rw [a3 rfl]; rfl
            have HKn := hide (show 0 < j + 1 → ∃ g, chs[j + 1 - 1]? = some g ∧ g.path.length ≤ 200 from fun _ => ⟨_, Hf.out, hp2⟩)
            -- the text of a file that goes is empty
            have y2 : gn = true → decide (0 < (x.length : Int)) = false := fun h => by rw [a3 h]; rfl
            have y3 : gn = true → decide (0 < x.length) = false := fun h => by rw [a3 h]; rfl
            by_cases hj0 : j = 0
            · subst hj0
              have Hnx := hide (show cgo none chs = cgo (aheadC chs 1) (chs.drop 1) by rw [hst2, show above (aheadC chs 0) p = true from rfl, Bool.true_and])
              simp only [Nat.zero_mul, Nat.add_zero] at d0 dm d1
              clear hst2 hstep HK hcan a2 a3
              cases gn with
              | false =>
                clear y2 y3
                go_wp2_with (first | rw [← W8.out, ← Q8.out] | fail)
                refine (HP.out _).mono ?_
                rintro y w9 ⟨rfl, rfl⟩
                go_wp2
                refine Rg.wp_region_ord (fun w' => w' = w9.drew) [(0, true), (1, true), (2, true), (3, true), (4, true), (5, true), (6, true), (7, true), (8, true), (9, true), (10, true), (11, true), (12, true), (13, true), (14, true)] (by kernel_rfl) (by kernel_rfl) ?_
                simp only [Rg.pick, List.map_cons, List.map_nil, List.getD_cons_zero, List.getD_cons_succ]
                iterate 3 (refine Rg.ord_quiet (v := ?_) rfl (fun w' hS => ?_) rfl ?_; rotate_left; (subst hS; go_simp; with_reducible rfl); simp only [Act.put, List.setIfInBounds_toArray, List.set_cons_succ, List.set_cons_zero])
                iterate 11 (refine Rg.ord_passed (by rfl) rfl ?_; simp only [Act.put, List.setIfInBounds_toArray, List.set_cons_succ, List.set_cons_zero])
                iterate 1 (refine Rg.ord_quiet (v := ?_) rfl (fun w' hS => ?_) rfl ?_; rotate_left; (subst hS; go_simp; with_reducible rfl); simp only [Act.put, List.setIfInBounds_toArray, List.set_cons_succ, List.set_cons_zero])
                refine Rg.ord_nil ?_
                have Hbd := hide (Hb8.out.drew)
                go_wp2
                exact ⟨⟨1, by omega, by go_num, by show Hid _; exact hide ⟨Hnx.out, HKn.out⟩, Hbd.out⟩, by simp [intOf]; omega⟩
              | true =>
                replace y2 := y2 rfl
                replace y3 := y3 rfl
                go_wp2_with (first | rw [← W8.out, ← Q8.out] | fail)
                refine (HP.out _).mono ?_
                rintro y w9 ⟨rfl, rfl⟩
                go_wp2
                refine Rg.wp_region_ord (fun w' => w' = w9.drew) [(0, true), (1, true), (2, true), (3, true), (4, true), (5, true), (6, true), (7, true), (8, true), (9, true), (10, true), (11, true), (12, true), (13, true), (14, true)] (by kernel_rfl) (by kernel_rfl) ?_
                simp only [Rg.pick, List.map_cons, List.map_nil, List.getD_cons_zero, List.getD_cons_succ]
                iterate 3 (refine Rg.ord_quiet (v := ?_) rfl (fun w' hS => ?_) rfl ?_; rotate_left; (subst hS; go_simp; with_reducible rfl); simp only [Act.put, List.setIfInBounds_toArray, List.set_cons_succ, List.set_cons_zero])
                iterate 11 (refine Rg.ord_passed (by rfl) rfl ?_; simp only [Act.put, List.setIfInBounds_toArray, List.set_cons_succ, List.set_cons_zero])
                iterate 1 (refine Rg.ord_quiet (v := ?_) rfl (fun w' hS => ?_) rfl ?_; rotate_left; (subst hS; go_simp; with_reducible rfl); simp only [Act.put, List.setIfInBounds_toArray, List.set_cons_succ, List.set_cons_zero])
                refine Rg.ord_nil ?_
                have Hbd := hide (Hb8.out.drew)
                go_wp2
                exact ⟨⟨1, by omega, by go_num, by show Hid _; exact hide ⟨Hnx.out, HKn.out⟩, Hbd.out⟩, by simp [intOf]; omega⟩
            · obtain ⟨g', hg', hg2⟩ := HK.out (by omega)
              obtain ⟨jm, hjm⟩ : ∃ z, z = j - 1 := ⟨_, rfl⟩
              rw [← hjm] at hg'
              have hah : aheadC chs j = some g'.path := by unfold aheadC; rw [if_neg hj0, ← hjm, hg']; rfl
              rw [hah, show above (some g'.path) p = Op.bytesLess g'.path p from rfl] at hst2
              have k0 : w8.cell? ⟨b, oo + jm * 3, none⟩ = some (.string ⟨g'.path.toArray⟩) := by
                obtain ⟨b', o', f', e1', _, e2', _, e3', _, _⟩ := Hc.out.at (w' := w8) (HF.out _ Hb8.out) (k := jm) (by have := HM.out; omega)
                cases e1'
                rw [hg'] at e2'
                cases e2'
                exact e3'
              obtain ⟨p0, hp0⟩ : ∃ z, z = g'.path := ⟨_, rfl⟩
              rw [← hp0] at k0 hst2 hg2
              have HLs := hide (fun w => rless_any p0 p w (by omega) (by omega))
              have hkw : IntKind.i64.wrap ((j : Int) - 1) = (jm : Int) := by rw [IntWalk.i64_in _ (by omega)]; omega
              have hk1 : decide ((0 : Int) < (j : Int)) = true := decide_eq_true (by omega)
              have hk2 : (0 : Int) < (j : Int) := by omega
              have hk3 : decide (0 < j) = true := decide_eq_true (by omega)
              have hk4 : 0 < j := by omega
              have hkmN : jm < M := by omega
              have c3' : w8.cell? ⟨g, 3, none⟩ = some (.slice (some ⟨b, oo, none⟩) M cc) := (HC.out w8 Hb8.out).2.2.2
              have Hstep := hide hst2
              clear hjm hp0 hah hj0 hst2 hstep hcan a2 a3 hg' hg2 HK
              cases gn with
              | false =>
                clear y2 y3
                go_wp2_with (first | rw [← W8.out, ← Q8.out] | fail)
                refine (HP.out _).mono ?_
                rintro y w9 ⟨rfl, rfl⟩
                go_wp2
                have s0 : w9.drew.cell? ⟨b, oo + jm * 3, none⟩ = some (.string ⟨p0.toArray⟩) := k0
                have s1 : w9.drew.cell? ⟨q, 0, none⟩ = some (.string ⟨p.toArray⟩) := e0
                have s2 : w9.drew.cell? ⟨g, 3, none⟩ = some (.slice (some ⟨b, oo, none⟩) M cc) := c3'
                refine Rg.wp_region_ord (fun w' => w'.cell? ⟨b, oo + jm * 3, none⟩ = some (.string ⟨p0.toArray⟩) ∧ w'.cell? ⟨q, 0, none⟩ = some (.string ⟨p.toArray⟩) ∧ w'.cell? ⟨g, 3, none⟩ = some (.slice (some ⟨b, oo, none⟩) M cc)) [(0, true), (1, true), (2, true), (3, true), (4, true), (5, true), (6, true), (7, true), (8, true), (9, true), (10, true), (11, true), (12, false), (13, true), (14, true)] (by kernel_rfl) (by kernel_rfl) ?_
                simp only [Rg.pick, List.map_cons, List.map_nil, List.getD_cons_zero, List.getD_cons_succ]
                iterate 3 (refine Rg.ord_quiet (v := ?_) rfl (fun w' hS => ?_) ⟨s0, s1, s2⟩ ?_; rotate_left; (obtain ⟨q0, q1, q2⟩ := hS; go_simp; with_reducible rfl); simp only [Act.put, List.setIfInBounds_toArray, List.set_cons_succ, List.set_cons_zero])
                iterate 9 (refine Rg.ord_guarded (v := ?_) (by rfl) (fun w' hS => ?_) ⟨s0, s1, s2⟩ ?_; rotate_left; (obtain ⟨q0, q1, q2⟩ := hS; go_simp; with_reducible rfl); simp only [Act.put, List.setIfInBounds_toArray, List.set_cons_succ, List.set_cons_zero])
                refine Rg.ord_loud (by rfl) (fun K hK => ?_)
                go_simp
                refine (HLs.out _).mono ?_
                rintro y w10 ⟨rfl, hb2⟩
                have r0 := agr s0 hb2
                have r1 := agr s1 hb2
                have r2 := agr s2 hb2
                refine hK _ _ (fun _ => ⟨r0, r1, r2⟩) ?_
                clear hK K
                have Hb2 := hide (Hb8.out.drew.trans (hb2.mono Hb8.out.drew.size))
                clear hb2 s0 s1 s2 k0 e0 e1 e2 c0 c1 c2 c3 c3' d0 dm d1
                cases hL : Op.bytesLess p0 p
                · have Hnx := hide (show pr = false by rw [HPd.out, Hstep.out, hL]; simp)
                  iterate 1 (refine Rg.ord_guarded (v := ?_) (by rfl) (fun w' hS => ?_) ⟨r0, r1, r2⟩ ?_; rotate_left; (obtain ⟨q0, q1, q2⟩ := hS; go_simp; with_reducible rfl); simp only [Act.put, List.setIfInBounds_toArray, List.set_cons_succ, List.set_cons_zero])
                  iterate 1 (refine Rg.ord_quiet (v := ?_) rfl (fun w' hS => ?_) ⟨r0, r1, r2⟩ ?_; rotate_left; (obtain ⟨q0, q1, q2⟩ := hS; go_simp; with_reducible rfl); simp only [Act.put, List.setIfInBounds_toArray, List.set_cons_succ, List.set_cons_zero])
                  refine Rg.ord_nil ?_
                  clear r0 r1 r2 hL
                  go_wp2
                  go_ret
                  exact ⟨by rw [Hnx.out]; rfl, HF.out _ Hb2.out⟩
                · have Hnx := hide (show cgo none chs = cgo (aheadC chs (j + 1)) (chs.drop (j + 1)) by rw [Hstep.out, hL, Bool.true_and])
                  iterate 1 (refine Rg.ord_guarded (v := ?_) (by rfl) (fun w' hS => ?_) ⟨r0, r1, r2⟩ ?_; rotate_left; (obtain ⟨q0, q1, q2⟩ := hS; go_simp; with_reducible rfl); simp only [Act.put, List.setIfInBounds_toArray, List.set_cons_succ, List.set_cons_zero])
                  iterate 1 (refine Rg.ord_quiet (v := ?_) rfl (fun w' hS => ?_) ⟨r0, r1, r2⟩ ?_; rotate_left; (obtain ⟨q0, q1, q2⟩ := hS; go_simp; with_reducible rfl); simp only [Act.put, List.setIfInBounds_toArray, List.set_cons_succ, List.set_cons_zero])
                  refine Rg.ord_nil ?_
                  clear r0 r1 r2 hL hk1 hk2 hk3 hk4 hkw
                  go_wp2
                  exact ⟨⟨j + 1, by omega, by go_num, by show Hid _; exact hide ⟨Hnx.out, HKn.out⟩, Hb2.out⟩, by simp [intOf]; omega⟩
              | true =>
                replace y2 := y2 rfl
                replace y3 := y3 rfl
                go_wp2_with (first | rw [← W8.out, ← Q8.out] | fail)
                refine (HP.out _).mono ?_
                rintro y w9 ⟨rfl, rfl⟩
                go_wp2
                have s0 : w9.drew.cell? ⟨b, oo + jm * 3, none⟩ = some (.string ⟨p0.toArray⟩) := k0
                have s1 : w9.drew.cell? ⟨q, 0, none⟩ = some (.string ⟨p.toArray⟩) := e0
                have s2 : w9.drew.cell? ⟨g, 3, none⟩ = some (.slice (some ⟨b, oo, none⟩) M cc) := c3'
                refine Rg.wp_region_ord (fun w' => w'.cell? ⟨b, oo + jm * 3, none⟩ = some (.string ⟨p0.toArray⟩) ∧ w'.cell? ⟨q, 0, none⟩ = some (.string ⟨p.toArray⟩) ∧ w'.cell? ⟨g, 3, none⟩ = some (.slice (some ⟨b, oo, none⟩) M cc)) [(0, true), (1, true), (2, true), (3, true), (4, true), (5, true), (6, true), (7, true), (8, true), (9, true), (10, true), (11, true), (12, false), (13, true), (14, true)] (by kernel_rfl) (by kernel_rfl) ?_
                simp only [Rg.pick, List.map_cons, List.map_nil, List.getD_cons_zero, List.getD_cons_succ]
                iterate 3 (refine Rg.ord_quiet (v := ?_) rfl (fun w' hS => ?_) ⟨s0, s1, s2⟩ ?_; rotate_left; (obtain ⟨q0, q1, q2⟩ := hS; go_simp; with_reducible rfl); simp only [Act.put, List.setIfInBounds_toArray, List.set_cons_succ, List.set_cons_zero])
                iterate 9 (refine Rg.ord_guarded (v := ?_) (by rfl) (fun w' hS => ?_) ⟨s0, s1, s2⟩ ?_; rotate_left; (obtain ⟨q0, q1, q2⟩ := hS; go_simp; with_reducible rfl); simp only [Act.put, List.setIfInBounds_toArray, List.set_cons_succ, List.set_cons_zero])
                refine Rg.ord_loud (by rfl) (fun K hK => ?_)
                go_simp
                refine (HLs.out _).mono ?_
                rintro y w10 ⟨rfl, hb2⟩
                have r0 := agr s0 hb2
                have r1 := agr s1 hb2
                have r2 := agr s2 hb2
                refine hK _ _ (fun _ => ⟨r0, r1, r2⟩) ?_
                clear hK K
                have Hb2 := hide (Hb8.out.drew.trans (hb2.mono Hb8.out.drew.size))
                clear hb2 s0 s1 s2 k0 e0 e1 e2 c0 c1 c2 c3 c3' d0 dm d1
                cases hL : Op.bytesLess p0 p
                · have Hnx := hide (show pr = false by rw [HPd.out, Hstep.out, hL]; simp)
                  iterate 1 (refine Rg.ord_guarded (v := ?_) (by rfl) (fun w' hS => ?_) ⟨r0, r1, r2⟩ ?_; rotate_left; (obtain ⟨q0, q1, q2⟩ := hS; go_simp; with_reducible rfl); simp only [Act.put, List.setIfInBounds_toArray, List.set_cons_succ, List.set_cons_zero])
                  iterate 1 (refine Rg.ord_quiet (v := ?_) rfl (fun w' hS => ?_) ⟨r0, r1, r2⟩ ?_; rotate_left; (obtain ⟨q0, q1, q2⟩ := hS; go_simp; with_reducible rfl); simp only [Act.put, List.setIfInBounds_toArray, List.set_cons_succ, List.set_cons_zero])
                  refine Rg.ord_nil ?_
                  clear r0 r1 r2 hL
                  go_wp2
                  go_ret
                  exact ⟨by rw [Hnx.out]; rfl, HF.out _ Hb2.out⟩
                · have Hnx := hide (show cgo none chs = cgo (aheadC chs (j + 1)) (chs.drop (j + 1)) by rw [Hstep.out, hL, Bool.true_and])
                  iterate 1 (refine Rg.ord_guarded (v := ?_) (by rfl) (fun w' hS => ?_) ⟨r0, r1, r2⟩ ?_; rotate_left; (obtain ⟨q0, q1, q2⟩ := hS; go_simp; with_reducible rfl); simp only [Act.put, List.setIfInBounds_toArray, List.set_cons_succ, List.set_cons_zero])
                  iterate 1 (refine Rg.ord_quiet (v := ?_) rfl (fun w' hS => ?_) ⟨r0, r1, r2⟩ ?_; rotate_left; (obtain ⟨q0, q1, q2⟩ := hS; go_simp; with_reducible rfl); simp only [Act.put, List.setIfInBounds_toArray, List.set_cons_succ, List.set_cons_zero])
                  refine Rg.ord_nil ?_
                  clear r0 r1 r2 hL hk1 hk2 hk3 hk4 hkw
                  go_wp2
                  exact ⟨⟨j + 1, by omega, by go_num, by show Hid _; exact hide ⟨Hnx.out, HKn.out⟩, Hb2.out⟩, by simp [intOf]; omega⟩
          · have Hr := hide (show pr = false by
              rw [HPd.out, hstep]
              by_cases a1 : cn = true
              · by_cases a2 : x.length ≤ 65536
                · have a3 : gn = true ∧ x ≠ [] := by
                    cases gn with
                    | false => exact absurd ⟨a1, a2, fun h => by cases h⟩ hall
                    | true => exact ⟨rfl, fun h => hall ⟨a1, a2, fun _ => h⟩⟩
                  rw [a3.1, decide_eq_false a3.2]; simp
                · rw [decide_eq_false a2]; simp
              · have : cn = false := by simpa using a1
                rw [this]; simp)
            clear hstep HK Hf
            cases cn with
            | false =>
              clear hall hcan
              go_wp2_with (first | rw [← W8.out, ← Q8.out] | fail)
              refine (HP.out _).mono ?_
              rintro y w9 ⟨rfl, rfl⟩
              go_wp2
              go_ret
              exact ⟨by rw [Hr.out]; rfl, HF.out _ Hb8.out⟩
            | true =>
              by_cases a2 : x.length ≤ 65536
              · have a3 : gn = true ∧ 0 < x.length := by
                  cases gn with
                  | false => exact absurd ⟨rfl, a2, fun h => by cases h⟩ hall
                  | true => exact ⟨rfl, by cases x with
                    | nil => exact absurd ⟨rfl, a2, fun _ => rfl⟩ hall
                    | cons c r => simp⟩
                obtain ⟨rfl, a4⟩ := a3
                have y0 : decide (65536 < (x.length : Int)) = false := decide_eq_false (by omega)
                have y1 : decide (65536 < x.length) = false := decide_eq_false (by omega)
                have y2 : decide (0 < (x.length : Int)) = true := decide_eq_true (by omega)
                have y3 : decide (0 < x.length) = true := decide_eq_true a4
                clear hall hcan a2 a4
                go_wp2_with (first | rw [← W8.out, ← Q8.out] | fail)
                refine (HP.out _).mono ?_
                rintro y w9 ⟨rfl, rfl⟩
                go_wp2
                go_ret
                exact ⟨by rw [Hr.out]; rfl, HF.out _ Hb8.out⟩
              · have y0 : decide (65536 < (x.length : Int)) = true := decide_eq_true (by omega)
                have y1 : decide (65536 < x.length) = true := decide_eq_true (by omega)
                clear hall hcan a2
                go_wp2_with (first | rw [← W8.out, ← Q8.out] | fail)
                refine (HP.out _).mono ?_
                rintro y w9 ⟨rfl, rfl⟩
                go_wp2
                go_ret
                exact ⟨by rw [Hr.out]; rfl, HF.out _ Hb8.out⟩
        · obtain rfl : j = M := by omega
          have Hcg := hide (show cgo none chs = true by rw [HR.out.1, HM.out, List.drop_length]; rfl)
          have Hr := hide (show pr = decide ((nf : Int) ≤ 131072) by rw [HPd.out, Hig.out, Hcg.out]; rfl)
          have HCl := hide (HFm.out (HFt.out (HWt.out Hig.out Hcg.out)) wr (HF.out _ Hb.out))
          have hnfl := Hsh.out (HFt.out (HWt.out Hig.out Hcg.out))
          clear HR
          go_wp2_with fail
          refine HCl.out.mono ?_
          rintro y w9 ⟨v9, rfl, hown9, hb9⟩
          obtain ⟨A9, c9, rfl, _⟩ := hown9.sl
          rw [← Hnf.out]
          have Hb9 := hide ((HF.out _ Hb.out).trans (hb9.mono (HF.out _ Hb.out).size))
          clear hown9 hb9 HCl
          have hle : decide ((nf : Int) ≤ 131072) = decide (nf ≤ 131072) := by rw [decide_eq_decide]; omega
          have Hle := hide hle
          go_wp2
          go_ret
          exact ⟨by rw [Hr.out]; first | rfl | (rw [Hle.out]; rfl), Hb9.out⟩
end Go.Proofs.YtabgkfkjnpcbkaaDoor.Tr
