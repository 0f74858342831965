/-
  The reference of patches: what is between two trees.
-/
import Derived.BigQuiet
import Derived.Test.YtabgkfkjnpcbkaaDoorPY
namespace Go.Proofs.YtabgkfkjnpcbkaaDoor.Tr
open Go Go.RowKit Kt Lw Li Lx Df

set_option maxHeartbeats 16000000 in
set_option maxRecDepth 100000 in
theorem rbetween_call (a b : List Fl) (A A' : Option Addr) (c c' : Nat) (w : World) (hs : Fls w A c a) (hs' : Fls w A' c' b) (ha : go none a = true) (hb0 : go none b = true) (hn : a.length ≤ 10000 ∧ b.length ≤ 10000) :
    Calls Tryd.prog 29 #[.slice A a.length c, .slice A' b.length c'] w fun y w' => ∃ v, y = .returned v ∧ OwC w' w.heap.size v (betw a b) ∧ Below w.heap.size w w' := by
  have Hs := hide hs
  have Hs' := hide hs'
  have Hst := hide (Btw.start ha hb0)
  have HLn := hide (show (both a b).length ≤ 100000 from Nat.le_trans (both_len a b) (by omega))
  have Hm := hide (fun f (hf : f ∈ a) => show f.path.length ≤ 100000 from by have := can_lt (go_above ha f hf).2.1; omega)
  have Hm' := hide (fun f (hf : f ∈ b) => show f.path.length ≤ 100000 from by have := can_lt (go_above hb0 f hf).2.1; omega)
  obtain ⟨N, hN⟩ : ∃ N, N = a.length := ⟨_, rfl⟩
  obtain ⟨M, hM⟩ : ∃ M, M = b.length := ⟨_, rfl⟩
  rw [← hN, ← hM] at hn ⊢
  have HN := hide hN
  have HM := hide hM
  obtain ⟨hN9, hM9⟩ := hn
  clear hs hs' ha hb0 hN hM
  go_enter Tryd.func29, Tryd.ntmps29
  go_wp2
  go_loopw [5, 6, 7] (fun s5 s6 s7 wr => ∃ (i k : Nat) (vo : Value) (D : List Bs), i ≤ N ∧ k ≤ M ∧ s6 = .int .i64 i ∧ s7 = .int .i64 k ∧ vo = s5 ∧ OwC wr w.heap.size vo (D.filterMap (chOf a b)) ∧ Hid (Btw a b i k D) ∧ Below w.heap.size w wr) (fun _ _ s7 _ => M + 1 - (intOf s7).toNat)
  case atStart => exact ⟨0, 0, _, [], Nat.zero_le _, Nat.zero_le _, rfl, rfl, rfl, OwC.nil _ _, by show Hid _; exact Hst, Below.refl _ _⟩
  case round =>
    obtain ⟨i, k, vo, D, hi, hk, rfl, rfl, rfl, hown, HBt, hb⟩ := hrel
    clear Hst
    have Hb := hide hb
    have Hown := hide hown
    clear hb hown
    have hkM : decide ((k : Int) ≤ (M : Int)) = true := decide_eq_true (by omega)
    have hkM2 : decide (k ≤ M) = true := decide_eq_true hk
    obtain ⟨w4, hw4⟩ : ∃ z, z = wr := ⟨_, rfl⟩
    subst hw4
    go_wp2
    go_loopw [5, 6] (fun s5 s6 wr => ∃ (i : Nat) (vo : Value) (D : List Bs), i ≤ N ∧ s6 = .int .i64 i ∧ vo = s5 ∧ OwC wr w.heap.size vo (D.filterMap (chOf a b)) ∧ Hid (Btw a b i k D) ∧ Below w.heap.size w wr) (fun _ s6 _ => N - (intOf s6).toNat)
    case atStart => exact ⟨i, _, D, hi, rfl, rfl, Hown.out, by show Hid _; exact HBt, Hb.out⟩
    case round =>
      clear Hown HBt Hb
      obtain ⟨i, vo, D, hi, rfl, rfl, hown, HBt, hb⟩ := hrel
      have Hb := hide hb
      have Hown := hide hown
      clear hb hown
      have HLen := hide (show (D.filterMap (chOf a b)).length ≤ 100000 from Nat.le_trans (btw_len HBt.out) HLn.out)
      by_cases hiN : i < N
      · obtain ⟨b1, o1, ⟨p, xt⟩, rfl, hbl1, hfA, hdA, _, _⟩ := Hs.out.at (w' := w) (Below.refl _ _) (k := i) (by have := HN.out; omega)
        have HA := hide (fun (wz : World) (h : Below w.heap.size w wz) => show wz.cell? ⟨b1, o1 + i * 2, none⟩ = some (.string ⟨p.toArray⟩) ∧ wz.cell? ⟨b1, o1 + i * 2 + 1, none⟩ = some (.string ⟨xt.toArray⟩) from by
          obtain ⟨b', o', f', e1, _, e2, _, e3, e4⟩ := Hs.out.at (w' := wz) h (k := i) (by have := HN.out; omega)
          cases e1
          rw [hfA] at e2
          cases e2
          exact ⟨e3, e4⟩)
        have hpl := (Hm.out _ (List.mem_of_getElem? hfA))
        simp only at hpl
        clear hbl1 hdA
        by_cases hkM3 : k = M
        · obtain ⟨hbt, hch⟩ := HBt.out.gone hfA (by intro g hg; have := (List.getElem?_eq_some_iff.1 hg).1; have := HM.out; omega)
          have Hbt := hide hbt
          have Hco := hide (show (D ++ [p]).filterMap (chOf a b) = D.filterMap (chOf a b) ++ [⟨p, true, []⟩] by rw [chOf_snoc, hch]; rfl)
          clear hbt hch hfA
          have x1 : decide ((i : Int) < (N : Int)) = true := decide_eq_true (by omega)
          have x2 : decide (i < N) = true := decide_eq_true (by omega)
          have y1 : ((k : Int) == (M : Int)) = true := by rw [beq_iff_eq]; omega
          have y2 : (k == M) = true := by rw [beq_iff_eq]; omega
          have y3 : decide ((k : Int) = (M : Int)) = true := decide_eq_true (by omega)
          clear hkM3
          go_wp2
          obtain ⟨a0, a1⟩ := HA.out wr.drew Hb.out.drew
          refine Rg.wp_region_ord (fun w' => w'.cell? ⟨b1, o1 + i * 2, none⟩ = some (.string ⟨p.toArray⟩) ∧ w'.cell? ⟨b1, o1 + i * 2 + 1, none⟩ = some (.string ⟨xt.toArray⟩)) [(0, true), (1, true), (2, true), (3, true), (4, true), (5, true), (6, true), (7, true), (8, true), (9, true), (10, true), (11, true), (12, true), (13, true), (14, true), (15, true), (16, true), (17, true), (18, true), (19, true), (20, true), (21, true), (22, true)] (by kernel_rfl) (by kernel_rfl) ?_
          simp only [Rg.pick, List.map_cons, List.map_nil, List.getD_cons_zero, List.getD_cons_succ]
          iterate 5 (refine Rg.ord_quiet (v := ?_) rfl (fun w' hS => ?_) ⟨a0, a1⟩ ?_; rotate_left; (obtain ⟨s0, s1⟩ := hS; go_simp; with_reducible rfl); simp only [Act.put, List.setIfInBounds_toArray, List.set_cons_succ, List.set_cons_zero])
          iterate 5 (refine Rg.ord_guarded (v := ?_) (by rfl) (fun w' hS => ?_) ⟨a0, a1⟩ ?_; rotate_left; (obtain ⟨s0, s1⟩ := hS; go_simp; with_reducible rfl); simp only [Act.put, List.setIfInBounds_toArray, List.set_cons_succ, List.set_cons_zero])
          iterate 11 (refine Rg.ord_passed (by rfl) ⟨a0, a1⟩ ?_; simp only [Act.put, List.setIfInBounds_toArray, List.set_cons_succ, List.set_cons_zero])
          iterate 1 (refine Rg.ord_guarded (v := ?_) (by rfl) (fun w' hS => ?_) ⟨a0, a1⟩ ?_; rotate_left; (obtain ⟨s0, s1⟩ := hS; go_simp; with_reducible rfl); simp only [Act.put, List.setIfInBounds_toArray, List.set_cons_succ, List.set_cons_zero])
          iterate 1 (refine Rg.ord_quiet (v := ?_) rfl (fun w' hS => ?_) ⟨a0, a1⟩ ?_; rotate_left; (obtain ⟨s0, s1⟩ := hS; go_simp; with_reducible rfl); simp only [Act.put, List.setIfInBounds_toArray, List.set_cons_succ, List.set_cons_zero])
          refine Rg.ord_nil ?_
          replace Hb := hide Hb.out.drew
          clear a0 a1
          obtain ⟨a0, a1⟩ := HA.out wr.drew Hb.out
          go_wp2_with (refine wpList_pushC (W := wr.drew) rfl (.tmp 38) (.tmp 45) rfl w.heap.size w vo (D.filterMap (chOf a b)) ⟨p, true, []⟩ _ rfl rfl rfl Hown.out (by have := HLen.out; omega) Hb.out Hb.out.size ?_; intro v7 w7 hown7 hb7 _; have Hown7 := hide hown7; have Hb7 := hide hb7; clear hown7 hb7)
          exact ⟨⟨i + 1, v7, D ++ [p], by omega, by go_num, rfl, by rw [Hco.out]; exact Hown7.out, by show Hid _; exact Hbt, Hb7.out⟩, by simp [intOf]; omega⟩
        · obtain ⟨b2, o2, ⟨r, yt⟩, rfl, hbl2, hgB, hdB, _, _⟩ := Hs'.out.at (w' := w) (Below.refl _ _) (k := k) (by have := HM.out; omega)
          have HBc := hide (fun (wz : World) (h : Below w.heap.size w wz) => show wz.cell? ⟨b2, o2 + k * 2, none⟩ = some (.string ⟨r.toArray⟩) ∧ wz.cell? ⟨b2, o2 + k * 2 + 1, none⟩ = some (.string ⟨yt.toArray⟩) from by
            obtain ⟨b', o', f', e1, _, e2, _, e3, e4⟩ := Hs'.out.at (w' := wz) h (k := k) (by have := HM.out; omega)
            cases e1
            rw [hgB] at e2
            cases e2
            exact ⟨e3, e4⟩)
          have hrl := (Hm'.out _ (List.mem_of_getElem? hgB))
          simp only at hrl
          clear hbl2 hdB
          have HLs := hide (fun wz => rless_any p r wz hpl hrl)
          have x1 : decide ((i : Int) < (N : Int)) = true := decide_eq_true (by omega)
          have x2 : decide (i < N) = true := decide_eq_true (by omega)
          have y1 : ((k : Int) == (M : Int)) = false := by rw [beq_eq_false_iff_ne]; omega
          have y2 : (k == M) = false := by rw [beq_eq_false_iff_ne]; omega
          have y3 : decide ((k : Int) = (M : Int)) = false := decide_eq_false (by omega)
          have z1 : k < M := by omega
          cases hl : Op.bytesLess p r with
          | true =>
            obtain ⟨hbt, hch⟩ := HBt.out.gone hfA (by intro g hg; rw [hgB] at hg; cases hg; exact hl)
            have Hbt := hide hbt
            have Hco := hide (show (D ++ [p]).filterMap (chOf a b) = D.filterMap (chOf a b) ++ [⟨p, true, []⟩] by rw [chOf_snoc, hch]; rfl)
            clear hbt hch hfA
            go_wp2
            obtain ⟨a0, a1⟩ := HA.out wr.drew Hb.out.drew
            obtain ⟨d0, d1⟩ := HBc.out wr.drew Hb.out.drew
            refine Rg.wp_region_ord (fun w' => (w'.cell? ⟨b1, o1 + i * 2, none⟩ = some (.string ⟨p.toArray⟩) ∧ w'.cell? ⟨b1, o1 + i * 2 + 1, none⟩ = some (.string ⟨xt.toArray⟩)) ∧ w'.cell? ⟨b2, o2 + k * 2, none⟩ = some (.string ⟨r.toArray⟩) ∧ w'.cell? ⟨b2, o2 + k * 2 + 1, none⟩ = some (.string ⟨yt.toArray⟩)) [(0, true), (1, true), (2, true), (3, true), (4, true), (5, true), (6, true), (7, true), (8, true), (9, true), (10, true), (11, true), (12, true), (13, true), (14, true), (15, true), (16, true), (17, true), (18, true), (19, true), (20, false), (21, true), (22, true)] (by kernel_rfl) (by kernel_rfl) ?_
            simp only [Rg.pick, List.map_cons, List.map_nil, List.getD_cons_zero, List.getD_cons_succ]
            iterate 5 (refine Rg.ord_quiet (v := ?_) rfl (fun w' hS => ?_) ⟨⟨a0, a1⟩, d0, d1⟩ ?_; rotate_left; (obtain ⟨⟨s0, s1⟩, t0, t1⟩ := hS; go_simp; with_reducible rfl); simp only [Act.put, List.setIfInBounds_toArray, List.set_cons_succ, List.set_cons_zero])
            iterate 5 (refine Rg.ord_guarded (v := ?_) (by rfl) (fun w' hS => ?_) ⟨⟨a0, a1⟩, d0, d1⟩ ?_; rotate_left; (obtain ⟨⟨s0, s1⟩, t0, t1⟩ := hS; go_simp; with_reducible rfl); simp only [Act.put, List.setIfInBounds_toArray, List.set_cons_succ, List.set_cons_zero])
            iterate 10 (refine Rg.ord_guarded (v := ?_) (by rfl) (fun w' hS => ?_) ⟨⟨a0, a1⟩, d0, d1⟩ ?_; rotate_left; (obtain ⟨⟨s0, s1⟩, t0, t1⟩ := hS; go_simp; with_reducible rfl); simp only [Act.put, List.setIfInBounds_toArray, List.set_cons_succ, List.set_cons_zero])
            refine Rg.ord_loud (by rfl) (fun K hK => ?_)
            go_simp
            refine (HLs.out _).mono ?_
            rintro y w5 ⟨rfl, hb5⟩
            rw [hl]
            have Hown5 : Hid (OwC w5 w.heap.size vo (D.filterMap (chOf a b))) := hide (OwC.keep (w := wr.drew) Hown.out hb5)
            have Hb5 := hide (Hb.out.drew.trans (hb5.mono Hb.out.size))
            obtain ⟨e0, e1⟩ := HA.out w5 Hb5.out
            obtain ⟨f0, f1⟩ := HBc.out w5 Hb5.out
            refine hK _ _ (fun _ => ⟨⟨e0, e1⟩, f0, f1⟩) ?_
            clear hK K hb5 a0 a1 d0 d1 Hown Hb
            iterate 1 (refine Rg.ord_guarded (v := ?_) (by rfl) (fun w' hS => ?_) ⟨⟨e0, e1⟩, f0, f1⟩ ?_; rotate_left; (obtain ⟨⟨s0, s1⟩, t0, t1⟩ := hS; go_simp; with_reducible rfl); simp only [Act.put, List.setIfInBounds_toArray, List.set_cons_succ, List.set_cons_zero])
            iterate 1 (refine Rg.ord_quiet (v := ?_) rfl (fun w' hS => ?_) ⟨⟨e0, e1⟩, f0, f1⟩ ?_; rotate_left; (obtain ⟨⟨s0, s1⟩, t0, t1⟩ := hS; go_simp; with_reducible rfl); simp only [Act.put, List.setIfInBounds_toArray, List.set_cons_succ, List.set_cons_zero])
            refine Rg.ord_nil ?_
            clear f0 f1 hl
            go_wp2_with (refine wpList_pushC (W := w5) rfl (.tmp 38) (.tmp 45) rfl w.heap.size w vo (D.filterMap (chOf a b)) ⟨p, true, []⟩ _ rfl rfl rfl Hown5.out (by have := HLen.out; omega) Hb5.out Hb5.out.size ?_; intro v7 w7 hown7 hb7 _; have Hown7 := hide hown7; have Hb7 := hide hb7; clear hown7 hb7)
            exact ⟨⟨i + 1, v7, D ++ [p], by omega, by go_num, rfl, by rw [Hco.out]; exact Hown7.out, by show Hid _; exact Hbt, Hb7.out⟩, by simp [intOf]; omega⟩
          | false =>
            go_wp2
            obtain ⟨a0, a1⟩ := HA.out wr.drew Hb.out.drew
            obtain ⟨d0, d1⟩ := HBc.out wr.drew Hb.out.drew
            refine Rg.wp_region_ord (fun w' => (w'.cell? ⟨b1, o1 + i * 2, none⟩ = some (.string ⟨p.toArray⟩) ∧ w'.cell? ⟨b1, o1 + i * 2 + 1, none⟩ = some (.string ⟨xt.toArray⟩)) ∧ w'.cell? ⟨b2, o2 + k * 2, none⟩ = some (.string ⟨r.toArray⟩) ∧ w'.cell? ⟨b2, o2 + k * 2 + 1, none⟩ = some (.string ⟨yt.toArray⟩)) [(0, true), (1, true), (2, true), (3, true), (4, true), (5, true), (6, true), (7, true), (8, true), (9, true), (10, true), (11, true), (12, true), (13, true), (14, true), (15, true), (16, true), (17, true), (18, true), (19, true), (20, false), (21, true), (22, true)] (by kernel_rfl) (by kernel_rfl) ?_
            simp only [Rg.pick, List.map_cons, List.map_nil, List.getD_cons_zero, List.getD_cons_succ]
            iterate 5 (refine Rg.ord_quiet (v := ?_) rfl (fun w' hS => ?_) ⟨⟨a0, a1⟩, d0, d1⟩ ?_; rotate_left; (obtain ⟨⟨s0, s1⟩, t0, t1⟩ := hS; go_simp; with_reducible rfl); simp only [Act.put, List.setIfInBounds_toArray, List.set_cons_succ, List.set_cons_zero])
            iterate 5 (refine Rg.ord_guarded (v := ?_) (by rfl) (fun w' hS => ?_) ⟨⟨a0, a1⟩, d0, d1⟩ ?_; rotate_left; (obtain ⟨⟨s0, s1⟩, t0, t1⟩ := hS; go_simp; with_reducible rfl); simp only [Act.put, List.setIfInBounds_toArray, List.set_cons_succ, List.set_cons_zero])
            iterate 10 (refine Rg.ord_guarded (v := ?_) (by rfl) (fun w' hS => ?_) ⟨⟨a0, a1⟩, d0, d1⟩ ?_; rotate_left; (obtain ⟨⟨s0, s1⟩, t0, t1⟩ := hS; go_simp; with_reducible rfl); simp only [Act.put, List.setIfInBounds_toArray, List.set_cons_succ, List.set_cons_zero])
            refine Rg.ord_loud (by rfl) (fun K hK => ?_)
            go_simp
            refine (HLs.out _).mono ?_
            rintro y w5 ⟨rfl, hb5⟩
            rw [hl]
            have Hown5 : Hid (OwC w5 w.heap.size vo (D.filterMap (chOf a b))) := hide (OwC.keep (w := wr.drew) Hown.out hb5)
            have Hb5 := hide (Hb.out.drew.trans (hb5.mono Hb.out.size))
            obtain ⟨e0, e1⟩ := HA.out w5 Hb5.out
            obtain ⟨f0, f1⟩ := HBc.out w5 Hb5.out
            refine hK _ _ (fun _ => ⟨⟨e0, e1⟩, f0, f1⟩) ?_
            clear hK K hb5 a0 a1 d0 d1 Hown Hb
            iterate 1 (refine Rg.ord_guarded (v := ?_) (by rfl) (fun w' hS => ?_) ⟨⟨e0, e1⟩, f0, f1⟩ ?_; rotate_left; (obtain ⟨⟨s0, s1⟩, t0, t1⟩ := hS; go_simp; with_reducible rfl); simp only [Act.put, List.setIfInBounds_toArray, List.set_cons_succ, List.set_cons_zero])
            iterate 1 (refine Rg.ord_quiet (v := ?_) rfl (fun w' hS => ?_) ⟨⟨e0, e1⟩, f0, f1⟩ ?_; rotate_left; (obtain ⟨⟨s0, s1⟩, t0, t1⟩ := hS; go_simp; with_reducible rfl); simp only [Act.put, List.setIfInBounds_toArray, List.set_cons_succ, List.set_cons_zero])
            refine Rg.ord_nil ?_
            clear e0 e1 f0 f1
            have Hb := Hb5
            have Hown := Hown5
            clear Hb5 Hown5 HLs x1 x2 y1 y2 y3
            have x1 : decide ((i : Int) < (N : Int)) = true := decide_eq_true (by omega)
            have x2 : decide (i < N) = true := decide_eq_true (by omega)
            have y1 : ((k : Int) == (M : Int)) = false := by rw [beq_eq_false_iff_ne]; omega
            have y2 : (k == M) = false := by rw [beq_eq_false_iff_ne]; omega
            have y3 : decide ((k : Int) = (M : Int)) = false := decide_eq_false (by omega)
            by_cases hpe : p = r
            · by_cases hte : xt = yt
              · obtain ⟨hbt, hch⟩ := HBt.out.same hfA hgB hpe
                have Hbt := hide hbt
                simp only at hch
                have Hco := hide (show (D ++ [r]).filterMap (chOf a b) = D.filterMap (chOf a b) by rw [chOf_snoc, hch, if_pos hte]; simp)
                have q1 : (xt == yt) = true := by simpa using hte
                have q0 : (p == r) = true := by simpa using hpe
                clear hbt hch hte hfA hgB hl hpe
                go_wp2
                obtain ⟨a0, a1⟩ := HA.out w5.drew Hb.out.drew
                obtain ⟨d0, d1⟩ := HBc.out w5.drew Hb.out.drew
                refine Rg.wp_region_ord (fun w' => (w'.cell? ⟨b1, o1 + i * 2, none⟩ = some (.string ⟨p.toArray⟩) ∧ w'.cell? ⟨b1, o1 + i * 2 + 1, none⟩ = some (.string ⟨xt.toArray⟩)) ∧ w'.cell? ⟨b2, o2 + k * 2, none⟩ = some (.string ⟨r.toArray⟩) ∧ w'.cell? ⟨b2, o2 + k * 2 + 1, none⟩ = some (.string ⟨yt.toArray⟩)) [(0, true), (1, true), (2, true), (3, true), (4, true), (5, true), (6, true), (7, true), (8, true), (9, true), (10, true), (11, true), (12, true), (13, true), (14, true), (15, true), (16, true)] (by kernel_rfl) (by kernel_rfl) ?_
                simp only [Rg.pick, List.map_cons, List.map_nil, List.getD_cons_zero, List.getD_cons_succ]
                iterate 5 (refine Rg.ord_quiet (v := ?_) rfl (fun w' hS => ?_) ⟨⟨a0, a1⟩, d0, d1⟩ ?_; rotate_left; (obtain ⟨⟨s0, s1⟩, t0, t1⟩ := hS; go_simp; with_reducible rfl); simp only [Act.put, List.setIfInBounds_toArray, List.set_cons_succ, List.set_cons_zero])
                iterate 11 (refine Rg.ord_guarded (v := ?_) (by rfl) (fun w' hS => ?_) ⟨⟨a0, a1⟩, d0, d1⟩ ?_; rotate_left; (obtain ⟨⟨s0, s1⟩, t0, t1⟩ := hS; go_simp; with_reducible rfl); simp only [Act.put, List.setIfInBounds_toArray, List.set_cons_succ, List.set_cons_zero])
                iterate 1 (refine Rg.ord_quiet (v := ?_) rfl (fun w' hS => ?_) ⟨⟨a0, a1⟩, d0, d1⟩ ?_; rotate_left; (obtain ⟨⟨s0, s1⟩, t0, t1⟩ := hS; go_simp; with_reducible rfl); simp only [Act.put, List.setIfInBounds_toArray, List.set_cons_succ, List.set_cons_zero])
                refine Rg.ord_nil ?_
                replace Hb := hide Hb.out.drew
                clear a0 a1 d0 d1
                go_wp2
                obtain ⟨a0, a1⟩ := HA.out w5.drew.drew Hb.out.drew
                obtain ⟨d0, d1⟩ := HBc.out w5.drew.drew Hb.out.drew
                refine Rg.wp_region_ord (fun w' => (w'.cell? ⟨b1, o1 + i * 2, none⟩ = some (.string ⟨p.toArray⟩) ∧ w'.cell? ⟨b1, o1 + i * 2 + 1, none⟩ = some (.string ⟨xt.toArray⟩)) ∧ w'.cell? ⟨b2, o2 + k * 2, none⟩ = some (.string ⟨r.toArray⟩) ∧ w'.cell? ⟨b2, o2 + k * 2 + 1, none⟩ = some (.string ⟨yt.toArray⟩)) [(0, true), (1, true), (2, true), (3, true), (4, true), (5, true), (6, true), (7, true), (8, true), (9, true), (10, true), (11, true)] (by kernel_rfl) (by kernel_rfl) ?_
                simp only [Rg.pick, List.map_cons, List.map_nil, List.getD_cons_zero, List.getD_cons_succ]
                iterate 12 (refine Rg.ord_quiet (v := ?_) rfl (fun w' hS => ?_) ⟨⟨a0, a1⟩, d0, d1⟩ ?_; rotate_left; (obtain ⟨⟨s0, s1⟩, t0, t1⟩ := hS; go_simp; with_reducible rfl); simp only [Act.put, List.setIfInBounds_toArray, List.set_cons_succ, List.set_cons_zero])
                refine Rg.ord_nil ?_
                replace Hb := hide Hb.out.drew
                clear a0 a1 d0 d1
                go_wp2
                exact ⟨⟨i + 1, k + 1, _, D ++ [r], by omega, by omega, by go_num, by go_num, rfl, by rw [Hco.out]; exact Hown.out, by show Hid _; exact Hbt, Hb.out⟩, by simp [intOf]; omega⟩
              · obtain ⟨hbt, hch⟩ := HBt.out.same hfA hgB hpe
                have Hbt := hide hbt
                simp only at hch
                have Hco := hide (show (D ++ [r]).filterMap (chOf a b) = D.filterMap (chOf a b) ++ [⟨r, false, yt⟩] by rw [chOf_snoc, hch, if_neg hte]; rfl)
                have q1 : (xt == yt) = false := by simpa using hte
                have q0 : (p == r) = true := by simpa using hpe
                clear hbt hch hte hfA hgB hl hpe
                go_wp2
                obtain ⟨a0, a1⟩ := HA.out w5.drew Hb.out.drew
                obtain ⟨d0, d1⟩ := HBc.out w5.drew Hb.out.drew
                refine Rg.wp_region_ord (fun w' => (w'.cell? ⟨b1, o1 + i * 2, none⟩ = some (.string ⟨p.toArray⟩) ∧ w'.cell? ⟨b1, o1 + i * 2 + 1, none⟩ = some (.string ⟨xt.toArray⟩)) ∧ w'.cell? ⟨b2, o2 + k * 2, none⟩ = some (.string ⟨r.toArray⟩) ∧ w'.cell? ⟨b2, o2 + k * 2 + 1, none⟩ = some (.string ⟨yt.toArray⟩)) [(0, true), (1, true), (2, true), (3, true), (4, true), (5, true), (6, true), (7, true), (8, true), (9, true), (10, true), (11, true), (12, true), (13, true), (14, true), (15, true), (16, true)] (by kernel_rfl) (by kernel_rfl) ?_
                simp only [Rg.pick, List.map_cons, List.map_nil, List.getD_cons_zero, List.getD_cons_succ]
                iterate 5 (refine Rg.ord_quiet (v := ?_) rfl (fun w' hS => ?_) ⟨⟨a0, a1⟩, d0, d1⟩ ?_; rotate_left; (obtain ⟨⟨s0, s1⟩, t0, t1⟩ := hS; go_simp; with_reducible rfl); simp only [Act.put, List.setIfInBounds_toArray, List.set_cons_succ, List.set_cons_zero])
                iterate 11 (refine Rg.ord_guarded (v := ?_) (by rfl) (fun w' hS => ?_) ⟨⟨a0, a1⟩, d0, d1⟩ ?_; rotate_left; (obtain ⟨⟨s0, s1⟩, t0, t1⟩ := hS; go_simp; with_reducible rfl); simp only [Act.put, List.setIfInBounds_toArray, List.set_cons_succ, List.set_cons_zero])
                iterate 1 (refine Rg.ord_quiet (v := ?_) rfl (fun w' hS => ?_) ⟨⟨a0, a1⟩, d0, d1⟩ ?_; rotate_left; (obtain ⟨⟨s0, s1⟩, t0, t1⟩ := hS; go_simp; with_reducible rfl); simp only [Act.put, List.setIfInBounds_toArray, List.set_cons_succ, List.set_cons_zero])
                refine Rg.ord_nil ?_
                replace Hb := hide Hb.out.drew
                clear a0 a1 d0 d1
                go_wp2
                obtain ⟨a0, a1⟩ := HA.out w5.drew.drew Hb.out.drew
                obtain ⟨d0, d1⟩ := HBc.out w5.drew.drew Hb.out.drew
                refine Rg.wp_region_ord (fun w' => (w'.cell? ⟨b1, o1 + i * 2, none⟩ = some (.string ⟨p.toArray⟩) ∧ w'.cell? ⟨b1, o1 + i * 2 + 1, none⟩ = some (.string ⟨xt.toArray⟩)) ∧ w'.cell? ⟨b2, o2 + k * 2, none⟩ = some (.string ⟨r.toArray⟩) ∧ w'.cell? ⟨b2, o2 + k * 2 + 1, none⟩ = some (.string ⟨yt.toArray⟩)) [(0, true), (1, true), (2, true), (3, true), (4, true), (5, true), (6, true), (7, true), (8, true), (9, true), (10, true), (11, true)] (by kernel_rfl) (by kernel_rfl) ?_
                simp only [Rg.pick, List.map_cons, List.map_nil, List.getD_cons_zero, List.getD_cons_succ]
                iterate 12 (refine Rg.ord_quiet (v := ?_) rfl (fun w' hS => ?_) ⟨⟨a0, a1⟩, d0, d1⟩ ?_; rotate_left; (obtain ⟨⟨s0, s1⟩, t0, t1⟩ := hS; go_simp; with_reducible rfl); simp only [Act.put, List.setIfInBounds_toArray, List.set_cons_succ, List.set_cons_zero])
                refine Rg.ord_nil ?_
                replace Hb := hide Hb.out.drew
                clear a0 a1 d0 d1
                go_wp2
                obtain ⟨d0, d1⟩ := HBc.out w5.drew.drew.drew Hb.out.drew
                refine Rg.wp_region_ord (fun w' => w'.cell? ⟨b2, o2 + k * 2, none⟩ = some (.string ⟨r.toArray⟩) ∧ w'.cell? ⟨b2, o2 + k * 2 + 1, none⟩ = some (.string ⟨yt.toArray⟩)) [(0, true), (1, true), (2, true), (3, true), (4, true), (5, true), (6, true), (7, true), (8, true), (9, true), (10, true), (11, true), (12, false), (13, false), (14, true)] (by kernel_rfl) (by kernel_rfl) ?_
                simp only [Rg.pick, List.map_cons, List.map_nil, List.getD_cons_zero, List.getD_cons_succ]
                iterate 12 (refine Rg.ord_quiet (v := ?_) rfl (fun w' hS => ?_) ⟨d0, d1⟩ ?_; rotate_left; (obtain ⟨t0, t1⟩ := hS; go_simp; with_reducible rfl); simp only [Act.put, List.setIfInBounds_toArray, List.set_cons_succ, List.set_cons_zero])
                refine Rg.ord_loud rfl (fun K hK => ?_)
                go_simp
                have hb3 : Below w5.drew.drew.drew.heap.size w5.drew.drew.drew (w5.drew.drew.drew.alloc (.cells #[.string ⟨r.toArray⟩, .bool false, .string ⟨yt.toArray⟩] tC)) := (Below.refl _ w5.drew.drew.drew).alloc (Nat.le_refl _) _
                refine hK _ _ (fun _ => ⟨agr d0 hb3, agr d1 hb3⟩) ?_
                clear hK K
                refine Rg.ord_loud rfl (fun K hK => ?_)
                refine wp_pushC (W := w5.drew.drew.drew) (.tmp 86) (.tmp 98) rfl w.heap.size w vo (D.filterMap (chOf a b)) ⟨r, false, yt⟩ _ rfl rfl rfl Hown.out (by have := HLen.out; omega) Hb.out.drew Hb.out.size ?_
                intro v7 w7 hown7 hb7 hg7
                obtain ⟨e0, e1⟩ := HBc.out w7 hb7
                obtain ⟨A7, c7, e7, _⟩ := hown7.fls
                obtain ⟨n7, hn7⟩ : ∃ n, n = List.length (D.filterMap (chOf a b) ++ [(⟨r, false, yt⟩ : Ch)]) := ⟨_, rfl⟩
                rw [← hn7] at e7
                subst e7
                have Hown7 := hide hown7
                have Hb7 := hide hb7
                refine hK _ _ (fun _ => ⟨e0, e1⟩) ?_
                clear hK K hb3 hg7 hn7 hown7 hb7 d0 d1
                simp only [Act.put, List.setIfInBounds_toArray, List.set_cons_succ, List.set_cons_zero]
                iterate 1 (refine Rg.ord_quiet (v := ?_) rfl (fun w' hS => ?_) ⟨e0, e1⟩ ?_; rotate_left; (obtain ⟨t0, t1⟩ := hS; go_simp; with_reducible rfl); simp only [Act.put, List.setIfInBounds_toArray, List.set_cons_succ, List.set_cons_zero])
                refine Rg.ord_nil ?_
                clear e0 e1
                go_wp2
                exact ⟨⟨i + 1, k + 1, _, D ++ [r], by omega, by omega, by go_num, by go_num, rfl, by rw [Hco.out]; exact Hown7.out, by show Hid _; exact Hbt, Hb7.out⟩, by simp [intOf]; omega⟩
            · have hlt2 : lt r p = true := by
                rcases lt_tri p r with h | h | h
                · rw [show Op.bytesLess p r = true from h] at hl; cases hl
                · exact absurd h hpe
                · exact h
              obtain ⟨hbt, hch⟩ := HBt.out.came hgB (by intro f hf; rw [hfA] at hf; cases hf; exact hlt2)
              have Hbt := hide hbt
              have Hco := hide (show (D ++ [r]).filterMap (chOf a b) = D.filterMap (chOf a b) ++ [⟨r, false, yt⟩] by rw [chOf_snoc, hch]; rfl)
              have q0 : (p == r) = false := by simpa using hpe
              clear hbt hch hfA hgB hl hpe hlt2
              go_wp2
              obtain ⟨a0, a1⟩ := HA.out w5.drew Hb.out.drew
              obtain ⟨d0, d1⟩ := HBc.out w5.drew Hb.out.drew
              refine Rg.wp_region_ord (fun w' => (w'.cell? ⟨b1, o1 + i * 2, none⟩ = some (.string ⟨p.toArray⟩) ∧ w'.cell? ⟨b1, o1 + i * 2 + 1, none⟩ = some (.string ⟨xt.toArray⟩)) ∧ w'.cell? ⟨b2, o2 + k * 2, none⟩ = some (.string ⟨r.toArray⟩) ∧ w'.cell? ⟨b2, o2 + k * 2 + 1, none⟩ = some (.string ⟨yt.toArray⟩)) [(0, true), (1, true), (2, true), (3, true), (4, true), (5, true), (6, true), (7, true), (8, true), (9, true), (10, true), (11, true), (12, true), (13, true), (14, true), (15, true), (16, true)] (by kernel_rfl) (by kernel_rfl) ?_
              simp only [Rg.pick, List.map_cons, List.map_nil, List.getD_cons_zero, List.getD_cons_succ]
              iterate 5 (refine Rg.ord_quiet (v := ?_) rfl (fun w' hS => ?_) ⟨⟨a0, a1⟩, d0, d1⟩ ?_; rotate_left; (obtain ⟨⟨s0, s1⟩, t0, t1⟩ := hS; go_simp; with_reducible rfl); simp only [Act.put, List.setIfInBounds_toArray, List.set_cons_succ, List.set_cons_zero])
              iterate 11 (refine Rg.ord_guarded (v := ?_) (by rfl) (fun w' hS => ?_) ⟨⟨a0, a1⟩, d0, d1⟩ ?_; rotate_left; (obtain ⟨⟨s0, s1⟩, t0, t1⟩ := hS; go_simp; with_reducible rfl); simp only [Act.put, List.setIfInBounds_toArray, List.set_cons_succ, List.set_cons_zero])
              iterate 1 (refine Rg.ord_quiet (v := ?_) rfl (fun w' hS => ?_) ⟨⟨a0, a1⟩, d0, d1⟩ ?_; rotate_left; (obtain ⟨⟨s0, s1⟩, t0, t1⟩ := hS; go_simp; with_reducible rfl); simp only [Act.put, List.setIfInBounds_toArray, List.set_cons_succ, List.set_cons_zero])
              refine Rg.ord_nil ?_
              replace Hb := hide Hb.out.drew
              clear a0 a1 d0 d1
              go_wp2
              obtain ⟨d0, d1⟩ := HBc.out w5.drew.drew Hb.out.drew
              refine Rg.wp_region_ord (fun w' => w'.cell? ⟨b2, o2 + k * 2, none⟩ = some (.string ⟨r.toArray⟩) ∧ w'.cell? ⟨b2, o2 + k * 2 + 1, none⟩ = some (.string ⟨yt.toArray⟩)) [(0, true), (1, true), (2, true), (3, true), (4, true), (5, true), (6, true), (7, true), (8, true), (9, true), (10, true), (11, true), (12, false), (13, false), (14, true)] (by kernel_rfl) (by kernel_rfl) ?_
              simp only [Rg.pick, List.map_cons, List.map_nil, List.getD_cons_zero, List.getD_cons_succ]
              iterate 12 (refine Rg.ord_quiet (v := ?_) rfl (fun w' hS => ?_) ⟨d0, d1⟩ ?_; rotate_left; (obtain ⟨t0, t1⟩ := hS; go_simp; with_reducible rfl); simp only [Act.put, List.setIfInBounds_toArray, List.set_cons_succ, List.set_cons_zero])
              refine Rg.ord_loud rfl (fun K hK => ?_)
              go_simp
              have hb3 : Below w5.drew.drew.heap.size w5.drew.drew (w5.drew.drew.alloc (.cells #[.string ⟨r.toArray⟩, .bool false, .string ⟨yt.toArray⟩] tC)) := (Below.refl _ w5.drew.drew).alloc (Nat.le_refl _) _
              refine hK _ _ (fun _ => ⟨agr d0 hb3, agr d1 hb3⟩) ?_
              clear hK K
              refine Rg.ord_loud rfl (fun K hK => ?_)
              refine wp_pushC (W := w5.drew.drew) (.tmp 86) (.tmp 98) rfl w.heap.size w vo (D.filterMap (chOf a b)) ⟨r, false, yt⟩ _ rfl rfl rfl Hown.out (by have := HLen.out; omega) Hb.out.drew Hb.out.size ?_
              intro v7 w7 hown7 hb7 hg7
              obtain ⟨e0, e1⟩ := HBc.out w7 hb7
              obtain ⟨A7, c7, e7, _⟩ := hown7.fls
              obtain ⟨n7, hn7⟩ : ∃ n, n = List.length (D.filterMap (chOf a b) ++ [(⟨r, false, yt⟩ : Ch)]) := ⟨_, rfl⟩
              rw [← hn7] at e7
              subst e7
              have Hown7 := hide hown7
              have Hb7 := hide hb7
              refine hK _ _ (fun _ => ⟨e0, e1⟩) ?_
              clear hK K hb3 hg7 hn7 hown7 hb7 d0 d1
              simp only [Act.put, List.setIfInBounds_toArray, List.set_cons_succ, List.set_cons_zero]
              iterate 1 (refine Rg.ord_quiet (v := ?_) rfl (fun w' hS => ?_) ⟨e0, e1⟩ ?_; rotate_left; (obtain ⟨t0, t1⟩ := hS; go_simp; with_reducible rfl); simp only [Act.put, List.setIfInBounds_toArray, List.set_cons_succ, List.set_cons_zero])
              refine Rg.ord_nil ?_
              clear e0 e1
              go_wp2
              exact ⟨⟨i, k + 1, _, D ++ [r], hi, by omega, rfl, by go_num, rfl, by rw [Hco.out]; exact Hown7.out, by show Hid _; exact Hbt, Hb7.out⟩, by simp [intOf]; omega⟩
      · have HiN := hide (show i = N by omega)
        have x1 : decide ((i : Int) < (N : Int)) = false := decide_eq_false (by omega)
        have x2 : decide (i < N) = false := decide_eq_false (by omega)
        clear hiN
        go_wp2
        refine Rg.wp_region_ord (fun w' => True) [(0, true), (1, true), (2, true), (3, true), (4, true), (5, true), (6, true), (7, true), (8, true), (9, true), (10, true), (11, true), (12, true), (13, true), (14, true), (15, true), (16, true), (17, true), (18, true), (19, true), (20, true), (21, true), (22, true)] (by kernel_rfl) (by kernel_rfl) ?_
        simp only [Rg.pick, List.map_cons, List.map_nil, List.getD_cons_zero, List.getD_cons_succ]
        iterate 5 (refine Rg.ord_quiet (v := ?_) rfl (fun w' hS => ?_) trivial ?_; rotate_left; (go_simp; with_reducible rfl); simp only [Act.put, List.setIfInBounds_toArray, List.set_cons_succ, List.set_cons_zero])
        iterate 17 (refine Rg.ord_passed (by rfl) trivial ?_; simp only [Act.put, List.setIfInBounds_toArray, List.set_cons_succ, List.set_cons_zero])
        iterate 1 (refine Rg.ord_quiet (v := ?_) rfl (fun w' hS => ?_) trivial ?_; rotate_left; (go_simp; with_reducible rfl); simp only [Act.put, List.setIfInBounds_toArray, List.set_cons_succ, List.set_cons_zero])
        refine Rg.ord_nil ?_
        replace Hb := hide Hb.out.drew
        by_cases hkM3 : k = M
        · have Hf := hide (show D.filterMap (chOf a b) = betw a b from HBt.out.full (by have := HN.out; have := HiN.out; omega) (by have := HM.out; omega))
          have y1 : ((k : Int) == (M : Int)) = true := by rw [beq_iff_eq]; omega
          have y2 : (k == M) = true := by rw [beq_iff_eq]; omega
          have y3 : decide ((k : Int) = (M : Int)) = true := decide_eq_true (by omega)
          go_wp2
          go_ret
          exact ⟨_, rfl, by rw [← Hf.out]; exact Hown.out, Hb.out⟩
        · obtain ⟨b2, o2, ⟨r, yt⟩, rfl, hbl2, hgB, hdB, _, _⟩ := Hs'.out.at (w' := w) (Below.refl _ _) (k := k) (by have := HM.out; omega)
          have HBc := hide (fun (wz : World) (h : Below w.heap.size w wz) => show wz.cell? ⟨b2, o2 + k * 2, none⟩ = some (.string ⟨r.toArray⟩) ∧ wz.cell? ⟨b2, o2 + k * 2 + 1, none⟩ = some (.string ⟨yt.toArray⟩) from by
            obtain ⟨b', o', f', e1, _, e2, _, e3, e4⟩ := Hs'.out.at (w' := wz) h (k := k) (by have := HM.out; omega)
            cases e1
            rw [hgB] at e2
            cases e2
            exact ⟨e3, e4⟩)
          have hrl := (Hm'.out _ (List.mem_of_getElem? hgB))
          simp only at hrl
          clear hbl2 hdB
          have y1 : ((k : Int) == (M : Int)) = false := by rw [beq_eq_false_iff_ne]; omega
          have y2 : (k == M) = false := by rw [beq_eq_false_iff_ne]; omega
          have y3 : decide ((k : Int) = (M : Int)) = false := decide_eq_false (by omega)
          have z1 : k < M := by omega
          obtain ⟨hbt, hch⟩ := HBt.out.came hgB (by intro f hf; have := (List.getElem?_eq_some_iff.1 hf).1; have := HN.out; have := HiN.out; omega)
          have Hbt := hide hbt
          have Hco := hide (show (D ++ [r]).filterMap (chOf a b) = D.filterMap (chOf a b) ++ [⟨r, false, yt⟩] by rw [chOf_snoc, hch]; rfl)
          clear hbt hch hgB
          go_wp2
          refine Rg.wp_region_ord (fun w' => True) [(0, true), (1, true), (2, true), (3, true), (4, true), (5, true), (6, true), (7, true), (8, true), (9, true), (10, true), (11, true), (12, true), (13, true), (14, true), (15, true), (16, true)] (by kernel_rfl) (by kernel_rfl) ?_
          simp only [Rg.pick, List.map_cons, List.map_nil, List.getD_cons_zero, List.getD_cons_succ]
          iterate 5 (refine Rg.ord_quiet (v := ?_) rfl (fun w' hS => ?_) trivial ?_; rotate_left; (go_simp; with_reducible rfl); simp only [Act.put, List.setIfInBounds_toArray, List.set_cons_succ, List.set_cons_zero])
          iterate 11 (refine Rg.ord_passed (by rfl) trivial ?_; simp only [Act.put, List.setIfInBounds_toArray, List.set_cons_succ, List.set_cons_zero])
          iterate 1 (refine Rg.ord_quiet (v := ?_) rfl (fun w' hS => ?_) trivial ?_; rotate_left; (go_simp; with_reducible rfl); simp only [Act.put, List.setIfInBounds_toArray, List.set_cons_succ, List.set_cons_zero])
          refine Rg.ord_nil ?_
          replace Hb := hide Hb.out.drew
          go_wp2
          obtain ⟨d0, d1⟩ := HBc.out wr.drew.drew.drew Hb.out.drew
          refine Rg.wp_region_ord (fun w' => w'.cell? ⟨b2, o2 + k * 2, none⟩ = some (.string ⟨r.toArray⟩) ∧ w'.cell? ⟨b2, o2 + k * 2 + 1, none⟩ = some (.string ⟨yt.toArray⟩)) [(0, true), (1, true), (2, true), (3, true), (4, true), (5, true), (6, true), (7, true), (8, true), (9, true), (10, true), (11, true), (12, false), (13, false), (14, true)] (by kernel_rfl) (by kernel_rfl) ?_
          simp only [Rg.pick, List.map_cons, List.map_nil, List.getD_cons_zero, List.getD_cons_succ]
          iterate 12 (refine Rg.ord_quiet (v := ?_) rfl (fun w' hS => ?_) ⟨d0, d1⟩ ?_; rotate_left; (obtain ⟨t0, t1⟩ := hS; go_simp; with_reducible rfl); simp only [Act.put, List.setIfInBounds_toArray, List.set_cons_succ, List.set_cons_zero])
          refine Rg.ord_loud rfl (fun K hK => ?_)
          go_simp
          have hb3 : Below wr.drew.drew.drew.heap.size wr.drew.drew.drew (wr.drew.drew.drew.alloc (.cells #[.string ⟨r.toArray⟩, .bool false, .string ⟨yt.toArray⟩] tC)) := (Below.refl _ wr.drew.drew.drew).alloc (Nat.le_refl _) _
          refine hK _ _ (fun _ => ⟨agr d0 hb3, agr d1 hb3⟩) ?_
          clear hK K
          refine Rg.ord_loud rfl (fun K hK => ?_)
          refine wp_pushC (W := wr.drew.drew.drew) (.tmp 86) (.tmp 98) rfl w.heap.size w vo (D.filterMap (chOf a b)) ⟨r, false, yt⟩ _ rfl rfl rfl Hown.out (by have := HLen.out; omega) Hb.out.drew Hb.out.size ?_
          intro v7 w7 hown7 hb7 hg7
          obtain ⟨e0, e1⟩ := HBc.out w7 hb7
          obtain ⟨A7, c7, e7, _⟩ := hown7.fls
          obtain ⟨n7, hn7⟩ : ∃ n, n = List.length (D.filterMap (chOf a b) ++ [(⟨r, false, yt⟩ : Ch)]) := ⟨_, rfl⟩
          rw [← hn7] at e7
          subst e7
          have Hown7 := hide hown7
          have Hb7 := hide hb7
          refine hK _ _ (fun _ => ⟨e0, e1⟩) ?_
          clear hK K hb3 hg7 hn7 hown7 hb7 d0 d1
          simp only [Act.put, List.setIfInBounds_toArray, List.set_cons_succ, List.set_cons_zero]
          iterate 1 (refine Rg.ord_quiet (v := ?_) rfl (fun w' hS => ?_) ⟨e0, e1⟩ ?_; rotate_left; (obtain ⟨t0, t1⟩ := hS; go_simp; with_reducible rfl); simp only [Act.put, List.setIfInBounds_toArray, List.set_cons_succ, List.set_cons_zero])
          refine Rg.ord_nil ?_
          clear e0 e1
          go_wp2
          exact ⟨⟨i, k + 1, _, D ++ [r], hi, by omega, rfl, by go_num, rfl, by rw [Hco.out]; exact Hown7.out, by show Hid _; exact Hbt, Hb7.out⟩, by simp [intOf]; omega⟩
end Go.Proofs.YtabgkfkjnpcbkaaDoor.Tr
