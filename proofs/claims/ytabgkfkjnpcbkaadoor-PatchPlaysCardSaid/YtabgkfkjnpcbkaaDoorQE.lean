/-
  The reference of patches: a tree with changes.
-/
import Derived.BigQuiet
import Derived.Test.YtabgkfkjnpcbkaaDoorPX
import Derived.Test.YtabgkfkjnpcbkaaDoorQTH
import Derived.Test.YtabgkfkjnpcbkaaDoorTI
namespace Go.Proofs.YtabgkfkjnpcbkaaDoor.Tr
open Go Go.RowKit Kt Lw Li Lx Df Wr

set_option maxHeartbeats 4000000 in
set_option maxRecDepth 100000 in
theorem rplay_call (t : List Fl) (l : List Ch) (A A' : Option Addr) (c c' : Nat) (w : World) (hs : Fls w A c t) (hl : Chs w A' c' l) (ht : go none t = true) (hg : cgo none l = true) (hn : t.length + l.length ≤ 1000) :
    Calls Tryd.prog 26 #[.slice A t.length c, .slice A' l.length c'] w fun y w' => ∃ v, y = .returned v ∧ OwF w' w.heap.size v (play t l) ∧ Below w.heap.size w w' := by
  have Hl := hide hl
  have HW := hide (play_way ht hg hn)
  have Hcg := hide (fun (f : Ch) (hf : f ∈ l) => (cgo_above hg f hf).2)
  obtain ⟨N, hN⟩ : ∃ N, N = t.length := ⟨_, rfl⟩
  obtain ⟨M, hM⟩ : ∃ M, M = l.length := ⟨_, rfl⟩
  have hN1 : N ≤ 1000 := by omega
  rw [← hN, ← hM]
  have HM := hide hM
  have HN := hide hN
  have hM9 : M ≤ 1000 := by omega
  have hb1 := (Below.refl w.heap.size w).alloc (Nat.le_refl _) (.cells #[] tF)
  have hown1 := OwF.made w w.heap.size tF rfl #[] 0 (Nat.le_refl _) rfl (by unfold maxLen; omega)
  have Hs1 := hide (hs.keep hb1)
  have Hb1 := hide hb1
  have Hown1 := hide hown1
  clear hs hl ht hg hn hN hM hb1 hown1
  go_enter Tryd.func26, Tryd.ntmps26
  go_wp2_with (refine wpList_catF rfl (.tmp 9) (.tmp 10) rfl w.heap.size w _ [] t _ c rfl (by rw [← HN.out]; rfl) Hown1.out Hs1.out (by rw [← HN.out]; simp; omega) Hb1.out Hb1.out.size ?_; intro v2 w2 hown2 hb2 _; have Hown2 := hide hown2; have Hb2 := hide hb2; clear hown2 hb2)
  go_loopw [5, 6] (fun s i wr => ∃ (k : Nat) (v0 : Value), v0 = s ∧ k ≤ M ∧ i = .int .i64 k ∧ OwF wr w.heap.size v0 (play t (l.take k)) ∧ Below w.heap.size w wr) (fun _ i _ => M - (intOf i).toNat)
  case atStart => exact ⟨0, _, rfl, Nat.zero_le _, rfl, by have := Hown2.out; rw [List.nil_append] at this; exact this, Hb2.out⟩
  case round =>
    obtain ⟨k, v, rfl, hk, rfl, hown, hb⟩ := hrel
    clear Hown2 Hb2 Hown1 Hb1 Hs1
    have Hb := hide hb
    have Hown := hide hown
    clear hb hown
    by_cases hlt : k < M
    · obtain ⟨b, o, f, rfl, hbl, hf, hd, d0, dm, d1⟩ := Hl.out.at (w' := wr) Hb.out (k := k) (by have := HM.out; omega)
      obtain ⟨f1, f2, f3⟩ := Hcg.out f (List.mem_of_getElem? hf)
      have f1' := (can_lt f1).2
      have Htk := hide (play_take (t := t) hf)
      obtain ⟨g1, g2⟩ := HW.out k
      have HW2 := hide (fun g (hg : g ∈ play t (l.take k)) => (go_above g1 g hg).2)
      obtain ⟨p, gn, x⟩ := f
      simp only at d0 dm d1 f1'
      obtain ⟨T, hT⟩ : ∃ T, T = play t (l.take k) := ⟨_, rfl⟩
      rw [← hT] at Hown Htk g1 g2 HW2
      obtain ⟨A2, k2, rfl, hfl⟩ := Hown.out.fls
      obtain ⟨n2, hn2⟩ : ∃ n, n = T.length := ⟨_, rfl⟩
      cases gn with
      | true =>
        have HD := hide (rdrop_any T p A2 k2 wr hfl (by omega))
        rw [← hn2] at HD Hown ⊢
        have Hdo := hide (show play t (l.take (k + 1)) = drop T p by rw [Htk.out]; rfl)
        clear hf hd hbl f1 f2 f3 f1' g1 g2 hT hfl hn2 Htk HW2
        go_wp2_with fail
        refine HD.out.mono ?_
        rintro y w3 ⟨v3, rfl, hown3, hb3⟩
        have hown3' := hown3.base Hb.out.size
        have hb3' := Hb.out.trans (hb3.mono Hb.out.size)
        rw [← Hdo.out] at hown3'
        have Hown3 := hide hown3'
        have Hb3 := hide hb3'
        clear hown3 hb3 hown3' hb3' HD d0 dm d1
        go_wp2
        exact ⟨⟨k + 1, _, rfl, by omega, by go_num, Hown3.out, Hb3.out⟩, by simp [intOf]; omega⟩
      | false =>
        have HP := hide (rput_any T ⟨p, x⟩ A2 k2 wr.drew hfl (by omega) (by simp only; omega) (fun g hg => by have := can_lt (HW2.out g hg).1; omega))
        rw [← hn2] at HP Hown ⊢
        have Hdo := hide (show play t (l.take (k + 1)) = if (put T ⟨p, x⟩).2 = 0 then (put T ⟨p, x⟩).1 else T by rw [Htk.out]; rfl)
        obtain ⟨r, e, hre⟩ : ∃ r e, put T ⟨p, x⟩ = (r, e) := ⟨_, _, rfl⟩
        rw [hre] at HP Hdo
        simp only at HP Hdo
        clear hf hd hbl f1 f2 f3 f1' g1 g2 hT hfl hn2 Htk hre HW2
        go_wp2
        have s0 : wr.drew.cell? ⟨b, o + k * 3, none⟩ = some (.string ⟨p.toArray⟩) := d0
        have s1 : wr.drew.cell? ⟨b, o + k * 3 + 2, none⟩ = some (.string ⟨x.toArray⟩) := d1
        refine Rg.wp_region_ord (fun w' => w'.cell? ⟨b, o + k * 3, none⟩ = some (.string ⟨p.toArray⟩) ∧ w'.cell? ⟨b, o + k * 3 + 2, none⟩ = some (.string ⟨x.toArray⟩)) [(0, true), (1, true), (2, true), (3, true), (4, true), (5, true), (6, true), (7, true), (8, true), (9, true), (10, true), (11, true), (12, false), (13, true), (14, true), (15, true), (16, true), (17, true)] (by kernel_rfl) (by kernel_rfl) ?_
        simp only [Rg.pick, List.map_cons, List.map_nil, List.getD_cons_zero, List.getD_cons_succ]
        iterate 12 (refine Rg.ord_quiet (v := ?_) rfl (fun w' hS => ?_) ⟨s0, s1⟩ ?_; rotate_left; (obtain ⟨q0, q1⟩ := hS; go_simp; with_reducible rfl); simp only [Act.put, List.setIfInBounds_toArray, List.set_cons_succ, List.set_cons_zero])
        refine Rg.ord_loud (by rfl) (fun K hK => ?_)
        go_simp
        refine HP.out.mono ?_
        rintro y w3 ⟨v3, rfl, hown3, hb3⟩
        have r0 := agr s0 hb3
        have r1 := agr s1 hb3
        have Hown3 := hide (hown3.base Hb.out.drew.size)
        have Hold : Hid (OwF w3 w.heap.size (.slice A2 n2 k2) T) := hide (OwF.keep (w := wr.drew) Hown.out hb3)
        have Hb3 := hide (Hb.out.drew.trans (hb3.mono Hb.out.drew.size))
        refine hK _ _ (fun _ => ⟨r0, r1⟩) ?_
        clear hK K hown3 hb3 HP s0 s1 d0 dm d1 Hown
        iterate 5 (refine Rg.ord_quiet (v := ?_) rfl (fun w' hS => ?_) ⟨r0, r1⟩ ?_; rotate_left; (obtain ⟨q0, q1⟩ := hS; go_simp; with_reducible rfl); simp only [Act.put, List.setIfInBounds_toArray, List.set_cons_succ, List.set_cons_zero])
        refine Rg.ord_nil ?_
        clear r0 r1
        by_cases he : e = 0
        · subst he
          have Hr := hide (show play t (l.take (k + 1)) = r by rw [Hdo.out]; rfl)
          clear Hdo
          go_wp2
          exact ⟨⟨k + 1, _, rfl, by omega, by go_num, by rw [Hr.out]; exact Hown3.out, Hb3.out⟩, by simp [intOf]; omega⟩
        · have Hr := hide (show play t (l.take (k + 1)) = T by rw [Hdo.out, if_neg he])
          have hne : ((e : Int) == 0) = false := by rw [beq_eq_false_iff_ne]; omega
          have hne2 : (e == 0) = false := by rw [beq_eq_false_iff_ne]; exact he
          have hne3 : decide ((e : Int) = 0) = false := decide_eq_false (by omega)
          clear Hdo he
          go_wp2
          exact ⟨⟨k + 1, _, rfl, by omega, by go_num, by rw [Hr.out]; exact Hold.out, Hb3.out⟩, by simp [intOf]; omega⟩
    · obtain rfl : k = M := by omega
      have hown := Hown.out
      rw [HM.out, List.take_length] at hown
      have Hown9 := hide hown
      clear hown Hown
      go_wp2
      go_ret
      exact ⟨_, rfl, Hown9.out, Hb.out⟩
end Go.Proofs.YtabgkfkjnpcbkaaDoor.Tr
