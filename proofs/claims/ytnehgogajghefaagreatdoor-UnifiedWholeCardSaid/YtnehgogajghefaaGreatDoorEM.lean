/-
  The reference's Same, of edits that are the same.
-/
import Derived.Test.YtnehgogajghefaaGreatDoorEL
namespace Go.Proofs.YtnehgogajghefaaGreatDoor.Df
open Go Go.RowKit Kt Lw Li

theorem cell_keep {w w' : World} {p : Addr} {v : Value} (hb : Below w.heap.size w w') (hc : w.cell? p = some v) : w'.cell? p = some v :=
  (World.cell?_of_block (hb.block p.block (World.block_lt_of_cell? w p hc))).trans hc
set_option maxHeartbeats 1000000 in
set_option maxRecDepth 100000 in
theorem same_any (L : List Ed) (A A' : Option Addr) (c c' : Nat) (w : World) (hs : Es w A c L) (hs' : Es w A' c' L) (hl : L.length ≤ 1000000) (hi : ∀ e ∈ L, e.ins.length ≤ 1000000) :
    Calls Tryz.prog 11 #[.slice A L.length c, .slice A' L.length c'] w fun y w' => y = .returned (.bool true) ∧ Below w.heap.size w w' := by
  have Hs := hide hs
  have Hs' := hide hs'
  have Hi := hide hi
  obtain ⟨N, hN⟩ : ∃ N, N = L.length := ⟨_, rfl⟩
  rw [← hN] at hl ⊢
  have HN := hide hN
  clear hs hs' hN hi
  go_enter Tryz.func11, Tryz.ntmps11
  go_wp2
  go_loopw [5] (fun i wr => ∃ k : Nat, k ≤ N ∧ i = .int .i64 k ∧ Below w.heap.size w wr) (fun i _ => N - (intOf i).toNat)
  case atStart => exact ⟨0, Nat.zero_le _, rfl, Below.refl _ _⟩
  case round =>
    obtain ⟨k, hk, rfl, hb⟩ := hrel
    have Hb := hide hb
    clear hb
    by_cases hlt : k < N
    · obtain ⟨b, o, e, Ae, ce, rfl, hke, ⟨c0, c1, c2⟩, hv⟩ := Hs.out.at Hb.out (k := k) (by have := HN.out; omega)
      obtain ⟨b', o', e', Ae', ce', rfl, hke', ⟨d0, d1, d2⟩, hv'⟩ := Hs'.out.at Hb.out (k := k) (by have := HN.out; omega)
      rw [hke] at hke'
      injection hke' with he
      subst he
      have hi6 := Hi.out e (List.mem_of_getElem? hke)
      have Hv := hide (Lw.Vs.below hv Hb.out)
      have Hv' := hide (Lw.Vs.below hv' Hb.out)
      obtain ⟨I, hI⟩ : ∃ I, I = e.ins := ⟨_, rfl⟩
      obtain ⟨p, hp⟩ : ∃ p, p = e.pos := ⟨_, rfl⟩
      obtain ⟨d, hd⟩ : ∃ d, d = e.del := ⟨_, rfl⟩
      rw [← hI] at c2 d2 Hv Hv' hi6
      rw [← hp] at c0 d0
      rw [← hd] at c1 d1
      clear hke hv hv' hI hp hd
      go_wp2
      refine Rg.wp_region_ord (fun w' => (w'.cell? ⟨b, o + k * 3, none⟩ = some (.int .i64 p) ∧ w'.cell? ⟨b, o + k * 3 + 1, none⟩ = some (.int .i64 d) ∧ w'.cell? ⟨b, o + k * 3 + 2, none⟩ = some (.slice Ae I.length ce)) ∧ w'.cell? ⟨b', o' + k * 3, none⟩ = some (.int .i64 p) ∧ w'.cell? ⟨b', o' + k * 3 + 1, none⟩ = some (.int .i64 d) ∧ w'.cell? ⟨b', o' + k * 3 + 2, none⟩ = some (.slice Ae' I.length ce')) [(0, true), (1, true), (2, true), (3, true), (4, true), (5, true), (6, true), (7, true), (8, true), (9, true), (10, true), (11, true), (12, true), (13, true), (14, true), (15, true), (16, true), (17, true), (18, true), (19, true), (20, true), (21, true), (22, true), (23, true), (24, true), (25, true), (26, true), (27, true), (28, true), (29, true), (30, true), (31, true), (32, true), (33, true), (34, true), (35, false), (36, true), (37, true)] (by kernel_rfl) (by kernel_rfl) ?_
      simp only [Rg.pick, List.map_cons, List.map_nil, List.getD_cons_zero, List.getD_cons_succ]
      iterate 12 (refine Rg.ord_quiet (v := ?_) rfl (fun w' hS => ?_) ⟨⟨c0, c1, c2⟩, d0, d1, d2⟩ ?_; rotate_left; (obtain ⟨⟨s0, s1, s2⟩, s3, s4, s5⟩ := hS; go_simp; with_reducible rfl); simp only [Act.put, List.setIfInBounds_toArray, List.set_cons_succ, List.set_cons_zero])
      iterate 11 (refine Rg.ord_guarded (v := ?_) (by rfl) (fun w' hS => ?_) ⟨⟨c0, c1, c2⟩, d0, d1, d2⟩ ?_; rotate_left; (obtain ⟨⟨s0, s1, s2⟩, s3, s4, s5⟩ := hS; go_simp; with_reducible rfl); simp only [Act.put, List.setIfInBounds_toArray, List.set_cons_succ, List.set_cons_zero])
      iterate 2 (refine Rg.ord_quiet (v := ?_) rfl (fun w' hS => ?_) ⟨⟨c0, c1, c2⟩, d0, d1, d2⟩ ?_; rotate_left; (obtain ⟨⟨s0, s1, s2⟩, s3, s4, s5⟩ := hS; go_simp; with_reducible rfl); simp only [Act.put, List.setIfInBounds_toArray, List.set_cons_succ, List.set_cons_zero])
      iterate 10 (refine Rg.ord_guarded (v := ?_) (by rfl) (fun w' hS => ?_) ⟨⟨c0, c1, c2⟩, d0, d1, d2⟩ ?_; rotate_left; (obtain ⟨⟨s0, s1, s2⟩, s3, s4, s5⟩ := hS; go_simp; with_reducible rfl); simp only [Act.put, List.setIfInBounds_toArray, List.set_cons_succ, List.set_cons_zero])
      refine Rg.ord_loud (by rfl) (fun K hK => ?_)
      go_simp
      refine (texts_any I I Ae Ae' ce ce' _ _ _ (vs_drew Hv.out) (vs_drew Hv'.out) (by omega)).mono ?_
      rintro y w2 ⟨rfl, hb2⟩
      have hbe : Below w.heap.size w w2 := Hb.out.drew.trans (hb2.mono Hb.out.size)
      have Hbe := hide hbe
      have e0 := cell_keep hb2 c0
      have e1 := cell_keep hb2 c1
      have e2 := cell_keep hb2 c2
      have f0 := cell_keep hb2 d0
      have f1 := cell_keep hb2 d1
      have f2 := cell_keep hb2 d2
      clear c0 c1 c2 d0 d1 d2 hb2 hbe
      refine hK _ _ (fun _ => ⟨⟨e0, e1, e2⟩, f0, f1, f2⟩) ?_
      clear hK K
      simp only [decide_true]
      iterate 1 (refine Rg.ord_guarded (v := ?_) (by rfl) (fun w' hS => ?_) ⟨⟨e0, e1, e2⟩, f0, f1, f2⟩ ?_; rotate_left; (obtain ⟨⟨s0, s1, s2⟩, s3, s4, s5⟩ := hS; go_simp; with_reducible rfl); simp only [Act.put, List.setIfInBounds_toArray, List.set_cons_succ, List.set_cons_zero])
      iterate 1 (refine Rg.ord_quiet (v := ?_) rfl (fun w' hS => ?_) ⟨⟨e0, e1, e2⟩, f0, f1, f2⟩ ?_; rotate_left; (obtain ⟨⟨s0, s1, s2⟩, s3, s4, s5⟩ := hS; go_simp; with_reducible rfl); simp only [Act.put, List.setIfInBounds_toArray, List.set_cons_succ, List.set_cons_zero])
      refine Rg.ord_nil ?_
      go_wp2
      exact ⟨⟨k + 1, by omega, by go_num, Hbe.out⟩, by simp [intOf]; omega⟩
    · obtain rfl : k = N := by omega
      go_wp2
      go_ret
      exact ⟨rfl, Hb.out⟩
end Go.Proofs.YtnehgogajghefaaGreatDoor.Df
