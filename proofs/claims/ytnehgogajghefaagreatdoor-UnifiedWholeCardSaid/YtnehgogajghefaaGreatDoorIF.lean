/-
  The reference's Same, of hunks that are the same.
-/
import Derived.Test.YtnehgogajghefaaGreatDoorHP
import Derived.Test.YtnehgogajghefaaGreatDoorQ2
namespace Go.Proofs.YtnehgogajghefaaGreatDoor.Hu
open Go Go.RowKit Kt Lw Li Df

set_option maxHeartbeats 1000000 in
set_option maxRecDepth 100000 in
theorem hsame_any (L : List Hk) (A A' : Option Addr) (c c' : Nat) (w : World) (hs : Hks w A c L) (hs' : Hks w A' c' L) (hl : L.length ≤ 1000000) (hi : ∀ h ∈ L, h.lines.length ≤ 100000) :
    Calls Tryz.prog 12 #[.slice A L.length c, .slice A' L.length c'] w fun y w' => y = .returned (.bool true) ∧ Below w.heap.size w w' := by
  have Hs := hide hs
  have Hs' := hide hs'
  have Hi := hide hi
  obtain ⟨N, hN⟩ : ∃ N, N = L.length := ⟨_, rfl⟩
  rw [← hN] at hl ⊢
  have HN := hide hN
  clear hs hs' hN hi
  go_enter Tryz.func12, Tryz.ntmps12
  go_wp2
  go_loopw [5] (fun i wr => ∃ k : Nat, k ≤ N ∧ i = .int .i64 k ∧ Below w.heap.size w wr) (fun i _ => N - (intOf i).toNat)
  case atStart => exact ⟨0, Nat.zero_le _, rfl, Below.refl _ _⟩
  case round =>
    obtain ⟨k, hk, rfl, hb⟩ := hrel
    have Hb := hide hb
    clear hb
    by_cases hlt : k < N
    · obtain ⟨b, o, h, A1, c1, rfl, hke, ⟨c0, c1', c2', c3, c4⟩, hv⟩ := Hs.out.at Hb.out (k := k) (by have := HN.out; omega)
      obtain ⟨b', o', h', A2, c2, rfl, hke', ⟨d0, d1, d2, d3, d4⟩, hv'⟩ := Hs'.out.at Hb.out (k := k) (by have := HN.out; omega)
      rw [hke] at hke'
      injection hke' with he
      subst he
      have hin := Hi.out h (List.mem_of_getElem? hke)
      have HO := hide (fun w1 (h1 : Below w.heap.size w w1) => one_same h A1 A2 c1 c2 _ _ w1 (Lw.Vs.below hv h1) (Lw.Vs.below hv' h1) hin)
      obtain ⟨za, hza⟩ : ∃ z, z = h.a := ⟨_, rfl⟩
      obtain ⟨zan, hzan⟩ : ∃ z, z = h.an := ⟨_, rfl⟩
      obtain ⟨zb, hzb⟩ : ∃ z, z = h.b := ⟨_, rfl⟩
      obtain ⟨zbn, hzbn⟩ : ∃ z, z = h.bn := ⟨_, rfl⟩
      obtain ⟨nh, hnh⟩ : ∃ z, z = h.lines.length := ⟨_, rfl⟩
      rw [← hza, ← hzan, ← hzb, ← hzbn, ← hnh] at HO
      rw [← hza] at c0 d0
      rw [← hzan] at c1' d1
      rw [← hzb] at c2' d2
      rw [← hzbn] at c3 d3
      rw [← hnh] at c4 d4
      clear hke hv hv' hza hzan hzb hzbn hnh hin
      go_wp2
      refine Rg.wp_region_ord (fun w' => w'.cell? ⟨b, o + k * 5, none⟩ = some (.int .i64 za) ∧ w'.cell? ⟨b, o + k * 5 + 1, none⟩ = some (.int .i64 zan) ∧ w'.cell? ⟨b, o + k * 5 + 2, none⟩ = some (.int .i64 zb) ∧ w'.cell? ⟨b, o + k * 5 + 3, none⟩ = some (.int .i64 zbn) ∧ w'.cell? ⟨b, o + k * 5 + 4, none⟩ = some (.slice A1 nh c1) ∧ w'.cell? ⟨b', o' + k * 5, none⟩ = some (.int .i64 za) ∧ w'.cell? ⟨b', o' + k * 5 + 1, none⟩ = some (.int .i64 zan) ∧ w'.cell? ⟨b', o' + k * 5 + 2, none⟩ = some (.int .i64 zb) ∧ w'.cell? ⟨b', o' + k * 5 + 3, none⟩ = some (.int .i64 zbn) ∧ w'.cell? ⟨b', o' + k * 5 + 4, none⟩ = some (.slice A2 nh c2)) [(0, true), (1, true), (2, true), (3, true), (4, true), (5, true), (6, true), (7, true), (8, false), (9, true)] (by kernel_rfl) (by kernel_rfl) ?_
      simp only [Rg.pick, List.map_cons, List.map_nil, List.getD_cons_zero, List.getD_cons_succ]
      iterate 8 (refine Rg.ord_quiet (v := ?_) rfl (fun w' hS => ?_) ⟨c0, c1', c2', c3, c4, d0, d1, d2, d3, d4⟩ ?_; rotate_left; (obtain ⟨s0, s1, s2, s3, s4, s5, s6, s7, s8, s9⟩ := hS; go_simp; with_reducible rfl); simp only [Act.put, List.setIfInBounds_toArray, List.set_cons_succ, List.set_cons_zero])
      refine Rg.ord_loud rfl (fun K hK => ?_)
      go_simp
      refine (HO.out wr.drew Hb.out.drew).mono ?_
      rintro y w2 ⟨rfl, hb2⟩
      have Hbe := hide (Hb.out.drew.trans (hb2.mono Hb.out.size))
      have p0 := cell_keep hb2 (w := wr.drew) c0
      have p1 := cell_keep hb2 (w := wr.drew) c1'
      have p2 := cell_keep hb2 (w := wr.drew) c2'
      have p3 := cell_keep hb2 (w := wr.drew) c3
      have p4 := cell_keep hb2 (w := wr.drew) c4
      have q0 := cell_keep hb2 (w := wr.drew) d0
      have q1 := cell_keep hb2 (w := wr.drew) d1
      have q2 := cell_keep hb2 (w := wr.drew) d2
      have q3 := cell_keep hb2 (w := wr.drew) d3
      have q4 := cell_keep hb2 (w := wr.drew) d4
      clear c0 c1' c2' c3 c4 d0 d1 d2 d3 d4 hb2
      refine hK _ _ (fun _ => ⟨p0, p1, p2, p3, p4, q0, q1, q2, q3, q4⟩) ?_
      clear hK K
      try simp only [Act.put, List.setIfInBounds_toArray, List.set_cons_succ, List.set_cons_zero]
      iterate 1 (refine Rg.ord_quiet (v := ?_) rfl (fun w' hS => ?_) ⟨p0, p1, p2, p3, p4, q0, q1, q2, q3, q4⟩ ?_; rotate_left; (obtain ⟨s0, s1, s2, s3, s4, s5, s6, s7, s8, s9⟩ := hS; go_simp; with_reducible rfl); simp only [Act.put, List.setIfInBounds_toArray, List.set_cons_succ, List.set_cons_zero])
      refine Rg.ord_nil ?_
      clear p0 p1 p2 p3 p4 q0 q1 q2 q3 q4
      go_wp2
      exact ⟨⟨k + 1, by omega, by go_num, Hbe.out⟩, by simp [intOf]; omega⟩
    · obtain rfl : k = N := by omega
      go_wp2
      go_ret
      exact ⟨rfl, Hb.out⟩
end Go.Proofs.YtnehgogajghefaaGreatDoor.Hu
