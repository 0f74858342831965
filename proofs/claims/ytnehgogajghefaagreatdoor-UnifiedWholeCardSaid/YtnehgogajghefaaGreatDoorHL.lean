/-
  hunk.one.
-/
import Derived.Test.YtnehgogajghefaaGreatDoorHK
namespace Go.Proofs.YtnehgogajghefaaGreatDoor.Hu
open Go Go.RowKit Kt Lw Li Df

theorem tE_ne : tE ≠ tS := by decide
theorem ins_size' : ∀ (L : List Ed) (e : Ed), e ∈ L → (e.ins.length : Int) ≤ size L
  | [], _, h => by cases h
  | x :: l, e, h => by
    have h0 := size_pos l
    rw [size]
    rcases List.mem_cons.1 h with rfl | h
    · omega
    · have := ins_size' l e h
      omega

set_option maxHeartbeats 2000000 in
set_option maxRecDepth 100000 in
theorem one_any (a : Ls) (r : Nat) (e0 : Ed) (g0 : List Ed) (last : Int) (A A' : Option Addr) (c c' : Nat) (P : Nat → Prop) (w : World) (hs : Vs w P A c (texts a)) (hs' : Es w A' c' (e0 :: g0)) (hn : a.length ≤ 10000) (hl : (e0 :: g0).length ≤ 10000) (hr1 : r ≤ 1000)
    (hsz : size (e0 :: g0) ≤ 10000) (hr : right a.length last (e0 :: g0) = true) (hlast : -1 ≤ last) (hxa : ∀ x ∈ a, x.length ≤ 9223372036854775806) (hxe : ∀ e ∈ e0 :: g0, ∀ x ∈ e.ins, x.length ≤ 9223372036854775806) (z0 : Nat) (hz0 : z0 = from_ r e0) :
    Calls Tryz.prog 21 #[.slice A a.length c, .slice A' (e0 :: g0).length c', .int .i64 r] w fun y w' => ∃ v, y = .returned (.agg #[.int .i64 z0, .int .i64 (many 45 (lay (pts a r z0 (e0 :: g0))) : Nat), .int .i64 0, .int .i64 (many 43 (lay (pts a r z0 (e0 :: g0))) : Nat), v]) ∧ OwT w' w.heap.size tS v (lay (pts a r z0 (e0 :: g0))) ∧ Below w.heap.size w w' := by
  have Hs := hide hs.bound
  have Hs' := hide hs'
  have hcap := hs.1
  rw [texts_len] at hcap
  obtain ⟨n, hna⟩ : ∃ n, n = a.length := ⟨_, rfl⟩
  obtain ⟨N, hN⟩ : ∃ N, N = (e0 :: g0).length := ⟨_, rfl⟩
  obtain ⟨G, hG⟩ : ∃ G, G = e0 :: g0 := ⟨_, rfl⟩
  obtain ⟨T, hT⟩ : ∃ T, T = lay (pts a r z0 (e0 :: g0)) := ⟨_, rfl⟩
  have hTl := pts_len a r (e0 :: g0) z0 last hr hlast (by
    obtain ⟨p, d, ep, ed, hpd, _⟩ := right_head hr hlast
    have := from_le r e0 p ep
    omega)
  have hm1 := pts_old a r (e0 :: g0) z0 last hr hlast (.inr fun e t h => by
    injection h with h1 _
    subst h1
    obtain ⟨p, d, ep, ed, hpd, _⟩ := right_head hr hlast
    have := from_le r e0 p ep
    rw [ep]; omega) (by
    obtain ⟨p, d, ep, ed, hpd, _⟩ := right_head hr hlast
    have := from_le r e0 p ep
    omega)
  rw [← hT] at hTl hm1 ⊢
  have hTl2 : T.length ≤ 20000 := by omega
  have Hm1 := hide (show many 45 T ≤ 20000 from Nat.le_trans (many_le 45 T) hTl2)
  have Hm2 := hide (show many 43 T ≤ 20000 from Nat.le_trans (many_le 43 T) hTl2)
  obtain ⟨p0, d0, ep0, ed0, hpd0, hlp0, hne0, hr0⟩ := right_head hr hlast
  have hz0p : z0 = p0 - r := by rw [hz0]; unfold from_; omega
  have Hst := hide (show (z0 : Int) ≤ last + 1 ∨ (∀ e t, G = e :: t → (z0 : Int) ≤ e.pos) from .inr fun e t h => by
    rw [hG] at h
    injection h with h1 _
    rw [← h1, ep0]; omega)
  have he0 : G[0]? = some e0 := by rw [hG]; rfl
  rw [← hN] at hl ⊢
  rw [← hna] at hn hcap hpd0 ⊢
  rw [← hG] at hs' Hs' hN hsz hr hxe hT
  have HN := hide hN
  have HA := hide hna
  have Hr := hide hr
  have Hsz := hide hsz
  have HT := hide hT
  have HTl := hide hTl2
  have HxA := hide hxa
  have HxE := hide hxe
  have Hlast := hide hlast
  have hN1 : 0 < N := by rw [hN, hG]; simp
  obtain ⟨Ae, ce, bo⟩ : ∃ Ae ce, ∃ b o, A' = some ⟨b, o, none⟩ ∧ (w.cell? ⟨b, o, none⟩ = some (.int .i64 e0.pos) ∧ w.cell? ⟨b, o + 1, none⟩ = some (.int .i64 e0.del) ∧ w.cell? ⟨b, o + 2, none⟩ = some (.slice Ae e0.ins.length ce)) := by
    obtain ⟨b, o, rfl, _⟩ := hs'.2 (by rw [← hN]; exact hN1)
    obtain ⟨Ae, ce, h, _⟩ := es_cells hs' (Below.refl _ _) rfl he0
    exact ⟨Ae, ce, b, o, rfl, by simpa using h⟩
  obtain ⟨b, o, rfl, k0, k1, k2⟩ := bo
  rw [ep0] at k0
  have k0' : ∀ o', (w.alloc o').cell? ⟨b, o, none⟩ = some (.int .i64 (p0 : Int)) := fun o' => (World.cell?_of_block (w := w) (a := ⟨b, o, none⟩) (Below.heap_alloc w o' b (World.block_lt_of_cell? w _ k0))).trans k0
  have hw0 : IntKind.i64.wrap ((p0 : Int) - r) = (p0 : Int) - r := IntWalk.i64_in _ (by omega)
  have hmx1 : (if (p0 : Int) - r < 0 then 0 else (p0 : Int) - r) = (z0 : Int) := by split <;> omega
  have hmx2 : (if 0 < (p0 : Int) - r then (p0 : Int) - r else 0) = (z0 : Int) := by split <;> omega
  have Hz0 := hide hz0p
  clear hz0p hs hs' hna hN hG hT hTl hm1 hTl2 hz0 hxa hxe hlast hr hsz hne0 hr0 he0 k1 k2
  go_enter Tryz.func21, Tryz.ntmps21
  go_wp2_with fail
  obtain ⟨wp, hwp⟩ : ∃ wp, wp = (w.alloc (.cells #[.int .i64 0, .int .i64 0, .int .i64 0, .int .i64 0, .slice none 0 0] tH)).alloc (.cells #[.int .i64 z0, .int .i64 0, .int .i64 0, .int .i64 0, .slice none 0 0] tH) := ⟨_, rfl⟩
  have hbp : Below w.heap.size w wp := by rw [hwp]; exact ((Below.refl _ w).alloc (Nat.le_refl _) _).alloc (by simp) _
  have hr2 : Row wp w.heap.size tH [.int .i64 0, .int .i64 0, .int .i64 0, .int .i64 0, .slice none 0 0] := by rw [hwp]; exact (Row.fresh w tH _).alloc _
  have hr3 : Row wp (w.heap.size + 1) tH [.int .i64 z0, .int .i64 0, .int .i64 0, .int .i64 0, .slice none 0 0] := by rw [hwp]; exact Row.new _ tH (by simp) rfl
  rw [← hwp]
  obtain ⟨g2, hg2⟩ : ∃ g2, g2 = w.heap.size := ⟨_, rfl⟩
  obtain ⟨g3, hg3⟩ : ∃ g3, g3 = w.heap.size + 1 := ⟨_, rfl⟩
  have hg2w : w.heap.size ≤ g2 := by omega
  have hg23 : g2 < g3 := by omega
  rw [← hg3] at hr3
  rw [← hg3]
  rw [← hg2] at hr2
  have hg3' := hg3
  rw [← hg2]
  have HT0 := hide (show HS w wp wp g3 (.int .i64 z0) (.int .i64 0) (.int .i64 0) (.int .i64 0) (.slice none 0 0) [] from ⟨hr3, OwT.nil _ _ _, World.grownBy.refl _ _, hbp, by omega, hr3.lt⟩)
  have Hr2 := hide hr2
  clear hwp hbp hr2 hr3 hg2 hg3 hg3' k0 k0' hmx1 hmx2 hw0
  go_loopw [8, 23] (fun y i wr => ∃ (k z : Nat) (last' : Int) (L : Ls) (v : Value), k ≤ N ∧ i = .int .i64 k ∧ y = .int .i64 z ∧ (-1 ≤ last' ∧ z ≤ n) ∧ ((z : Int) ≤ last' + 1 ∨ (∀ e t, G.drop k = e :: t → (z : Int) ≤ e.pos)) ∧ right a.length last' (G.drop k) = true ∧ L ++ lay (pts a r z (G.drop k)) = T ∧ HS w wp wr g3 (.int .i64 z0) (.int .i64 0) (.int .i64 0) (.int .i64 0) v L) (fun _ i _ => N - (intOf i).toNat)
  case atStart => exact ⟨0, z0, last, [], _, Nat.zero_le _, rfl, rfl, ⟨Hlast.out, by have := Hz0.out; omega⟩, Hst.out, Hr.out, by rw [HT.out]; simp [*], HT0.out⟩
  case round =>
    obtain ⟨k, z, last', L, v, hk, rfl, rfl, ⟨hl1, hzn⟩, hzl, hrt, hpre, hT⟩ := hrel
    have HT1 := hide hT
    have Hpre := hide hpre
    clear hT hpre
    by_cases hlt : k < N
    · obtain ⟨E, hE⟩ : ∃ E, G[k]? = some E := ⟨_, List.getElem?_eq_getElem (by have := HN.out; omega)⟩
      obtain ⟨Ai, ci, ⟨k0, k1, k2⟩, hvi⟩ := es_cells Hs'.out HT1.out.low rfl hE
      have Hvi := hide (Lw.Vs.below hvi HT1.out.low)
      have Hxi := hide (HxE.out E (List.mem_of_getElem? hE))
      have hdk : G.drop k = E :: G.drop (k + 1) := by
        have h1 := (List.getElem?_eq_some_iff.1 hE).1
        rw [List.drop_eq_getElem_cons h1]
        rw [List.getElem?_eq_getElem h1] at hE
        injection hE with hE
        rw [hE]
      rw [hdk] at hzl hrt Hpre
      obtain ⟨p, d, ep, ed, hpd, hlp, hne, hrt'⟩ := right_head hrt hl1
      rw [← HA.out] at hpd
      have hzp : z ≤ p := by
        rcases hzl with h | h
        · omega
        · have := h E _ rfl; rw [ep] at this; omega
      rw [pts, ep, ed] at Hpre
      simp only [Int.toNat_natCast] at Hpre
      have hlX : ((a.drop z).take (p - z)).length = p - z := by rw [List.length_take, List.length_drop, ← HA.out]; omega
      have hlY : ((a.drop p).take d).length = d := by rw [List.length_take, List.length_drop, ← HA.out]; omega
      obtain ⟨X, hX⟩ : ∃ X, X = (a.drop z).take (p - z) := ⟨_, rfl⟩
      obtain ⟨Y, hY⟩ : ∃ Y, Y = (a.drop p).take d := ⟨_, rfl⟩
      obtain ⟨I, hI⟩ : ∃ I, I = E.ins := ⟨_, rfl⟩
      obtain ⟨q, hq⟩ : ∃ q, q = p + d := ⟨_, rfl⟩
      have hqp : q - p = d := by omega
      have Hsa := hide (Lw.Vs.below Hs.out HT1.out.low)
      have hcut1 := vs_cut Hsa.out (i := z) (j := p) hzp (by rw [← HA.out]; omega)
      have hcut2 := vs_cut Hsa.out (i := p) (j := q) (by omega) (by rw [← HA.out]; omega)
      have hrun1 := fun w => run_cut2 w A n c z p hzp (by omega)
      have hrun2 := fun w => run_cut2 w A n c p q (by omega) (by omega)
      rw [hqp] at hcut2
      simp only [hqp] at hrun2
      rw [← hX] at hlX hcut1 Hpre
      rw [← hY] at hlY hcut2 Hpre
      rw [← hI] at k2 Hvi Hxi Hpre
      rw [← hq] at Hpre
      obtain ⟨Ax, hAx⟩ : ∃ Ax, (if c = z then A else A.map (·.add z)) = Ax := ⟨_, rfl⟩
      obtain ⟨cx, hcx⟩ : ∃ cx, c - z = cx := ⟨_, rfl⟩
      obtain ⟨Ay, hAy⟩ : ∃ Ay, (if c = p then A else A.map (·.add p)) = Ay := ⟨_, rfl⟩
      obtain ⟨cy, hcy⟩ : ∃ cy, c - p = cy := ⟨_, rfl⟩
      rw [hAx, hcx] at hcut1
      rw [hAy, hcy] at hcut2
      simp only [hAx, hcx] at hrun1
      simp only [hAy, hcy] at hrun2
      rw [← hlX] at hrun1
      rw [← hlY] at hrun2
      have Hcut1 := hide hcut1
      have Hcut2 := hide hcut2
      have HX := hide hX
      have HY := hide hY
      have hins : I.length ≤ 10000 := by
        have h1 := ins_size' G E (List.mem_of_getElem? hE)
        have := Hsz.out
        rw [hI]; omega
      have Hins := hide hins
      have hTle : L.length + (X.length + (Y.length + (I.length + (lay (pts a r q (G.drop (k + 1)))).length))) ≤ 20000 := by
        have h1 := congrArg List.length Hpre.out
        rw [List.length_append, lay_len] at h1
        have := HTl.out
        simp only at h1
        omega
      have HTle := hide hTle
      have Hq := hide hq
      have Hpn := hide (show q ≤ n by omega)
      rw [← hq] at hrt'
      have Hrt := hide hrt'
      have Hpre2 := hide (show (((L ++ mk 32 X) ++ mk 45 Y) ++ mk 43 I) ++ lay (pts a r q (G.drop (k + 1))) = T by
        rw [← Hpre.out, lay, layP]; simp)
      rw [ep] at k0
      rw [ed] at k1
      have hw1 : IntKind.i64.wrap ((p : Int) + d) = (q : Int) := by rw [IntWalk.i64_in _ (by omega)]; omega
      have hbd : (-4503599627370496 ≤ (p : Int) ∧ (p : Int) ≤ 4503599627370496) ∧ (-4503599627370496 ≤ (d : Int) ∧ (d : Int) ≤ 4503599627370496) := by omega
      have HE := hide (fun vv w => end_any (p : Int) (d : Int) vv w hbd.1 hbd.2)
      rw [show (p : Int) + d = (q : Int) by omega] at HE
      have hxX : ∀ x ∈ X, x.length ≤ 9223372036854775806 := fun x hx => HxA.out x (by rw [hX] at hx; exact List.mem_of_mem_drop (List.mem_of_mem_take hx))
      have hxY : ∀ x ∈ Y, x.length ≤ 9223372036854775806 := fun x hx => HxA.out x (by rw [hY] at hx; exact List.mem_of_mem_drop (List.mem_of_mem_take hx))
      have HxX := hide hxX
      have HxY := hide hxY
      clear hcut1 hcut2 hX hY hI hq hqp hAx hcx hAy hcy hvi hE hdk hzl hrt hrt' Hpre hlp hne ep ed hTle hins hxX hxY hbd
      have hzp' : (z : Int) ≤ p := by omega
      obtain ⟨wd, hwd⟩ : ∃ wd, wd = wr.alloc (.cells #[.int .i64 (p : Int), .int .i64 (d : Int), .slice Ai I.length ci] tE) := ⟨_, rfl⟩
      have hbd : Below wr.heap.size wr wd := by rw [hwd]; exact (Below.refl _ wr).alloc (Nat.le_refl _) _
      have Hrow := hide (show Row wd wr.heap.size tE [.int .i64 (p : Int), .int .i64 (d : Int), .slice Ai I.length ci] by rw [hwd]; exact Row.fresh wr tE _)
      have HTd := hide (HT1.out.more hbd)
      have Hg := hide (show wr.heap.size ≠ g3 by have := HT1.out.row.lt; omega)
      have Hbd := hide hbd
      clear hbd hlX hlY
      go_wp2_with fail
      rw [← hwd]
      obtain ⟨g, hg⟩ : ∃ g, g = wr.heap.size := ⟨_, rfl⟩
      rw [← hg] at Hrow Hg ⊢
      clear hwd hg k0 k1 k2
      have q4 := HTd.out.cells.2.2.2.2.1
      have q0 := Hrow.out.cell 0
      simp only [List.getElem?_cons_zero] at q0
      refine Rg.wp_region_ord (fun w' => w'.cell? ⟨g3, 4, none⟩ = some v ∧ w'.cell? ⟨g, 0, none⟩ = some (.int .i64 (p : Int))) [(0, true), (1, true), (2, true), (3, true), (4, true), (5, true), (6, true), (7, false), (8, true), (9, false)] (by kernel_rfl) (by kernel_rfl) ?_
      simp only [Rg.pick, List.map_cons, List.map_nil, List.getD_cons_zero, List.getD_cons_succ]
      iterate 7 (refine Rg.ord_quiet (v := ?_) rfl (fun w' hS => ?_) ⟨q4, q0⟩ ?_; rotate_left; (obtain ⟨s4, s0⟩ := hS; go_simp; with_reducible rfl); simp only [Act.put, List.setIfInBounds_toArray, List.set_cons_succ, List.set_cons_zero])
      refine Rg.ord_loud rfl (fun K hK => ?_)
      go_simp
      have hcd := Lw.Vs.below Hcut1.out Hbd.out
      refine (add_any 32 (.inl rfl) wp.heap.size v L X Ax cx _ wd.drew HTd.out.drew.own (vs_drew hcd) (by have := HTd.out.far.size; exact this) (by have := HTle.out; omega) (by have := HTle.out; omega) (fun b hb e => by have := (World.ownsRow.lt HTd.out.own b e.symm).1; have := HTd.out.low.size; have := HTd.out.lt; have := HT0.out.low.size; omega) HxX.out).mono ?_
      rintro y w1 ⟨v1, rfl, hown1, hb1, hg1, _⟩
      obtain ⟨A1, n1, c1, rfl⟩ := owt_form hown1
      have e4 := (HTd.out.drew.grown hg1).cell 4
      have f4 := (HTd.out.drew.grown hg1).free 4
      have r0 := (Hrow.out.drew.grown hg1 (fun e => row_ne Hrow.out.drew tE_ne HTd.out.drew.own g e.symm rfl)).cell 0
      simp only [List.getElem?_cons_zero, List.getElem?_cons_succ] at e4 r0
      have HT2 := hide (HTd.out.drew.step hown1 hg1)
      have Hrow2 := hide (HTd.out.drew.other Hrow.out.drew tE_ne Hg.out hg1 (.slice A1 n1 c1))
      clear q4 q0 hown1 hb1 hg1 hcd hrun1
      refine hK _ _ (fun _ => ⟨e4, r0⟩) ?_
      clear hK K
      try simp only [Act.put, List.setIfInBounds_toArray, List.set_cons_succ, List.set_cons_zero]
      iterate 1 (refine Rg.ord_quiet (v := ?_) rfl (fun w' hS => ?_) ⟨e4, r0⟩ ?_; rotate_left; (obtain ⟨s4, s0⟩ := hS; go_simp; with_reducible rfl); simp only [Act.put, List.setIfInBounds_toArray, List.set_cons_succ, List.set_cons_zero])
      refine Rg.ord_loud rfl (fun K hK => ?_)
      go_simp
      refine hK _ _ (fun hf => absurd (show Rg.sink _ 9 = true from by kernel_rfl) (by rw [hf]; decide)) ?_
      clear hK K e4 f4 r0
      obtain ⟨w2, hw2⟩ : ∃ w2, w2 = w1.setCell ⟨g3, 4, none⟩ (.slice A1 n1 c1) := ⟨_, rfl⟩
      rw [← hw2] at HT2 Hrow2 ⊢
      clear hw2 HTd Hrow
      refine Rg.ord_nil ?_
      go_wp2_with fail
      have q4 := HT2.out.cells.2.2.2.2.1
      have q0 := Hrow2.out.cell 0
      have q1 := Hrow2.out.cell 1
      have q2 := Hrow2.out.cell 2
      simp only [List.getElem?_cons_zero, List.getElem?_cons_succ] at q0 q1 q2
      refine Rg.wp_region_ord (fun w' => w'.cell? ⟨g3, 4, none⟩ = some (.slice A1 n1 c1) ∧ w'.cell? ⟨g, 0, none⟩ = some (.int .i64 (p : Int)) ∧ w'.cell? ⟨g, 1, none⟩ = some (.int .i64 (d : Int)) ∧ w'.cell? ⟨g, 2, none⟩ = some (.slice Ai I.length ci)) [(0, true), (1, true), (2, true), (3, true), (4, true), (5, true), (6, false), (7, true), (8, false), (9, true), (10, false)] (by kernel_rfl) (by kernel_rfl) ?_
      simp only [Rg.pick, List.map_cons, List.map_nil, List.getD_cons_zero, List.getD_cons_succ]
      iterate 6 (refine Rg.ord_quiet (v := ?_) rfl (fun w' hS => ?_) ⟨q4, q0, q1, q2⟩ ?_; rotate_left; (obtain ⟨s4, s0, s1, s2⟩ := hS; go_simp; with_reducible rfl); simp only [Act.put, List.setIfInBounds_toArray, List.set_cons_succ, List.set_cons_zero])
      refine Rg.ord_loud rfl (fun K hK => ?_)
      go_simp
      refine (HE.out _ _).mono ?_
      rintro y w3 ⟨rfl, hb3⟩
      have HT3 := hide (HT2.out.drew.more hb3)
      have Hrow3 := hide (Hrow2.out.drew.below hb3 Hrow2.out.lt)
      clear q4 q0 q1 q2 hb3
      have q4 := HT3.out.cells.2.2.2.2.1
      have q0 := Hrow3.out.cell 0
      have q1 := Hrow3.out.cell 1
      have q2 := Hrow3.out.cell 2
      simp only [List.getElem?_cons_zero, List.getElem?_cons_succ] at q0 q1 q2
      refine hK _ _ (fun _ => ⟨q4, q0, q1, q2⟩) ?_
      clear hK K
      try simp only [Act.put, List.setIfInBounds_toArray, List.set_cons_succ, List.set_cons_zero]
      iterate 1 (refine Rg.ord_quiet (v := ?_) rfl (fun w' hS => ?_) ⟨q4, q0, q1, q2⟩ ?_; rotate_left; (obtain ⟨s4, s0, s1, s2⟩ := hS; go_simp; with_reducible rfl); simp only [Act.put, List.setIfInBounds_toArray, List.set_cons_succ, List.set_cons_zero])
      refine Rg.ord_loud rfl (fun K hK => ?_)
      go_simp
      have hcd := Lw.Vs.move Hcut2.out (fun b hb _ => (HT3.out.low.block b hb).trans (HT1.out.low.block b hb).symm)
      refine (add_any 45 (.inr (.inl rfl)) wp.heap.size (.slice A1 n1 c1) (L ++ mk 32 X) Y Ay cy _ w3 HT3.out.own hcd (by have := HT3.out.far.size; exact this) (by have := HTle.out; rw [List.length_append, mk_len]; omega) (by have := HTle.out; omega) (fun b hb e => by have := (World.ownsRow.lt HT3.out.own b e.symm).1; have := HT0.out.low.size; omega) HxY.out).mono ?_
      rintro y w4 ⟨v4, rfl, hown4, hb4, hg4, _⟩
      obtain ⟨A4, n4, c4, rfl⟩ := owt_form hown4
      have e4 := (HT3.out.grown hg4).cell 4
      have f4 := (HT3.out.grown hg4).free 4
      have hrg := Hrow3.out.grown hg4 (fun e => row_ne Hrow3.out tE_ne HT3.out.own g e.symm rfl)
      have r0 := hrg.cell 0
      have r1 := hrg.cell 1
      have r2 := hrg.cell 2
      simp only [List.getElem?_cons_zero, List.getElem?_cons_succ] at e4 r0 r1 r2
      have HT5 := hide (HT3.out.step hown4 hg4)
      have Hrow5 := hide (HT3.out.other Hrow3.out tE_ne Hg.out hg4 (.slice A4 n4 c4))
      clear q4 q0 q1 q2 hown4 hb4 hg4 hcd hrun2 hrg
      refine hK _ _ (fun _ => ⟨e4, r0, r1, r2⟩) ?_
      clear hK K
      try simp only [Act.put, List.setIfInBounds_toArray, List.set_cons_succ, List.set_cons_zero]
      iterate 1 (refine Rg.ord_quiet (v := ?_) rfl (fun w' hS => ?_) ⟨e4, r0, r1, r2⟩ ?_; rotate_left; (obtain ⟨s4, s0, s1, s2⟩ := hS; go_simp; with_reducible rfl); simp only [Act.put, List.setIfInBounds_toArray, List.set_cons_succ, List.set_cons_zero])
      refine Rg.ord_loud rfl (fun K hK => ?_)
      go_simp
      refine hK _ _ (fun hf => absurd (show Rg.sink _ 10 = true from by kernel_rfl) (by rw [hf]; decide)) ?_
      clear hK K e4 f4 r0 r1 r2
      obtain ⟨w5, hw5⟩ : ∃ w5, w5 = w4.setCell ⟨g3, 4, none⟩ (.slice A4 n4 c4) := ⟨_, rfl⟩
      rw [← hw5] at HT5 Hrow5 ⊢
      clear hw5 HT3 Hrow3 HT2 Hrow2
      refine Rg.ord_nil ?_
      have q4 := HT5.out.cells.2.2.2.2.1
      have q2 := Hrow5.out.cell 2
      simp only [List.getElem?_cons_zero, List.getElem?_cons_succ] at q2
      go_wp2_with fail
      have hcd := Lw.Vs.move Hvi.out (fun b hb _ => (HT5.out.low.block b hb).trans (HT1.out.low.block b hb).symm)
      refine (add_any 43 (.inr (.inr rfl)) wp.heap.size (.slice A4 n4 c4) ((L ++ mk 32 X) ++ mk 45 Y) I Ai ci _ w5 HT5.out.own hcd (by have := HT5.out.far.size; exact this) (by have := HTle.out; rw [List.length_append, List.length_append, mk_len, mk_len]; omega) (by have := HTle.out; omega) (fun b hb e => by have := (World.ownsRow.lt HT5.out.own b e.symm).1; have := HT0.out.low.size; omega) Hxi.out).mono ?_
      rintro y w6 ⟨v6, rfl, hown6, hb6, hg6, _⟩
      obtain ⟨A6, n6, c6, rfl⟩ := owt_form hown6
      have e4 := (HT5.out.grown hg6).cell 4
      have f4 := (HT5.out.grown hg6).free 4
      simp only [List.getElem?_cons_zero, List.getElem?_cons_succ] at e4
      have HT7 := hide (HT5.out.step hown6 hg6)
      have Hrow7 := hide (HT5.out.other Hrow5.out tE_ne Hg.out hg6 (.slice A6 n6 c6))
      have r0 := Hrow7.out.cell 0
      have r1 := Hrow7.out.cell 1
      have r2 := Hrow7.out.cell 2
      simp only [List.getElem?_cons_zero, List.getElem?_cons_succ] at r0 r1 r2
      clear q4 q2 hown6 hb6 hg6 hcd
      go_wp2_with fail
      obtain ⟨w7, hw7⟩ : ∃ w7, w7 = w6.setCell ⟨g3, 4, none⟩ (.slice A6 n6 c6) := ⟨_, rfl⟩
      rw [← hw7] at HT7 ⊢
      clear hw7 e4 f4 r0 r1 r2 Hrow7 HT5 Hrow5
      refine (HE.out _ _).mono ?_
      rintro y w8 ⟨rfl, hb8⟩
      have HT8 := hide (HT7.out.more hb8)
      clear hb8
      go_wp2
      exact ⟨⟨k + 1, q, (q : Int), _, _, by omega, by go_num, rfl, ⟨by omega, Hpn.out⟩, .inl (by omega), Hrt.out, Hpre2.out, HT8.out⟩, by simp [intOf]; omega⟩
    · obtain rfl : k = N := by omega
      have hd0 : G.drop k = [] := by rw [HN.out, List.drop_length]
      rw [hd0] at Hpre
      clear hzl hrt hd0
      obtain ⟨j, hj⟩ : ∃ j, j = min (z + r) n := ⟨_, rfl⟩
      have hzj : z ≤ j := by omega
      have hjn : j ≤ n := by omega
      have hlX : ((a.drop z).take (j - z)).length = j - z := by rw [List.length_take, List.length_drop, ← HA.out]; omega
      have Hpre2 := hide (show L ++ mk 32 ((a.drop z).take (j - z)) = T by
        have h1 : (a.drop z).take (j - z) = (a.drop z).take r := by
          rw [List.take_eq_take_iff, List.length_drop, ← HA.out]; omega
        rw [h1, ← Hpre.out, pts]
        split
        · rename_i h; rw [h]; simp [lay, mk_nil]
        · simp [lay, layP, mk_nil])
      obtain ⟨X, hX⟩ : ∃ X, X = (a.drop z).take (j - z) := ⟨_, rfl⟩
      have Hsa := hide (Lw.Vs.below Hs.out HT1.out.low)
      have hcut1 := vs_cut Hsa.out (i := z) (j := j) hzj (by rw [← HA.out]; omega)
      have hrun1 := fun w => run_cut2 w A n c z j hzj (by omega)
      rw [← hX] at hlX hcut1 Hpre2
      obtain ⟨Ax, hAx⟩ : ∃ Ax, (if c = z then A else A.map (·.add z)) = Ax := ⟨_, rfl⟩
      obtain ⟨cx, hcx⟩ : ∃ cx, c - z = cx := ⟨_, rfl⟩
      rw [hAx, hcx] at hcut1
      simp only [hAx, hcx] at hrun1
      rw [← hlX] at hrun1
      have Hcut1 := hide hcut1
      have HxX := hide (show ∀ x ∈ X, x.length ≤ 9223372036854775806 from fun x hx => HxA.out x (by rw [hX] at hx; exact List.mem_of_mem_drop (List.mem_of_mem_take hx)))
      have Hle := hide (show L.length + X.length ≤ 20000 by
        have h1 := congrArg List.length Hpre2.out
        rw [List.length_append, mk_len] at h1
        have := HTl.out
        omega)
      have hw1 : IntKind.i64.wrap ((z : Int) + r) = (z : Int) + r := IntWalk.i64_in _ (by omega)
      have hmn1 : (if (z : Int) + r < n then (z : Int) + r else (n : Int)) = (j : Int) := by split <;> omega
      have hmn2 : (if (n : Int) < (z : Int) + r then (n : Int) else (z : Int) + r) = (j : Int) := by split <;> omega
      have hmn3 : (if (z : Int) + r ≤ n then (z : Int) + r else (n : Int)) = (j : Int) := by split <;> omega
      have hmn4 : min ((z : Int) + r) (n : Int) = (j : Int) := by omega
      have q4 := HT1.out.cells.2.2.2.2.1
      have hzj' : (z : Int) ≤ j := by omega
      clear hcut1 hX hAx hcx hj hlX Hpre
      go_wp2_with fail
      refine Rg.wp_region_ord (fun w' => w'.cell? ⟨g3, 4, none⟩ = some v) [(0, true), (1, true), (2, true), (3, true), (4, true), (5, true), (6, true), (7, true), (8, true), (9, true), (10, true), (11, false), (12, true), (13, false)] (by kernel_rfl) (by kernel_rfl) ?_
      simp only [Rg.pick, List.map_cons, List.map_nil, List.getD_cons_zero, List.getD_cons_succ]
      iterate 11 (refine Rg.ord_quiet (v := ?_) rfl (fun w' hS => ?_) q4 ?_; rotate_left; (go_simp; with_reducible rfl); simp only [Act.put, List.setIfInBounds_toArray, List.set_cons_succ, List.set_cons_zero])
      refine Rg.ord_loud rfl (fun K hK => ?_)
      go_simp
      refine (add_any 32 (.inl rfl) wp.heap.size v L X Ax cx _ wr.drew HT1.out.drew.own (vs_drew Hcut1.out) (by have := HT1.out.far.size; exact this) (by have := Hle.out; omega) (by have := Hle.out; omega) (fun b hb e => by have := (World.ownsRow.lt HT1.out.own b e.symm).1; have := HT0.out.low.size; omega) HxX.out).mono ?_
      rintro y w1 ⟨v1, rfl, hown1, hb1, hg1, _⟩
      rw [Hpre2.out] at hown1
      obtain ⟨A1, c1, rfl, _⟩ := OwT.vs hown1
      have e4 := (HT1.out.drew.grown hg1).cell 4
      have f4 := (HT1.out.drew.grown hg1).free 4
      simp only [List.getElem?_cons_zero, List.getElem?_cons_succ] at e4
      have HT2 := hide (HT1.out.drew.step hown1 hg1)
      clear q4 hown1 hb1 hg1 hrun1 hmn1 hmn2 hmn3 hmn4 hw1
      refine hK _ _ (fun _ => e4) ?_
      clear hK K
      try simp only [Act.put, List.setIfInBounds_toArray, List.set_cons_succ, List.set_cons_zero]
      iterate 1 (refine Rg.ord_quiet (v := ?_) rfl (fun w' hS => ?_) e4 ?_; rotate_left; (go_simp; with_reducible rfl); simp only [Act.put, List.setIfInBounds_toArray, List.set_cons_succ, List.set_cons_zero])
      refine Rg.ord_loud rfl (fun K hK => ?_)
      go_simp
      refine hK _ _ (fun hf => absurd (show Rg.sink _ 13 = true from by kernel_rfl) (by rw [hf]; decide)) ?_
      clear hK K e4 f4
      obtain ⟨w2, hw2⟩ : ∃ w2, w2 = w1.setCell ⟨g3, 4, none⟩ (.slice A1 T.length c1) := ⟨_, rfl⟩
      rw [← hw2] at HT2 ⊢
      clear hw2
      refine Rg.ord_nil ?_
      have q4 := HT2.out.cells.2.2.2.2.1
      have hvT : ∃ P', Vs w2 P' A1 c1 (texts T) := by
        obtain ⟨A', c', he, hv⟩ := OwT.vs HT2.out.own
        injection he with h1 h2 h3
        subst h1 h3
        exact ⟨_, hv⟩
      obtain ⟨P', hvT⟩ := hvT
      have HvT := hide hvT
      obtain ⟨m1, hm1⟩ : ∃ m1, m1 = many 45 T := ⟨_, rfl⟩
      obtain ⟨m2, hm2⟩ : ∃ m2, m2 = many 43 T := ⟨_, rfl⟩
      have HCt := hide (count_any T A1 c1 P' w2 hvT (by have := HTl.out; omega))
      rw [← hm1, ← hm2] at HCt
      rw [← hm1] at Hm1
      rw [← hm2] at Hm2
      have HM1 := hide hm1
      have HM2 := hide hm2
      obtain ⟨tl, htl⟩ : ∃ tl, tl = T.length := ⟨_, rfl⟩
      rw [← htl] at HCt q4 HT2 ⊢
      have Htl := hide htl
      clear hvT hm1 hm2 htl
      go_wp2_with fail
      refine HCt.out.mono ?_
      rintro y w3 ⟨rfl, hb3⟩
      have HT3 := hide (HT2.out.more hb3)
      have hr2 : Row w3 g2 tH [.int .i64 0, .int .i64 0, .int .i64 0, .int .i64 0, .slice none 0 0] := (HT3.out.far.block g2 Hr2.out.lt (fun e => by injection e with e; omega)).trans Hr2.out
      have hr3 := HT3.out.row
      have p0' := hr3.cell 0
      have p1' := hr3.cell 1
      have p2' := hr3.cell 2
      have p3' := hr3.cell 3
      have p4' := hr3.cell 4
      have p5' := hr3.free 1
      have p6' := hr3.free 3
      simp only [List.getElem?_cons_zero, List.getElem?_cons_succ] at p0' p1' p2' p3' p4'
      have Hr3 := hide ((hr3.put 1 (.int .i64 (m1 : Int))).put 3 (.int .i64 (m2 : Int)))
      have hr2b : Row ((w3.setCell ⟨g3, 1, none⟩ (.int .i64 (m1 : Int))).setCell ⟨g3, 3, none⟩ (.int .i64 (m2 : Int))) g2 tH [.int .i64 0, .int .i64 0, .int .i64 0, .int .i64 0, .slice none 0 0] := (hr2.off (by omega) _).off (by omega) _
      have zz0 := hr2b.cell 0
      have z1 := hr2b.cell 1
      have z2 := hr2b.cell 2
      have z3 := hr2b.cell 3
      have z4 := hr2b.cell 4
      have y0 := hr2b.free 0
      have y1 := hr2b.free 1
      have y2 := hr2b.free 2
      have y3 := hr2b.free 3
      have y4 := hr2b.free 4
      simp only [List.getElem?_cons_zero, List.getElem?_cons_succ] at zz0 z1 z2 z3 z4
      have Hr2' := hide hr2b
      clear hr2 hr2b hr3 hb3 q4
      go_wp2_with fail
      have hown : OwT ((w3.setCell ⟨g3, 1, none⟩ (.int .i64 (m1 : Int))).setCell ⟨g3, 3, none⟩ (.int .i64 (m2 : Int))) wp.heap.size tS (.slice A1 tl c1) T := owt_off (owt_off HT3.out.own HT3.out.ne _) HT3.out.ne _
      have hlow : Below w.heap.size w ((w3.setCell ⟨g3, 1, none⟩ (.int .i64 (m1 : Int))).setCell ⟨g3, 3, none⟩ (.int .i64 (m2 : Int))) := below_put (below_put HT3.out.low HT3.out.lt.1 _) HT3.out.lt.1 _
      obtain ⟨wx, hwx⟩ : ∃ wx, wx = ((w3.setCell ⟨g3, 1, none⟩ (.int .i64 (m1 : Int))).setCell ⟨g3, 3, none⟩ (.int .i64 (m2 : Int))) := ⟨_, rfl⟩
      have hrx := Hr2'.out
      rw [← hwx] at hown hlow hrx ⊢
      clear hwx
      have hz : Row (((((wx.setCell ⟨g2, 0, none⟩ (.int .i64 (z0 : Int))).setCell ⟨g2, 1, none⟩ (.int .i64 (m1 : Int))).setCell ⟨g2, 2, none⟩ (.int .i64 0)).setCell ⟨g2, 3, none⟩ (.int .i64 (m2 : Int))).setCell ⟨g2, 4, none⟩ (.slice A1 tl c1)) g2 tH [.int .i64 (z0 : Int), .int .i64 (m1 : Int), .int .i64 0, .int .i64 (m2 : Int), .slice A1 tl c1] := ((((hrx.put 0 _).put 1 _).put 2 _).put 3 _).put 4 _
      have hne : ∀ b, (Value.slice A1 tl c1).ownBlock = some b → b ≠ g2 := row_ne hrx tH_ne hown
      have hown2 : OwT (((((wx.setCell ⟨g2, 0, none⟩ (.int .i64 (z0 : Int))).setCell ⟨g2, 1, none⟩ (.int .i64 (m1 : Int))).setCell ⟨g2, 2, none⟩ (.int .i64 0)).setCell ⟨g2, 3, none⟩ (.int .i64 (m2 : Int))).setCell ⟨g2, 4, none⟩ (.slice A1 tl c1)) wp.heap.size tS (.slice A1 tl c1) T := owt_off (owt_off (owt_off (owt_off (owt_off hown hne _) hne _) hne _) hne _) hne _
      have hlow2 : Below w.heap.size w (((((wx.setCell ⟨g2, 0, none⟩ (.int .i64 (z0 : Int))).setCell ⟨g2, 1, none⟩ (.int .i64 (m1 : Int))).setCell ⟨g2, 2, none⟩ (.int .i64 0)).setCell ⟨g2, 3, none⟩ (.int .i64 (m2 : Int))).setCell ⟨g2, 4, none⟩ (.slice A1 tl c1)) := below_put (below_put (below_put (below_put (below_put hlow hg2w _) hg2w _) hg2w _) hg2w _) hg2w _
      obtain ⟨wz, hwz⟩ : ∃ wz, wz = (((((wx.setCell ⟨g2, 0, none⟩ (.int .i64 (z0 : Int))).setCell ⟨g2, 1, none⟩ (.int .i64 (m1 : Int))).setCell ⟨g2, 2, none⟩ (.int .i64 0)).setCell ⟨g2, 3, none⟩ (.int .i64 (m2 : Int))).setCell ⟨g2, 4, none⟩ (.slice A1 tl c1)) := ⟨_, rfl⟩
      rw [← hwz] at hz hown2 hlow2 ⊢
      have t0 := hz.cell 0
      have t1 := hz.cell 1
      have t2 := hz.cell 2
      have t3 := hz.cell 3
      have t4 := hz.cell 4
      simp only [List.getElem?_cons_zero, List.getElem?_cons_succ] at t0 t1 t2 t3 t4
      clear hwz hne hz zz0 z1 z2 z3 z4 y0 y1 y2 y3 y4 p0' p1' p2' p3' p4' p5' p6'
      refine bodyPost_ret (v := .agg #[.int .i64 (z0 : Int), .int .i64 (m1 : Int), .int .i64 0, .int .i64 (m2 : Int), .slice A1 tl c1]) (by simp [results, Tryz.results21, go_sem, t0, t1, t2, t3, t4]) rfl ⟨_, by rw [HM1.out, HM2.out], owt_base hown2 (by have := HT0.out.low.size; omega), hlow2⟩
end Go.Proofs.YtnehgogajghefaaGreatDoor.Hu
