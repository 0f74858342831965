/-
  hunk.together, hunk.one.
-/
import Derived.Test.YtnehgogajghefaaGreatDoorQ5
namespace Go.Proofs.YtnehgogajghefaaGreatDoor.Hu
open Go Go.RowKit Kt Lw Li Df

/-- edit number k, whole -/
theorem es_cells {w w' : World} {A : Option Addr} {c : Nat} {L : List Ed} (h : Es w A c L) (hb : Below w.heap.size w w') {b o : Nat} (hA : A = some ⟨b, o, none⟩) {k : Nat} {e : Ed} (hk : L[k]? = some e) :
    ∃ A' c', (w'.cell? ⟨b, o + k * 3, none⟩ = some (.int .i64 e.pos) ∧ w'.cell? ⟨b, o + k * 3 + 1, none⟩ = some (.int .i64 e.del) ∧ w'.cell? ⟨b, o + k * 3 + 2, none⟩ = some (.slice A' e.ins.length c')) ∧ Vs w (fun b => b < w.heap.size) A' c' (texts e.ins) := by
  have hkl := (List.getElem?_eq_some_iff.1 hk).1
  obtain ⟨b', o', e', A', c', rfl, hke, hc, hv⟩ := h.at hb hkl
  injection hA with hA
  injection hA with h1 h2 h3
  subst h1 h2
  rw [hk] at hke
  injection hke with hke
  subst hke
  exact ⟨A', c', hc, hv⟩
theorem spl_step (r : Nat) (E f : Ed) (l : List Ed) : (spl r E (f :: l)).1.length = if f.pos - fin E ≤ 2 * r then (spl r f l).1.length + 1 else 0 := by
  rw [spl]; split <;> rfl

set_option maxHeartbeats 1000000 in
set_option maxRecDepth 100000 in
theorem together_any (r : Nat) (e : Ed) (l : List Ed) (A : Option Addr) (c : Nat) (w : World) (hs : Es w A c (e :: l)) (hn : (e :: l).length ≤ 1000000) (hr1 : r ≤ 1000)
    (hb : ∀ x ∈ e :: l, (0 ≤ x.pos ∧ x.pos ≤ 1099511627776) ∧ (0 ≤ x.del ∧ x.del ≤ 1099511627776)) :
    Calls Tryz.prog 20 #[.slice A (e :: l).length c, .int .i64 r] w fun y w' => y = .returned (.int .i64 (((spl r e l).1.length + 1 : Nat) : Int)) ∧ Below w.heap.size w w' := by
  have Hs := hide hs
  have Hbd := hide hb
  obtain ⟨N, hN⟩ : ∃ N, N = (e :: l).length := ⟨_, rfl⟩
  rw [← hN] at hn ⊢
  have hN1 : 1 ≤ N := by rw [hN]; simp
  have HN := hide hN
  have hA : ∃ b o, A = some ⟨b, o, none⟩ := by
    obtain ⟨b, o, h, _⟩ := hs.2 (by simp)
    exact ⟨b, o, h⟩
  obtain ⟨b, o, rfl⟩ := hA
  obtain ⟨R, hR⟩ : ∃ R, R = (spl r e l).1.length + 1 := ⟨_, rfl⟩
  rw [← hR]
  have HR := hide hR
  clear hs hN hb hR
  go_enter Tryz.func20, Tryz.ntmps20
  go_wp2
  go_loopw [5] (fun i wr => ∃ (j : Nat) (E : Ed), j + 1 ≤ N ∧ i = .int .i64 ((j + 1 : Nat) : Int) ∧ (e :: l)[j]? = some E ∧ R = j + 1 + (spl r E ((e :: l).drop (j + 1))).1.length ∧ Below w.heap.size w wr) (fun i _ => N - (intOf i).toNat)
  case atStart => exact ⟨0, e, by omega, rfl, rfl, by rw [HR.out]; simp; omega, Below.refl _ _⟩
  case round =>
    obtain ⟨j, E, hj, rfl, hE, hRj, hb⟩ := hrel
    have Hb := hide hb
    have HRj := hide hRj
    clear hb hRj
    by_cases hlt : j + 1 < N
    · obtain ⟨F, hF⟩ : ∃ F, (e :: l)[j + 1]? = some F := ⟨_, List.getElem?_eq_getElem (by have := HN.out; omega)⟩
      have hbE := Hbd.out E (List.mem_of_getElem? hE)
      have hbF := Hbd.out F (List.mem_of_getElem? hF)
      obtain ⟨Ae, ce, ⟨k0, k1, k2⟩, _⟩ := es_cells Hs.out Hb.out rfl hE
      obtain ⟨Af, cf, ⟨l0, l1, l2⟩, _⟩ := es_cells Hs.out Hb.out rfl hF
      have hst := spl_step r E F ((e :: l).drop (j + 2))
      have hdr : (e :: l).drop (j + 1) = F :: (e :: l).drop (j + 2) := by
        have h1 := (List.getElem?_eq_some_iff.1 hF).1
        rw [List.drop_eq_getElem_cons h1]
        rw [List.getElem?_eq_getElem h1] at hF
        injection hF with hF
        rw [hF]
      rw [← hdr] at hst
      have Hst := hide hst
      have HF := hide hF
      obtain ⟨p, hp⟩ : ∃ p, p = F.pos := ⟨_, rfl⟩
      obtain ⟨q, hq⟩ : ∃ q, q = E.pos := ⟨_, rfl⟩
      obtain ⟨d, hd⟩ : ∃ d, d = E.del := ⟨_, rfl⟩
      have Hpq := hide (show fin E = q + d ∧ F.pos = p by unfold fin; rw [hq, hd, hp]; exact ⟨rfl, rfl⟩)
      rw [← hp] at l0 hbF
      rw [← hq] at k0 hbE
      rw [← hd] at k1 hbE
      clear hst hdr hF hE hp hq hd l1 l2
      have HE := hide (fun w => end_any q d (.slice Ae E.ins.length ce) w (by omega) (by omega))
      obtain ⟨m, hm⟩ : ∃ m, m = j + 1 := ⟨_, rfl⟩
      rw [← hm] at hj hlt l0 Hst HF HRj ⊢
      have hjm : j + 1 ≤ m := by omega
      have hjN : j < N := by omega
      have hw1 : IntKind.i64.wrap ((m : Int) - 1) = (j : Int) := by rw [IntWalk.i64_in _ (by omega)]; omega
      have hw2 : IntKind.i64.wrap (p - (q + d)) = p - (q + d) := IntWalk.i64_in _ (by omega)
      have hw3 : IntKind.i64.wrap (2 * (r : Int)) = 2 * (r : Int) := IntWalk.i64_in _ (by omega)
      have hw4 : IntKind.i64.wrap ((m : Int) + 1) = (m : Int) + 1 := IntWalk.i64_in _ (by omega)
      have Hm := hide hm
      clear hm
      have hc1 : decide ((m : Int) < (N : Int)) = true := decide_eq_true (by omega)
      obtain ⟨bc, hbc⟩ : ∃ bc, bc = decide (p - (q + d) ≤ 2 * (r : Int)) := ⟨_, rfl⟩
      go_wp2_with fail
      refine Rg.wp_region_ord (fun w' => w'.cell? ⟨b, o + j * 3, none⟩ = some (.int .i64 q) ∧ w'.cell? ⟨b, o + j * 3 + 1, none⟩ = some (.int .i64 d) ∧ w'.cell? ⟨b, o + j * 3 + 2, none⟩ = some (.slice Ae E.ins.length ce) ∧ w'.cell? ⟨b, o + m * 3, none⟩ = some (.int .i64 p)) [(0, true), (1, true), (2, true), (3, true), (4, true), (5, true), (6, true), (7, true), (8, true), (9, true), (10, true), (11, true), (12, true), (13, true), (14, true), (17, true), (18, true), (15, false), (16, true), (19, true), (20, true)] (by kernel_rfl) (by kernel_rfl) ?_
      simp only [Rg.pick, List.map_cons, List.map_nil, List.getD_cons_zero, List.getD_cons_succ]
      iterate 5 (refine Rg.ord_quiet (v := ?_) rfl (fun w' hS => ?_) ⟨k0, k1, k2, l0⟩ ?_; rotate_left; (obtain ⟨s0, s1, s2, s3⟩ := hS; go_simp; with_reducible rfl); simp only [Act.put, List.setIfInBounds_toArray, List.set_cons_succ, List.set_cons_zero])
      iterate 12 (refine Rg.ord_guarded (v := ?_) (by rfl) (fun w' hS => ?_) ⟨k0, k1, k2, l0⟩ ?_; rotate_left; (obtain ⟨s0, s1, s2, s3⟩ := hS; go_simp; with_reducible rfl); simp only [Act.put, List.setIfInBounds_toArray, List.set_cons_succ, List.set_cons_zero])
      refine Rg.ord_loud (by rfl) (fun K hK => ?_)
      go_simp
      refine (HE.out _).mono ?_
      rintro y w2 ⟨rfl, hb2⟩
      have e0 := cell_keep hb2 (w := wr.drew) k0
      have e1 := cell_keep hb2 (w := wr.drew) k1
      have e2 := cell_keep hb2 (w := wr.drew) k2
      have e3 := cell_keep hb2 (w := wr.drew) l0
      have Hb2 := hide (Hb.out.drew.trans (hb2.mono Hb.out.size))
      clear k0 k1 k2 l0 hb2
      refine hK _ _ (fun _ => ⟨e0, e1, e2, e3⟩) ?_
      clear hK K
      try simp only [Act.put, List.setIfInBounds_toArray, List.set_cons_succ, List.set_cons_zero]
      iterate 2 (refine Rg.ord_guarded (v := ?_) (by rfl) (fun w' hS => ?_) ⟨e0, e1, e2, e3⟩ ?_; rotate_left; (obtain ⟨s0, s1, s2, s3⟩ := hS; go_simp; with_reducible rfl); simp only [Act.put, List.setIfInBounds_toArray, List.set_cons_succ, List.set_cons_zero])
      iterate 1 (refine Rg.ord_quiet (v := ?_) rfl (fun w' hS => ?_) ⟨e0, e1, e2, e3⟩ ?_; rotate_left; (obtain ⟨s0, s1, s2, s3⟩ := hS; go_simp; with_reducible rfl); simp only [Act.put, List.setIfInBounds_toArray, List.set_cons_succ, List.set_cons_zero])
      refine Rg.ord_nil ?_
      clear e0 e1 e2 e3 hw1 hw2 hw3
      have hst := Hst.out
      rw [Hpq.out.1, Hpq.out.2, show j + 2 = m + 1 by have := Hm.out; omega] at hst
      have hRj := HRj.out
      by_cases hle : p - (q + d) ≤ 2 * (r : Int)
      · have hd1 : decide (p - (q + d) ≤ 2 * (r : Int)) = true := decide_eq_true hle
        rw [if_pos hle] at hst
        rw [hst] at hRj
        have HRn := hide (show R = m + 1 + (spl r F ((e :: l).drop (m + 1))).1.length by omega)
        clear hst hRj hle hbc Hst HRj
        rw [hd1]
        go_wp2
        exact ⟨⟨m, F, by omega, by go_num, HF.out, HRn.out, Hb2.out⟩, by simp [intOf]; omega⟩
      · have hd1 : decide (p - (q + d) ≤ 2 * (r : Int)) = false := decide_eq_false hle
        rw [if_neg hle] at hst
        rw [hst] at hRj
        have HRn := hide (show R = m by omega)
        clear hst hRj hle hbc Hst HRj
        rw [hd1]
        go_wp2
        go_ret
        exact ⟨by rw [HRn.out]; rfl, Hb2.out⟩
    · obtain rfl : N = j + 1 := by omega
      have hfin : R = j + 1 := by
        have := HRj.out
        rw [List.drop_of_length_le (by rw [← HN.out]; exact Nat.le_refl _)] at this
        simpa [spl] using this
      have Hfin := hide hfin
      clear hfin hlt
      go_wp2
      go_quiet (fail)
      go_wp2
      go_ret
      exact ⟨by rw [Hfin.out]; rfl, below_drewN Hb.out _⟩
end Go.Proofs.YtnehgogajghefaaGreatDoor.Hu
