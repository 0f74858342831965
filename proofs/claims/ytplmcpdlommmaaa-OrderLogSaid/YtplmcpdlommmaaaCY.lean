/-
  The law OrderLog, over any graph that keeps the contract.
-/
import Derived.Test.YtplmcpdlommmaaaCX
import Derived.Test.YtplmcpdlommmaaaCR
namespace Go.Proofs.Ytplmcpdlommmaaa.Oq
open Go Go.RowKit Kt Kg Lw Tr Dq

theorem all_once {D : List Nd} (hI : Inv D) : (all D true).Nodup := up_once2 (all_up2 hI true)
theorem bef_step {l : List Bs} {k : Nat} {x a b : Bs} (h : l[k]? = some x) : bef (l.drop k) a b = if x = b then false else if x = a then true else bef (l.drop (k + 1)) a b := by
  obtain ⟨hk, e⟩ := List.getElem?_eq_some_iff.1 h
  rw [List.drop_eq_getElem_cons hk, e]
  rfl
set_option maxRecDepth 100000 in
set_option maxHeartbeats 4000000 in
theorem before_any (l : List Bs) (A : Option Addr) (c : Nat) (Pb : Nat → Prop) (a b : Bs) (w : World) (hs : Vs w Pb A c (texts l)) (hl : l.length ≤ 1000000) :
    Calls Try.prog 36 #[.slice A l.length c, .string ⟨a.toArray⟩, .string ⟨b.toArray⟩] w fun y w' => y = .returned (.bool (bef l a b)) ∧ Below w.heap.size w w' := by
  have Hs := hide (vs_low hs)
  obtain ⟨N, hN⟩ : ∃ N, N = l.length := ⟨_, rfl⟩
  have HN := hide hN
  rw [← hN] at hl ⊢
  clear hs hN
  go_enter Try.func36, Try.ntmps36
  go_wp2
  go_loopw [7] (fun i wr => ∃ k : Nat, k ≤ N ∧ i = .int .i64 k ∧ Hid (bef l a b = bef (l.drop k) a b) ∧ Hid (Below w.heap.size w wr)) (fun i _ => N - (intOf i).toNat)
  case atStart => exact ⟨0, Nat.zero_le _, rfl, by show Hid _; exact hide rfl, by show Hid _; exact hide (Below.refl _ _)⟩
  case round =>
    obtain ⟨k, hk, rfl, HA, HB⟩ := hrel
    by_cases hlt : k < N
    · obtain ⟨x, hx⟩ : ∃ z, l[k]? = some z := ⟨_, List.getElem?_eq_getElem (by have := HN.out; omega)⟩
      obtain ⟨bb, o, rfl, hb, ck⟩ := vs_at Hs.out hx
      have hc := (World.cell?_of_block (a := ⟨bb, o + k, none⟩) (HB.out.block bb hb)).trans ck
      have hst := bef_step (a := a) (b := b) hx
      have HSt := hide hst
      clear hx ck hb hst
      by_cases hxb : x = b
      · subst hxb
        have HF := hide (show bef l a x = false from by rw [HA.out, HSt.out, if_pos rfl])
        have hq1 : (x == x) = true := by simp
        clear HSt HA
        go_wp2
        go_ret
        exact ⟨by rw [HF.out]; rfl, HB.out⟩
      · by_cases hxa : x = a
        · subst hxa
          have HF := hide (show bef l x b = true from by rw [HA.out, HSt.out, if_neg hxb, if_pos rfl])
          have hq1 : (x == b) = false := by simpa using hxb
          have hq2 : (x == x) = true := by simp
          clear HSt HA hxb
          go_wp2
          go_ret
          exact ⟨by rw [HF.out]; rfl, HB.out⟩
        · have HA2 := hide (show bef l a b = bef (l.drop (k + 1)) a b from by rw [HA.out, HSt.out, if_neg hxb, if_neg hxa])
          have hq1 : (x == b) = false := by simpa using hxb
          have hq2 : (x == a) = false := by simpa using hxa
          clear HSt HA hxb hxa
          go_wp2
          exact ⟨⟨k + 1, by omega, by go_num, by show Hid _; exact HA2, by show Hid _; exact HB⟩, by simp [intOf]; omega⟩
    · obtain rfl : k = N := by omega
      have HF := hide (show bef l a b = false from by rw [HA.out, HN.out, List.drop_length]; rfl)
      go_wp2
      go_ret
      exact ⟨by rw [HF.out]; rfl, HB.out⟩
set_option maxRecDepth 100000 in
set_option maxHeartbeats 8000000 in
theorem lawLog_any {In : World → (Nat → Prop) → Nat → List Nd → Prop} (l : List Nd) (A : Option Addr) (c : Nat) (w : World) (C : Cd w In) (hs : Nds w A c l) (hl : l.length ≤ 9223372036854775807) :
    Calls Try.prog 4 #[.slice A l.length c] w fun y w' => y = .returned (.bool true) ∧ Below w.heap.size w w' := by
  have HC := hide C
  have Hs := hide hs
  have Hl := hide hl
  have Hw := hide (owake_any w C)
  obtain ⟨N0, hN0⟩ : ∃ N, N = l.length := ⟨_, rfl⟩
  have HN0 := hide hN0
  rw [← hN0] at hl ⊢
  clear C hs hN0
  go_enter Try.func4, Try.ntmps4
  go_wp2_with fail
  refine Hw.out.mono ?_
  rintro y w1 ⟨rfl, hb1⟩
  have HB1 := hide hb1
  have HFew := hide (rfew_any l A c w1 (Hs.out.keep hb1) Hl.out)
  rw [← HN0.out] at HFew
  clear hb1 Hw
  go_wp2_with fail
  refine HFew.out.mono ?_
  rintro y w2 ⟨rfl, hb2⟩
  have HB2 := hide (HB1.out.trans (hb2.mono HB1.out.size))
  clear hb2 HFew HB1
  cases hfe : fewN l with
  | false =>
    go_wp2
    go_ret
    exact ⟨rfl, HB2.out⟩
  | true =>
    have HBo := hide (both_any l A c w w2 HC.out HB2.out Hs.out (fine_of hfe).1 (by have := (fine_of hfe).2; omega))
    have HSm := hide (run_sm (fine_of hfe).1 (by have := (fine_of hfe).2; omega))
    have HLn := hide (Nat.le_trans (run_keeps l).2.2 (fine_of hfe).2)
    rw [← HN0.out] at HBo
    clear hfe HB2
    go_wp2_with fail
    refine HBo.out.mono ?_
    rintro y w3 ⟨g, r, Sr, rfl, hg3, _, _, _⟩
    obtain ⟨D, hD⟩ : ∃ D, D = run l := ⟨_, rfl⟩
    rw [← hD] at hg3 HSm HLn
    have HI := hide hg3.ok.inv
    have HG3 := hide (hg3.imp (F' := fun _ => False) fun _ h => h.elim)
    obtain ⟨N, hN⟩ : ∃ N, N = (all D true).length := ⟨_, rfl⟩
    have hlo := gd_log HC.out HG3.out HSm.out
    rw [log_len HI.out, ← hN] at hlo
    have HLo := hide hlo
    have hN14 : N ≤ 14 := by rw [hN]; exact Nat.le_trans (all_len D true) HLn.out
    have HN := hide hN
    clear hg3 hD HBo hlo hN
    go_wp2_with fail
    refine HLo.out.mono ?_
    rintro y w4 ⟨A4, c4, rfl, hv4, hb4⟩
    have HV4 := hide (vs_low hv4)
    have HG4 := hide (HG3.out.stay HC.out hb4)
    have HId := hide (HG4.out.ids HC.out)
    clear hv4 hb4 HLo HG3
    go_wp2_with fail
    refine HId.out.mono ?_
    rintro y w5 ⟨v5, rfl, hown5, hb5⟩
    obtain ⟨A5, c5, rfl, hv5, _⟩ := own_vs hown5
    rw [← HN.out]
    have HG5 := hide (HG4.out.stay HC.out hb5)
    have HV45 := hide (vs_low (vs_keep HV4.out hb5))
    have HV5 := hide hv5
    have hra := gd_ranks14 HC.out HG5.out (all D true) A5 c5 _ hv5 (.inr ⟨by rw [← HN.out]; exact hN14, all_once HI.out⟩) (fun x hx => all_short HSm.out hx)
    rw [← HN.out] at hra
    have HRa := hide hra
    clear hown5 hv5 hb5 hra HId HG4 HV4
    go_wp2_with fail
    refine HRa.out.mono ?_
    rintro y w6 ⟨v6, rfl, hown6, hb6⟩
    obtain ⟨A6, c6, rfl, hv6, _⟩ := own_vs hown6
    rw [ranks_whole HI.out, ← HN.out]
    have HG6 := hide (HG5.out.stay HC.out hb6)
    have HV46 := hide (vs_low (vs_keep HV45.out hb6))
    have HV56 := hide (vs_low (vs_keep HV5.out hb6))
    have HV66 := hide hv6
    have hso := rsorted_any (log D) A4 c4 _ w6 HV46.out (by rw [log_len HI.out, ← HN.out]; omega) (fun y hy => by have := all_short HSm.out ((all_in2 HI.out y).2 ((log_mem HI.out).1 hy)); omega)
    rw [log_sort HI.out, log_len HI.out, ← HN.out] at hso
    have HSo := hide hso
    clear hown6 hv6 hb6 hso HRa HG5 HV45 HV5
    go_wp2_with fail
    refine HSo.out.mono ?_
    rintro y w7 ⟨v7, rfl, hown7, hb7⟩
    obtain ⟨A7, c7, rfl, hv7, _⟩ := own_vs hown7
    have HG7 := hide (HG6.out.stay HC.out hb7)
    have HV47 := hide (vs_low (vs_keep HV46.out hb7))
    have HV57 := hide (vs_low (vs_keep HV56.out hb7))
    have HV67 := hide (vs_low (vs_keep HV66.out hb7))
    have hid := ids_any (all D true) (all D true) A7 A5 c7 c5 _ _ w7 hv7 HV57.out (by rw [← HN.out]; omega)
    rw [decide_eq_true rfl, ← HN.out] at hid
    rw [← HN.out]
    have HIs := hide hid
    clear hown7 hv7 hb7 hid HSo HG6 HV46 HV56 HV66
    go_wp2_with fail
    refine HIs.out.mono ?_
    rintro y w8 ⟨rfl, hb8⟩
    have HG8 := hide (HG7.out.stay HC.out hb8)
    have HV48 := hide (vs_low (vs_keep HV47.out hb8))
    have HV58 := hide (vs_low (vs_keep HV57.out hb8))
    have HV68 := hide (vs_low (vs_keep HV67.out hb8))
    have hso := rsorted_any (ranks D (all D true)) A6 c6 _ w8 HV68.out (by rw [ranks_whole HI.out, ← HN.out]; omega) (fun y hy => by have := all_short HSm.out ((ranks_mem HI.out).1 hy).1; omega)
    rw [ranks_sort HI.out, ranks_whole HI.out, ← HN.out] at hso
    have HSo := hide hso
    clear hb8 hso HIs HG7 HV47 HV57 HV67
    go_wp2_with fail
    refine HSo.out.mono ?_
    rintro y w9 ⟨v9, rfl, hown9, hb9⟩
    obtain ⟨A9, c9, rfl, hv9, _⟩ := own_vs hown9
    have HG9 := hide (HG8.out.stay HC.out hb9)
    have HV49 := hide (vs_low (vs_keep HV48.out hb9))
    have HV59 := hide (vs_low (vs_keep HV58.out hb9))
    have HV69 := hide (vs_low (vs_keep HV68.out hb9))
    have hid := ids_any (all D true) (all D true) A9 A5 c9 c5 _ _ w9 hv9 HV59.out (by rw [← HN.out]; omega)
    rw [decide_eq_true rfl, ← HN.out] at hid
    rw [← HN.out]
    have HIs := hide hid
    clear hown9 hv9 hb9 hid HSo HG8 HV48 HV58 HV68
    go_wp2_with fail
    refine HIs.out.mono ?_
    rintro y wX ⟨rfl, hbX⟩
    have HGX := hide (HG9.out.stay HC.out hbX)
    have HV4X := hide (vs_low (vs_keep HV49.out hbX))
    have HV5X := hide (vs_low (vs_keep HV59.out hbX))
    have HV6X := hide (vs_low (vs_keep HV69.out hbX))
    clear hbX HIs HG9 HV49 HV59 HV69
    go_wp2
    go_loopw [10] (fun i wr => ∃ k : Nat, k ≤ N ∧ i = .int .i64 k ∧ Hid (Below wX.heap.size wX wr)) (fun i _ => N - (intOf i).toNat)
    case atStart => exact ⟨0, Nat.zero_le _, rfl, by show Hid _; exact hide (Below.refl _ _)⟩
    case round =>
      obtain ⟨k, hk, rfl, HB⟩ := hrel
      by_cases hlt : k < N
      · obtain ⟨x, hx⟩ : ∃ z, (all D true)[k]? = some z := ⟨_, List.getElem?_eq_getElem (by have := HN.out; omega)⟩
        obtain ⟨bb, o, rfl, hpb, ck⟩ := vs_at HV5X.out hx
        have hc := (World.cell?_of_block (a := ⟨bb, o + k, none⟩) (HB.out.block bb hpb)).trans ck
        have hxm := List.mem_of_getElem? hx
        have HXm := hide hxm
        have HPa := hide ((HGX.out.stay HC.out HB.out).parents HC.out x (all_short HSm.out hxm))
        have HCx := hide (show ∀ W, Below wX.heap.size wX W → W.cell? ⟨bb, o + k, none⟩ = some (.string ⟨x.toArray⟩) from fun W hW => (World.cell?_of_block (a := ⟨bb, o + k, none⟩) (hW.block bb hpb)).trans ck)
        clear hx hxm ck hpb
        go_wp2_with fail
        refine HPa.out.mono ?_
        rintro y wp ⟨vp, rfl, hownp, hbp⟩
        obtain ⟨Ap, cp, rfl, hvp, _⟩ := own_vs hownp
        have HBp := hide (HB.out.trans (hbp.mono HB.out.size))
        have HVp := hide hvp
        obtain ⟨M, hM⟩ : ∃ M, M = (parents D x).length := ⟨_, rfl⟩
        rw [← hM]
        have HM := hide hM
        have hM10 : M ≤ 1000 := by have := (HSm.out.parents x).1; omega
        clear hownp hvp hbp hM hc HPa HB
        go_wp2
        go_loopw [12] (fun i wr => ∃ q : Nat, q ≤ M ∧ i = .int .i64 q ∧ Hid (Below wp.heap.size wp wr)) (fun i _ => M - (intOf i).toNat)
        case atStart => exact ⟨0, Nat.zero_le _, rfl, by show Hid _; exact hide (Below.refl _ _)⟩
        case round =>
          obtain ⟨q, hq, rfl, HB⟩ := hrel
          have HBX := hide (HBp.out.trans (HB.out.mono HBp.out.size))
          by_cases hlq : q < M
          · obtain ⟨p, hp⟩ : ∃ z, (parents D x)[q]? = some z := ⟨_, List.getElem?_eq_getElem (by have := HM.out; omega)⟩
            obtain ⟨pb, po, rfl, hpp, cp0⟩ := vs_at HVp.out hp
            have hpm := List.mem_of_getElem? hp
            have HCp := hide (show ∀ W, Below wp.heap.size wp W → W.cell? ⟨pb, po + q, none⟩ = some (.string ⟨p.toArray⟩) from fun W hW => (World.cell?_of_block (a := ⟨pb, po + q, none⟩) (hW.block pb hpp)).trans cp0)
            have hb1 := before_any (log D) A4 c4 _ p x wr.drew (vs_keep HV4X.out (show Below wX.heap.size wX wr.drew from ⟨HBX.out.os, HBX.out.tape, HBX.out.output, HBX.out.size, HBX.out.block⟩)) (by rw [log_len HI.out, ← HN.out]; omega)
            rw [bef_log HI.out hpm, log_len HI.out, ← HN.out] at hb1
            have HBe1 := hide hb1
            have HBe2 := hide (show ∀ W, Below wX.heap.size wX W → Calls Try.prog 36 #[.slice A6 N c6, .string ⟨p.toArray⟩, .string ⟨x.toArray⟩] W fun y w' => y = .returned (.bool true) ∧ Below W.heap.size W w' from fun W hW => by
              have h := before_any (ranks D (all D true)) A6 c6 _ p x W (vs_keep HV6X.out hW) (by rw [ranks_whole HI.out, ← HN.out]; omega)
              rwa [bef_ranks HI.out hpm HXm.out ((all_in2 HI.out p).2 (parents_in HI.out hpm).1), ranks_whole HI.out, ← HN.out] at h)
            have cx1 := HCx.out wr HBX.out
            have cp1 := HCp.out wr HB.out
            clear hp hpp cp0 hpm hb1
            go_wp2
            have hc : wr.drew.cell? ⟨bb, o + k, none⟩ = some (.string ⟨x.toArray⟩) ∧ wr.drew.cell? ⟨pb, po + q, none⟩ = some (.string ⟨p.toArray⟩) := ⟨cx1, cp1⟩
            refine Rg.wp_region_ord (fun w' => w'.cell? ⟨bb, o + k, none⟩ = some (.string ⟨x.toArray⟩) ∧ w'.cell? ⟨pb, po + q, none⟩ = some (.string ⟨p.toArray⟩)) [(0, true), (1, true), (2, true), (3, true), (4, true), (5, true), (6, true), (7, true), (8, true), (9, false), (10, true), (11, true), (12, true), (13, true), (14, true), (15, true), (16, true), (17, true), (18, true), (19, true), (20, true), (21, false), (22, true), (23, true)] (by kernel_rfl) (by kernel_rfl) ?_
            simp only [Rg.pick, List.map_cons, List.map_nil, List.getD_cons_zero, List.getD_cons_succ]
            iterate 9 (refine Rg.ord_quiet (v := ?_) rfl (fun w' hS => ?_) hc ?_; rotate_left; (obtain ⟨s1, s2⟩ := hS; go_simp; with_reducible rfl); simp only [Act.put, List.setIfInBounds_toArray, List.set_cons_succ, List.set_cons_zero])
            refine Rg.ord_loud (by rfl) (fun K hK => ?_)
            go_simp
            refine HBe1.out.mono ?_
            rintro e w10 ⟨rfl, hb10⟩
            have hb10' : Below wr.heap.size wr w10 := ⟨hb10.os, hb10.tape, hb10.output, hb10.size, hb10.block⟩
            have HB10 := hide (HB.out.trans (hb10'.mono HB.out.size))
            have HBX10 := hide (HBX.out.trans (hb10'.mono HBX.out.size))
            have hc10 : w10.cell? ⟨bb, o + k, none⟩ = some (.string ⟨x.toArray⟩) ∧ w10.cell? ⟨pb, po + q, none⟩ = some (.string ⟨p.toArray⟩) := ⟨HCx.out w10 HBX10.out, HCp.out w10 HB10.out⟩
            refine hK _ _ (fun _ => hc10) ?_
            clear hK K hc cx1 cp1 hb10 hb10' HBe1
            iterate 2 (refine Rg.ord_quiet (v := ?_) rfl (fun w' hS => ?_) hc10 ?_; rotate_left; (obtain ⟨s1, s2⟩ := hS; go_simp; with_reducible rfl); simp only [Act.put, List.setIfInBounds_toArray, List.set_cons_succ, List.set_cons_zero])
            iterate 9 (refine Rg.ord_guarded (v := ?_) (by rfl) (fun w' hS => ?_) hc10 ?_; rotate_left; (obtain ⟨s1, s2⟩ := hS; go_simp; with_reducible rfl); simp only [Act.put, List.setIfInBounds_toArray, List.set_cons_succ, List.set_cons_zero])
            refine Rg.ord_loud (by rfl) (fun K hK => ?_)
            go_simp
            refine (HBe2.out w10 HBX10.out).mono ?_
            rintro e w11 ⟨rfl, hb11⟩
            have HB11 := hide (HB10.out.trans (hb11.mono HB10.out.size))
            have HBX11 := hide (HBX10.out.trans (hb11.mono HBX10.out.size))
            have hc11 : w11.cell? ⟨bb, o + k, none⟩ = some (.string ⟨x.toArray⟩) ∧ w11.cell? ⟨pb, po + q, none⟩ = some (.string ⟨p.toArray⟩) := ⟨HCx.out w11 HBX11.out, HCp.out w11 HB11.out⟩
            refine hK _ _ (fun _ => hc11) ?_
            clear hK K hc10 hb11 HBe2
            iterate 1 (refine Rg.ord_guarded (v := ?_) (by rfl) (fun w' hS => ?_) hc11 ?_; rotate_left; (obtain ⟨s1, s2⟩ := hS; go_simp; with_reducible rfl); simp only [Act.put, List.setIfInBounds_toArray, List.set_cons_succ, List.set_cons_zero])
            iterate 1 (refine Rg.ord_quiet (v := ?_) rfl (fun w' hS => ?_) hc11 ?_; rotate_left; (obtain ⟨s1, s2⟩ := hS; go_simp; with_reducible rfl); simp only [Act.put, List.setIfInBounds_toArray, List.set_cons_succ, List.set_cons_zero])
            refine Rg.ord_nil ?_
            clear hc11
            go_wp2
            exact ⟨⟨q + 1, by omega, by go_num, by show Hid _; exact HB11⟩, by simp [intOf]; omega⟩
          · obtain rfl : q = M := by omega
            go_wp2
            exact ⟨⟨k + 1, by omega, by go_num, by show Hid _; exact HBX⟩, by simp [intOf]; omega⟩
      · obtain rfl : k = N := by omega
        have HGe := hide (HGX.out.stay HC.out HB.out)
        go_wp2
        go_ret
        exact ⟨rfl, HGe.out.low⟩
end Go.Proofs.Ytplmcpdlommmaaa.Oq
