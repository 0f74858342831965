/-
  Who stands one on the other, added from behind.
-/
import Derived.Test.YtlfncnnfpniigaaDK
import Derived.Test.YtlfncnnfpniigaaDD
import Derived.Test.YtlfncnnfpniigaaXI
import Derived.Test.YtlfncnnfpniigaaRegD
namespace Go.Proofs.Ytlfncnnfpniigaa.Dq
open Go Go.RowKit Kt Kg Lw Tr

/-- one whose guard says yes -/
theorem tree_guarded {P : Program} {Q : Exit → Act → World → Prop} {S : World → Prop} {l : List Oper} {n : Nat} {o : Oper} {t : Rd.Tree} {a : Act} {w : World} {v : Value} (ho : l.getD n default = o) (hg : Region.wanted o (yielded l.toArray a.tmps) = true) (hy : ∀ w', S w' → (execOp a.eval o).run P w' = .ok (.value v) w') (hS : S w)
    (h : Rd.wpTree P l Q S t (a.put o.dst v) w) : Rd.wpTree P l Q S (.take n t) a w := by
  subst ho
  exact ⟨v, .inl ⟨hg, hy⟩, hS, h⟩
theorem rng_snoc (k : Nat) : (List.range (k + 1)).map idC = (List.range k).map idC ++ [idC k] := by rw [List.range_succ, List.map_append]; rfl
theorem idC_conv (k : Nat) (hk : k ≤ 12) (w : World) : (convert 46 9 (.slice (some ⟨w.heap.size, 0, none⟩) 1 1)).run Try.prog (w.alloc (.cells #[.int .u8 (122 - (k : Int))] 5)) = .ok (.string ⟨(idC k).toArray⟩) (w.alloc (.cells #[.int .u8 (122 - (k : Int))] 5)) := by
  have e : (122 - (k : Int)) = ((UInt8.ofNat (122 - k)).toNat : Int) := by
    have : (UInt8.ofNat (122 - k)).toNat = 122 - k := by simp; omega
    rw [this]; omega
  have hc : #[Value.int .u8 (122 - (k : Int))] = (u8s (idC k)).toArray := by rw [e]; rfl
  rw [hc]
  exact (Own.lit w w.heap.size 5 (idC k) _ rfl (Nat.le_refl _) (by show 1 ≤ _; unfold maxLen; omega)).text 46 9 5 Try.underlying46 Try.underlying5 Try.underlying9
set_option maxRecDepth 100000 in
set_option maxHeartbeats 4000000 in
theorem lawChain_any {In : World → (Nat → Prop) → Nat → List Nd → Prop} (many : Nat) (w : World) (C : Cd w In) (hm : many < 256) :
    Calls Try.prog 7 #[.int .u8 (many : Int)] w fun y w' => y = .returned (.bool true) ∧ Below w.heap.size w w' := by
  have HC := hide C
  have Hw := hide (dwake_any w C)
  clear C
  obtain ⟨n, hn⟩ : ∃ n, n = 1 + many % 12 := ⟨_, rfl⟩
  have hn1 : 1 ≤ n := by omega
  have hn2 : n ≤ 12 := by omega
  have HN := hide hn
  go_enter Try.func7, Try.ntmps7
  go_wp2_with fail
  refine Hw.out.mono ?_
  rintro y w1 ⟨rfl, hb1⟩
  have HB1 := hide hb1
  have HNew := hide (GD.new HC.out hb1)
  have hna : (1 : Int) + (many : Int) % 12 = (n : Int) := by omega
  clear hb1 Hw hn
  go_wp2_with fail
  refine HNew.out.mono ?_
  rintro y w2 ⟨g, rfl, hg2, hb2⟩
  have HG2 := hide hg2
  have HB2 := hide (HB1.out.trans (hb2.mono HB1.out.size))
  clear hg2 hb2 HNew
  go_wp2
  go_loopw [6, 7] (fun v6 v7 wr => ∃ (k : Nat) (v0 : Value), v0 = v6 ∧ k ≤ n ∧ v7 = .int .i64 k ∧ Hid (OwT wr w2.heap.size tId v0 ((List.range k).map idC)) ∧ Hid (Below w2.heap.size w2 wr)) (fun _ i _ => n - (intOf i).toNat)
  case atStart => exact ⟨0, _, rfl, Nat.zero_le _, rfl, hide (OwT.nil _ _ _), hide (Below.refl _ _)⟩
  case round =>
    obtain ⟨k, v, rfl, hk, rfl, HO, HB⟩ := hrel
    by_cases hlt : k < n
    · have hcv := idC_conv k (by omega) wr
      have HO2 := hide (HO.out.alloc (.cells #[.int .u8 (122 - (k : Int))] 5))
      have HB3 := hide (HB.out.alloc HB.out.size (.cells #[.int .u8 (122 - (k : Int))] 5))
      obtain ⟨w3, hw3⟩ : ∃ z, wr.alloc (.cells #[.int .u8 (122 - (k : Int))] 5) = z := ⟨_, rfl⟩
      rw [hw3] at hcv HO2 HB3
      obtain ⟨x, hx⟩ : ∃ x, x = idC k := ⟨_, rfl⟩
      rw [← hx] at hcv
      have HX := hide hx
      have HLn := hide (show ((List.range k).map idC).length + 1 ≤ 1000000000 by rw [List.length_map, List.length_range]; omega)
      obtain ⟨ks, hks⟩ : ∃ ks, ks = (List.range k).map idC := ⟨_, rfl⟩
      rw [← hks] at HO2 HLn
      have HKs := hide hks
      clear hks hx HO HB
      go_wp2_with (at_builtin; refine wpList_pushT Try.underlying31 rfl (.tmp 25) (.tmp 31) rfl w2.heap.size w2 v ks x _ rfl rfl rfl HO2.out HLn.out HB3.out HB3.out.size ?_; intro v5 w5 hown5 hb5 _ _)
      exact ⟨⟨k + 1, _, rfl, by omega, by go_num, hide (by rw [rng_snoc, ← HKs.out, ← HX.out]; exact hown5), hide hb5⟩, by simp [intOf]; omega⟩
    · obtain rfl : k = n := by omega
      obtain ⟨m, rfl⟩ : ∃ m, k = m + 1 := ⟨k - 1, by omega⟩
      obtain ⟨L, hL⟩ : ∃ L, L = (List.range (m + 1)).map idC := ⟨_, rfl⟩
      rw [← hL] at HO
      have hLl : L.length = m + 1 := by rw [hL, List.length_map, List.length_range]
      have hLk : ∀ i, i < m + 1 → L.getD i [] = idC i := fun i hi => by rw [hL, List.getD_eq_getElem?_getD, List.getElem?_map, List.getElem?_range hi]; rfl
      obtain ⟨A, c, hv, _, hvs⟩ := own_vs HO.out
      have hol := fun b (hb : v.ownBlock = some b) => World.ownsRow.lt HO.out b hb
      obtain ⟨F, hF⟩ : ∃ F : Nat → Prop, F = fun b => v.ownBlock = some b := ⟨_, rfl⟩
      rw [← hF] at hvs
      have HG := hide (show GD In w wr g (ch (m + 1) 0) F from (HG2.out.below HC.out HB.out).imp fun b hb => by rw [hF] at hb; exact .inr (hol b hb))
      rw [hLl] at hv
      subst hv
      have HVs := hide hvs
      have HLl := hide hLl
      have HLk := hide hLk
      have HLe := hide hL
      have e1 : ((m + 1 : Nat) : Int) - 1 = ((m : Nat) : Int) := by omega
      clear hvs hol hF HO HB hLl hLk hL hlt
      go_wp2
      clear e1
      try rw [show ((m + 1 : Nat) : Int) = (m : Int) + 1 from rfl]
      obtain ⟨wo, hwo⟩ : ∃ z, z = wr := ⟨_, rfl⟩
      subst hwo
      go_loopw [8] (fun v8 wr => ∃ (j d : Nat), v8 = .int .i64 j ∧ j + d = m ∧ Hid (GD In w wr g (ch (m + 1) d) F) ∧ Hid (Vs wr F A c (texts L)) ∧ Hid ((ch (m + 1) d).length ≤ d)) (fun v8 _ => (intOf v8).toNat)
      case atStart => exact ⟨m, 0, rfl, rfl, HG, HVs, hide (Nat.le_refl _)⟩
      case round =>
        clear HG HVs
        obtain ⟨j, d, rfl, hjd, HG, HVs, HD⟩ := hrel
        by_cases hj : 0 < j
        · obtain ⟨i, rfl⟩ : ∃ i, j = i + 1 := ⟨j - 1, by omega⟩
          obtain ⟨b, o, rfl, ci⟩ := vs_text (w' := wr) (vs_low HVs.out) (Below.refl _ _) (k := i) (by have := HLl.out; omega)
          obtain ⟨b', o', e, ci1⟩ := vs_text (w' := wr) (vs_low HVs.out) (Below.refl _ _) (k := i + 1) (by have := HLl.out; omega)
          injection e with e
          injection e with e2 e3 _
          subst e2 e3
          rw [HLk.out i (by omega)] at ci
          rw [HLk.out (i + 1) (by omega)] at ci1
          have hst := step_ok (n := m + 1) (k := d) (by omega) (by omega)
          have hdl := HD.out
          rw [show m + 1 - 1 - d = i + 1 by omega, show m + 1 - 2 - d = i by omega] at hst
          have hch : ch (m + 1) (d + 1) = (Dq.add (ch (m + 1) d) (idC (i + 1)) [idC i]).1 := by
            show (Dq.add (ch (m + 1) d) (idC (m + 1 - 1 - d)) [idC (m + 1 - 2 - d)]).1 = _
            rw [show m + 1 - 1 - d = i + 1 by omega, show m + 1 - 2 - d = i by omega]
          obtain ⟨wa, hwa⟩ : ∃ z, z = (wr.alloc (.cells #[.string ⟨(idC i).toArray⟩] tId)).drew := ⟨_, rfl⟩
          have hba : Below wr.heap.size wr wa := by rw [hwa]; exact ((Below.refl _ wr).alloc (Nat.le_refl _) _).drew
          have hsa : Vs wa (fun b => b = wr.heap.size) (some ⟨wr.heap.size, 0, none⟩) 1 (texts [idC i]) := by rw [hwa]; exact lit_ids wr [idC i] _ rfl
          have hadd := (HG.out.below HC.out hba).add HC.out (idC (i + 1)) [idC i] (some ⟨wr.heap.size, 0, none⟩) 1 _ (by omega) hsa (fun k hk => .inl (.inr (by subst hk; exact ⟨Nat.le_refl _, by rw [hwa]; show _ < (wr.alloc _).heap.size; rw [World.size_alloc]; exact Nat.lt_succ_self _⟩))) (by unfold idC; simp) (by unfold idC; simp)
          rw [hst.1, ← hch] at hadd
          have HAdd := hide hadd
          have HSt := hide hst.2
          have HWa := hide hwa
          have HBa := hide hba
          have hc := And.intro ci ci1
          have hcd : (wr.drew.cell? ⟨b, o + i, none⟩ = some (.string ⟨(idC i).toArray⟩)) ∧ (wr.drew.cell? ⟨b, o + (i + 1), none⟩ = some (.string ⟨(idC (i + 1)).toArray⟩)) := hc
          have hca : (wa.cell? ⟨b, o + i, none⟩ = some (.string ⟨(idC i).toArray⟩)) ∧ (wa.cell? ⟨b, o + (i + 1), none⟩ = some (.string ⟨(idC (i + 1)).toArray⟩)) := by
            have hbl : b < wr.heap.size := World.block_lt_of_cell? wr ⟨b, o + i, none⟩ ci
            exact ⟨(hba.cell (p := ⟨b, o + i, none⟩) hbl).trans ci, (hba.cell (p := ⟨b, o + (i + 1), none⟩) hbl).trans ci1⟩
          have e1 : ((i + 1 : Nat) : Int) - 1 = ((i : Nat) : Int) := by omega
          have HCa := hide hca
          have hwi : IntKind.i64.wrap (i : Int) = (i : Int) := IntWalk.i64_in _ (by omega)
          have him : i < m := by omega
          have him2 : (i : Int) < (m : Int) + 1 := by omega
          have him1 : i < m + 1 := by omega
          have hi0 : (0 : Int) ≤ (i : Int) + 1 := by omega
          clear hadd hst hch hwa hba hsa hc ci ci1 hdl hca
          go_wp2
          refine Rg.wp_region_ord (fun w' => w'.cell? ⟨b, o + i, none⟩ = some (.string ⟨(idC i).toArray⟩) ∧ w'.cell? ⟨b, o + (i + 1), none⟩ = some (.string ⟨(idC (i + 1)).toArray⟩)) [(0, true), (1, true), (2, true), (3, true), (4, true), (5, true), (6, true), (7, true), (8, true), (9, true), (10, false), (11, false), (12, true)] (by kernel_rfl) (by kernel_rfl) ?_
          simp only [Rg.pick, List.map_cons, List.map_nil, List.getD_cons_zero, List.getD_cons_succ]
          iterate 10 (refine Rg.ord_quiet (v := ?_) rfl (fun w' hS => ?_) hcd ?_; rotate_left; (obtain ⟨s1, s2⟩ := hS; go_simp; with_reducible rfl); simp only [Act.put, List.setIfInBounds_toArray, List.set_cons_succ, List.set_cons_zero])
          refine Rg.ord_loud (by rfl) (fun K hK => ?_)
          go_simp
          rw [← HWa.out]
          refine hK _ wa (fun _ => HCa.out) ?_
          clear hK K
          refine Rg.ord_loud (by rfl) (fun K hK => ?_)
          go_simp
          refine HAdd.out.mono ?_
          rintro y w5 ⟨v5, rfl, hown5, hg5, hF5, hlen5, hs5⟩
          obtain ⟨A5, c5, rfl, _, _⟩ := own_vs hown5
          have hFl : ∀ k, F k → k < wr.heap.size := fun k hk => by obtain ⟨_, _, S, _, _, h5⟩ := HG.out; exact (h5 k hk).1
          have HV5 := hide (show Vs w5 F (some ⟨b, o, none⟩) c (texts L) from HVs.out.move fun z hz _ => (hF5 z (.inl hz)).trans (HBa.out.block z (hFl z hz)))
          have HG5 := hide (show GD In w w5 g (ch (m + 1) (d + 1)) F from hg5.imp fun k hk => .inl (.inl hk))
          have HFl5 := hide (show ∀ k, F k → k < w5.heap.size from fun k hk => by obtain ⟨_, _, S, _, _, h5⟩ := HG5.out; exact (h5 k hk).1)
          have HD5 := hide (show (ch (m + 1) (d + 1)).length ≤ d + 1 from by have := HD.out; omega)
          have HX := hide (show ∀ w', Below w5.heap.size w5 w' → (w'.cell? ⟨b, o + i, none⟩ = some (.string ⟨(idC i).toArray⟩)) ∧ (w'.cell? ⟨b, o + (i + 1), none⟩ = some (.string ⟨(idC (i + 1)).toArray⟩)) from fun w' hb => by
            obtain ⟨b1, o1, q1, q2⟩ := vs_text (w' := w') (vs_low HV5.out) hb (k := i) (by have := HLl.out; omega)
            obtain ⟨b2, o2, q3, q4⟩ := vs_text (w' := w') (vs_low HV5.out) hb (k := i + 1) (by have := HLl.out; omega)
            injection q1 with q1; injection q1 with q5 q6 _; subst q5 q6
            injection q3 with q3; injection q3 with q5 q6 _; subst q5 q6
            rw [HLk.out i (by omega)] at q2
            rw [HLk.out (i + 1) (by omega)] at q4
            exact ⟨q2, q4⟩)
          have hc5 := HX.out w5 (Below.refl _ _)
          have hc5d : (w5.drew.cell? ⟨b, o + i, none⟩ = some (.string ⟨(idC i).toArray⟩)) ∧ (w5.drew.cell? ⟨b, o + (i + 1), none⟩ = some (.string ⟨(idC (i + 1)).toArray⟩)) := hc5
          refine hK _ w5 (fun _ => hc5) ?_
          clear hK K HAdd hown5 hg5 hF5 hlen5 hs5 hFl HG HVs HD
          iterate 1 (refine Rg.ord_quiet (v := ?_) rfl (fun w' hS => ?_) hc5 ?_; rotate_left; (obtain ⟨s1, s2⟩ := hS; go_simp; with_reducible rfl); simp only [Act.put, List.setIfInBounds_toArray, List.set_cons_succ, List.set_cons_zero])
          refine Rg.ord_nil ?_
          have hdi : IntKind.i64.wrap ((m : Int) + 1 - ((i : Int) + 1)) = (d : Int) + 1 := by rw [IntWalk.i64_in _ (by omega)]; omega
          have hdi2 : IntKind.i64.wrap ((m : Int) - (i : Int)) = (d : Int) + 1 := by rw [IntWalk.i64_in _ (by omega)]; omega
          have HMa := hide ((HG5.out.stay HC.out ((Below.refl _ w5).drew)).many HC.out)
          rw [HSt.out.1, show (([] : List Bs).length : Int) = 0 from rfl] at HMa
          clear hc5 hcd HCa HWa HBa
          go_wp2
          refine Rd.wp_region_tree (fun w' => w'.cell? ⟨b, o + i, none⟩ = some (.string ⟨(idC i).toArray⟩) ∧ w'.cell? ⟨b, o + (i + 1), none⟩ = some (.string ⟨(idC (i + 1)).toArray⟩)) (.take 0 (.take 1 (.take 2 (.take 3 (.take 4 (.one 5 (.take 6 (.take 7 (.take 8 (.take 9 (.take 12 (.take 13 (.take 14 (.one 10 (.take 11 (.take 15 (.take 16 (.take 17 (.take 18 (.take 20 (.take 21 (.take 22 (.take 23 (.take 24 (.fork 19 (.one 25 (.one 26 (.take 27 (.take 28 .leaf)))) 25 (.one 19 (.one 26 (.take 27 (.take 28 .leaf))))))))))))))))))))))))))))) (by kernel_rfl) (by kernel_rfl) ?_
          iterate 4 (refine Rd.tree_quiet rfl (v := ?_) rfl (fun w' hS => ?_) hc5d ?_; rotate_left; (obtain ⟨s1, s2⟩ := hS; go_simp; with_reducible rfl); simp only [Act.put, List.getD_cons_zero, List.getD_cons_succ, List.setIfInBounds_toArray, List.set_cons_succ, List.set_cons_zero])
          iterate 1 (refine tree_guarded rfl (by rfl) (v := ?_) (fun w' hS => ?_) hc5d ?_; rotate_left; (obtain ⟨s1, s2⟩ := hS; go_simp; with_reducible rfl); simp only [Act.put, List.getD_cons_zero, List.getD_cons_succ, List.setIfInBounds_toArray, List.set_cons_succ, List.set_cons_zero])
          refine Rd.tree_one rfl (by rfl) (fun K hK => ?_)
          go_simp
          refine HMa.out.mono ?_
          rintro y w6 ⟨rfl, hb6⟩
          have HB6 := hide (((Below.refl _ w5).drew).trans hb6)
          have hc6 := HX.out w6 HB6.out
          have HWt := hide ((HG5.out.stay HC.out HB6.out).waiting HC.out)
          refine hK _ w6 (fun _ => hc6) ?_
          clear hK K HMa hb6 hc5d
          iterate 1 (refine tree_guarded rfl (by rfl) (v := ?_) (fun w' hS => ?_) hc6 ?_; rotate_left; (obtain ⟨s1, s2⟩ := hS; go_simp; with_reducible rfl); simp only [Act.put, List.getD_cons_zero, List.getD_cons_succ, List.setIfInBounds_toArray, List.set_cons_succ, List.set_cons_zero])
          iterate 2 (refine Rd.tree_quiet rfl (v := ?_) rfl (fun w' hS => ?_) hc6 ?_; rotate_left; (obtain ⟨s1, s2⟩ := hS; go_simp; with_reducible rfl); simp only [Act.put, List.getD_cons_zero, List.getD_cons_succ, List.setIfInBounds_toArray, List.set_cons_succ, List.set_cons_zero])
          iterate 4 (refine tree_guarded rfl (by rfl) (v := ?_) (fun w' hS => ?_) hc6 ?_; rotate_left; (obtain ⟨s1, s2⟩ := hS; go_simp; with_reducible rfl); simp only [Act.put, List.getD_cons_zero, List.getD_cons_succ, List.setIfInBounds_toArray, List.set_cons_succ, List.set_cons_zero])
          refine Rd.tree_one rfl (by rfl) (fun K hK => ?_)
          go_simp
          refine HWt.out.mono ?_
          rintro y w7 ⟨v7, rfl, hown7, hb7⟩
          obtain ⟨A7, c7, rfl, _, _⟩ := own_vs hown7
          have HB7 := hide (HB6.out.trans (hb7.mono HB6.out.size))
          have hc7 := HX.out w7 HB7.out
          rw [HSt.out.2.1]
          refine hK _ w7 (fun _ => hc7) ?_
          clear hK K HWt hb7 hc6 hown7 HB6
          iterate 2 (refine tree_guarded rfl (by rfl) (v := ?_) (fun w' hS => ?_) hc7 ?_; rotate_left; (obtain ⟨s1, s2⟩ := hS; go_simp; with_reducible rfl); simp only [Act.put, List.getD_cons_zero, List.getD_cons_succ, List.setIfInBounds_toArray, List.set_cons_succ, List.set_cons_zero])
          iterate 2 (refine Rd.tree_quiet rfl (v := ?_) rfl (fun w' hS => ?_) hc7 ?_; rotate_left; (obtain ⟨s1, s2⟩ := hS; go_simp; with_reducible rfl); simp only [Act.put, List.getD_cons_zero, List.getD_cons_succ, List.setIfInBounds_toArray, List.set_cons_succ, List.set_cons_zero])
          iterate 6 (refine tree_guarded rfl (by rfl) (v := ?_) (fun w' hS => ?_) hc7 ?_; rotate_left; (obtain ⟨s1, s2⟩ := hS; go_simp; with_reducible rfl); simp only [Act.put, List.getD_cons_zero, List.getD_cons_succ, List.setIfInBounds_toArray, List.set_cons_succ, List.set_cons_zero])
          clear hdi hdi2
          refine Rd.tree_fork rfl (by rfl) rfl (by rfl) (fun K hK => ?_) (fun K hK => ?_)
          · skip
            have HLk := hide ((HG5.out.stay HC.out HB7.out).lacks HC.out)
            rw [HSt.out.2.2] at HLk
            go_simp
            refine HLk.out.mono ?_
            rintro y w8 ⟨v8, rfl, hown8, hb8⟩
            obtain ⟨A8, c8, rfl, hv8, _⟩ := own_vs hown8
            have HV8 := hide hv8
            have HB8 := hide (HB7.out.trans (hb8.mono HB7.out.size))
            have hc8 := HX.out w8 HB8.out
            refine hK _ w8 (fun _ => hc8) ?_
            clear hK K HLk hown8 hb8 hv8 hc7
            refine Rd.tree_one rfl (by rfl) (fun K hK => ?_)
            go_simp
            obtain ⟨w9, hlit⟩ : ∃ z, z = w8.alloc (.cells #[.string ⟨(idC i).toArray⟩] tId) := ⟨_, rfl⟩
            have hbl : Below w8.heap.size w8 w9 := by rw [hlit]; exact (Below.refl _ w8).alloc (Nat.le_refl _) _
            have hsl : Vs w9 (fun b => b = w8.heap.size) (some ⟨w8.heap.size, 0, none⟩) 1 (texts [idC i]) := by rw [hlit]; exact lit_ids w8 [idC i] _ rfl
            have HSl := hide (vs_low hsl)
            have HBl := hide hbl
            have HB9 := hide (HB8.out.trans (hbl.mono HB8.out.size))
            rw [← hlit]
            clear hlit hsl hbl
            have HIds := hide (ids_any [idC i] [idC i] A8 _ c8 1 _ _ w9 (vs_keep HV8.out HBl.out) HSl.out (by simp))
            rw [decide_eq_true rfl] at HIds
            have hc9 := HX.out w9 HB9.out
            refine hK _ w9 (fun _ => hc9) ?_
            clear hK K
            refine Rd.tree_one rfl (by rfl) (fun K hK => ?_)
            go_simp
            refine HIds.out.mono ?_
            rintro y w10 ⟨rfl, hb10⟩
            have HB10 := hide (HB9.out.trans (hb10.mono HB9.out.size))
            have hc10 := HX.out w10 HB10.out
            refine hK _ w10 (fun _ => hc10) ?_
            clear hK K HIds hc9 hb10
            iterate 1 (refine tree_guarded rfl (by rfl) (v := ?_) (fun w' hS => ?_) hc10 ?_; rotate_left; (obtain ⟨s1, s2⟩ := hS; go_simp; with_reducible rfl); simp only [Act.put, List.getD_cons_zero, List.getD_cons_succ, List.setIfInBounds_toArray, List.set_cons_succ, List.set_cons_zero])
            iterate 1 (refine Rd.tree_quiet rfl (v := ?_) rfl (fun w' hS => ?_) hc10 ?_; rotate_left; (obtain ⟨s1, s2⟩ := hS; go_simp; with_reducible rfl); simp only [Act.put, List.getD_cons_zero, List.getD_cons_succ, List.setIfInBounds_toArray, List.set_cons_succ, List.set_cons_zero])
            refine Rd.tree_leaf ?_
            have HE := hide (And.intro (HG5.out.stay HC.out HB10.out) (HV5.out.move fun z hz _ => HB10.out.block z (HFl5.out z hz)))
            clear hc10
            go_wp2
            exact ⟨⟨i, d + 1, by go_num, by omega, hide HE.out.1, hide HE.out.2, HD5⟩, by simp [intOf]⟩
          · skip
            go_simp
            obtain ⟨w8, hlit⟩ : ∃ z, z = w7.alloc (.cells #[.string ⟨(idC i).toArray⟩] tId) := ⟨_, rfl⟩
            have hbl : Below w7.heap.size w7 w8 := by rw [hlit]; exact (Below.refl _ w7).alloc (Nat.le_refl _) _
            have hsl : Vs w8 (fun b => b = w7.heap.size) (some ⟨w7.heap.size, 0, none⟩) 1 (texts [idC i]) := by rw [hlit]; exact lit_ids w7 [idC i] _ rfl
            have HSl := hide (vs_low hsl)
            have HBl := hide hbl
            have HB8 := hide (HB7.out.trans (hbl.mono HB7.out.size))
            rw [← hlit]
            clear hlit hsl hbl
            have hc8 := HX.out w8 HB8.out
            refine hK _ w8 (fun _ => hc8) ?_
            clear hK K hc7
            refine Rd.tree_one rfl (by rfl) (fun K hK => ?_)
            have HLk := hide ((HG5.out.stay HC.out HB8.out).lacks HC.out)
            rw [HSt.out.2.2] at HLk
            go_simp
            refine HLk.out.mono ?_
            rintro y w9 ⟨v8, rfl, hown8, hb8⟩
            obtain ⟨A8, c8, rfl, hv8, _⟩ := own_vs hown8
            have HV8 := hide hv8
            have HB9 := hide (HB8.out.trans (hb8.mono HB8.out.size))
            have HIds := hide (ids_any [idC i] [idC i] A8 _ c8 1 _ _ w9 HV8.out (vs_keep HSl.out hb8) (by simp))
            clear HLk hown8 hb8 hv8
            rw [decide_eq_true rfl] at HIds
            have hc9 := HX.out w9 HB9.out
            refine hK _ w9 (fun _ => hc9) ?_
            clear hK K
            refine Rd.tree_one rfl (by rfl) (fun K hK => ?_)
            go_simp
            refine HIds.out.mono ?_
            rintro y w10 ⟨rfl, hb10⟩
            have HB10 := hide (HB9.out.trans (hb10.mono HB9.out.size))
            have hc10 := HX.out w10 HB10.out
            refine hK _ w10 (fun _ => hc10) ?_
            clear hK K HIds hc9 hb10
            iterate 1 (refine tree_guarded rfl (by rfl) (v := ?_) (fun w' hS => ?_) hc10 ?_; rotate_left; (obtain ⟨s1, s2⟩ := hS; go_simp; with_reducible rfl); simp only [Act.put, List.getD_cons_zero, List.getD_cons_succ, List.setIfInBounds_toArray, List.set_cons_succ, List.set_cons_zero])
            iterate 1 (refine Rd.tree_quiet rfl (v := ?_) rfl (fun w' hS => ?_) hc10 ?_; rotate_left; (obtain ⟨s1, s2⟩ := hS; go_simp; with_reducible rfl); simp only [Act.put, List.getD_cons_zero, List.getD_cons_succ, List.setIfInBounds_toArray, List.set_cons_succ, List.set_cons_zero])
            refine Rd.tree_leaf ?_
            have HE := hide (And.intro (HG5.out.stay HC.out HB10.out) (HV5.out.move fun z hz _ => HB10.out.block z (HFl5.out z hz)))
            clear hc10
            go_wp2
            exact ⟨⟨i, d + 1, by go_num, by omega, hide HE.out.1, hide HE.out.2, HD5⟩, by simp [intOf]⟩
        · obtain rfl : j = 0 := by omega
          obtain rfl : d = m := by omega
          clear hjd hj
          obtain ⟨b, o, rfl, ci⟩ := vs_text (w' := wr) (vs_low HVs.out) (Below.refl _ _) (k := 0) (by have := HLl.out; omega)
          rw [HLk.out 0 (by omega)] at ci
          have ci2 : wr.cell? ⟨b, o, none⟩ = some (.string ⟨(idC 0).toArray⟩) := ci
          have hend := end_ok (n := d + 1) (by omega) (by omega)
          rw [Nat.add_sub_cancel, ← HLe.out] at hend
          have hadd := HG.out.add HC.out (idC 0) [] none 0 (fun _ => False) (by have := HD.out; omega) ⟨Nat.le_refl _, fun h => by simp [texts] at h⟩ (fun k hk => hk.elim) (by unfold idC; simp) (by simp)
          obtain ⟨D1, hD1⟩ : ∃ D1, D1 = (Dq.add (ch (d + 1) d) (idC 0) []).1 := ⟨_, rfl⟩
          rw [← hD1] at hend hadd
          rw [hend.1] at hadd
          have HAdd := hide hadd
          have HE := hide hend.2
          have hm0 : (0 : Int) < (d : Int) + 1 := by omega
          clear hend hadd hD1
          go_wp2_with fail
          refine HAdd.out.mono ?_
          rintro y w5 ⟨v5, rfl, hown5, hg5, hF5, _, _⟩
          obtain ⟨A5, c5, hv5, hvs5, _⟩ := own_vs hown5
          rw [HLl.out] at hv5
          subst hv5
          have hFl : ∀ k, F k → k < wr.heap.size := fun k hk => by obtain ⟨_, _, S, _, _, h5⟩ := HG.out; exact (h5 k hk).1
          have HV5 := hide (vs_low (show Vs w5 F (some ⟨b, o, none⟩) c (texts L) from HVs.out.move fun z hz _ => hF5 z hz))
          have HXs := hide hvs5
          have HG5 := hide (show GD In w w5 g D1 F from hg5.imp fun k hk => .inl hk)
          clear hown5 hg5 hF5 hvs5 hFl HG HVs HD HAdd ci ci2
          go_wp2
          obtain ⟨wp, hwp⟩ : ∃ z, z = wr := ⟨_, rfl⟩
          subst hwp
          go_loopw [11] (fun v11 wr => ∃ i : Nat, v11 = .int .i64 i ∧ i ≤ d + 1 ∧ Hid (Below w5.heap.size w5 wr)) (fun v11 _ => d + 1 - (intOf v11).toNat)
          case atStart => exact ⟨0, rfl, Nat.zero_le _, hide (Below.refl _ _)⟩
          case round =>
            obtain ⟨i, rfl, hi, HB⟩ := hrel
            by_cases hlt : i < d + 1
            · obtain ⟨b1, o1, e, ci⟩ := vs_text (w' := wr) HV5.out HB.out (k := i) (by have := HLl.out; omega)
              injection e with e; injection e with e2 e3 _; subst e2 e3
              rw [HLk.out i hlt] at ci
              have hlv := (HG5.out.stay HC.out HB.out).level HC.out (idC i) (by unfold idC; simp)
              rw [HE.out.1 i hlt] at hlv
              have HLv := hide hlv
              have hlt2 : (i : Int) < (d : Int) + 1 := by omega
              clear hlv
              go_wp2_with fail
              refine HLv.out.mono ?_
              rintro y w6 ⟨rfl, hb6⟩
              have HB6 := hide (HB.out.trans (hb6.mono HB.out.size))
              clear hb6 HLv ci HB
              go_wp2
              exact ⟨⟨i + 1, by go_num, by omega, HB6⟩, by simp [intOf]; omega⟩
            · obtain rfl : i = d + 1 := by omega
              clear hlt
              have HX := hide (show ∀ w', Below w5.heap.size w5 w' → w'.cell? ⟨b, o + d, none⟩ = some (.string ⟨(idC d).toArray⟩) from fun w' hb => by
                obtain ⟨b1, o1, q1, q2⟩ := vs_text (w' := w') HV5.out hb (k := d) (by have := HLl.out; omega)
                injection q1 with q1; injection q1 with q5 q6 _; subst q5 q6
                rw [HLk.out d (by omega)] at q2
                exact q2)
              have hc := HX.out wr.drew HB.out.drew
              have HId := hide (ids_any L L A5 _ c5 c _ _ wr.drew (vs_keep HXs.out HB.out.drew) (vs_keep HV5.out HB.out.drew) (by have := HLl.out; omega))
              rw [decide_eq_true rfl, HLl.out] at HId
              have HBd := hide HB.out.drew
              have hwd : IntKind.i64.wrap (d : Int) = (d : Int) := IntWalk.i64_in _ (by omega)
              have e1 : (d : Int) + 1 - 1 = (d : Int) := by omega
              have hd2 : (d : Int) < (d : Int) + 1 := by omega
              have hd3 : d < d + 1 := by omega
              clear HB
              go_wp2
              refine Rd.wp_region_tree (fun w' => w'.cell? ⟨b, o + d, none⟩ = some (.string ⟨(idC d).toArray⟩)) (.take 0 (.take 1 (.take 2 (.take 3 (.one 4 (.take 5 (.take 6 (.take 7 (.one 8 (.take 9 (.take 10 (.take 11 (.take 12 (.take 13 (.one 14 (.take 15 (.take 16 (.take 17 (.take 18 (.take 19 (.take 21 (.take 22 (.take 23 (.take 24 (.take 25 (.fork 20 (.one 26 (.one 27 (.take 28 (.take 29 .leaf)))) 26 (.one 20 (.one 27 (.take 28 (.take 29 .leaf)))))))))))))))))))))))))))))) (by kernel_rfl) (by kernel_rfl) ?_
              iterate 2 (refine Rd.tree_quiet rfl (v := ?_) rfl (fun w' hS => ?_) hc ?_; rotate_left; (have s1 := hS; go_simp; with_reducible rfl); simp only [Act.put, List.getD_cons_zero, List.getD_cons_succ, List.setIfInBounds_toArray, List.set_cons_succ, List.set_cons_zero])
              iterate 2 (refine tree_guarded rfl (by rfl) (v := ?_) (fun w' hS => ?_) hc ?_; rotate_left; (have s1 := hS; go_simp; with_reducible rfl); simp only [Act.put, List.getD_cons_zero, List.getD_cons_succ, List.setIfInBounds_toArray, List.set_cons_succ, List.set_cons_zero])
              refine Rd.tree_one rfl (by rfl) (fun K hK => ?_)
              go_simp
              refine HId.out.mono ?_
              rintro y w6 ⟨rfl, hb8⟩
              have HB6 := hide (HBd.out.trans (hb8.mono HBd.out.size))
              have hc := HX.out w6 HB6.out
              refine hK _ w6 (fun _ => hc) ?_
              clear hK K hb8 HId
              iterate 2 (refine Rd.tree_quiet rfl (v := ?_) rfl (fun w' hS => ?_) hc ?_; rotate_left; (have s1 := hS; go_simp; with_reducible rfl); simp only [Act.put, List.getD_cons_zero, List.getD_cons_succ, List.setIfInBounds_toArray, List.set_cons_succ, List.set_cons_zero])
              iterate 1 (refine tree_guarded rfl (by rfl) (v := ?_) (fun w' hS => ?_) hc ?_; rotate_left; (have s1 := hS; go_simp; with_reducible rfl); simp only [Act.put, List.getD_cons_zero, List.getD_cons_succ, List.setIfInBounds_toArray, List.set_cons_succ, List.set_cons_zero])
              have HWt := hide ((HG5.out.stay HC.out HB6.out).waiting HC.out)
              rw [HE.out.2.1] at HWt
              refine Rd.tree_one rfl (by rfl) (fun K hK => ?_)
              go_simp
              refine HWt.out.mono ?_
              rintro y w7 ⟨v8, rfl, hown8, hb8⟩
              obtain ⟨A8, c8, rfl, hv8, _⟩ := own_vs hown8
              clear hown8 hv8
              have HB7 := hide (HB6.out.trans (hb8.mono HB6.out.size))
              have hc := HX.out w7 HB7.out
              refine hK _ w7 (fun _ => hc) ?_
              clear hK K hb8 HWt
              iterate 2 (refine tree_guarded rfl (by rfl) (v := ?_) (fun w' hS => ?_) hc ?_; rotate_left; (have s1 := hS; go_simp; with_reducible rfl); simp only [Act.put, List.getD_cons_zero, List.getD_cons_succ, List.setIfInBounds_toArray, List.set_cons_succ, List.set_cons_zero])
              iterate 2 (refine Rd.tree_quiet rfl (v := ?_) rfl (fun w' hS => ?_) hc ?_; rotate_left; (have s1 := hS; go_simp; with_reducible rfl); simp only [Act.put, List.getD_cons_zero, List.getD_cons_succ, List.setIfInBounds_toArray, List.set_cons_succ, List.set_cons_zero])
              iterate 1 (refine tree_guarded rfl (by rfl) (v := ?_) (fun w' hS => ?_) hc ?_; rotate_left; (have s1 := hS; go_simp; with_reducible rfl); simp only [Act.put, List.getD_cons_zero, List.getD_cons_succ, List.setIfInBounds_toArray, List.set_cons_succ, List.set_cons_zero])
              have HLa := hide ((HG5.out.stay HC.out HB7.out).lacks HC.out)
              rw [HE.out.2.2.1] at HLa
              refine Rd.tree_one rfl (by rfl) (fun K hK => ?_)
              go_simp
              refine HLa.out.mono ?_
              rintro y w8 ⟨v8, rfl, hown8, hb8⟩
              obtain ⟨A8, c8, rfl, hv8, _⟩ := own_vs hown8
              clear hown8 hv8
              have HB8 := hide (HB7.out.trans (hb8.mono HB7.out.size))
              have hc := HX.out w8 HB8.out
              refine hK _ w8 (fun _ => hc) ?_
              clear hK K hb8 HLa
              iterate 2 (refine tree_guarded rfl (by rfl) (v := ?_) (fun w' hS => ?_) hc ?_; rotate_left; (have s1 := hS; go_simp; with_reducible rfl); simp only [Act.put, List.getD_cons_zero, List.getD_cons_succ, List.setIfInBounds_toArray, List.set_cons_succ, List.set_cons_zero])
              iterate 2 (refine Rd.tree_quiet rfl (v := ?_) rfl (fun w' hS => ?_) hc ?_; rotate_left; (have s1 := hS; go_simp; with_reducible rfl); simp only [Act.put, List.getD_cons_zero, List.getD_cons_succ, List.setIfInBounds_toArray, List.set_cons_succ, List.set_cons_zero])
              iterate 6 (refine tree_guarded rfl (by rfl) (v := ?_) (fun w' hS => ?_) hc ?_; rotate_left; (have s1 := hS; go_simp; with_reducible rfl); simp only [Act.put, List.getD_cons_zero, List.getD_cons_succ, List.setIfInBounds_toArray, List.set_cons_succ, List.set_cons_zero])
              have hhe : heads D1 = [idC d] := HE.out.2.2.2
              have HHe := hide hhe
              clear hhe
              refine Rd.tree_fork rfl (by rfl) rfl (by rfl) (fun K hK => ?_) (fun K hK => ?_)
              · skip
                have HHd := hide ((HG5.out.stay HC.out HB8.out).heads HC.out)
                rw [HHe.out] at HHd
                go_simp
                refine HHd.out.mono ?_
                rintro y w9 ⟨v8, rfl, hown8, hb8⟩
                obtain ⟨A8, c8, rfl, hv8, _⟩ := own_vs hown8
                have HV8 := hide hv8
                have HB9 := hide (HB8.out.trans (hb8.mono HB8.out.size))
                have hcC := HX.out w9 HB9.out
                refine hK _ w9 (fun _ => hcC) ?_
                clear hK K HHd hown8 hb8 hv8 hc
                refine Rd.tree_one rfl (by rfl) (fun K hK => ?_)
                go_simp
                obtain ⟨w10, hlit⟩ : ∃ z, z = w9.alloc (.cells #[.string ⟨(idC d).toArray⟩] tId) := ⟨_, rfl⟩
                have hbl : Below w9.heap.size w9 w10 := by rw [hlit]; exact (Below.refl _ w9).alloc (Nat.le_refl _) _
                have hsl : Vs w10 (fun b => b = w9.heap.size) (some ⟨w9.heap.size, 0, none⟩) 1 (texts [idC d]) := by rw [hlit]; exact lit_ids w9 [idC d] _ rfl
                have HSl := hide (vs_low hsl)
                have HBl := hide hbl
                have HB10 := hide (HB9.out.trans (hbl.mono HB9.out.size))
                rw [← hlit]
                clear hlit hsl hbl
                have HIds := hide (ids_any [idC d] [idC d] A8 _ c8 1 _ _ w10 (vs_keep HV8.out HBl.out) HSl.out (by simp))
                rw [decide_eq_true rfl] at HIds
                have hcA := HX.out w10 HB10.out
                refine hK _ w10 (fun _ => hcA) ?_
                clear hK K
                refine Rd.tree_one rfl (by rfl) (fun K hK => ?_)
                go_simp
                refine HIds.out.mono ?_
                rintro y w11 ⟨rfl, hb11⟩
                have HB11 := hide (HB10.out.trans (hb11.mono HB10.out.size))
                have hcB := HX.out w11 HB11.out
                refine hK _ w11 (fun _ => hcB) ?_
                clear hK K HIds hcA hb11
                iterate 2 (refine Rd.tree_quiet rfl (v := ?_) rfl (fun w' hS => ?_) hcB ?_; rotate_left; (have s1 := hS; go_simp; with_reducible rfl); simp only [Act.put, List.getD_cons_zero, List.getD_cons_succ, List.setIfInBounds_toArray, List.set_cons_succ, List.set_cons_zero])
                refine Rd.tree_leaf ?_
                have HEnd := hide (HG5.out.low.trans (HB11.out.mono HG5.out.low.size))
                clear hcB
                go_wp2
                go_ret
                exact ⟨rfl, HEnd.out⟩
              · skip
                go_simp
                obtain ⟨w9, hlit⟩ : ∃ z, z = w8.alloc (.cells #[.string ⟨(idC d).toArray⟩] tId) := ⟨_, rfl⟩
                have hbl : Below w8.heap.size w8 w9 := by rw [hlit]; exact (Below.refl _ w8).alloc (Nat.le_refl _) _
                have hsl : Vs w9 (fun b => b = w8.heap.size) (some ⟨w8.heap.size, 0, none⟩) 1 (texts [idC d]) := by rw [hlit]; exact lit_ids w8 [idC d] _ rfl
                have HSl := hide (vs_low hsl)
                have HBl := hide hbl
                have HB9 := hide (HB8.out.trans (hbl.mono HB8.out.size))
                rw [← hlit]
                clear hlit hsl hbl
                have hcC := HX.out w9 HB9.out
                refine hK _ w9 (fun _ => hcC) ?_
                clear hK K hc
                refine Rd.tree_one rfl (by rfl) (fun K hK => ?_)
                have HHd := hide ((HG5.out.stay HC.out HB9.out).heads HC.out)
                rw [HHe.out] at HHd
                go_simp
                refine HHd.out.mono ?_
                rintro y w10 ⟨v8, rfl, hown8, hb8⟩
                obtain ⟨A8, c8, rfl, hv8, _⟩ := own_vs hown8
                have HV8 := hide hv8
                have HB10 := hide (HB9.out.trans (hb8.mono HB9.out.size))
                have HIds := hide (ids_any [idC d] [idC d] A8 _ c8 1 _ _ w10 HV8.out (vs_keep HSl.out hb8) (by simp))
                clear HHd hown8 hb8 hv8
                rw [decide_eq_true rfl] at HIds
                have hcA := HX.out w10 HB10.out
                refine hK _ w10 (fun _ => hcA) ?_
                clear hK K
                refine Rd.tree_one rfl (by rfl) (fun K hK => ?_)
                go_simp
                refine HIds.out.mono ?_
                rintro y w11 ⟨rfl, hb11⟩
                have HB11 := hide (HB10.out.trans (hb11.mono HB10.out.size))
                have hcB := HX.out w11 HB11.out
                refine hK _ w11 (fun _ => hcB) ?_
                clear hK K HIds hcA hb11
                iterate 2 (refine Rd.tree_quiet rfl (v := ?_) rfl (fun w' hS => ?_) hcB ?_; rotate_left; (have s1 := hS; go_simp; with_reducible rfl); simp only [Act.put, List.getD_cons_zero, List.getD_cons_succ, List.setIfInBounds_toArray, List.set_cons_succ, List.set_cons_zero])
                refine Rd.tree_leaf ?_
                have HEnd := hide (HG5.out.low.trans (HB11.out.mono HG5.out.low.size))
                clear hcB
                go_wp2
                go_ret
                exact ⟨rfl, HEnd.out⟩
end Go.Proofs.Ytlfncnnfpniigaa.Dq
