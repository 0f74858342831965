/-
  hunk.Edits.
-/
import Derived.Test.YtiegkfjipcgheaaHG
import Derived.Test.YtiegkfjipcgheaaRegB
namespace Go.Proofs.Ytiegkfjipcgheaa.Hu
open Go Go.RowKit Kt Lw Li Df

theorem edP_len : ∀ (ps : List Pt) (z : Int), (edP z ps).length ≤ ps.length
  | [], _ => Nat.le_refl _
  | p :: r, z => by
    have := edP_len r (z + p.st.length + p.gn.length)
    rw [edP, List.length_append, List.length_cons]
    unfold emitZ
    split <;> simp <;> omega
theorem drop_one {ps : List Pt} {k : Nat} {p : Pt} (h : ps[k]? = some p) : ps.drop k = p :: ps.drop (k + 1) := by
  have h1 := (List.getElem?_eq_some_iff.1 h).1
  rw [List.drop_eq_getElem_cons h1]
  rw [List.getElem?_eq_getElem h1] at h
  injection h with h
  rw [h]

set_option maxHeartbeats 1000000 in
set_option maxRecDepth 100000 in
theorem edits_any (ha han hb hbn : Int) (ps : List Pt) (hps : Good ps) (A : Option Addr) (c : Nat) (P : Nat → Prop) (w : World) (hs : Vs w P A c (texts (lay ps))) (hn : (lay ps).length ≤ 100000)
    (hr : hright ⟨ha, han, hb, hbn, lay ps⟩ = true) (hz : -1099511627776 ≤ ha ∧ ha ≤ 1099511627776) :
    Calls Try.prog 25 #[.agg #[.int .i64 ha, .int .i64 han, .int .i64 hb, .int .i64 hbn, .slice A (lay ps).length c]] w fun y w' => ∃ v, y = .returned v ∧ OwE w' w.heap.size v (edP ha ps) ∧ Below w.heap.size w w' := by
  have Hs := hide hs.bound
  have Hg := hide hps
  have Hn := hide hn
  have HRt := hide (fun w1 (hb1 : Below w.heap.size w w1) => hright_any ha han hb hbn (lay ps) A c _ w1 (Lw.Vs.below hs.bound hb1) (by omega))
  rw [hr] at HRt
  have HPt := hide (fun w1 (hb1 : Below w.heap.size w w1) => parts_any ps hps A c _ w1 (Lw.Vs.below hs.bound hb1) (by omega))
  have hlen := lay_ge ps hps
  obtain ⟨N, hN⟩ : ∃ N, N = (lay ps).length := ⟨_, rfl⟩
  rw [← hN] at hn HRt HPt hlen ⊢
  have HN := hide hN
  clear hs hps hN hr
  go_enter Try.func25, Try.ntmps25
  go_wp2_with fail
  obtain ⟨wa, hwa⟩ : ∃ wa, wa = w.alloc (.cells #[.int .i64 ha, .int .i64 han, .int .i64 hb, .int .i64 hbn, .slice A N c] tH) := ⟨_, rfl⟩
  have hba : Below w.heap.size w wa := by rw [hwa]; exact (Below.refl _ w).alloc (Nat.le_refl _) _
  have hr1 : Row wa w.heap.size tH [.int .i64 ha, .int .i64 han, .int .i64 hb, .int .i64 hbn, .slice A N c] := by rw [hwa]; exact Row.fresh w tH _
  rw [← hwa]
  clear hwa
  refine (HRt.out wa hba).mono ?_
  rintro y wb ⟨rfl, hbb⟩
  have hr1b := hr1.below hbb hr1.lt
  have Hbb := hide (hba.trans (hbb.mono hba.size))
  clear hba hr1 hbb HRt
  have c0 := hr1b.cell 0
  have c4 := hr1b.cell 4
  simp only [List.getElem?_cons_zero, List.getElem?_cons_succ] at c0 c4
  go_wp2_with fail
  refine (HPt.out wb Hbb.out).mono ?_
  rintro y wp ⟨vp, rfl, hvp, hbp⟩
  obtain ⟨Ap, cp, rfl, hps⟩ := OwP.ps hvp
  have Hps := hide hps
  have Hbp := hide (Hbb.out.trans (hbp.mono Hbb.out.size))
  have Hpl := hide hbp.size
  obtain ⟨M, hM⟩ : ∃ M, M = ps.length := ⟨_, rfl⟩
  rw [← hM] at hlen ⊢
  have HM := hide hM
  clear hvp hbp hps hM HPt c0 c4 hr1b
  go_wp2
  go_loopw [3, 4, 16] (fun v z i wr => ∃ (k : Nat) (T : List Ed) (q : Int) (v0 : Value), v0 = v ∧ k ≤ M ∧ i = .int .i64 k ∧ z = .int .i64 q ∧ (-1099511627776 ≤ q ∧ q + (lay (ps.drop k)).length ≤ 1099511627776 + 100000) ∧ T.length ≤ k ∧ T ++ edP q (ps.drop k) = edP ha ps ∧ OwE wr wp.heap.size v0 T ∧ Below wp.heap.size wp wr) (fun _ _ i _ => M - (intOf i).toNat)
  case atStart => exact ⟨0, [], ha, _, rfl, Nat.zero_le _, rfl, rfl, ⟨hz.1, by have := Hn.out; rw [List.drop_zero]; omega⟩, Nat.le_refl _, rfl, OwE.nil _ _, Below.refl _ _⟩
  case round =>
    obtain ⟨k, T, q, v, rfl, hk, rfl, rfl, ⟨hq1, hq2⟩, hT, hpre, hown, hb⟩ := hrel
    have Hb := hide hb
    have Hown := hide hown
    have Hpre := hide hpre
    clear hb hown hpre
    by_cases hlt : k < M
    · obtain ⟨b, o, p, A1, c1, A2, c2, A3, c3, rfl, hpk, ⟨k0, k1, k2⟩, v1, v2, v3⟩ := Hps.out.at (w' := wr) (fun b h1 h2 => Hb.out.block b h2) (k := k) (by have := HM.out; omega)
      have hbw : ∀ b, b < w.heap.size → wr.heap[b]? = wb.heap[b]? := fun b hb => ((Hb.out.block b (by have := Hbp.out.size; omega)).trans (Hbp.out.block b hb)).trans (Hbb.out.block b hb).symm
      have V3 := hide (show Vs wr (fun b => b < w.heap.size) A3 c3 (texts (mk 43 p.cm)) from Lw.Vs.move v3 fun b hb _ => hbw b hb)
      rw [drop_one hpk] at hq2
      rw [drop_one hpk, edP] at Hpre
      rw [lay_len] at hq2
      obtain ⟨ls, hls⟩ : ∃ ls, ls = p.st.length := ⟨_, rfl⟩
      obtain ⟨lg, hlg⟩ : ∃ lg, lg = p.gn.length := ⟨_, rfl⟩
      obtain ⟨lc, hlc⟩ : ∃ lc, lc = p.cm.length := ⟨_, rfl⟩
      have hbig : ls + (lg + lc) ≤ 100000 := by
        have h1 := congrArg List.length (congrArg lay (List.take_append_drop k ps))
        rw [lay_append, List.length_append, drop_one hpk, lay_len, ← hls, ← hlg, ← hlc] at h1
        have := Hn.out
        omega
      rw [← hls] at k0 Hpre hq2
      rw [← hlg] at k1 Hpre hq2
      rw [← hlc] at k2 hq2
      have Hlc := hide hlc
      obtain ⟨X, hX⟩ : ∃ X, X = (lay (ps.drop (k + 1))).length := ⟨_, rfl⟩
      rw [← hX] at hq2
      have HX := hide hX
      clear hpk v1 v2 v3 hbw hls hlg hlc hX
      have hq3 : q ≤ 1099511627776 + 100000 := by omega
      have Hq := hide (show -1099511627776 ≤ q + ls + lg ∧ q + ls + lg + X ≤ 1099511627776 + 100000 by omega)
      have HTk := hide hT
      have hTM : T.length ≤ 100000 := by omega
      have HTM := hide hTM
      clear hT hTM hq2
      have Hrow := hide (Row.fresh wr tP #[.slice A1 ls c1, .slice A2 lg c2, .slice A3 lc c3])
      have hbx : Below wr.heap.size wr (wr.alloc (.cells #[.slice A1 ls c1, .slice A2 lg c2, .slice A3 lc c3] tP)) := (Below.refl _ wr).alloc (Nat.le_refl _) _
      have Hownx := hide (Hown.out.keep hbx)
      have Hbx := hide (Hb.out.trans (hbx.mono Hb.out.size))
      have Hvx := hide (Lw.Vs.below V3.out hbx)
      by_cases h0 : lg = 0 ∧ lc = 0
      · obtain ⟨h01, h02⟩ := h0
        have hcm : p.cm = [] := List.eq_nil_of_length_eq_zero (by rw [← Hlc.out]; exact h02)
        have Hp2 := hide (show T ++ edP (q + ls + lg) (ps.drop (k + 1)) = edP ha ps by
          rw [← Hpre.out, emitZ, if_pos ⟨by omega, hcm⟩, List.nil_append])
        clear hcm Hpre
        have hd1 : decide (0 < lg) = false := decide_eq_false (by omega)
        have hd2 : decide (0 < lc) = false := decide_eq_false (by omega)
        subst h01 h02
        clear hd1 hd2
        go_wp2_with fail
        have hX := HX.out
        exact ⟨⟨k + 1, T, q + ls + ((0 : Nat) : Int), _, rfl, by omega, by go_num, by simp, ⟨Hq.out.1, by rw [← hX]; exact Hq.out.2⟩, by have := HTk.out; omega, Hp2.out, Hownx.out, Hbx.out⟩, by simp [intOf]; omega⟩
      have hcm : ¬ ((lg : Int) = 0 ∧ p.cm = []) := by
        rintro ⟨h1, h2⟩
        exact h0 ⟨by omega, by rw [Hlc.out, h2]; rfl⟩
      have Hp2 := hide (show (T ++ [⟨q + ls, lg, p.cm⟩]) ++ edP (q + ls + lg) (ps.drop (k + 1)) = edP ha ps by
        rw [← Hpre.out, emitZ, if_neg hcm, List.append_assoc])
      clear hcm Hpre
      have key : decide (0 < lg) = true ∨ (decide (0 < lg) = false ∧ decide (0 < lc) = true) := by
        by_cases h1 : 0 < lg
        · exact .inl (decide_eq_true h1)
        · exact .inr ⟨decide_eq_false h1, decide_eq_true (by omega)⟩
      clear h0
      have hlp : ∀ z : Int, z ≤ 100000 → 0 ≤ z → IntKind.i64.wrap (q + ls + z) = q + ls + z := fun z h1 h2 => IntWalk.i64_in _ (by omega)
      obtain ⟨wx, hwx⟩ : ∃ wx, wx = wr.alloc (.cells #[.slice A1 ls c1, .slice A2 lg c2, .slice A3 lc c3] tP) := ⟨_, rfl⟩
      obtain ⟨g, hgw⟩ : ∃ g, g = wr.heap.size := ⟨_, rfl⟩
      rw [← hwx, ← hgw] at Hrow
      rw [← hwx] at Hownx Hbx Hvx
      have HWx := hide hwx
      have HGw := hide hgw
      clear hwx hgw hbx
      rcases key with key | ⟨key, key2⟩
      · go_wp2_with fail
        rw [← HWx.out, ← HGw.out]
        have b1 := Hrow.out.cell 1
        have b2 := Hrow.out.cell 2
        simp only [List.getElem?_cons_zero, List.getElem?_cons_succ] at b1 b2
        refine Rg.wp_region_ord (fun w' => w'.cell? ⟨g, 1, none⟩ = some (.slice A2 lg c2) ∧ w'.cell? ⟨g, 2, none⟩ = some (.slice A3 lc c3)) [(0, true), (1, true), (2, true), (3, true), (4, true), (5, true), (6, true), (7, false), (8, true), (9, false), (10, false), (11, true)] (by kernel_rfl) (by kernel_rfl) ?_
        simp only [Rg.pick, List.map_cons, List.map_nil, List.getD_cons_zero, List.getD_cons_succ]
        iterate 7 (refine Rg.ord_quiet (v := ?_) rfl (fun w' hS => ?_) ⟨b1, b2⟩ ?_; rotate_left; (obtain ⟨s1, s2⟩ := hS; go_simp; with_reducible rfl); simp only [Act.put, List.setIfInBounds_toArray, List.set_cons_succ, List.set_cons_zero])
        refine Rg.ord_loud rfl (fun K hK => ?_)
        go_simp
        have Hvd := hide (vs_drew Hvx.out)
        rw [Hlc.out]
        refine (bare_any 43 p.cm A3 c3 _ wx.drew Hvd.out (by rw [← Hlc.out]; omega)).mono ?_
        rintro y w2 ⟨v2, rfl, hown2, hb2⟩
        obtain ⟨Ai, ni, ci, rfl⟩ := owt_form hown2
        have Hown2 := hide (owt_base hown2 (show wp.heap.size ≤ _ from Hbx.out.size))
        have Hownw := hide (Hownx.out.drew.keep hb2)
        have hb2' : Below wp.heap.size wp w2 := Hbx.out.drew.trans (hb2.mono Hbx.out.size)
        have Hb2 := hide hb2'
        have hrow2 := Hrow.out.drew.below hb2 Hrow.out.lt
        have b1 := hrow2.cell 1
        have b2 := hrow2.cell 2
        simp only [List.getElem?_cons_zero, List.getElem?_cons_succ] at b1 b2
        rw [Hlc.out] at b2
        have Hrow2 := hide hrow2
        refine hK _ _ (fun _ => ⟨b1, by rw [Hlc.out]; exact b2⟩) ?_
        clear hK K hb2 hb2' hown2 hrow2
        have b2' : w2.cell? ⟨g, 2, none⟩ = some (.slice A3 lc c3) := by rw [Hlc.out]; exact b2
        iterate 1 (refine Rg.ord_quiet (v := ?_) rfl (fun w' hS => ?_) ⟨b1, b2'⟩ ?_; rotate_left; (obtain ⟨s1, s2⟩ := hS; go_simp; with_reducible rfl); simp only [Act.put, List.setIfInBounds_toArray, List.set_cons_succ, List.set_cons_zero])
        refine Rg.ord_loud rfl (fun K hK => ?_)
        go_simp
        have hrow3 := fun o => Hrow2.out.alloc o
        refine hK _ _ (fun _ => ⟨(hrow3 _).cell 1, (hrow3 _).cell 2⟩) ?_
        clear hK K
        try simp only [Act.put, List.setIfInBounds_toArray, List.set_cons_succ, List.set_cons_zero]
        refine Rg.ord_loud rfl (fun K hK => ?_)
        refine wp_pushE (.tmp 35) (.tmp 44) rfl wp.heap.size wp v (.slice Ai ni ci) T ⟨q + ls, lg, p.cm⟩ _ rfl rfl rfl Hownw.out Hown2.out (by have := HTM.out; omega) Hb2.out Hb2.out.size ?_
        intro v4 w4 hown4 hb4 hg4
        have hrow4 := Hrow2.out.grown hg4 (fun e => by
          obtain ⟨V, _, hr, _⟩ := Hownw.out
          rcases hr.2 with ⟨rfl, _⟩ | ⟨g', cap', cur', rfl, _, hgg', _⟩
          · cases e
          · simp only [Value.ownBlock, Option.some.injEq] at e
            subst e
            have := Hrow2.out
            unfold Row at this
            rw [hgg'] at this
            simp [tP, tE] at this)
        refine hK _ _ (fun _ => ⟨hrow4.cell 1, hrow4.cell 2⟩) ?_
        clear hK K
        simp only [Act.put, List.setIfInBounds_toArray, List.set_cons_succ, List.set_cons_zero]
        iterate 1 (refine Rg.ord_quiet (v := ?_) rfl (fun w' hS => ?_) ⟨hrow4.cell 1, hrow4.cell 2⟩ ?_; rotate_left; (go_simp; with_reducible rfl); simp only [Act.put, List.setIfInBounds_toArray, List.set_cons_succ, List.set_cons_zero])
        refine Rg.ord_nil ?_
        have d1 := hrow4.cell 1
        simp only [List.getElem?_cons_zero, List.getElem?_cons_succ] at d1
        clear hrow4 hrow3 hg4 b1 b2 b2'
        go_wp2
        have hX := HX.out
        exact ⟨⟨k + 1, _, q + ls + lg, _, rfl, by omega, by go_num, rfl, ⟨Hq.out.1, by rw [← hX]; exact Hq.out.2⟩, by have := HTk.out; rw [List.length_append, List.length_singleton]; omega, Hp2.out, hown4, hb4⟩, by simp [intOf]; omega⟩
      · go_wp2_with fail
        rw [← HWx.out, ← HGw.out]
        have b1 := Hrow.out.cell 1
        have b2 := Hrow.out.cell 2
        simp only [List.getElem?_cons_zero, List.getElem?_cons_succ] at b1 b2
        refine Rg.wp_region_ord (fun w' => w'.cell? ⟨g, 1, none⟩ = some (.slice A2 lg c2) ∧ w'.cell? ⟨g, 2, none⟩ = some (.slice A3 lc c3)) [(0, true), (1, true), (2, true), (3, true), (4, true), (5, true), (6, true), (7, false), (8, true), (9, false), (10, false), (11, true)] (by kernel_rfl) (by kernel_rfl) ?_
        simp only [Rg.pick, List.map_cons, List.map_nil, List.getD_cons_zero, List.getD_cons_succ]
        iterate 7 (refine Rg.ord_quiet (v := ?_) rfl (fun w' hS => ?_) ⟨b1, b2⟩ ?_; rotate_left; (obtain ⟨s1, s2⟩ := hS; go_simp; with_reducible rfl); simp only [Act.put, List.setIfInBounds_toArray, List.set_cons_succ, List.set_cons_zero])
        refine Rg.ord_loud rfl (fun K hK => ?_)
        go_simp
        have Hvd := hide (vs_drew Hvx.out)
        rw [Hlc.out]
        refine (bare_any 43 p.cm A3 c3 _ wx.drew Hvd.out (by rw [← Hlc.out]; omega)).mono ?_
        rintro y w2 ⟨v2, rfl, hown2, hb2⟩
        obtain ⟨Ai, ni, ci, rfl⟩ := owt_form hown2
        have Hown2 := hide (owt_base hown2 (show wp.heap.size ≤ _ from Hbx.out.size))
        have Hownw := hide (Hownx.out.drew.keep hb2)
        have hb2' : Below wp.heap.size wp w2 := Hbx.out.drew.trans (hb2.mono Hbx.out.size)
        have Hb2 := hide hb2'
        have hrow2 := Hrow.out.drew.below hb2 Hrow.out.lt
        have b1 := hrow2.cell 1
        have b2 := hrow2.cell 2
        simp only [List.getElem?_cons_zero, List.getElem?_cons_succ] at b1 b2
        rw [Hlc.out] at b2
        have Hrow2 := hide hrow2
        refine hK _ _ (fun _ => ⟨b1, by rw [Hlc.out]; exact b2⟩) ?_
        clear hK K hb2 hb2' hown2 hrow2
        have b2' : w2.cell? ⟨g, 2, none⟩ = some (.slice A3 lc c3) := by rw [Hlc.out]; exact b2
        iterate 1 (refine Rg.ord_quiet (v := ?_) rfl (fun w' hS => ?_) ⟨b1, b2'⟩ ?_; rotate_left; (obtain ⟨s1, s2⟩ := hS; go_simp; with_reducible rfl); simp only [Act.put, List.setIfInBounds_toArray, List.set_cons_succ, List.set_cons_zero])
        refine Rg.ord_loud rfl (fun K hK => ?_)
        go_simp
        have hrow3 := fun o => Hrow2.out.alloc o
        refine hK _ _ (fun _ => ⟨(hrow3 _).cell 1, (hrow3 _).cell 2⟩) ?_
        clear hK K
        try simp only [Act.put, List.setIfInBounds_toArray, List.set_cons_succ, List.set_cons_zero]
        refine Rg.ord_loud rfl (fun K hK => ?_)
        refine wp_pushE (.tmp 35) (.tmp 44) rfl wp.heap.size wp v (.slice Ai ni ci) T ⟨q + ls, lg, p.cm⟩ _ rfl rfl rfl Hownw.out Hown2.out (by have := HTM.out; omega) Hb2.out Hb2.out.size ?_
        intro v4 w4 hown4 hb4 hg4
        have hrow4 := Hrow2.out.grown hg4 (fun e => by
          obtain ⟨V, _, hr, _⟩ := Hownw.out
          rcases hr.2 with ⟨rfl, _⟩ | ⟨g', cap', cur', rfl, _, hgg', _⟩
          · cases e
          · simp only [Value.ownBlock, Option.some.injEq] at e
            subst e
            have := Hrow2.out
            unfold Row at this
            rw [hgg'] at this
            simp [tP, tE] at this)
        refine hK _ _ (fun _ => ⟨hrow4.cell 1, hrow4.cell 2⟩) ?_
        clear hK K
        simp only [Act.put, List.setIfInBounds_toArray, List.set_cons_succ, List.set_cons_zero]
        iterate 1 (refine Rg.ord_quiet (v := ?_) rfl (fun w' hS => ?_) ⟨hrow4.cell 1, hrow4.cell 2⟩ ?_; rotate_left; (go_simp; with_reducible rfl); simp only [Act.put, List.setIfInBounds_toArray, List.set_cons_succ, List.set_cons_zero])
        refine Rg.ord_nil ?_
        have d1 := hrow4.cell 1
        simp only [List.getElem?_cons_zero, List.getElem?_cons_succ] at d1
        clear hrow4 hrow3 hg4 b1 b2 b2'
        go_wp2
        have hX := HX.out
        exact ⟨⟨k + 1, _, q + ls + lg, _, rfl, by omega, by go_num, rfl, ⟨Hq.out.1, by rw [← hX]; exact Hq.out.2⟩, by have := HTk.out; rw [List.length_append, List.length_singleton]; omega, Hp2.out, hown4, hb4⟩, by simp [intOf]; omega⟩
    · obtain rfl : k = M := by omega
      have Hf := hide (show T = edP ha ps by rw [← Hpre.out, HM.out, List.drop_length, edP, List.append_nil])
      go_wp2
      go_ret
      exact ⟨_, rfl, by rw [← Hf.out]; exact Hown.out.base (by have := Hbp.out.size; omega), Hbp.out.trans (Hb.out.mono Hbp.out.size)⟩
end Go.Proofs.Ytiegkfjipcgheaa.Hu
