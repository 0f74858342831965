/-
  The laws' same: what a store has, and what the document's has.
-/
import Derived.Test.YtcmjdepjckhpdaaDoorQRrC
import Derived.Test.YtcmjdepjckhpdaaDoorQSF
namespace Go.Proofs.YtcmjdepjckhpdaaDoor.So
open Go Go.RowKit Kt Kg Wr Lw Sha Dk Dg

theorem vs_keep {w w' : World} {A : Option Addr} {c : Nat} {vs : List Value} (h : Vs w (fun b => b < w.heap.size) A c vs) (hb : Below w.heap.size w w') : Vs w' (fun b => b < w.heap.size) A c vs :=
  ⟨h.1, fun h0 => by
    obtain ⟨b, o, e, hp, hc⟩ := h.2 h0
    exact ⟨b, o, e, hp, fun j v hj => (World.cell?_of_block (a := ⟨b, o + j, none⟩) (hb.block b hp)).trans (hc j v hj)⟩⟩
set_option maxRecDepth 100000 in
set_option maxHeartbeats 8000000 in
theorem same_any {w0 w : World} {In : World → (Nat → Prop) → Nat → Nat → List Bs → Prop} (C : Ct w0 In) {S T : Nat → Prop} {gs gd rs rd : Nat} {L : List Bs} (hlow : Below w0.heap.size w0 w) (h : In w S gs gd L) (hr : RsIn w T rs rd L) (hl : L.length ≤ 1000) (hn : (L.map sha).Nodup) :
    Calls Tryd.prog 20 #[pt gs, pt rs] w fun y w' => y = .returned (.bool true) ∧ Below w.heap.size w w' := by
  have HC := hide C
  have Hlow := hide hlow
  have H := hide h
  have Hr := hide hr
  have Hl := hide hl
  have Hn := hide hn
  obtain ⟨vi, va, hrow, hi, hva, _⟩ := hr
  obtain ⟨Ai, ci, rfl, hvi⟩ := hi.vs
  obtain ⟨Aa, ca, rfl, hvv⟩ := hva.vs
  rw [List.length_map] at hrow
  obtain ⟨K0, hK0⟩ : ∃ N, N = L.length := ⟨_, rfl⟩
  rw [← hK0] at hrow
  have HK := hide hK0
  have hKl : K0 ≤ 1000 := by rw [hK0]; exact hl
  have Hrow := hide hrow
  have Hvi := hide (vs_low hvi)
  have Hvv := hide (vs_low hvv)
  have HCell := hide (fun (wz : World) (hz : Below w.heap.size w wz) => show wz.cell? ⟨rs, 1, none⟩ = some (.slice Ai K0 ci) ∧ wz.cell? ⟨rs, 2, none⟩ = some (.slice Aa K0 ca) from ⟨(Hrow.out.below hz Hrow.out.lt).cell 1, (Hrow.out.below hz Hrow.out.lt).cell 2⟩)
  have HIn := hide (fun (wz : World) (hz : Below w.heap.size w wz) => show In wz S gs gd L from C.below h hz)
  have HLw := hide (fun (wz : World) (hz : Below w.heap.size w wz) => show Below w0.heap.size w0 wz from hlow.trans (hz.mono hlow.size))
  have b0 : ((K0 : Int) != (K0 : Int)) = false := by simp
  clear C hlow h hl hn hrow hi hva hvi hvv hK0
  have c1 := (HCell.out w (Below.refl _ _)).1
  go_enter Tryd.func20, Tryd.ntmps20
  go_wp2
  refine Rg.wp_region_ord (fun w' => w'.cell? ⟨rs, 1, none⟩ = some (.slice Ai K0 ci) ∧ True) [(0, true), (2, true), (3, true), (4, true), (5, true), (6, true), (1, false), (7, true), (8, true), (9, true), (11, true), (12, true), (13, true), (14, true), (10, false), (15, false), (16, true), (17, true)] (by kernel_rfl) (by kernel_rfl) ?_
  simp only [Rg.pick, List.map_cons, List.map_nil, List.getD_cons_zero, List.getD_cons_succ]
  iterate 6 (refine Rg.ord_quiet (v := ?_) rfl (fun w' hS => ?_) ⟨c1, trivial⟩ ?_; rotate_left; (obtain ⟨s1, _⟩ := hS; go_simp; with_reducible rfl); simp only [Act.put, List.setIfInBounds_toArray, List.set_cons_succ, List.set_cons_zero])
  refine Rg.ord_loud rfl (fun K hK => ?_)
  go_simp
  have hbd : Below w.heap.size w w.drew := (Below.refl _ w).drew
  refine (HC.out.many (HLw.out _ hbd) (HIn.out _ hbd) Hl.out).mono ?_
  rintro y w1 ⟨rfl, hb1⟩
  rw [← HK.out]
  have HB1 := hide (hbd.trans hb1)
  have c2 := (HCell.out w1 HB1.out).1
  clear hb1 hbd
  refine hK _ _ (fun _ => ⟨c2, trivial⟩) ?_
  clear hK K c1
  iterate 2 (refine Rg.ord_quiet (v := ?_) rfl (fun w' hS => ?_) ⟨c2, trivial⟩ ?_; rotate_left; (obtain ⟨s1, _⟩ := hS; go_simp; with_reducible rfl); simp only [Act.put, List.setIfInBounds_toArray, List.set_cons_succ, List.set_cons_zero])
  iterate 5 (refine Rg.ord_guarded (v := ?_) (by rfl) (fun w' hS => ?_) ⟨c2, trivial⟩ ?_; rotate_left; (obtain ⟨s1, _⟩ := hS; go_simp; with_reducible rfl); simp only [Act.put, List.setIfInBounds_toArray, List.set_cons_succ, List.set_cons_zero])
  refine Rg.ord_loud (by rfl) (fun K hK => ?_)
  go_simp
  refine (HC.out.ids (HLw.out _ HB1.out) (HIn.out _ HB1.out) Hl.out).mono ?_
  rintro y w2 ⟨v2, rfl, hown, hb2⟩
  obtain ⟨A2, k2, rfl, hv2⟩ := hown.vs
  rw [List.length_map, ← HK.out]
  have HV2 := hide hv2
  have HB2 := hide (HB1.out.trans (hb2.mono HB1.out.size))
  have c3 := (HCell.out w2 HB2.out).1
  clear hb2 hown hv2
  refine hK _ _ (fun _ => ⟨c3, trivial⟩) ?_
  clear hK K c2
  refine Rg.ord_loud (by rfl) (fun K hK => ?_)
  go_simp
  have HIds := hide (ids_any (L.map sha) (L.map sha) A2 Ai k2 ci _ _ w2 HV2.out (vs_keep Hvi.out HB2.out) (by rw [List.length_map]; have := Hl.out; omega))
  rw [List.length_map, ← HK.out, decide_eq_true rfl] at HIds
  refine HIds.out.mono ?_
  rintro y w3 ⟨rfl, hb3⟩
  have HB3 := hide (HB2.out.trans (hb3.mono HB2.out.size))
  have c4 := (HCell.out w3 HB3.out).1
  clear hb3 HIds HV2
  refine hK _ _ (fun _ => ⟨c4, trivial⟩) ?_
  clear hK K c3
  iterate 1 (refine Rg.ord_guarded (v := ?_) (by rfl) (fun w' hS => ?_) ⟨c4, trivial⟩ ?_; rotate_left; (obtain ⟨s1, _⟩ := hS; go_simp; with_reducible rfl); simp only [Act.put, List.setIfInBounds_toArray, List.set_cons_succ, List.set_cons_zero])
  iterate 1 (refine Rg.ord_quiet (v := ?_) rfl (fun w' hS => ?_) ⟨c4, trivial⟩ ?_; rotate_left; (obtain ⟨s1, _⟩ := hS; go_simp; with_reducible rfl); simp only [Act.put, List.setIfInBounds_toArray, List.set_cons_succ, List.set_cons_zero])
  refine Rg.ord_nil ?_
  go_wp2
  clear c4 b0
  go_loopw [5] (fun i wr => ∃ k : Nat, k ≤ K0 ∧ i = .int .i64 k ∧ Hid (Below w.heap.size w wr)) (fun i _ => K0 - (intOf i).toNat)
  case atStart => exact ⟨0, Nat.zero_le _, rfl, by show Hid _; exact HB3⟩
  case round =>
    obtain ⟨k, hk, rfl, HB⟩ := hrel
    clear HB1 HB2 HB3
    have c1 := (HCell.out wr HB.out).1
    by_cases hlt : k < K0
    · obtain ⟨x, hx⟩ : ∃ x, L[k]? = some x := ⟨_, List.getElem?_eq_getElem (by have := HK.out; omega)⟩
      have hxi : (L.map sha)[k]? = some (sha x) := by rw [List.getElem?_map, hx]; rfl
      have HG := hide (got_is Hn.out hx)
      have HM := hide (show decide (sha x ∈ L.map sha) = true from decide_eq_true (List.mem_of_getElem? hxi))
      obtain ⟨b, o, rfl, hpb, cx⟩ := vs_at Hvi.out hxi
      obtain ⟨b', o', rfl, hpb', cx'⟩ := vs_at Hvv.out hx
      have HX := hide (fun (wz : World) (hz : Below w.heap.size w wz) => show wz.cell? ⟨b, o + k, none⟩ = some (.string ⟨(sha x).toArray⟩) ∧ wz.cell? ⟨b', o' + k, none⟩ = some (.string ⟨x.toArray⟩) from ⟨(World.cell?_of_block (a := ⟨b, o + k, none⟩) (hz.block b hpb)).trans cx, (World.cell?_of_block (a := ⟨b', o' + k, none⟩) (hz.block b' hpb')).trans cx'⟩)
      have cr := (HX.out wr HB.out).1
      obtain ⟨id, hid⟩ : ∃ id, id = sha x := ⟨_, rfl⟩
      rw [← hid] at HG HM cr HX
      clear hx hxi hpb hpb' cx cx' hid
      go_wp2_with fail
      refine (HC.out.get id (HLw.out _ HB.out) (HIn.out _ HB.out) Hl.out).mono ?_
      rintro y w4 ⟨v4, rfl, hown, hb4⟩
      rw [HG.out, Option.getD_some] at hown
      rw [HG.out]
      simp only [Option.isSome_some]
      have HB4 := hide (HB.out.trans (hb4.mono HB.out.size))
      obtain ⟨A4, k4, rfl, hs4⟩ := hown.sl
      obtain ⟨n4, hn4⟩ : ∃ n, n = x.length := ⟨_, rfl⟩
      have hcv := sl_text (show Sl w4.drew _ A4 k4 x from hs4) hn4
      rw [← hn4]
      have c2 := HCell.out w4 HB4.out
      have e2 := HX.out w4 HB4.out
      obtain ⟨c21, c22⟩ := c2
      obtain ⟨e21, e22⟩ := e2
      have t0 : (!true) = false := rfl
      have hqx : (x != x) = false := by simp
      clear hb4 hown hs4 hn4 cr c1
      go_wp2
      refine Rg.wp_region_ord (fun w' => w'.cell? ⟨rs, 1, none⟩ = some (.slice (some ⟨b, o, none⟩) K0 ci) ∧ w'.cell? ⟨rs, 2, none⟩ = some (.slice (some ⟨b', o', none⟩) K0 ca) ∧ w'.cell? ⟨b, o + k, none⟩ = some (.string ⟨id.toArray⟩) ∧ w'.cell? ⟨b', o' + k, none⟩ = some (.string ⟨x.toArray⟩)) [(0, true), (1, true), (2, true), (3, true), (5, true), (6, true), (7, true), (8, true), (9, true), (10, true), (11, true), (4, false), (12, true), (13, true), (14, true), (15, true), (16, true), (17, true), (18, true), (19, true), (20, true), (21, true), (22, true), (23, false), (24, true), (25, true)] (by kernel_rfl) (by kernel_rfl) ?_
      simp only [Rg.pick, List.map_cons, List.map_nil, List.getD_cons_zero, List.getD_cons_succ]
      iterate 3 (refine Rg.ord_quiet (v := ?_) rfl (fun w' hS => ?_) ⟨c21, c22, e21, e22⟩ ?_; rotate_left; (obtain ⟨s1, s2, s3, s4⟩ := hS; go_simp; with_reducible rfl); simp only [Act.put, List.setIfInBounds_toArray, List.set_cons_succ, List.set_cons_zero])
      iterate 8 (refine Rg.ord_guarded (v := ?_) (by rfl) (fun w' hS => ?_) ⟨c21, c22, e21, e22⟩ ?_; rotate_left; (obtain ⟨s1, s2, s3, s4⟩ := hS; go_simp; with_reducible rfl); simp only [Act.put, List.setIfInBounds_toArray, List.set_cons_succ, List.set_cons_zero])
      refine Rg.ord_loud (by rfl) (fun K hK => ?_)
      go_simp
      refine hK _ _ (fun _ => ⟨c21, c22, e21, e22⟩) ?_
      clear hK K hcv
      iterate 1 (refine Rg.ord_guarded (v := ?_) (by rfl) (fun w' hS => ?_) ⟨c21, c22, e21, e22⟩ ?_; rotate_left; (obtain ⟨s1, s2, s3, s4⟩ := hS; go_simp; with_reducible rfl); simp only [Act.put, List.setIfInBounds_toArray, List.set_cons_succ, List.set_cons_zero])
      iterate 2 (refine Rg.ord_quiet (v := ?_) rfl (fun w' hS => ?_) ⟨c21, c22, e21, e22⟩ ?_; rotate_left; (obtain ⟨s1, s2, s3, s4⟩ := hS; go_simp; with_reducible rfl); simp only [Act.put, List.setIfInBounds_toArray, List.set_cons_succ, List.set_cons_zero])
      iterate 8 (refine Rg.ord_guarded (v := ?_) (by rfl) (fun w' hS => ?_) ⟨c21, c22, e21, e22⟩ ?_; rotate_left; (obtain ⟨s1, s2, s3, s4⟩ := hS; go_simp; with_reducible rfl); simp only [Act.put, List.setIfInBounds_toArray, List.set_cons_succ, List.set_cons_zero])
      refine Rg.ord_loud (by rfl) (fun K hK => ?_)
      go_simp
      have hbd : Below w.heap.size w w4.drew := HB4.out.drew
      refine (HC.out.has id (HLw.out _ hbd) (HIn.out _ hbd) Hl.out).mono ?_
      rintro y w5 ⟨rfl, hb5⟩
      rw [HM.out]
      have HB5 := hide (hbd.trans (hb5.mono hbd.size))
      have c3 := HCell.out w5 HB5.out
      have e3 := HX.out w5 HB5.out
      obtain ⟨c31, c32⟩ := c3
      obtain ⟨e31, e32⟩ := e3
      clear hb5 hbd c21 c22 e21 e22
      refine hK _ _ (fun _ => ⟨c31, c32, e31, e32⟩) ?_
      clear hK K
      iterate 1 (refine Rg.ord_guarded (v := ?_) (by rfl) (fun w' hS => ?_) ⟨c31, c32, e31, e32⟩ ?_; rotate_left; (obtain ⟨s1, s2, s3, s4⟩ := hS; go_simp; with_reducible rfl); simp only [Act.put, List.setIfInBounds_toArray, List.set_cons_succ, List.set_cons_zero])
      iterate 1 (refine Rg.ord_quiet (v := ?_) rfl (fun w' hS => ?_) ⟨c31, c32, e31, e32⟩ ?_; rotate_left; (obtain ⟨s1, s2, s3, s4⟩ := hS; go_simp; with_reducible rfl); simp only [Act.put, List.setIfInBounds_toArray, List.set_cons_succ, List.set_cons_zero])
      refine Rg.ord_nil ?_
      go_wp2
      exact ⟨⟨k + 1, by omega, by go_num, by show Hid _; exact HB5⟩, by simp [intOf]; omega⟩
    · obtain rfl : k = K0 := by omega
      have HN1 := hide (got_none (short_no L [63] (by decide)))
      have HN2 := hide (show decide (([] : Bs) ∈ L.map sha) = false from decide_eq_false (short_no L [] (by decide)))
      go_wp2_with fail
      refine (HC.out.get [63] (HLw.out _ HB.out) (HIn.out _ HB.out) Hl.out).mono ?_
      rintro y w4 ⟨v4, rfl, hown, hb4⟩
      rw [HN1.out]
      simp only [Option.isSome_none]
      have HB4 := hide (HB.out.trans (hb4.mono HB.out.size))
      clear hb4 hown c1
      go_wp2_with fail
      refine (HC.out.has [] (HLw.out _ HB4.out) (HIn.out _ HB4.out) Hl.out).mono ?_
      rintro y w5 ⟨rfl, hb5⟩
      rw [HN2.out]
      have HB5 := hide (HB4.out.trans (hb5.mono HB4.out.size))
      clear hb5
      go_wp2
      go_ret
      exact ⟨rfl, HB5.out⟩
end Go.Proofs.YtcmjdepjckhpdaaDoor.So
namespace Go.Proofs.YtcmjdepjckhpdaaDoor.So
open Go Go.RowKit Kt Kg Wr Lw Sha Dk Dg

theorem Ct.fresh {w0 w : World} {In : World → (Nat → Prop) → Nat → Nat → List Bs → Prop} (C : Ct w0 In) {Sd : Nat → Prop} {gd n : Nat} (hlow : Below w0.heap.size w0 w) (hd : DkIn w Sd gd (new n)) (hn : n ≤ 16777216) (hup : ∀ k, Sd k → w0.heap.size ≤ k) :
    Calls Tryd.prog 12 #[pt gd] w fun y w' => ∃ gs S Sd', y = .returned (.tuple #[pt gs, .int .i64 0]) ∧ In w' S gs gd [] ∧ DkIn w' Sd' gd (new n) ∧ Below w0.heap.size w0 w' ∧
      (∀ k, S k ∨ Sd' k → w0.heap.size ≤ k) ∧ ∀ k, S k → ¬ Sd' k := by
  refine (C.opened hlow hd (new_fit hn) rfl hup (Nat.zero_le _)).mono ?_
  rintro y w' (⟨h, _⟩ | ⟨_, gs, S, Sd', rfl, h1, h2, h3, h4, h5, h6⟩)
  · exact absurd rfl h
  · exact ⟨gs, S, Sd', rfl, h1, h3, oth_low h4 hlow hup, fun k hk => hk.elim (fun x => Nat.le_trans hlow.size (h2 k x)) fun x => (h5 k x).elim (hup k) fun x => Nat.le_trans hlow.size x, h6⟩
theorem sum_abc : (sha [97, 98, 99]).take 4 = [186, 120, 22, 191] := by kernel_rfl
theorem rec_abc : record [97, 98, 99] = [3, 97, 98, 99, 186, 120, 22, 191] := by
  unfold record
  rw [sum_abc, show form ([97, 98, 99] : Bs).length = [3] from by rw [show ([97, 98, 99] : Bs).length = 3 from rfl, form]; rfl]; rfl
theorem wake_abc : put ⟨new 100, []⟩ [97, 98, 99] = (⟨⟨[3, 97, 98, 99, 186, 120, 22, 191], 100, -1, false⟩, [[97, 98, 99]]⟩, sha [97, 98, 99], 0) := by
  unfold put
  rw [if_neg (by decide), if_neg (by simp), rec_abc]
  rfl
set_option maxHeartbeats 4000000 in
set_option maxRecDepth 100000 in
theorem swake_any {In : World → (Nat → Prop) → Nat → Nat → List Bs → Prop} (w : World) (C : Ct w In) (hT : TabR w) : Calls Tryd.prog 9 #[] w fun y w' => y = .returned (.bool true) ∧ Below w.heap.size w w' := by
  have HC := hide C
  have HT := hide hT
  have H1 := hide (new_yes 100 (by decide) w)
  clear C hT
  go_enter Tryd.func9, Tryd.ntmps9
  go_wp2_with fail
  refine H1.out.mono ?_
  rintro y w1 ⟨g, rfl, hD, hg, hb⟩
  have HF := hide (HC.out.fresh hb hD (by decide) (fun k hk => by rw [hk, hg]; exact Nat.le_refl _))
  clear H1 hD hg hb
  go_wp2_with fail
  refine HF.out.mono ?_
  rintro y w2 ⟨gs, S, Sd, rfl, hI, hD, hb, hup, hap⟩
  have hs1 := lit_sl w2 [97, 98, 99] #[.int .u8 97, .int .u8 98, .int .u8 99] (3, 4) rfl
  have hcv := Lib.run_convert_bytes_const (P := Tryd.prog) w2 38 tU8 #[.int .u8 97, .int .u8 98, .int .u8 99] 3 3 Tryd.underlying38 Tryd.underlying5
  simp only [List.size_toArray, List.length_cons, List.length_nil, Nat.reduceAdd] at hcv
  have hb1 := (Below.refl w2.heap.size w2).alloc (Nat.le_refl _) (.cells #[.int .u8 97, .int .u8 98, .int .u8 99] tU8 (3, 4))
  have hb2 := hb.trans (hb1.mono hb.size)
  have P1 := HC.out.put [97, 98, 99] _ _ _ hb2 (HC.out.below hI hb1) (hD.below hb1) (new_fit (by decide)) hap hup hs1 (fun k hk => ⟨fun h => by have := HC.out.lt hI k h; omega, fun h => by have := hD.lt k h; omega⟩) (by decide) (by decide)
  rw [wake_abc] at P1
  have HP1 := hide P1
  have HB2 := hide hb2
  have HUp := hide hup
  clear P1 hs1 hI hD hb hb1 hb2 hup hap HF
  obtain ⟨I, hI⟩ : ∃ I, I = sha [97, 98, 99] := ⟨_, rfl⟩
  rw [← hI] at HP1
  go_wp2_with fail
  refine HP1.out.mono ?_
  clear hcv
  rintro y w3 ⟨rfl, S', Sd', hI3, hD3, ho3, hup3, hap3⟩
  have HB3 := hide (oth_low ho3 HB2.out HUp.out)
  have HI3 := hide hI3
  have HD3 := hide hD3
  have hgot : got [[97, 98, 99]] I = some [97, 98, 99] := by rw [hI]; exact got_is (L := [[97, 98, 99]]) (i := 0) (by simp) rfl
  have HGet := hide (HC.out.get I HB3.out hI3 (by decide))
  rw [hgot] at HGet
  simp only [Option.isSome_some, Option.getD_some] at HGet
  have HI := hide hI
  clear hI3 hD3 ho3 hup3 hap3 hI hgot HP1 HB2
  go_wp2_with fail
  refine HGet.out.mono ?_
  rintro y w4 ⟨v, rfl, hown, hb4⟩
  have HB4 := hide (HB3.out.trans (hb4.mono HB3.out.size))
  have HI4 := hide (HC.out.below HI3.out hb4)
  have HD4 := hide (HD3.out.below hb4)
  obtain ⟨A4, k4, rfl, hs4⟩ := hown.sl
  have HS4 := hide (hs4.bound)
  have hcv := Lib.run_convert_bytes_const (P := Tryd.prog) w4 38 tU8 #[.int .u8 97, .int .u8 98, .int .u8 99] 3 3 Tryd.underlying38 Tryd.underlying5
  simp only [List.size_toArray, List.length_cons, List.length_nil, Nat.reduceAdd] at hcv
  have hs5 := lit_sl w4 [97, 98, 99] #[.int .u8 97, .int .u8 98, .int .u8 99] (3, 4) rfl
  have hb5 := (Below.refl w4.heap.size w4).alloc (Nat.le_refl _) (.cells #[.int .u8 97, .int .u8 98, .int .u8 99] tU8 (3, 4))
  have HB5 := hide (HB4.out.trans (hb5.mono HB4.out.size))
  have HOf := hide (rof_any [97, 98, 99] _ _ _ _ hs5 (by decide) (tabR_keep HT.out HB5.out))
  rw [← HI.out] at HOf
  have HH5 := hide hb5
  clear hown hb4 hs4 hs5 hb5 HGet HI3 HD3 HB3
  go_wp2_with fail
  refine HOf.out.mono ?_
  clear hcv
  rintro y w6 ⟨rfl, hb6⟩
  have HB6 := hide (HB5.out.trans (hb6.mono HB5.out.size))
  have HH6 := hide (HH5.out.trans (hb6.mono HH5.out.size))
  have HI6 := hide (HC.out.below (HC.out.below HI4.out HH5.out) hb6)
  have HD6 := hide ((HD4.out.below HH5.out).below hb6)
  have HS6 := hide (HS4.out.move (w' := w6) fun k hk _ => HH6.out.block k hk.2)
  have hct := sl_text HS6.out (show 3 = ([97, 98, 99] : Bs).length from rfl)
  have hqq : (I == I) = true := by simp
  have HBy := hide (bytes_call HD6.out (show Dk.St.fit ⟨[3, 97, 98, 99, 186, 120, 22, 191], 100, -1, false⟩ from ⟨by decide, by decide, by decide, by decide⟩))
  clear hb6 HOf HB5 HH5 HI4 HD4 HS4 HB4
  go_wp2_with fail
  refine HBy.out.mono ?_
  rintro y w7 ⟨v7, rfl, hown, hb7⟩
  obtain ⟨A7, k7, rfl, hs7⟩ := hown.sl
  have HB7 := hide (HB6.out.trans (hb7.mono HB6.out.size))
  have HI7 := hide (HC.out.below HI6.out hb7)
  obtain ⟨w8, hw8⟩ : ∃ z, z = w7.alloc (.cells #[.int .u8 3, .int .u8 97, .int .u8 98, .int .u8 99, .int .u8 186, .int .u8 120, .int .u8 22, .int .u8 191] tU8) := ⟨_, rfl⟩
  obtain ⟨q8, hq8⟩ : ∃ z, z = w7.heap.size := ⟨_, rfl⟩
  have hb8 : Below w7.heap.size w7 w8 := by rw [hw8]; exact (Below.refl _ w7).alloc (Nat.le_refl _) _
  have HB8 := hide (HB7.out.trans (hb8.mono HB7.out.size))
  have HI8 := hide (HC.out.below HI7.out hb8)
  have HCmp := hide (bytes_two [3, 97, 98, 99, 186, 120, 22, 191] [3, 97, 98, 99, 186, 120, 22, 191] A7 (some ⟨q8, 0, none⟩) 8 8 k7 8 _ _ w8 (hs7.bound.move (w' := w8) fun k hk _ => hb8.block k hk.2)
    (show Sl w8 (fun k => k = q8) _ _ _ from by
      rw [hw8, hq8]
      exact lit_sl w7 [3, 97, 98, 99, 186, 120, 22, 191] _ _ rfl) rfl rfl (by decide))
  have HW8 := hide hw8
  have HQ8 := hide hq8
  clear hown hb7 hs7 hb8 hw8 hq8 HBy HI6 HD6 HS6 HH6 HB6 hct hqq
  go_wp2_with fail
  rw [← HW8.out, ← HQ8.out]
  refine HCmp.out.mono ?_
  rintro y w9 ⟨rfl, hb9⟩
  simp only [decide_true]
  have HB9 := hide (HB8.out.trans (hb9.mono HB8.out.size))
  have HI9 := hide (HC.out.below HI8.out hb9)
  clear hb9 HCmp HW8 HQ8 HB8 HI8
  go_wp2_with fail
  refine (HC.out.many HB9.out HI9.out (by decide)).mono ?_
  rintro y wa ⟨rfl, hba⟩
  have HBa := hide (HB9.out.trans (hba.mono HB9.out.size))
  have HIa := hide (HC.out.below HI9.out hba)
  have HMem := hide (show decide (I ∈ ([[97, 98, 99]] : List Bs).map sha) = true from decide_eq_true (by rw [HI.out]; simp))
  clear hba HB9 HI9
  go_wp2_with fail
  refine (HC.out.has I HBa.out HIa.out (by decide)).mono ?_
  rintro y wb ⟨rfl, hbb⟩
  rw [HMem.out]
  have HBb := hide (HBa.out.trans (hbb.mono HBa.out.size))
  clear hbb HBa HIa HMem
  go_wp2
  go_ret
  exact ⟨rfl, HBb.out⟩
end Go.Proofs.YtcmjdepjckhpdaaDoor.So
namespace Go.Proofs.YtcmjdepjckhpdaaDoor.So
open Go Go.RowKit Kt Kg Wr Lw Sha Dk Dg

theorem rel14 {s : Dk.St} {r : Rt} {L : List Bs} {b : Bs} (h : Rel s r) (hf : s.fit) : (put ⟨s, L⟩ b).2 = (rput14 r L b).2 ∧ Rel (put ⟨s, L⟩ b).1.s (rput14 r L b).1.1 ∧ (put ⟨s, L⟩ b).1.L = (rput14 r L b).1.2 := by
  obtain ⟨h1, h2⟩ := h.put hf (record b)
  unfold So.put rput14
  simp only []
  rw [h2]
  by_cases hl : 131072 < b.length
  · simp only [if_pos hl]
    exact ⟨trivial, h, trivial⟩
  · simp only [if_neg hl]
    by_cases hm : sha b ∈ L.map sha
    · simp only [if_pos hm]
      exact ⟨trivial, h, trivial⟩
    · simp only [if_neg hm]
      by_cases he : (rput r (record b)).2 = 0
      · simp only [if_pos he]
        exact ⟨trivial, h1, trivial⟩
      · simp only [if_neg he]
        exact ⟨trivial, h1, trivial⟩
theorem rput14_any {w : World} {S Sd : Nat → Prop} {gs gd : Nat} {r : Rt} {L : List Bs} (h : RsIn w S gs gd L) (hd : RtIn w Sd gd r) (hf : r.fit) (hap : ∀ k, S k → ¬ Sd k) (b : Bs) (A : Option Addr) (c : Nat) (Pb : Nat → Prop) (hs : Sl w Pb A c b) (hP : ∀ k, Pb k → ¬ S k ∧ ¬ Sd k) (hl : L.length ≤ 1000000) (hT : TabR w) :
    Calls Tryd.prog 16 #[.pointer (some ⟨gs, 0, none⟩), .slice A b.length c] w fun y w' => y = .returned (.tuple #[.string ⟨(rput14 r L b).2.1.toArray⟩, .int .i64 ((rput14 r L b).2.2 : Int)]) ∧ Kept w S Sd gs gd (rput14 r L b).1.1 (rput14 r L b).1.2 w' := by
  by_cases h1 : 131072 < b.length
  · exact rput14_no h hd hap b A c Pb hs hl hT (.inl h1)
  · by_cases h2 : sha b ∈ L.map sha
    · exact rput14_no h hd hap b A c Pb hs hl hT (.inr h2)
    · exact rput14_yes h hd hf hap b A c Pb hs hP hl hT h1 h2
/-- the reference's Open of a new disk -/
theorem ropen_new {w0 w : World} {Sd : Nat → Prop} {gd n : Nat} (hlow : Below w0.heap.size w0 w) (hd : RtIn w Sd gd ⟨[], n, false, 0, false⟩) (hup : ∀ k, Sd k → w0.heap.size ≤ k) (hT : TabR w0) :
    Calls Tryd.prog 13 #[pt gd] w fun y w' => ∃ gs S Sd', y = .returned (.tuple #[pt gs, .int .i64 0]) ∧ RsIn w' S gs gd [] ∧ RtIn w' Sd' gd ⟨[], n, false, 0, false⟩ ∧ Below w0.heap.size w0 w' ∧
      (∀ k, S k ∨ Sd' k → w0.heap.size ≤ k) ∧ (∀ k, S k → w.heap.size ≤ k) ∧ (∀ k, Sd' k → Sd k ∨ w.heap.size ≤ k) ∧ Oth Sd w w' ∧ ∀ k, S k → ¬ Sd' k := by
  refine (ropen_any hd rfl (Nat.zero_le _) (tabR_keep hT hlow)).mono ?_
  rintro y w' (⟨h, _⟩ | ⟨_, gs, S, Sd', rfl, h1, h2, h3, h4, h5, h6⟩)
  · exact absurd rfl h
  · exact ⟨gs, S, Sd', rfl, h1, h3, oth_low h4 hlow hup, fun k hk => hk.elim (fun x => Nat.le_trans hlow.size (h2 k x)) fun x => (h5 k x).elim (hup k) fun x => Nat.le_trans hlow.size x, h2, h5, h4, h6⟩
end Go.Proofs.YtcmjdepjckhpdaaDoor.So
namespace Go.Proofs.YtcmjdepjckhpdaaDoor.So
open Go Go.RowKit Kt Kg Wr Lw Sha Dk Dg

theorem Ct.fresh2 {w0 w : World} {In : World → (Nat → Prop) → Nat → Nat → List Bs → Prop} (C : Ct w0 In) {Sd : Nat → Prop} {gd n : Nat} (hlow : Below w0.heap.size w0 w) (hd : DkIn w Sd gd (new n)) (hn : n ≤ 16777216) (hup : ∀ k, Sd k → w0.heap.size ≤ k) :
    Calls Tryd.prog 12 #[pt gd] w fun y w' => ∃ gs S Sd', y = .returned (.tuple #[pt gs, .int .i64 0]) ∧ In w' S gs gd [] ∧ DkIn w' Sd' gd (new n) ∧ Below w0.heap.size w0 w' ∧
      (∀ k, S k ∨ Sd' k → w0.heap.size ≤ k) ∧ (∀ k, S k → w.heap.size ≤ k) ∧ (∀ k, Sd' k → Sd k ∨ w.heap.size ≤ k) ∧ Oth Sd w w' ∧ ∀ k, S k → ¬ Sd' k := by
  refine (C.opened hlow hd (new_fit hn) rfl hup (Nat.zero_le _)).mono ?_
  rintro y w' (⟨h, _⟩ | ⟨_, gs, S, Sd', rfl, h1, h2, h3, h4, h5, h6⟩)
  · exact absurd rfl h
  · exact ⟨gs, S, Sd', rfl, h1, h3, oth_low h4 hlow hup, fun k hk => hk.elim (fun x => Nat.le_trans hlow.size (h2 k x)) fun x => (h5 k x).elim (hup k) fun x => Nat.le_trans hlow.size x, h2, h5, h4, h6⟩
/-- the program's store and its disk, in blocks of its own from w0 on -/
def PS (In : World → (Nat → Prop) → Nat → Nat → List Bs → Prop) (w0 w : World) (U : Nat → Prop) (gs g : Nat) (x : Ss) : Prop :=
  ∃ S Sd, In w S gs g x.L ∧ DkIn w Sd g x.s ∧ (∀ k, S k ∨ Sd k → U k ∧ w0.heap.size ≤ k) ∧ ∀ k, S k → ¬ Sd k
/-- the document's store and its disk -/
def DS (w0 w : World) (U : Nat → Prop) (gs g : Nat) (r : Rt) (L : List Bs) : Prop :=
  ∃ S Sd, RsIn w S gs g L ∧ RtIn w Sd g r ∧ (∀ k, S k ∨ Sd k → U k ∧ w0.heap.size ≤ k) ∧ ∀ k, S k → ¬ Sd k
section
variable {In : World → (Nat → Prop) → Nat → Nat → List Bs → Prop} {w0 w w' : World} {U V : Nat → Prop} {gs g : Nat} {x : Ss} {r : Rt} {L : List Bs}
theorem PS.oth (C : Ct w0 In) (h : PS In w0 w U gs g x) (ho : Oth V w w') (hd : ∀ k, k < w.heap.size → U k → ¬ V k) : PS In w0 w' U gs g x := by
  obtain ⟨S, Sd, h1, h2, h3, h4⟩ := h
  exact ⟨S, Sd, C.oth h1 ho fun k hk => hd k (C.lt h1 k hk) (h3 k (.inl hk)).1, h2.oth ho fun k hk => hd k (h2.lt k hk) (h3 k (.inr hk)).1, h3, h4⟩
theorem DS.oth (h : DS w0 w U gs g r L) (ho : Oth V w w') (hd : ∀ k, k < w.heap.size → U k → ¬ V k) : DS w0 w' U gs g r L := by
  obtain ⟨S, Sd, h1, h2, h3, h4⟩ := h
  exact ⟨S, Sd, h1.oth ho fun k hk => hd k (h1.lt k hk) (h3 k (.inl hk)).1, h2.oth ho fun k hk => hd k (h2.lt k hk) (h3 k (.inr hk)).1, h3, h4⟩
theorem PS.below (C : Ct w0 In) (h : PS In w0 w U gs g x) (hb : Below w.heap.size w w') : PS In w0 w' U gs g x := h.oth (V := fun _ => False) C (Oth.of_below _ hb) fun _ _ _ h => h
theorem DS.below (h : DS w0 w U gs g r L) (hb : Below w.heap.size w w') : DS w0 w' U gs g r L := h.oth (V := fun _ => False) (Oth.of_below _ hb) fun _ _ _ h => h
theorem PS.imp (h : PS In w0 w U gs g x) (C : Ct w0 In) (hi : ∀ k, k < w.heap.size → U k → V k) : PS In w0 w V gs g x := by
  obtain ⟨S, Sd, h1, h2, h3, h4⟩ := h
  exact ⟨S, Sd, h1, h2, fun k hk => ⟨hi k (hk.elim (C.lt h1 k) (h2.lt k)) (h3 k hk).1, (h3 k hk).2⟩, h4⟩
theorem DS.imp (h : DS w0 w U gs g r L) (hi : ∀ k, k < w.heap.size → U k → V k) : DS w0 w V gs g r L := by
  obtain ⟨S, Sd, h1, h2, h3, h4⟩ := h
  exact ⟨S, Sd, h1, h2, fun k hk => ⟨hi k (hk.elim (h1.lt k) (h2.lt k)) (h3 k hk).1, (h3 k hk).2⟩, h4⟩
theorem PS.put (C : Ct w0 In) (h : PS In w0 w U gs g x) (hlow : Below w0.heap.size w0 w) (hf : x.s.fit) (b : Bs) (A : Option Addr) (c : Nat) (Pb : Nat → Prop) (hs : Sl w Pb A c b) (hP : ∀ k, Pb k → ¬ U k) (hb : b.length ≤ 1000) (hl : x.L.length ≤ 1000) :
    Calls Tryd.prog 15 #[pt gs, .slice A b.length c] w fun y w' => y = .returned (.tuple #[.string ⟨(So.put x b).2.1.toArray⟩, .int .i64 ((So.put x b).2.2 : Int)]) ∧
      PS In w0 w' (fun k => U k ∨ w.heap.size ≤ k) gs g (So.put x b).1 ∧ Oth U w w' ∧ Below w0.heap.size w0 w' := by
  obtain ⟨S, Sd, h1, h2, h3, h4⟩ := h
  refine (C.put b A c Pb hlow h1 h2 hf h4 (fun k hk => (h3 k hk).2) hs (fun k hk => ⟨fun z => hP k hk (h3 k (.inl z)).1, fun z => hP k hk (h3 k (.inr z)).1⟩) hb hl).mono ?_
  rintro y w' ⟨rfl, S', Sd', q1, q2, q3, q4, q5⟩
  have q6 : ∀ k, S' k ∨ Sd' k → (U k ∨ w.heap.size ≤ k) ∧ w0.heap.size ≤ k := fun k hk => by
    rcases q4 k hk with z | z | z
    · exact ⟨.inl (h3 k (.inl z)).1, (h3 k (.inl z)).2⟩
    · exact ⟨.inl (h3 k (.inr z)).1, (h3 k (.inr z)).2⟩
    · exact ⟨.inr z, Nat.le_trans hlow.size z⟩
  exact ⟨rfl, ⟨S', Sd', q1, q2, q6, q5⟩, q3.mono fun k _ hk => (h3 k hk).1, oth_low q3 hlow fun k hk => (h3 k hk).2⟩
theorem DS.put (h : DS w0 w U gs g r L) (hlow : Below w0.heap.size w0 w) (hf : r.fit) (hT : TabR w0) (b : Bs) (A : Option Addr) (c : Nat) (Pb : Nat → Prop) (hs : Sl w Pb A c b) (hP : ∀ k, Pb k → ¬ U k) (hl : L.length ≤ 1000) :
    Calls Tryd.prog 16 #[pt gs, .slice A b.length c] w fun y w' => y = .returned (.tuple #[.string ⟨(rput14 r L b).2.1.toArray⟩, .int .i64 ((rput14 r L b).2.2 : Int)]) ∧
      DS w0 w' (fun k => U k ∨ w.heap.size ≤ k) gs g (rput14 r L b).1.1 (rput14 r L b).1.2 ∧ Oth U w w' ∧ Below w0.heap.size w0 w' := by
  obtain ⟨S, Sd, h1, h2, h3, h4⟩ := h
  refine (rput14_any h1 h2 hf h4 b A c Pb hs (fun k hk => ⟨fun z => hP k hk (h3 k (.inl z)).1, fun z => hP k hk (h3 k (.inr z)).1⟩) (by omega) (tabR_keep hT hlow)).mono ?_
  rintro y w' ⟨rfl, S', Sd', q1, q2, q3, q4, q5, q6⟩
  have q7 : ∀ k, S' k ∨ Sd' k → (U k ∨ w.heap.size ≤ k) ∧ w0.heap.size ≤ k := fun k hk => by
    rcases hk with hk | hk
    · rcases q4 k hk with z | z
      · exact ⟨.inl (h3 k (.inl z)).1, (h3 k (.inl z)).2⟩
      · exact ⟨.inr z, Nat.le_trans hlow.size z⟩
    · rcases q5 k hk with z | z
      · exact ⟨.inl (h3 k (.inr z)).1, (h3 k (.inr z)).2⟩
      · exact ⟨.inr z, Nat.le_trans hlow.size z⟩
  exact ⟨rfl, ⟨S', Sd', q1, q2, q7, q6⟩, q3.mono fun k _ hk => (h3 k hk).1, oth_low q3 hlow fun k hk => (h3 k hk).2⟩
end
end Go.Proofs.YtcmjdepjckhpdaaDoor.So
