/-
  The law DagClosed, over any graph that keeps the contract.
-/
import Derived.Test.YtlfncnnfpniigaaDM
namespace Go.Proofs.Ytlfncnnfpniigaa.Dq
open Go Go.RowKit Kt Kg Lw Tr

theorem level_few {D : List Nd} (h : Okd D) (a : Bs) : -1 ≤ level D a ∧ level D a ≤ 20 := by
  cases hh : has D a with
  | false => rw [level_out hh]; omega
  | true =>
    have := lv_few h.inv hh
    have := h.few
    rw [level_in hh]; omega
theorem top_few {D : List Nd} (h : Okd D) (l : List Bs) : -1 ≤ (l.map (level D)).foldl max (-1) ∧ (l.map (level D)).foldl max (-1) ≤ 20 := by
  suffices ∀ (l : List Bs) (m : Int), -1 ≤ m → m ≤ 20 → -1 ≤ (l.map (level D)).foldl max m ∧ (l.map (level D)).foldl max m ≤ 20 from this l (-1) (by omega) (by omega)
  intro l
  induction l with
  | nil => intro m h1 h2; exact ⟨h1, h2⟩
  | cons x r ih =>
    intro m h1 h2
    have := level_few h x
    rw [List.map_cons, List.foldl_cons]
    exact ih _ (by omega) (by omega)
theorem top_next {D : List Nd} {l : List Bs} {k : Nat} {x : Bs} (hx : l[k]? = some x) : ((l.take (k + 1)).map (level D)).foldl max (-1) = max (((l.take k).map (level D)).foldl max (-1)) (level D x) := by
  rw [List.take_add_one, hx, List.map_append, List.foldl_append]; rfl
set_option maxRecDepth 100000 in
set_option maxHeartbeats 4000000 in
theorem lawClosed_any {In : World → (Nat → Prop) → Nat → List Nd → Prop} (l : List Nd) (A : Option Addr) (c : Nat) (w : World) (C : Cd w In) (hs : Nds w A c l) (hl : l.length ≤ 9223372036854775807) :
    Calls Try.prog 4 #[.slice A l.length c] w fun y w' => y = .returned (.bool true) ∧ Below w.heap.size w w' := by
  have HC := hide C
  have Hs := hide hs
  have Hl := hide hl
  have Hw := hide (dwake_any w C)
  obtain ⟨N0, hN0⟩ : ∃ N, N = l.length := ⟨_, rfl⟩
  have HN0 := hide hN0
  rw [← hN0] at hl ⊢
  clear C hs hN0
  go_enter Try.func4, Try.ntmps4
  go_wp2_with fail
  refine Hw.out.mono ?_
  rintro y w1 ⟨rfl, hb1⟩
  have HB1 := hide hb1
  have HFew := hide (rfew_any l A c w1 (Hs.out.keep hb1) Hl.out)
  rw [← HN0.out] at HFew
  clear hb1 Hw
  go_wp2_with fail
  refine HFew.out.mono ?_
  rintro y w2 ⟨rfl, hb2⟩
  have HB2 := hide (HB1.out.trans (hb2.mono HB1.out.size))
  clear hb2 HFew HB1
  cases hfe : fewN l with
  | false =>
    go_wp2
    go_ret
    exact ⟨rfl, HB2.out⟩
  | true =>
    have HAd := hide (added_any l A c w w2 HC.out HB2.out Hs.out hfe)
    rw [← HN0.out] at HAd
    clear hfe HB2
    go_wp2_with fail
    refine HAd.out.mono ?_
    rintro y w3 ⟨g, rfl, hg3, _⟩
    obtain ⟨D, hD⟩ : ∃ D, D = run l := ⟨_, rfl⟩
    rw [← hD] at hg3
    have HOk := hide hg3.ok
    have HG3 := hide hg3
    have HId := hide (hg3.ids HC.out)
    clear hg3 hD HAd
    go_wp2_with fail
    refine HId.out.mono ?_
    rintro y w4 ⟨v4, rfl, hown4, hb4⟩
    obtain ⟨A4, c4, rfl, hv4, _⟩ := own_vs hown4
    have HV4 := hide hv4
    have HG4 := hide (HG3.out.stay HC.out hb4)
    obtain ⟨N, hN⟩ : ∃ N, N = (all D true).length := ⟨_, rfl⟩
    have HN := hide hN
    rw [← hN]
    have hNl : N ≤ 20 := by rw [hN]; exact Nat.le_trans (all_len D true) HOk.out.few
    clear hown4 hb4 hv4 hN HId HG3
    go_wp2
    go_loopw [7] (fun i wr => ∃ j : Nat, i = .int .i64 j ∧ j ≤ N ∧ Hid (Below w4.heap.size w4 wr)) (fun i _ => N - (intOf i).toNat)
    case atStart => exact ⟨0, rfl, Nat.zero_le _, by show Hid _; exact hide (Below.refl _ _)⟩
    case round =>
      obtain ⟨j, rfl, hj, HB⟩ := hrel
      by_cases hlt : j < N
      · obtain ⟨a, ha⟩ : ∃ a, (all D true)[j]? = some a := ⟨_, List.getElem?_eq_getElem (by have := HN.out; omega)⟩
        have HOn := hide ((all_on HOk.out).1 (List.mem_of_getElem? ha))
        have HSa := hide (has_short HOk.out HOn.out)
        obtain ⟨ba, oa, rfl, hp4, k4⟩ := vs_at HV4.out ha
        have HX4 := hide (fun (wz : World) (hz : Below w4.heap.size w4 wz) => (World.cell?_of_block (a := ⟨ba, oa + j, none⟩) (hz.block ba hp4)).trans k4)
        have HPa := hide ((HG4.out.stay HC.out HB.out).parents HC.out a HSa.out)
        have hc4 := HX4.out wr HB.out
        clear ha hp4 k4
        obtain ⟨wo, hwo⟩ : ∃ z, z = wr := ⟨_, rfl⟩
        subst hwo
        go_wp2_with fail
        clear hc4
        refine HPa.out.mono ?_
        rintro y w6 ⟨v6, rfl, hown6, hb6⟩
        obtain ⟨A6, c6, rfl, hv6, _⟩ := own_vs hown6
        have HV6 := hide hv6
        have HB6 := hide (HB.out.trans (hb6.mono HB.out.size))
        have HG6 := hide (HG4.out.stay HC.out HB6.out)
        have HXa := hide (fun (wz : World) (hz : Below w6.heap.size w6 wz) => HX4.out wz (HB6.out.trans (hz.mono HB6.out.size)))
        obtain ⟨M, hM⟩ : ∃ N, N = (parents D a).length := ⟨_, rfl⟩
        have HM := hide hM
        rw [← hM]
        have hMl : M ≤ 6 := by rw [hM]; exact parents_len HOk.out a
        obtain ⟨la, hla⟩ : ∃ z, z = level D a := ⟨_, rfl⟩
        have HLa := hide hla
        have HTop := hide (level_top HOk.out.inv HOn.out)
        have HLf := hide (level_few HOk.out a)
        rw [← hla] at HTop HLf
        clear hown6 hb6 hv6 hM HPa hla HB
        go_wp2
        go_loopw [9, 10] (fun tv i wr => ∃ (t : Int) (k : Nat), tv = .int .i64 t ∧ i = .int .i64 k ∧ k ≤ M ∧ Hid (t = (((parents D a).take k).map (level D)).foldl max (-1)) ∧ Hid (Below w6.heap.size w6 wr)) (fun _ i _ => M - (intOf i).toNat)
        case atStart => exact ⟨-1, 0, rfl, rfl, Nat.zero_le _, by show Hid _; exact hide rfl, by show Hid _; exact hide (Below.refl _ _)⟩
        case round =>
          obtain ⟨t, k, rfl, rfl, hk, HT, HB⟩ := hrel
          by_cases hltk : k < M
          · obtain ⟨p, hp⟩ : ∃ z, (parents D a)[k]? = some z := ⟨_, List.getElem?_eq_getElem (by have := HM.out; omega)⟩
            have hpm := List.mem_of_getElem? hp
            have HFp := hide (parents_in HOk.out.inv hpm).1
            have HSp := hide (has_short HOk.out HFp.out)
            have HAp := hide (above_parent HOk.out.inv hpm)
            have HAa := hide (above_back HOk.out.inv hpm)
            have hlb := level_below HOk.out.inv hpm
            have HNx := hide (top_next (D := D) hp)
            obtain ⟨bp, op, rfl, hpb, kp⟩ := vs_at HV6.out hp
            have HXp := hide (fun (wz : World) (hz : Below w6.heap.size w6 wz) => (World.cell?_of_block (a := ⟨bp, op + k, none⟩) (hz.block bp hpb)).trans kp)
            obtain ⟨lp, hlp⟩ : ∃ z, z = level D p := ⟨_, rfl⟩
            rw [← hlp, ← HLa.out] at hlb
            rw [← hlp] at HNx
            have HLp := hide hlp
            have hge : decide (la ≤ lp) = false := decide_eq_false (by omega)
            obtain ⟨wv0, hwd⟩ : ∃ z, z = wr.drew := ⟨_, rfl⟩
            have HBv0 := hide (show Below w6.heap.size w6 wv0 by rw [hwd]; exact HB.out.drew)
            have HWd := hide hwd
            have hc := And.intro (HXp.out wv0 HBv0.out) (HXa.out wv0 HBv0.out)
            clear hp hpm hpb kp hlp hwd hlb
            have HC0 := hide (show Calls Try.prog 20 #[pt g, .string ⟨p.toArray⟩] wv0 fun y w' => y = .returned (.bool true) ∧ Below wv0.heap.size wv0 w' from by
              have := (HG6.out.stay HC.out (HBv0.out)).has HC.out p HSp.out
              rwa [HFp.out] at this)
            clear HB
            go_wp2
            refine Rg.wp_region_ord (fun w' => w'.cell? ⟨bp, op + k, none⟩ = some (.string ⟨p.toArray⟩) ∧ w'.cell? ⟨ba, oa + j, none⟩ = some (.string ⟨a.toArray⟩)) ((0, true) :: (1, true) :: (2, true) :: (3, true) :: (4, true) :: (5, false) :: (6, true) :: (7, true) :: (8, true) :: (9, true) :: (10, true) :: (11, true) :: (12, true) :: (14, true) :: (15, true) :: (16, true) :: (17, true) :: (18, true) :: (13, false) :: (19, false) :: (20, true) :: (21, true) :: (22, true) :: (23, true) :: (24, true) :: (25, true) :: (26, true) :: (27, true) :: (28, true) :: (29, true) :: (30, true) :: (31, true) :: (32, false) :: (33, true) :: (34, true) :: (35, true) :: (36, true) :: (37, true) :: (38, true) :: (39, true) :: (40, true) :: (41, true) :: (42, true) :: (43, true) :: (44, true) :: (45, false) :: (46, true) :: []) (by kernel_rfl) (by kernel_rfl) ?_
            simp only [Rg.pick, List.map_cons, List.map_nil, List.getD_cons_zero, List.getD_cons_succ]
            rw [← HWd.out]
            iterate 5 (refine Rg.ord_quiet (v := ?_) rfl (fun w' hS => ?_) hc ?_; rotate_left; (obtain ⟨s1, s2⟩ := hS; go_simp; with_reducible rfl); simp only [Act.put, List.setIfInBounds_toArray, List.set_cons_succ, List.set_cons_zero])
            refine Rg.ord_loud (by rfl) (fun K hK => ?_)
            go_simp
            refine HC0.out.mono ?_
            rintro y wv1 ⟨rfl, hbv⟩
            have HBv1 := hide (HBv0.out.trans (hbv.mono HBv0.out.size))
            clear hbv hc HC0
            have hc := And.intro (HXp.out wv1 HBv1.out) (HXa.out wv1 HBv1.out)
            have HC1 := hide (show Calls Try.prog 22 #[pt g, .string ⟨p.toArray⟩] wv1 fun y w' => y = .returned (.int .i64 lp) ∧ Below wv1.heap.size wv1 w' from by
              have := (HG6.out.stay HC.out (HBv1.out)).level HC.out p HSp.out
              rwa [← HLp.out] at this)
            refine hK _ _ (fun _ => hc) ?_
            clear hK K
            iterate 2 (refine Rg.ord_quiet (v := ?_) rfl (fun w' hS => ?_) hc ?_; rotate_left; (obtain ⟨s1, s2⟩ := hS; go_simp; with_reducible rfl); simp only [Act.put, List.setIfInBounds_toArray, List.set_cons_succ, List.set_cons_zero])
            iterate 10 (refine Rg.ord_guarded (v := ?_) (by rfl) (fun w' hS => ?_) hc ?_; rotate_left; (obtain ⟨s1, s2⟩ := hS; go_simp; with_reducible rfl); simp only [Act.put, List.setIfInBounds_toArray, List.set_cons_succ, List.set_cons_zero])
            refine Rg.ord_loud (by rfl) (fun K hK => ?_)
            go_simp
            refine HC1.out.mono ?_
            rintro y wv2 ⟨rfl, hbv⟩
            have HBv2 := hide (HBv1.out.trans (hbv.mono HBv1.out.size))
            clear hbv hc HC1
            have hc := And.intro (HXp.out wv2 HBv2.out) (HXa.out wv2 HBv2.out)
            have HC2 := hide (show Calls Try.prog 22 #[pt g, .string ⟨a.toArray⟩] wv2 fun y w' => y = .returned (.int .i64 la) ∧ Below wv2.heap.size wv2 w' from by
              have := (HG6.out.stay HC.out (HBv2.out)).level HC.out a HSa.out
              rwa [← HLa.out] at this)
            refine hK _ _ (fun _ => hc) ?_
            clear hK K
            refine Rg.ord_loud (by rfl) (fun K hK => ?_)
            go_simp
            refine HC2.out.mono ?_
            rintro y wv3 ⟨rfl, hbv⟩
            have HBv3 := hide (HBv2.out.trans (hbv.mono HBv2.out.size))
            clear hbv hc HC2
            have hc := And.intro (HXp.out wv3 HBv3.out) (HXa.out wv3 HBv3.out)
            have HC3 := hide (show Calls Try.prog 28 #[pt g, .string ⟨p.toArray⟩, .string ⟨a.toArray⟩] wv3 fun y w' => y = .returned (.bool true) ∧ Below wv3.heap.size wv3 w' from by
              have := (HG6.out.stay HC.out (HBv3.out)).above HC.out p a HSp.out HSa.out
              rwa [HAp.out] at this)
            refine hK _ _ (fun _ => hc) ?_
            clear hK K
            iterate 1 (refine Rg.ord_guarded (v := ?_) (by rfl) (fun w' hS => ?_) hc ?_; rotate_left; (obtain ⟨s1, s2⟩ := hS; go_simp; with_reducible rfl); simp only [Act.put, List.setIfInBounds_toArray, List.set_cons_succ, List.set_cons_zero])
            iterate 2 (refine Rg.ord_quiet (v := ?_) rfl (fun w' hS => ?_) hc ?_; rotate_left; (obtain ⟨s1, s2⟩ := hS; go_simp; with_reducible rfl); simp only [Act.put, List.setIfInBounds_toArray, List.set_cons_succ, List.set_cons_zero])
            iterate 9 (refine Rg.ord_guarded (v := ?_) (by rfl) (fun w' hS => ?_) hc ?_; rotate_left; (obtain ⟨s1, s2⟩ := hS; go_simp; with_reducible rfl); simp only [Act.put, List.setIfInBounds_toArray, List.set_cons_succ, List.set_cons_zero])
            refine Rg.ord_loud (by rfl) (fun K hK => ?_)
            go_simp
            refine HC3.out.mono ?_
            rintro y wv4 ⟨rfl, hbv⟩
            have HBv4 := hide (HBv3.out.trans (hbv.mono HBv3.out.size))
            clear hbv hc HC3
            have hc := And.intro (HXp.out wv4 HBv4.out) (HXa.out wv4 HBv4.out)
            have HC4 := hide (show Calls Try.prog 28 #[pt g, .string ⟨a.toArray⟩, .string ⟨p.toArray⟩] wv4 fun y w' => y = .returned (.bool false) ∧ Below wv4.heap.size wv4 w' from by
              have := (HG6.out.stay HC.out (HBv4.out)).above HC.out a p HSa.out HSp.out
              rwa [HAa.out] at this)
            refine hK _ _ (fun _ => hc) ?_
            clear hK K
            iterate 1 (refine Rg.ord_guarded (v := ?_) (by rfl) (fun w' hS => ?_) hc ?_; rotate_left; (obtain ⟨s1, s2⟩ := hS; go_simp; with_reducible rfl); simp only [Act.put, List.setIfInBounds_toArray, List.set_cons_succ, List.set_cons_zero])
            iterate 2 (refine Rg.ord_quiet (v := ?_) rfl (fun w' hS => ?_) hc ?_; rotate_left; (obtain ⟨s1, s2⟩ := hS; go_simp; with_reducible rfl); simp only [Act.put, List.setIfInBounds_toArray, List.set_cons_succ, List.set_cons_zero])
            iterate 9 (refine Rg.ord_guarded (v := ?_) (by rfl) (fun w' hS => ?_) hc ?_; rotate_left; (obtain ⟨s1, s2⟩ := hS; go_simp; with_reducible rfl); simp only [Act.put, List.setIfInBounds_toArray, List.set_cons_succ, List.set_cons_zero])
            refine Rg.ord_loud (by rfl) (fun K hK => ?_)
            go_simp
            refine HC4.out.mono ?_
            rintro y wv5 ⟨rfl, hbv⟩
            have HBv5 := hide (HBv4.out.trans (hbv.mono HBv4.out.size))
            clear hbv hc HC4
            have hc := And.intro (HXp.out wv5 HBv5.out) (HXa.out wv5 HBv5.out)
            have HC5 := hide (show Calls Try.prog 22 #[pt g, .string ⟨p.toArray⟩] wv5 fun y w' => y = .returned (.int .i64 lp) ∧ Below wv5.heap.size wv5 w' from by
              have := (HG6.out.stay HC.out (HBv5.out)).level HC.out p HSp.out
              rwa [← HLp.out] at this)
            refine hK _ _ (fun _ => hc) ?_
            clear hK K
            iterate 1 (refine Rg.ord_quiet (v := ?_) rfl (fun w' hS => ?_) hc ?_; rotate_left; (obtain ⟨s1, s2⟩ := hS; go_simp; with_reducible rfl); simp only [Act.put, List.setIfInBounds_toArray, List.set_cons_succ, List.set_cons_zero])
            refine Rg.ord_nil ?_
            have HTn := hide (show max t lp = (((parents D a).take (k + 1)).map (level D)).foldl max (-1) by rw [HNx.out, HT.out])
            clear HT
            go_wp2_with fail
            refine HC5.out.mono ?_
            rintro y w9 ⟨rfl, hb9⟩
            have HB9 := hide (HBv5.out.trans (hb9.mono HBv5.out.size))
            clear hb9 HC5 hc
            go_wp2
            have hmx : (if t < lp then lp else t) = max t lp := by rw [Int.max_def]; split <;> split <;> omega
            exact ⟨⟨max t lp, k + 1, (by rw [hmx]), by go_num, by omega, by show Hid _; exact HTn, by show Hid _; exact HB9⟩, by simp [intOf]; omega⟩
          · obtain rfl : k = M := by omega
            have hte : la = t + 1 := by
              have := HT.out
              rw [HM.out, List.take_length] at this
              rw [HTop.out, this]
            have htw : IntKind.i64.wrap (t + 1) = t + 1 := IntWalk.i64_in _ (by have := HLf.out; omega)
            have hne : (la != t + 1) = false := by rw [hte]; simp
            have hca := HXa.out wr HB.out
            have HLv := hide (show Calls Try.prog 22 #[pt g, .string ⟨a.toArray⟩] wr fun y w' => y = .returned (.int .i64 la) ∧ Below wr.heap.size wr w' from by
              have := (HG6.out.stay HC.out HB.out).level HC.out a HSa.out
              rwa [← HLa.out] at this)
            clear hte HT
            go_wp2_with fail
            refine HLv.out.mono ?_
            rintro y w7 ⟨rfl, hb7⟩
            have HB7 := hide (HB6.out.trans ((HB.out.trans (hb7.mono HB.out.size)).mono HB6.out.size))
            clear hb7 HLv hca
            go_wp2
            exact ⟨⟨j + 1, by go_num, by omega, by show Hid _; exact HB7⟩, by simp [intOf]; omega⟩
      · obtain rfl : j = N := by omega
        have HGj := hide (HG4.out.stay HC.out HB.out)
        have HWt := hide (HGj.out.waiting HC.out)
        clear HV4 HG4 HB
        go_wp2_with fail
        refine HWt.out.mono ?_
        rintro y w5 ⟨v5, rfl, hown5, hb5⟩
        obtain ⟨A5, c5, rfl, hv5, _⟩ := own_vs hown5
        have HV5 := hide hv5
        have HG5 := hide (HGj.out.stay HC.out hb5)
        obtain ⟨M, hM⟩ : ∃ N, N = (all D false).length := ⟨_, rfl⟩
        have HM := hide hM
        rw [← hM]
        have hMl : M ≤ 20 := by rw [hM]; exact Nat.le_trans (all_len D false) HOk.out.few
        clear hown5 hb5 hv5 hM HWt HGj
        go_wp2
        go_loopw [12] (fun i wr => ∃ k : Nat, i = .int .i64 k ∧ k ≤ M ∧ Hid (Below w5.heap.size w5 wr)) (fun i _ => M - (intOf i).toNat)
        case atStart => exact ⟨0, rfl, Nat.zero_le _, by show Hid _; exact hide (Below.refl _ _)⟩
        case round =>
          obtain ⟨k, rfl, hk, HB⟩ := hrel
          by_cases hltk : k < M
          · obtain ⟨x, hx⟩ : ∃ z, (all D false)[k]? = some z := ⟨_, List.getElem?_eq_getElem (by have := HM.out; omega)⟩
            have hoff := all_off HOk.out (List.mem_of_getElem? hx)
            have HSx := hide hoff.2
            have HOf := hide hoff.1
            obtain ⟨bx, ox, rfl, hpx, kx⟩ := vs_at HV5.out hx
            have HX := hide (fun (wz : World) (hz : Below w5.heap.size w5 wz) => (World.cell?_of_block (a := ⟨bx, ox + k, none⟩) (hz.block bx hpx)).trans kx)
            have hc := HX.out wr HB.out
            have HC1 := hide (show Calls Try.prog 20 #[pt g, .string ⟨x.toArray⟩] wr fun y w' => y = .returned (.bool false) ∧ Below wr.heap.size wr w' from by
              have := (HG5.out.stay HC.out HB.out).has HC.out x HSx.out
              rwa [HOf.out] at this)
            clear hx hoff hpx kx
            go_wp2_with fail
            refine HC1.out.mono ?_
            rintro y w6 ⟨rfl, hb6⟩
            have HB6 := hide (HB.out.trans (hb6.mono HB.out.size))
            clear hb6 HC1 hc HB
            have hc := HX.out w6 HB6.out
            have HC2 := hide (show Calls Try.prog 22 #[pt g, .string ⟨x.toArray⟩] w6 fun y w' => y = .returned (.int .i64 (-1)) ∧ Below w6.heap.size w6 w' from by
              have := (HG5.out.stay HC.out HB6.out).level HC.out x HSx.out
              rwa [level_out HOf.out] at this)
            go_wp2_with fail
            refine HC2.out.mono ?_
            rintro y w7 ⟨rfl, hb7⟩
            have HB7 := hide (HB6.out.trans (hb7.mono HB6.out.size))
            clear hb7 HC2 hc HB6
            have hc := HX.out w7 HB7.out
            have HC3 := hide ((HG5.out.stay HC.out HB7.out).parents HC.out x HSx.out)
            rw [parents_not HOf.out] at HC3
            go_wp2_with fail
            refine HC3.out.mono ?_
            rintro y w8 ⟨v8, rfl, hown8, hb8⟩
            obtain ⟨A8, c8, rfl, _, _⟩ := own_vs hown8
            have HB8 := hide (HB7.out.trans (hb8.mono HB7.out.size))
            clear hb8 HC3 hc HB7 hown8
            go_wp2
            exact ⟨⟨k + 1, by go_num, by omega, by show Hid _; exact HB8⟩, by simp [intOf]; omega⟩
          · obtain rfl : k = M := by omega
            have HMa := hide ((HG5.out.stay HC.out HB.out).many HC.out)
            rw [← HN.out] at HMa
            have hq : ((j : Int) == (j : Int)) = true := by simp
            go_wp2_with fail
            refine HMa.out.mono ?_
            rintro y w6 ⟨rfl, hb6⟩
            have HB6 := hide (HG5.out.low.trans ((HB.out.trans (hb6.mono HB.out.size)).mono HG5.out.low.size))
            clear hb6 HMa
            go_wp2
            go_ret
            exact ⟨rfl, HB6.out⟩
end Go.Proofs.Ytlfncnnfpniigaa.Dq
