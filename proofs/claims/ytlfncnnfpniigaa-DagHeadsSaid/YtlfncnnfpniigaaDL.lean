/-
  The law DagHeads, over any graph that keeps the contract.
-/
import Derived.Test.YtlfncnnfpniigaaDK
namespace Go.Proofs.Ytlfncnnfpniigaa.Dq
open Go Go.RowKit Kt Kg Lw Tr

theorem has_short {D : List Nd} (h : Okd D) {id : Bs} (hh : has D id = true) : id.length ≤ 40 := by
  obtain ⟨n, hn, rfl, _⟩ := (has_iff h.inv.up).1 hh
  exact (h.ids n hn).1
theorem all_on {D : List Nd} (h : Okd D) {id : Bs} : id ∈ all D true ↔ has D id = true := by
  unfold all
  rw [has_iff h.inv.up, List.mem_map]
  constructor
  · rintro ⟨n, hn, rfl⟩
    obtain ⟨h1, h2⟩ := List.mem_filter.1 hn
    exact ⟨n, h1, rfl, by simpa using h2⟩
  · rintro ⟨n, hn, rfl, ho⟩
    exact ⟨n, List.mem_filter.2 ⟨hn, by simpa using ho⟩, rfl⟩
theorem all_off {D : List Nd} (h : Okd D) {id : Bs} (hm : id ∈ all D false) : has D id = false ∧ id.length ≤ 40 := by
  unfold all at hm
  obtain ⟨n, hn, rfl⟩ := List.mem_map.1 hm
  obtain ⟨h1, h2⟩ := List.mem_filter.1 hn
  exact ⟨by rw [has_of h.inv.up h1]; simpa using h2, (h.ids n h1).1⟩
theorem heads_on {D : List Nd} (h : Okd D) {id : Bs} (hm : id ∈ heads D) : has D id = true ∧ id.length ≤ 40 := by
  have := ((heads_mem h.inv.up).1 hm).1
  exact ⟨this, has_short h this⟩
theorem heads_len {D : List Nd} (h : Okd D) : (heads D).length ≤ 20 := by
  have : (heads D).length ≤ D.length := by unfold heads; rw [List.length_map]; exact List.length_filter_le _ _
  have := h.few
  omega
theorem cnt_take {D : List Nd} {l : List Bs} {k : Nat} {x a : Bs} (hx : l[k]? = some x) : (l.take (k + 1)).countP (above D a) = (l.take k).countP (above D a) + if above D a x then 1 else 0 := by
  rw [List.take_add_one, hx, List.countP_append]
  simp [List.countP_cons]
theorem heads_none {D : List Nd} (h : Okd D) : (heads D).length = 0 ↔ (all D true).length = 0 := by
  rw [List.length_eq_zero_iff, List.length_eq_zero_iff]
  constructor
  · intro he
    rw [List.eq_nil_iff_forall_not_mem]
    intro a ha
    obtain ⟨b, hb, _⟩ := below_head h.inv ((all_on h).1 ha)
    rw [he] at hb; cases hb
  · intro he
    rw [List.eq_nil_iff_forall_not_mem]
    intro a ha
    have := (all_on h).2 (heads_on h ha).1
    rw [he] at this; cases this
set_option maxRecDepth 100000 in
set_option maxHeartbeats 2000000 in
theorem lawHeads_any {In : World → (Nat → Prop) → Nat → List Nd → Prop} (l : List Nd) (A : Option Addr) (c : Nat) (w : World) (C : Cd w In) (hs : Nds w A c l) (hl : l.length ≤ 9223372036854775807) :
    Calls Try.prog 5 #[.slice A l.length c] w fun y w' => y = .returned (.bool true) ∧ Below w.heap.size w w' := by
  have HC := hide C
  have Hs := hide hs
  have Hl := hide hl
  have Hw := hide (dwake_any w C)
  obtain ⟨N0, hN0⟩ : ∃ N, N = l.length := ⟨_, rfl⟩
  have HN0 := hide hN0
  rw [← hN0] at hl ⊢
  clear C hs hN0
  go_enter Try.func5, Try.ntmps5
  go_wp2_with fail
  refine Hw.out.mono ?_
  rintro y w1 ⟨rfl, hb1⟩
  have HB1 := hide hb1
  have HFew := hide (rfew_any l A c w1 (Hs.out.keep hb1) Hl.out)
  rw [← HN0.out] at HFew
  clear hb1 Hw
  go_wp2_with fail
  refine HFew.out.mono ?_
  rintro y w2 ⟨rfl, hb2⟩
  have HB2 := hide (HB1.out.trans (hb2.mono HB1.out.size))
  clear hb2 HFew HB1
  cases hfe : fewN l with
  | false =>
    go_wp2
    go_ret
    exact ⟨rfl, HB2.out⟩
  | true =>
    have HAd := hide (added_any l A c w w2 HC.out HB2.out Hs.out hfe)
    rw [← HN0.out] at HAd
    clear hfe HB2
    go_wp2_with fail
    refine HAd.out.mono ?_
    rintro y w3 ⟨g, rfl, hg3, _⟩
    obtain ⟨D, hD⟩ : ∃ D, D = run l := ⟨_, rfl⟩
    rw [← hD] at hg3
    have HOk := hide hg3.ok
    have HG3 := hide hg3
    have HId := hide (hg3.ids HC.out)
    clear hg3 hD HAd
    go_wp2_with fail
    refine HId.out.mono ?_
    rintro y w4 ⟨v4, rfl, hown4, hb4⟩
    obtain ⟨A4, c4, rfl, hv4, _⟩ := own_vs hown4
    have HV4 := hide hv4
    have HG4 := hide (HG3.out.stay HC.out hb4)
    have HHe := hide (HG4.out.heads HC.out)
    obtain ⟨N, hN⟩ : ∃ N, N = (all D true).length := ⟨_, rfl⟩
    have HN := hide hN
    rw [← hN]
    have hNl : N ≤ 20 := by rw [hN]; exact Nat.le_trans (all_len D true) HOk.out.few
    clear hown4 hb4 hv4 hN HId HG3
    go_wp2_with fail
    refine HHe.out.mono ?_
    rintro y w5 ⟨v5, rfl, hown5, hb5⟩
    obtain ⟨A5, c5, rfl, hv5, _⟩ := own_vs hown5
    have HV5 := hide hv5
    have HV4 := hide (vs_low (vs_keep HV4.out hb5))
    have HG5 := hide (HG4.out.stay HC.out hb5)
    obtain ⟨M, hM⟩ : ∃ N, N = (heads D).length := ⟨_, rfl⟩
    have HM := hide hM
    rw [← hM]
    have hMl : M ≤ 20 := by rw [hM]; exact heads_len HOk.out
    clear hown5 hb5 hv5 hM HHe HG4
    go_wp2
    go_loopw [8] (fun i wr => ∃ j : Nat, i = .int .i64 j ∧ j ≤ N ∧ Hid (Below w5.heap.size w5 wr)) (fun i _ => N - (intOf i).toNat)
    case atStart => exact ⟨0, rfl, Nat.zero_le _, by show Hid _; exact hide (Below.refl _ _)⟩
    case round =>
      obtain ⟨j, rfl, hj, HB⟩ := hrel
      by_cases hlt : j < N
      · obtain ⟨a, ha⟩ : ∃ a, (all D true)[j]? = some a := ⟨_, List.getElem?_eq_getElem (by have := HN.out; omega)⟩
        have hon := (all_on HOk.out).1 (List.mem_of_getElem? ha)
        have HOn := hide hon
        obtain ⟨b4, o4, rfl, hp4, k4⟩ := vs_at HV4.out ha
        have HX4 := hide (fun (wz : World) (hz : Below w5.heap.size w5 wz) => (World.cell?_of_block (a := ⟨b4, o4 + j, none⟩) (hz.block b4 hp4)).trans k4)
        clear ha hon hp4 k4
        go_wp2
        go_loopw [9, 10] (fun cn i wr => ∃ (m k : Nat), cn = .int .i64 m ∧ i = .int .i64 k ∧ k ≤ M ∧ m ≤ k ∧ Hid (m = ((heads D).take k).countP (above D a)) ∧ Hid (Below w5.heap.size w5 wr)) (fun _ i _ => M - (intOf i).toNat)
        case atStart => exact ⟨0, 0, rfl, rfl, Nat.zero_le _, Nat.zero_le _, by show Hid _; exact hide (by simp), by show Hid _; exact HB⟩
        case round =>
          obtain ⟨m, k, rfl, rfl, hk, hmk, HCt, HB⟩ := hrel
          by_cases hltk : k < M
          · obtain ⟨x, hx⟩ : ∃ a, (heads D)[k]? = some a := ⟨_, List.getElem?_eq_getElem (by have := HM.out; omega)⟩
            have hxh := List.mem_of_getElem? hx
            obtain ⟨b5, o5, rfl, hp5, k5⟩ := vs_at HV5.out hx
            have HX5 := hide (fun (wz : World) (hz : Below w5.heap.size w5 wz) => (World.cell?_of_block (a := ⟨b5, o5 + k, none⟩) (hz.block b5 hp5)).trans k5)
            have hc := And.intro (HX4.out wr HB.out) (HX5.out wr HB.out)
            have hct := cnt_take (D := D) (a := a) hx
            have hd : Below w5.heap.size w5 wr.drew := HB.out.drew
            have HGd := hide (HG5.out.stay HC.out hd)
            have HAb := hide (HGd.out.above HC.out a x (has_short HOk.out HOn.out) (heads_on HOk.out hxh).2)
            have HTop := hide (fun (e : above D x a = true) => head_top HOk.out.inv hxh e)
            have HXs := hide (heads_on HOk.out hxh).2
            obtain ⟨ba, hba⟩ : ∃ z, z = above D a x := ⟨_, rfl⟩
            rw [← hba] at hct HAb
            have HCt2 := hide (show m + (if ba then 1 else 0) = ((heads D).take (k + 1)).countP (above D a) by rw [hct, HCt.out])
            clear hx hxh hp5 k5 hct hd hba HCt
            go_wp2
            refine Rg.wp_region_ord (fun w' => w'.cell? ⟨b4, o4 + j, none⟩ = some (.string ⟨a.toArray⟩) ∧ w'.cell? ⟨b5, o5 + k, none⟩ = some (.string ⟨x.toArray⟩)) [(0, true), (1, true), (2, true), (3, true), (4, true), (5, true), (6, true), (7, true), (8, true), (9, false)] (by kernel_rfl) (by kernel_rfl) ?_
            simp only [Rg.pick, List.map_cons, List.map_nil, List.getD_cons_zero, List.getD_cons_succ]
            iterate 9 (refine Rg.ord_quiet (v := ?_) rfl (fun w' hS => ?_) hc ?_; rotate_left; (obtain ⟨s1, s2⟩ := hS; go_simp; with_reducible rfl); simp only [Act.put, List.setIfInBounds_toArray, List.set_cons_succ, List.set_cons_zero])
            refine Rg.ord_loud (by rfl) (fun K hK => ?_)
            go_simp
            refine HAb.out.mono ?_
            rintro y w9 ⟨rfl, hb9⟩
            have HB9 := hide ((HB.out.drew).trans (hb9.mono (HB.out.drew).size))
            clear hb9 HAb hc HGd
            have hc := And.intro (HX4.out w9 HB9.out) (HX5.out w9 HB9.out)
            refine hK _ _ (fun _ => hc) ?_
            clear hK K
            refine Rg.ord_nil ?_
            clear HB
            have HGd := hide (HG5.out.stay HC.out HB9.out.drew)
            have HAb := hide (HGd.out.above HC.out x a HXs.out (has_short HOk.out HOn.out))
            clear HGd
            cases ba with
            | false =>
              have HCt2 := hide (show m = ((heads D).take (k + 1)).countP (above D a) from HCt2.out)
              cases hxa : above D x a with
              | false =>
                rw [hxa] at HAb
                clear hxa HTop
                go_wp2
                refine Rg.wp_region_ord (fun w' => w'.cell? ⟨b4, o4 + j, none⟩ = some (.string ⟨a.toArray⟩) ∧ w'.cell? ⟨b5, o5 + k, none⟩ = some (.string ⟨x.toArray⟩)) [(0, true), (1, true), (2, true), (3, true), (4, true), (5, true), (6, true), (7, true), (8, true), (9, false), (10, true), (11, true), (12, true), (13, true), (14, true), (15, true), (16, true), (17, true), (18, true), (19, true), (20, true)] (by kernel_rfl) (by kernel_rfl) ?_
                simp only [Rg.pick, List.map_cons, List.map_nil, List.getD_cons_zero, List.getD_cons_succ]
                iterate 9 (refine Rg.ord_quiet (v := ?_) rfl (fun w' hS => ?_) hc ?_; rotate_left; (obtain ⟨s1, s2⟩ := hS; go_simp; with_reducible rfl); simp only [Act.put, List.setIfInBounds_toArray, List.set_cons_succ, List.set_cons_zero])
                refine Rg.ord_loud (by rfl) (fun K hK => ?_)
                go_simp
                refine HAb.out.mono ?_
                rintro y wA ⟨rfl, hbA⟩
                have HBA := hide ((HB9.out.drew).trans (hbA.mono (HB9.out.drew).size))
                clear hbA HAb hc
                have hc := And.intro (HX4.out wA HBA.out) (HX5.out wA HBA.out)
                refine hK _ _ (fun _ => hc) ?_
                clear hK K
                iterate 1 (refine Rg.ord_quiet (v := ?_) rfl (fun w' hS => ?_) hc ?_; rotate_left; (obtain ⟨s1, s2⟩ := hS; go_simp; with_reducible rfl); simp only [Act.put, List.setIfInBounds_toArray, List.set_cons_succ, List.set_cons_zero])
                iterate 9 (refine Rg.ord_passed (by rfl) hc ?_; simp only [Act.put, List.setIfInBounds_toArray, List.set_cons_succ, List.set_cons_zero])
                iterate 1 (refine Rg.ord_quiet (v := ?_) rfl (fun w' hS => ?_) hc ?_; rotate_left; (obtain ⟨s1, s2⟩ := hS; go_simp; with_reducible rfl); simp only [Act.put, List.setIfInBounds_toArray, List.set_cons_succ, List.set_cons_zero])
                refine Rg.ord_nil ?_
                go_wp2
                exact ⟨⟨m, k + 1, rfl, by go_num, by omega, by omega, by show Hid _; exact HCt2, by show Hid _; exact HBA⟩, by simp [intOf]; omega⟩
              | true =>
                rw [hxa] at HAb
                obtain rfl := HTop.out hxa
                have b1 : (x != x) = false := by simp
                clear hxa HTop
                go_wp2
                refine Rg.wp_region_ord (fun w' => w'.cell? ⟨b4, o4 + j, none⟩ = some (.string ⟨x.toArray⟩) ∧ w'.cell? ⟨b5, o5 + k, none⟩ = some (.string ⟨x.toArray⟩)) [(0, true), (1, true), (2, true), (3, true), (4, true), (5, true), (6, true), (7, true), (8, true), (9, false), (10, true), (11, true), (12, true), (13, true), (14, true), (15, true), (16, true), (17, true), (18, true), (19, true), (20, true)] (by kernel_rfl) (by kernel_rfl) ?_
                simp only [Rg.pick, List.map_cons, List.map_nil, List.getD_cons_zero, List.getD_cons_succ]
                iterate 9 (refine Rg.ord_quiet (v := ?_) rfl (fun w' hS => ?_) hc ?_; rotate_left; (obtain ⟨s1, s2⟩ := hS; go_simp; with_reducible rfl); simp only [Act.put, List.setIfInBounds_toArray, List.set_cons_succ, List.set_cons_zero])
                refine Rg.ord_loud (by rfl) (fun K hK => ?_)
                go_simp
                refine HAb.out.mono ?_
                rintro y wA ⟨rfl, hbA⟩
                have HBA := hide ((HB9.out.drew).trans (hbA.mono (HB9.out.drew).size))
                clear hbA HAb hc
                have hc := And.intro (HX4.out wA HBA.out) (HX5.out wA HBA.out)
                refine hK _ _ (fun _ => hc) ?_
                clear hK K
                iterate 1 (refine Rg.ord_quiet (v := ?_) rfl (fun w' hS => ?_) hc ?_; rotate_left; (obtain ⟨s1, s2⟩ := hS; go_simp; with_reducible rfl); simp only [Act.put, List.setIfInBounds_toArray, List.set_cons_succ, List.set_cons_zero])
                iterate 9 (refine Rg.ord_guarded (v := ?_) (by rfl) (fun w' hS => ?_) hc ?_; rotate_left; (obtain ⟨s1, s2⟩ := hS; go_simp; with_reducible rfl); simp only [Act.put, List.setIfInBounds_toArray, List.set_cons_succ, List.set_cons_zero])
                iterate 1 (refine Rg.ord_quiet (v := ?_) rfl (fun w' hS => ?_) hc ?_; rotate_left; (obtain ⟨s1, s2⟩ := hS; go_simp; with_reducible rfl); simp only [Act.put, List.setIfInBounds_toArray, List.set_cons_succ, List.set_cons_zero])
                refine Rg.ord_nil ?_
                go_wp2
                exact ⟨⟨m, k + 1, rfl, by go_num, by omega, by omega, by show Hid _; exact HCt2, by show Hid _; exact HBA⟩, by simp [intOf]; omega⟩
            | true =>
              have HCt2 := hide (show m + 1 = ((heads D).take (k + 1)).countP (above D a) from HCt2.out)
              cases hxa : above D x a with
              | false =>
                rw [hxa] at HAb
                clear hxa HTop
                go_wp2
                refine Rg.wp_region_ord (fun w' => w'.cell? ⟨b4, o4 + j, none⟩ = some (.string ⟨a.toArray⟩) ∧ w'.cell? ⟨b5, o5 + k, none⟩ = some (.string ⟨x.toArray⟩)) [(0, true), (1, true), (2, true), (3, true), (4, true), (5, true), (6, true), (7, true), (8, true), (9, false), (10, true), (11, true), (12, true), (13, true), (14, true), (15, true), (16, true), (17, true), (18, true), (19, true), (20, true)] (by kernel_rfl) (by kernel_rfl) ?_
                simp only [Rg.pick, List.map_cons, List.map_nil, List.getD_cons_zero, List.getD_cons_succ]
                iterate 9 (refine Rg.ord_quiet (v := ?_) rfl (fun w' hS => ?_) hc ?_; rotate_left; (obtain ⟨s1, s2⟩ := hS; go_simp; with_reducible rfl); simp only [Act.put, List.setIfInBounds_toArray, List.set_cons_succ, List.set_cons_zero])
                refine Rg.ord_loud (by rfl) (fun K hK => ?_)
                go_simp
                refine HAb.out.mono ?_
                rintro y wA ⟨rfl, hbA⟩
                have HBA := hide ((HB9.out.drew).trans (hbA.mono (HB9.out.drew).size))
                clear hbA HAb hc
                have hc := And.intro (HX4.out wA HBA.out) (HX5.out wA HBA.out)
                refine hK _ _ (fun _ => hc) ?_
                clear hK K
                iterate 1 (refine Rg.ord_quiet (v := ?_) rfl (fun w' hS => ?_) hc ?_; rotate_left; (obtain ⟨s1, s2⟩ := hS; go_simp; with_reducible rfl); simp only [Act.put, List.setIfInBounds_toArray, List.set_cons_succ, List.set_cons_zero])
                iterate 9 (refine Rg.ord_passed (by rfl) hc ?_; simp only [Act.put, List.setIfInBounds_toArray, List.set_cons_succ, List.set_cons_zero])
                iterate 1 (refine Rg.ord_quiet (v := ?_) rfl (fun w' hS => ?_) hc ?_; rotate_left; (obtain ⟨s1, s2⟩ := hS; go_simp; with_reducible rfl); simp only [Act.put, List.setIfInBounds_toArray, List.set_cons_succ, List.set_cons_zero])
                refine Rg.ord_nil ?_
                go_wp2
                exact ⟨⟨m + 1, k + 1, by go_num, by go_num, by omega, by omega, by show Hid _; exact HCt2, by show Hid _; exact HBA⟩, by simp [intOf]; omega⟩
              | true =>
                rw [hxa] at HAb
                obtain rfl := HTop.out hxa
                have b1 : (x != x) = false := by simp
                clear hxa HTop
                go_wp2
                refine Rg.wp_region_ord (fun w' => w'.cell? ⟨b4, o4 + j, none⟩ = some (.string ⟨x.toArray⟩) ∧ w'.cell? ⟨b5, o5 + k, none⟩ = some (.string ⟨x.toArray⟩)) [(0, true), (1, true), (2, true), (3, true), (4, true), (5, true), (6, true), (7, true), (8, true), (9, false), (10, true), (11, true), (12, true), (13, true), (14, true), (15, true), (16, true), (17, true), (18, true), (19, true), (20, true)] (by kernel_rfl) (by kernel_rfl) ?_
                simp only [Rg.pick, List.map_cons, List.map_nil, List.getD_cons_zero, List.getD_cons_succ]
                iterate 9 (refine Rg.ord_quiet (v := ?_) rfl (fun w' hS => ?_) hc ?_; rotate_left; (obtain ⟨s1, s2⟩ := hS; go_simp; with_reducible rfl); simp only [Act.put, List.setIfInBounds_toArray, List.set_cons_succ, List.set_cons_zero])
                refine Rg.ord_loud (by rfl) (fun K hK => ?_)
                go_simp
                refine HAb.out.mono ?_
                rintro y wA ⟨rfl, hbA⟩
                have HBA := hide ((HB9.out.drew).trans (hbA.mono (HB9.out.drew).size))
                clear hbA HAb hc
                have hc := And.intro (HX4.out wA HBA.out) (HX5.out wA HBA.out)
                refine hK _ _ (fun _ => hc) ?_
                clear hK K
                iterate 1 (refine Rg.ord_quiet (v := ?_) rfl (fun w' hS => ?_) hc ?_; rotate_left; (obtain ⟨s1, s2⟩ := hS; go_simp; with_reducible rfl); simp only [Act.put, List.setIfInBounds_toArray, List.set_cons_succ, List.set_cons_zero])
                iterate 9 (refine Rg.ord_guarded (v := ?_) (by rfl) (fun w' hS => ?_) hc ?_; rotate_left; (obtain ⟨s1, s2⟩ := hS; go_simp; with_reducible rfl); simp only [Act.put, List.setIfInBounds_toArray, List.set_cons_succ, List.set_cons_zero])
                iterate 1 (refine Rg.ord_quiet (v := ?_) rfl (fun w' hS => ?_) hc ?_; rotate_left; (obtain ⟨s1, s2⟩ := hS; go_simp; with_reducible rfl); simp only [Act.put, List.setIfInBounds_toArray, List.set_cons_succ, List.set_cons_zero])
                refine Rg.ord_nil ?_
                go_wp2
                exact ⟨⟨m + 1, k + 1, by go_num, by go_num, by omega, by omega, by show Hid _; exact HCt2, by show Hid _; exact HBA⟩, by simp [intOf]; omega⟩
          · obtain rfl : k = M := by omega
            have hm0 : m ≠ 0 := by
              intro e
              have hct := HCt.out
              rw [HM.out, List.take_length, e] at hct
              obtain ⟨b, hb, hab⟩ := below_head HOk.out.inv HOn.out
              have := List.countP_eq_zero.1 hct.symm b hb
              exact this hab
            have hm1 : ((m : Int) == 0) = false := by simp; omega
            clear HCt
            go_wp2
            exact ⟨⟨j + 1, by go_num, by omega, by show Hid _; exact HB⟩, by simp [intOf]; omega⟩
      · obtain rfl : j = N := by omega
        have hq : ((M : Int) == 0) = ((j : Int) == 0) := by
          have h1 := heads_none HOk.out
          rw [← HM.out, ← HN.out] at h1
          rw [Bool.eq_iff_iff]
          simp only [beq_iff_eq]
          omega
        have HBl := hide (HG5.out.low.trans (HB.out.mono HG5.out.low.size))
        go_wp2
        go_ret
        exact ⟨rfl, HBl.out⟩
end Go.Proofs.Ytlfncnnfpniigaa.Dq
