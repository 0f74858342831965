/-
  order: ids sorted by rank by the library: a partition.
-/
import Derived.Test.YtplmcpdlommmaaaCU
namespace Go.Proofs.Ytplmcpdlommmaaa.Oq
open Go Go.RowKit Kt Kg Lw Tr Dq

set_option maxRecDepth 100000 in
set_option maxHeartbeats 16000000 in
/-- slices' partition -/
theorem partition_any {w : World} {g gd cap n : Nat} {D : List Nd} (H : Cmp w g D gd) {W : World} (hW : w.grownBy W (some g)) {l : List Bs} (hO : OwT W 0 tId (slV g n cap) l) (hn : n ≤ 1000) (hs : ∀ x ∈ l, x.length ≤ 50) (m : Nat) (hm : m < n) :
    Calls Try.prog 102 #[slV g n cap, .int .i64 0, .int .i64 n, .int .i64 m, .func (.func fCmp) #[.agg #[pt gd]] #[]] W fun y w' => ∃ (md : Nat) (r : Bool) (l' : List Bs), y = .returned (.tuple #[.int .i64 md, .bool r]) ∧ Don D (at_ l m) l' n md ∧ l'.Perm l ∧ OwT w' 0 tId (slV g n cap) l' ∧ w.grownBy w' (some g) := by
  have HC := hide H
  have HS := hide hs
  have HO := hide hO
  have HW := hide hW
  clear H hO hW hs
  obtain ⟨j, hj⟩ : ∃ j, n = j + 1 := ⟨n - 1, by omega⟩
  have hl0 := own_len HO.out
  have HP0 := hide (show Prt D (at_ l m) l (swp l 0 m) n 1 j from by
    have e := Prt.start (D := D) (l := l) (l' := swp l 0 m) (n := n) (swp_perm (by omega) (by omega)) (by omega)
    have e0 : at_ (swp l 0 m) 0 = at_ l m := by
      rw [swp_of (by omega) (by omega)]
      by_cases h : 0 = m
      · rw [if_pos h, ← h]
      · rw [if_neg h, if_pos rfl]
    rw [e0, show n - 1 = j from by omega] at e
    exact e)
  have ej : (n : Int) - 1 = (j : Int) := by omega
  have pj : IntKind.i64.wrap (j : Int) = (j : Int) := wrap_small (by omega)
  have hln2 := own_len HO.out
  obtain ⟨ci, fi⟩ := rdy_cell HO.out (k := 0) (by omega)
  obtain ⟨cj, fj⟩ := rdy_cell HO.out (k := m) (by omega)
  change W.cell? ⟨g, 0, none⟩ = some (encStr (at_ l (0))) at ci
  change W.cell? ⟨g, m, none⟩ = some (encStr (at_ l (m))) at cj
  have HOs := hide (own_swp (i := 0) (j := m) HO.out)
  have HWs := hide (grown_two_put (i := 0) (j := m) HW.out (encStr (at_ l (m))) (encStr (at_ l (0))))
  obtain ⟨xi, hxi⟩ : ∃ z, z = at_ l (0) := ⟨_, rfl⟩
  obtain ⟨xj, hxj⟩ : ∃ z, z = at_ l (m) := ⟨_, rfl⟩
  rw [← hxi] at ci HOs HWs
  rw [← hxj] at cj HOs HWs
  obtain ⟨v', hy'⟩ := cell?_setCell_some (w := W) (p := ⟨g, 0, none⟩) (x := encStr xj) (q := ⟨g, m, none⟩) cj
  have HXi := hide hxi
  have HXj := hide hxj
  clear hxi hxj hln2
  have b1 : (0 : Int) ≤ (m : Int) := by omega
  have b2 : (m : Int) < (n : Int) := by omega
  have b3 : (0 : Int) < (n : Int) := by omega
  have b5 : 0 < n := by omega
  obtain ⟨l1, hl1⟩ : ∃ z, z = swp l 0 m := ⟨_, rfl⟩
  rw [← hl1] at HOs HP0
  obtain ⟨P, hP⟩ : ∃ z, z = at_ l m := ⟨_, rfl⟩
  rw [← hP] at HP0 ⊢
  have HJ := hide hj
  clear hj
  clear hl1 hP HXi HXj HO HW hl0
  go_enter Try.func102, Try.ntmps102
  go_wp2
  go_region
  go_wp2
  go_loopw [12] (fun iv wr => ∃ i : Nat, iv = .int .i64 i ∧ 1 ≤ i ∧ Hid (OwT wr 0 tId (slV g n cap) l1) ∧ Hid (w.grownBy wr (some g)) ∧ Hid (Prt D P l l1 n i j)) (fun iv _ => j + 1 - (intOf iv).toNat)
  case atStart => exact ⟨1, rfl, Nat.le_refl _, by show Hid _; exact hide HOs.out, by show Hid _; exact hide ⟨HWs.out.os, HWs.out.tape, HWs.out.output, HWs.out.size, HWs.out.block⟩, by show Hid _; exact HP0⟩
  case round =>
    clear HOs HWs HP0 b1 b2 b3 ci cj fi fj hy'
    obtain ⟨i, rfl, hi0, HO, HW, HP⟩ := hrel
    have q1 := HP.out.one
    have q2 := HP.out.ij
    have q3 := HP.out.jn
    by_cases hij : i ≤ j
    · have hln := own_len HO.out
      obtain ⟨c1, f1⟩ := rdy_cell HO.out (k := i) (by omega)
      obtain ⟨c0, f0⟩ := rdy_cell HO.out (k := 0) (by omega)
      change wr.cell? ⟨g, i, none⟩ = some (encStr (at_ l1 (i))) at c1
      change wr.cell? ⟨g, 0, none⟩ = some (encStr (at_ l1 (0))) at c0
      have hx1 : (at_ l1 (i)).length ≤ 50 := HS.out _ ((fun _ h => HP.out.perm.mem_iff.1 h) _ (at_mem (by omega)))
      have hx0 : (at_ l1 (0)).length ≤ 50 := HS.out _ ((fun _ h => HP.out.perm.mem_iff.1 h) _ (at_mem (by omega)))
      have HCx := hide (HC.out wr.drew ⟨HW.out.os, HW.out.tape, HW.out.output, HW.out.size, HW.out.block⟩ (at_ l1 (i)) (at_ l1 (0)) hx1 hx0)
      obtain ⟨x, hx⟩ : ∃ x, x = at_ l1 (i) := ⟨_, rfl⟩
      obtain ⟨y, hy⟩ : ∃ y, y = at_ l1 (0) := ⟨_, rfl⟩
      rw [← hx] at c1 HCx
      rw [← hy] at c0 HCx
      have HX := hide hx
      have HY := hide hy
      have d1 : decide ((i : Int) ≤ (j : Int)) = true := decide_eq_true (by omega)
      have p1 : (0 : Int) ≤ (i : Int) := by omega
      have p2 : (i : Int) < (n : Int) := by omega
      have p4 : (0 : Int) < (n : Int) := by omega
      have p5 : 0 < n := by omega
      have hlt1 := (World.ownsRow.lt HO.out g rfl).2
      clear hx hy hx1 hx0 f1 f0
      go_wp2
      have hc : wr.drew.cell? ⟨g, i, none⟩ = some (encStr x) ∧ wr.drew.cell? ⟨g, 0, none⟩ = some (encStr y) := ⟨c1, c0⟩
      refine Rg.wp_region_ord (fun w' => w'.cell? ⟨g, i, none⟩ = some (encStr x) ∧ w'.cell? ⟨g, 0, none⟩ = some (encStr y)) [(0, true), (1, true), (2, true), (3, true), (4, true), (5, true), (6, true), (7, true), (8, true), (9, true), (10, true), (11, true), (12, true), (13, false), (14, true), (15, true)] (by kernel_rfl) (by kernel_rfl) ?_
      simp only [Rg.pick, List.map_cons, List.map_nil, List.getD_cons_zero, List.getD_cons_succ]
      iterate 4 (refine Rg.ord_quiet (v := ?_) rfl (fun w' hS => ?_) hc ?_; rotate_left; (obtain ⟨s1, s2⟩ := hS; go_simp; with_reducible rfl); simp only [Act.put, List.setIfInBounds_toArray, List.set_cons_succ, List.set_cons_zero])
      try simp only [d1]
      iterate 9 (refine Rg.ord_guarded (v := ?_) (by rfl) (fun w' hS => ?_) hc ?_; rotate_left; (obtain ⟨s1, s2⟩ := hS; go_simp; with_reducible rfl); simp only [Act.put, List.setIfInBounds_toArray, List.set_cons_succ, List.set_cons_zero])
      refine Rg.ord_loud (by rfl) (fun K hK => ?_)
      go_simp
      refine HCx.out.mono ?_
      rintro e w5 ⟨rfl, hb5⟩
      have hb5' : Below wr.heap.size wr w5 := ⟨hb5.out.os, hb5.out.tape, hb5.out.output, hb5.out.size, hb5.out.block⟩
      have hc5 : w5.cell? ⟨g, i, none⟩ = some (encStr x) ∧ w5.cell? ⟨g, 0, none⟩ = some (encStr y) := ⟨(World.cell?_of_block (hb5'.block g hlt1)).trans c1, (World.cell?_of_block (hb5'.block g hlt1)).trans c0⟩
      have HO5 := hide (HO.out.kept hb5')
      have HW5 := hide (grown_below HW.out hb5')
      obtain ⟨cv, hcv⟩ : ∃ z, z = cmpR D x y := ⟨_, rfl⟩
      rw [← hcv]
      refine hK _ _ (fun _ => hc5) ?_
      clear hK K hc c1 c0 HCx hb5 hb5'
      by_cases hlt2 : rlt D x y
      · have d2 : decide (cv < 0) = true := decide_eq_true (by rw [hcv]; exact cmpR_neg.2 hlt2)
        have HP2 := hide (HP.out.up hij (by rw [← HX.out, ← HP.out.zero, ← HY.out]; exact hlt2))
        clear hcv hlt2
        iterate 1 (refine Rg.ord_guarded (v := ?_) (by rfl) (fun w' hS => ?_) hc5 ?_; rotate_left; (obtain ⟨s1, s2⟩ := hS; go_simp; with_reducible rfl); simp only [Act.put, List.setIfInBounds_toArray, List.set_cons_succ, List.set_cons_zero])
        iterate 1 (refine Rg.ord_quiet (v := ?_) rfl (fun w' hS => ?_) hc5 ?_; rotate_left; (obtain ⟨s1, s2⟩ := hS; go_simp; with_reducible rfl); simp only [Act.put, List.setIfInBounds_toArray, List.set_cons_succ, List.set_cons_zero])
        refine Rg.ord_nil ?_
        go_wp2
        exact ⟨⟨i + 1, by go_num, by omega, by show Hid _; exact HO5, by show Hid _; exact HW5, by show Hid _; exact HP2⟩, by simp [intOf]; omega⟩
      · have d2 : decide (cv < 0) = false := decide_eq_false (by rw [hcv]; exact fun h => hlt2 (cmpR_neg.1 h))
        have HNI := hide (show ¬ rlt D (at_ l1 i) P from by rw [← HX.out, ← HP.out.zero, ← HY.out]; exact hlt2)
        clear hcv hlt2
        iterate 1 (refine Rg.ord_guarded (v := ?_) (by rfl) (fun w' hS => ?_) hc5 ?_; rotate_left; (obtain ⟨s1, s2⟩ := hS; go_simp; with_reducible rfl); simp only [Act.put, List.setIfInBounds_toArray, List.set_cons_succ, List.set_cons_zero])
        iterate 1 (refine Rg.ord_quiet (v := ?_) rfl (fun w' hS => ?_) hc5 ?_; rotate_left; (obtain ⟨s1, s2⟩ := hS; go_simp; with_reducible rfl); simp only [Act.put, List.setIfInBounds_toArray, List.set_cons_succ, List.set_cons_zero])
        refine Rg.ord_nil ?_
        clear hc5 HX HY d1 p1 p2 p4 hln
        go_wp2
        clear d2
        obtain ⟨wo, hwo⟩ : ∃ z, z = w5 := ⟨_, rfl⟩
        rw [← hwo]
        subst hwo
        go_loopw [13] (fun jv wr => ∃ j1 : Nat, jv = .int .i64 j1 ∧ j1 ≤ j ∧ Hid (OwT wr 0 tId (slV g n cap) l1) ∧ Hid (w.grownBy wr (some g)) ∧ Hid (Prt D P l l1 n i j1)) (fun jv _ => (intOf jv).toNat)
        case atStart => exact ⟨j, rfl, Nat.le_refl _, by show Hid _; exact HO5, by show Hid _; exact HW5, by show Hid _; exact HP⟩
        case round =>
          clear HO5 HW5 HO HW HP q2 q3
          obtain ⟨j1, rfl, hj1, HO, HW, HP⟩ := hrel
          have q2 := HP.out.ij
          have q3 := HP.out.jn
          by_cases hij1 : i ≤ j1
          · obtain ⟨j', rfl⟩ : ∃ j', j1 = j' + 1 := ⟨j1 - 1, by omega⟩
            have hln := own_len HO.out
            obtain ⟨c1, f1⟩ := rdy_cell HO.out (k := j' + 1) (by omega)
            obtain ⟨c0, f0⟩ := rdy_cell HO.out (k := 0) (by omega)
            change wr.cell? ⟨g, j' + 1, none⟩ = some (encStr (at_ l1 (j' + 1))) at c1
            change wr.cell? ⟨g, 0, none⟩ = some (encStr (at_ l1 (0))) at c0
            have hx1 : (at_ l1 (j' + 1)).length ≤ 50 := HS.out _ ((fun _ h => HP.out.perm.mem_iff.1 h) _ (at_mem (by omega)))
            have hx0 : (at_ l1 (0)).length ≤ 50 := HS.out _ ((fun _ h => HP.out.perm.mem_iff.1 h) _ (at_mem (by omega)))
            have HCx := hide (HC.out wr.drew ⟨HW.out.os, HW.out.tape, HW.out.output, HW.out.size, HW.out.block⟩ (at_ l1 (j' + 1)) (at_ l1 (0)) hx1 hx0)
            obtain ⟨x, hx⟩ : ∃ x, x = at_ l1 (j' + 1) := ⟨_, rfl⟩
            obtain ⟨y, hy⟩ : ∃ y, y = at_ l1 (0) := ⟨_, rfl⟩
            rw [← hx] at c1 HCx
            rw [← hy] at c0 HCx
            have HX := hide hx
            have HY := hide hy
            have d1 : decide ((i : Int) ≤ (j' : Int) + 1) = true := decide_eq_true (by omega)
            have p1 : (0 : Int) ≤ (j' : Int) + 1 := by omega
            have p2 : (j' : Int) + 1 < (n : Int) := by omega
            have p4 : (0 : Int) < (n : Int) := by omega
            have p5 : 0 < n := by omega
            have hlt1 := (World.ownsRow.lt HO.out g rfl).2
            clear hx hy hx1 hx0 f1 f0
            go_wp2
            have hc : wr.drew.cell? ⟨g, j' + 1, none⟩ = some (encStr x) ∧ wr.drew.cell? ⟨g, 0, none⟩ = some (encStr y) := ⟨c1, c0⟩
            refine Rg.wp_region_ord (fun w' => w'.cell? ⟨g, j' + 1, none⟩ = some (encStr x) ∧ w'.cell? ⟨g, 0, none⟩ = some (encStr y)) [(0, true), (1, true), (2, true), (3, true), (4, true), (5, true), (6, true), (7, true), (8, true), (9, true), (10, true), (11, true), (12, true), (13, false), (14, true), (15, true), (16, true)] (by kernel_rfl) (by kernel_rfl) ?_
            simp only [Rg.pick, List.map_cons, List.map_nil, List.getD_cons_zero, List.getD_cons_succ]
            iterate 4 (refine Rg.ord_quiet (v := ?_) rfl (fun w' hS => ?_) hc ?_; rotate_left; (obtain ⟨s1, s2⟩ := hS; go_simp; with_reducible rfl); simp only [Act.put, List.setIfInBounds_toArray, List.set_cons_succ, List.set_cons_zero])
            try simp only [d1]
            iterate 9 (refine Rg.ord_guarded (v := ?_) (by rfl) (fun w' hS => ?_) hc ?_; rotate_left; (obtain ⟨s1, s2⟩ := hS; go_simp; with_reducible rfl); simp only [Act.put, List.setIfInBounds_toArray, List.set_cons_succ, List.set_cons_zero])
            refine Rg.ord_loud (by rfl) (fun K hK => ?_)
            go_simp
            refine HCx.out.mono ?_
            rintro e w5 ⟨rfl, hb5⟩
            have hb5' : Below wr.heap.size wr w5 := ⟨hb5.out.os, hb5.out.tape, hb5.out.output, hb5.out.size, hb5.out.block⟩
            have hc5 : w5.cell? ⟨g, j' + 1, none⟩ = some (encStr x) ∧ w5.cell? ⟨g, 0, none⟩ = some (encStr y) := ⟨(World.cell?_of_block (hb5'.block g hlt1)).trans c1, (World.cell?_of_block (hb5'.block g hlt1)).trans c0⟩
            have HO5 := hide (HO.out.kept hb5')
            have HW5 := hide (grown_below HW.out hb5')
            obtain ⟨cv, hcv⟩ : ∃ z, z = cmpR D x y := ⟨_, rfl⟩
            rw [← hcv]
            refine hK _ _ (fun _ => hc5) ?_
            clear hK K hc c1 c0 HCx hb5 hb5'
            by_cases hlt2 : rlt D x y
            · have d2 : decide (cv < 0) = true := decide_eq_true (by rw [hcv]; exact cmpR_neg.2 hlt2)
              have HPs := hide (HP.out.turn (own_len HO5.out) hij1 HNI.out (by rw [← HX.out, ← HP.out.zero, ← HY.out]; exact hlt2))
              clear hcv hlt2
              iterate 2 (refine Rg.ord_guarded (v := ?_) (by rfl) (fun w' hS => ?_) hc5 ?_; rotate_left; (obtain ⟨s1, s2⟩ := hS; go_simp; with_reducible rfl); simp only [Act.put, List.setIfInBounds_toArray, List.set_cons_succ, List.set_cons_zero])
              iterate 1 (refine Rg.ord_quiet (v := ?_) rfl (fun w' hS => ?_) hc5 ?_; rotate_left; (obtain ⟨s1, s2⟩ := hS; go_simp; with_reducible rfl); simp only [Act.put, List.setIfInBounds_toArray, List.set_cons_succ, List.set_cons_zero])
              refine Rg.ord_nil ?_
              clear hc5 HX HY d1 p1 p2 p4 hln
              have hln2 := own_len HO5.out
              obtain ⟨ci, fi⟩ := rdy_cell HO5.out (k := i) (by omega)
              obtain ⟨cj, fj⟩ := rdy_cell HO5.out (k := j' + 1) (by omega)
              change w5.cell? ⟨g, i, none⟩ = some (encStr (at_ l1 (i))) at ci
              change w5.cell? ⟨g, j' + 1, none⟩ = some (encStr (at_ l1 (j' + 1))) at cj
              have HOs := hide (own_swp (i := i) (j := j' + 1) HO5.out)
              have HWs := hide (grown_two_put (i := i) (j := j' + 1) HW5.out (encStr (at_ l1 (j' + 1))) (encStr (at_ l1 (i))))
              obtain ⟨xi, hxi⟩ : ∃ z, z = at_ l1 (i) := ⟨_, rfl⟩
              obtain ⟨xj, hxj⟩ : ∃ z, z = at_ l1 (j' + 1) := ⟨_, rfl⟩
              rw [← hxi] at ci HOs HWs
              rw [← hxj] at cj HOs HWs
              obtain ⟨v', hy'⟩ := cell?_setCell_some (w := w5) (p := ⟨g, i, none⟩) (x := encStr xj) (q := ⟨g, j' + 1, none⟩) cj
              have HXi := hide hxi
              have HXj := hide hxj
              clear hxi hxj hln2
              have dg : decide ((j' : Int) + 1 < (i : Int)) = false := decide_eq_false (by omega)
              have b1 : (0 : Int) ≤ (i : Int) := by omega
              have b2 : (i : Int) < (n : Int) := by omega
              have b3 : (0 : Int) ≤ (j' : Int) + 1 := by omega
              have b4 : (j' : Int) + 1 < (n : Int) := by omega
              have e1 : (j' : Int) + 1 - 1 = (j' : Int) := by omega
              have pw : IntKind.i64.wrap (j' : Int) = (j' : Int) := wrap_small (by omega)
              go_wp2
              go_region
              all_goals (try go_wp2)
              go_loopw [12, 13] (fun iv jv wr => ∃ (i j : Nat) (l2 : List Bs), iv = .int .i64 i ∧ jv = .int .i64 j ∧ Hid (OwT wr 0 tId (slV g n cap) l2) ∧ Hid (w.grownBy wr (some g)) ∧ Hid (Prt D P l l2 n i j)) (fun iv jv _ => (intOf jv).toNat + 1 - (intOf iv).toNat)
              case atStart => exact ⟨i + 1, j', swp l1 i (j' + 1), by go_num, rfl, by show Hid _; exact hide HOs.out, by show Hid _; exact hide ⟨HWs.out.os, HWs.out.tape, HWs.out.output, HWs.out.size, HWs.out.block⟩, by show Hid _; exact HPs⟩
              case round =>
                clear HOs HWs HPs HO5 HW5 HO HW HP HNI HXi HXj ci cj fi fj hy' dg b1 b2 b3 b4 e1 pw hij hij1 hi0 hj1 q1 q2 q3
                obtain ⟨i0, j, l2, rfl, rfl, HO, HW, HP⟩ := hrel
                go_wp2
                obtain ⟨wo, hwo⟩ : ∃ z, z = wr := ⟨_, rfl⟩
                rw [← hwo]
                subst hwo
                go_loopw [12] (fun iv wr => ∃ i : Nat, iv = .int .i64 i ∧ i0 ≤ i ∧ Hid (OwT wr 0 tId (slV g n cap) l2) ∧ Hid (w.grownBy wr (some g)) ∧ Hid (Prt D P l l2 n i j)) (fun iv _ => j + 1 - (intOf iv).toNat)
                case atStart => exact ⟨i0, rfl, Nat.le_refl _, by show Hid _; exact HO, by show Hid _; exact HW, by show Hid _; exact HP⟩
                case round =>
                  clear HO HW HP
                  obtain ⟨i, rfl, hi0, HO, HW, HP⟩ := hrel
                  have q1 := HP.out.one
                  have q2 := HP.out.ij
                  have q3 := HP.out.jn
                  by_cases hij : i ≤ j
                  · have hln := own_len HO.out
                    obtain ⟨c1, f1⟩ := rdy_cell HO.out (k := i) (by omega)
                    obtain ⟨c0, f0⟩ := rdy_cell HO.out (k := 0) (by omega)
                    change wr.cell? ⟨g, i, none⟩ = some (encStr (at_ l2 (i))) at c1
                    change wr.cell? ⟨g, 0, none⟩ = some (encStr (at_ l2 (0))) at c0
                    have hx1 : (at_ l2 (i)).length ≤ 50 := HS.out _ ((fun _ h => HP.out.perm.mem_iff.1 h) _ (at_mem (by omega)))
                    have hx0 : (at_ l2 (0)).length ≤ 50 := HS.out _ ((fun _ h => HP.out.perm.mem_iff.1 h) _ (at_mem (by omega)))
                    have HCx := hide (HC.out wr.drew ⟨HW.out.os, HW.out.tape, HW.out.output, HW.out.size, HW.out.block⟩ (at_ l2 (i)) (at_ l2 (0)) hx1 hx0)
                    obtain ⟨x, hx⟩ : ∃ x, x = at_ l2 (i) := ⟨_, rfl⟩
                    obtain ⟨y, hy⟩ : ∃ y, y = at_ l2 (0) := ⟨_, rfl⟩
                    rw [← hx] at c1 HCx
                    rw [← hy] at c0 HCx
                    have HX := hide hx
                    have HY := hide hy
                    have d1 : decide ((i : Int) ≤ (j : Int)) = true := decide_eq_true (by omega)
                    have p1 : (0 : Int) ≤ (i : Int) := by omega
                    have p2 : (i : Int) < (n : Int) := by omega
                    have p4 : (0 : Int) < (n : Int) := by omega
                    have p5 : 0 < n := by omega
                    have hlt1 := (World.ownsRow.lt HO.out g rfl).2
                    clear hx hy hx1 hx0 f1 f0
                    go_wp2
                    have hc : wr.drew.cell? ⟨g, i, none⟩ = some (encStr x) ∧ wr.drew.cell? ⟨g, 0, none⟩ = some (encStr y) := ⟨c1, c0⟩
                    refine Rg.wp_region_ord (fun w' => w'.cell? ⟨g, i, none⟩ = some (encStr x) ∧ w'.cell? ⟨g, 0, none⟩ = some (encStr y)) [(0, true), (1, true), (2, true), (3, true), (4, true), (5, true), (6, true), (7, true), (8, true), (9, true), (10, true), (11, true), (12, true), (13, false), (14, true), (15, true)] (by kernel_rfl) (by kernel_rfl) ?_
                    simp only [Rg.pick, List.map_cons, List.map_nil, List.getD_cons_zero, List.getD_cons_succ]
                    iterate 4 (refine Rg.ord_quiet (v := ?_) rfl (fun w' hS => ?_) hc ?_; rotate_left; (obtain ⟨s1, s2⟩ := hS; go_simp; with_reducible rfl); simp only [Act.put, List.setIfInBounds_toArray, List.set_cons_succ, List.set_cons_zero])
                    try simp only [d1]
                    iterate 9 (refine Rg.ord_guarded (v := ?_) (by rfl) (fun w' hS => ?_) hc ?_; rotate_left; (obtain ⟨s1, s2⟩ := hS; go_simp; with_reducible rfl); simp only [Act.put, List.setIfInBounds_toArray, List.set_cons_succ, List.set_cons_zero])
                    refine Rg.ord_loud (by rfl) (fun K hK => ?_)
                    go_simp
                    refine HCx.out.mono ?_
                    rintro e w5 ⟨rfl, hb5⟩
                    have hb5' : Below wr.heap.size wr w5 := ⟨hb5.out.os, hb5.out.tape, hb5.out.output, hb5.out.size, hb5.out.block⟩
                    have hc5 : w5.cell? ⟨g, i, none⟩ = some (encStr x) ∧ w5.cell? ⟨g, 0, none⟩ = some (encStr y) := ⟨(World.cell?_of_block (hb5'.block g hlt1)).trans c1, (World.cell?_of_block (hb5'.block g hlt1)).trans c0⟩
                    have HO5 := hide (HO.out.kept hb5')
                    have HW5 := hide (grown_below HW.out hb5')
                    obtain ⟨cv, hcv⟩ : ∃ z, z = cmpR D x y := ⟨_, rfl⟩
                    rw [← hcv]
                    refine hK _ _ (fun _ => hc5) ?_
                    clear hK K hc c1 c0 HCx hb5 hb5'
                    by_cases hlt2 : rlt D x y
                    · have d2 : decide (cv < 0) = true := decide_eq_true (by rw [hcv]; exact cmpR_neg.2 hlt2)
                      have HP2 := hide (HP.out.up hij (by rw [← HX.out, ← HP.out.zero, ← HY.out]; exact hlt2))
                      clear hcv hlt2
                      iterate 1 (refine Rg.ord_guarded (v := ?_) (by rfl) (fun w' hS => ?_) hc5 ?_; rotate_left; (obtain ⟨s1, s2⟩ := hS; go_simp; with_reducible rfl); simp only [Act.put, List.setIfInBounds_toArray, List.set_cons_succ, List.set_cons_zero])
                      iterate 1 (refine Rg.ord_quiet (v := ?_) rfl (fun w' hS => ?_) hc5 ?_; rotate_left; (obtain ⟨s1, s2⟩ := hS; go_simp; with_reducible rfl); simp only [Act.put, List.setIfInBounds_toArray, List.set_cons_succ, List.set_cons_zero])
                      refine Rg.ord_nil ?_
                      go_wp2
                      exact ⟨⟨i + 1, by go_num, by omega, by show Hid _; exact HO5, by show Hid _; exact HW5, by show Hid _; exact HP2⟩, by simp [intOf]; omega⟩
                    · have d2 : decide (cv < 0) = false := decide_eq_false (by rw [hcv]; exact fun h => hlt2 (cmpR_neg.1 h))
                      have HNI := hide (show ¬ rlt D (at_ l2 i) P from by rw [← HX.out, ← HP.out.zero, ← HY.out]; exact hlt2)
                      clear hcv hlt2
                      iterate 1 (refine Rg.ord_guarded (v := ?_) (by rfl) (fun w' hS => ?_) hc5 ?_; rotate_left; (obtain ⟨s1, s2⟩ := hS; go_simp; with_reducible rfl); simp only [Act.put, List.setIfInBounds_toArray, List.set_cons_succ, List.set_cons_zero])
                      iterate 1 (refine Rg.ord_quiet (v := ?_) rfl (fun w' hS => ?_) hc5 ?_; rotate_left; (obtain ⟨s1, s2⟩ := hS; go_simp; with_reducible rfl); simp only [Act.put, List.setIfInBounds_toArray, List.set_cons_succ, List.set_cons_zero])
                      refine Rg.ord_nil ?_
                      clear hc5 HX HY d1 p1 p2 p4 hln
                      go_wp2
                      clear d2
                      obtain ⟨wo, hwo⟩ : ∃ z, z = w5 := ⟨_, rfl⟩
                      rw [← hwo]
                      subst hwo
                      go_loopw [13] (fun jv wr => ∃ j1 : Nat, jv = .int .i64 j1 ∧ j1 ≤ j ∧ Hid (OwT wr 0 tId (slV g n cap) l2) ∧ Hid (w.grownBy wr (some g)) ∧ Hid (Prt D P l l2 n i j1)) (fun jv _ => (intOf jv).toNat)
                      case atStart => exact ⟨j, rfl, Nat.le_refl _, by show Hid _; exact HO5, by show Hid _; exact HW5, by show Hid _; exact HP⟩
                      case round =>
                        clear HO5 HW5 HO HW HP q2 q3
                        obtain ⟨j1, rfl, hj1, HO, HW, HP⟩ := hrel
                        have q2 := HP.out.ij
                        have q3 := HP.out.jn
                        by_cases hij1 : i ≤ j1
                        · obtain ⟨j', rfl⟩ : ∃ j', j1 = j' + 1 := ⟨j1 - 1, by omega⟩
                          have hln := own_len HO.out
                          obtain ⟨c1, f1⟩ := rdy_cell HO.out (k := j' + 1) (by omega)
                          obtain ⟨c0, f0⟩ := rdy_cell HO.out (k := 0) (by omega)
                          change wr.cell? ⟨g, j' + 1, none⟩ = some (encStr (at_ l2 (j' + 1))) at c1
                          change wr.cell? ⟨g, 0, none⟩ = some (encStr (at_ l2 (0))) at c0
                          have hx1 : (at_ l2 (j' + 1)).length ≤ 50 := HS.out _ ((fun _ h => HP.out.perm.mem_iff.1 h) _ (at_mem (by omega)))
                          have hx0 : (at_ l2 (0)).length ≤ 50 := HS.out _ ((fun _ h => HP.out.perm.mem_iff.1 h) _ (at_mem (by omega)))
                          have HCx := hide (HC.out wr.drew ⟨HW.out.os, HW.out.tape, HW.out.output, HW.out.size, HW.out.block⟩ (at_ l2 (j' + 1)) (at_ l2 (0)) hx1 hx0)
                          obtain ⟨x, hx⟩ : ∃ x, x = at_ l2 (j' + 1) := ⟨_, rfl⟩
                          obtain ⟨y, hy⟩ : ∃ y, y = at_ l2 (0) := ⟨_, rfl⟩
                          rw [← hx] at c1 HCx
                          rw [← hy] at c0 HCx
                          have HX := hide hx
                          have HY := hide hy
                          have d1 : decide ((i : Int) ≤ (j' : Int) + 1) = true := decide_eq_true (by omega)
                          have p1 : (0 : Int) ≤ (j' : Int) + 1 := by omega
                          have p2 : (j' : Int) + 1 < (n : Int) := by omega
                          have p4 : (0 : Int) < (n : Int) := by omega
                          have p5 : 0 < n := by omega
                          have hlt1 := (World.ownsRow.lt HO.out g rfl).2
                          clear hx hy hx1 hx0 f1 f0
                          go_wp2
                          have hc : wr.drew.cell? ⟨g, j' + 1, none⟩ = some (encStr x) ∧ wr.drew.cell? ⟨g, 0, none⟩ = some (encStr y) := ⟨c1, c0⟩
                          refine Rg.wp_region_ord (fun w' => w'.cell? ⟨g, j' + 1, none⟩ = some (encStr x) ∧ w'.cell? ⟨g, 0, none⟩ = some (encStr y)) [(0, true), (1, true), (2, true), (3, true), (4, true), (5, true), (6, true), (7, true), (8, true), (9, true), (10, true), (11, true), (12, true), (13, false), (14, true), (15, true), (16, true)] (by kernel_rfl) (by kernel_rfl) ?_
                          simp only [Rg.pick, List.map_cons, List.map_nil, List.getD_cons_zero, List.getD_cons_succ]
                          iterate 4 (refine Rg.ord_quiet (v := ?_) rfl (fun w' hS => ?_) hc ?_; rotate_left; (obtain ⟨s1, s2⟩ := hS; go_simp; with_reducible rfl); simp only [Act.put, List.setIfInBounds_toArray, List.set_cons_succ, List.set_cons_zero])
                          try simp only [d1]
                          iterate 9 (refine Rg.ord_guarded (v := ?_) (by rfl) (fun w' hS => ?_) hc ?_; rotate_left; (obtain ⟨s1, s2⟩ := hS; go_simp; with_reducible rfl); simp only [Act.put, List.setIfInBounds_toArray, List.set_cons_succ, List.set_cons_zero])
                          refine Rg.ord_loud (by rfl) (fun K hK => ?_)
                          go_simp
                          refine HCx.out.mono ?_
                          rintro e w5 ⟨rfl, hb5⟩
                          have hb5' : Below wr.heap.size wr w5 := ⟨hb5.out.os, hb5.out.tape, hb5.out.output, hb5.out.size, hb5.out.block⟩
                          have hc5 : w5.cell? ⟨g, j' + 1, none⟩ = some (encStr x) ∧ w5.cell? ⟨g, 0, none⟩ = some (encStr y) := ⟨(World.cell?_of_block (hb5'.block g hlt1)).trans c1, (World.cell?_of_block (hb5'.block g hlt1)).trans c0⟩
                          have HO5 := hide (HO.out.kept hb5')
                          have HW5 := hide (grown_below HW.out hb5')
                          obtain ⟨cv, hcv⟩ : ∃ z, z = cmpR D x y := ⟨_, rfl⟩
                          rw [← hcv]
                          refine hK _ _ (fun _ => hc5) ?_
                          clear hK K hc c1 c0 HCx hb5 hb5'
                          by_cases hlt2 : rlt D x y
                          · have d2 : decide (cv < 0) = true := decide_eq_true (by rw [hcv]; exact cmpR_neg.2 hlt2)
                            have HPs := hide (HP.out.turn (own_len HO5.out) hij1 HNI.out (by rw [← HX.out, ← HP.out.zero, ← HY.out]; exact hlt2))
                            clear hcv hlt2
                            iterate 2 (refine Rg.ord_guarded (v := ?_) (by rfl) (fun w' hS => ?_) hc5 ?_; rotate_left; (obtain ⟨s1, s2⟩ := hS; go_simp; with_reducible rfl); simp only [Act.put, List.setIfInBounds_toArray, List.set_cons_succ, List.set_cons_zero])
                            iterate 1 (refine Rg.ord_quiet (v := ?_) rfl (fun w' hS => ?_) hc5 ?_; rotate_left; (obtain ⟨s1, s2⟩ := hS; go_simp; with_reducible rfl); simp only [Act.put, List.setIfInBounds_toArray, List.set_cons_succ, List.set_cons_zero])
                            refine Rg.ord_nil ?_
                            clear hc5 HX HY d1 p1 p2 p4 hln
                            have hln2 := own_len HO5.out
                            obtain ⟨ci, fi⟩ := rdy_cell HO5.out (k := i) (by omega)
                            obtain ⟨cj, fj⟩ := rdy_cell HO5.out (k := j' + 1) (by omega)
                            change w5.cell? ⟨g, i, none⟩ = some (encStr (at_ l2 (i))) at ci
                            change w5.cell? ⟨g, j' + 1, none⟩ = some (encStr (at_ l2 (j' + 1))) at cj
                            have HOs := hide (own_swp (i := i) (j := j' + 1) HO5.out)
                            have HWs := hide (grown_two_put (i := i) (j := j' + 1) HW5.out (encStr (at_ l2 (j' + 1))) (encStr (at_ l2 (i))))
                            obtain ⟨xi, hxi⟩ : ∃ z, z = at_ l2 (i) := ⟨_, rfl⟩
                            obtain ⟨xj, hxj⟩ : ∃ z, z = at_ l2 (j' + 1) := ⟨_, rfl⟩
                            rw [← hxi] at ci HOs HWs
                            rw [← hxj] at cj HOs HWs
                            obtain ⟨v', hy'⟩ := cell?_setCell_some (w := w5) (p := ⟨g, i, none⟩) (x := encStr xj) (q := ⟨g, j' + 1, none⟩) cj
                            have HXi := hide hxi
                            have HXj := hide hxj
                            clear hxi hxj hln2
                            have dg : decide ((j' : Int) + 1 < (i : Int)) = false := decide_eq_false (by omega)
                            have b1 : (0 : Int) ≤ (i : Int) := by omega
                            have b2 : (i : Int) < (n : Int) := by omega
                            have b3 : (0 : Int) ≤ (j' : Int) + 1 := by omega
                            have b4 : (j' : Int) + 1 < (n : Int) := by omega
                            have e1 : (j' : Int) + 1 - 1 = (j' : Int) := by omega
                            have pw : IntKind.i64.wrap (j' : Int) = (j' : Int) := wrap_small (by omega)
                            go_wp2
                            go_region
                            all_goals (try go_wp2)
                            all_goals exact ⟨⟨i + 1, j', swp l2 i (j' + 1), by go_num, rfl, by show Hid _; exact hide HOs.out, by show Hid _; exact hide ⟨HWs.out.os, HWs.out.tape, HWs.out.output, HWs.out.size, HWs.out.block⟩, by show Hid _; exact HPs⟩, by simp [intOf]; omega⟩
                          · have d2 : decide (cv < 0) = false := decide_eq_false (by rw [hcv]; exact fun h => hlt2 (cmpR_neg.1 h))
                            have HP2 := hide (HP.out.down hij1 (by rw [← HX.out, ← HP.out.zero, ← HY.out]; exact hlt2))
                            have e1 : (j' : Int) + 1 - 1 = (j' : Int) := by omega
                            have pw : IntKind.i64.wrap (j' : Int) = (j' : Int) := wrap_small (by omega)
                            clear hcv hlt2
                            iterate 2 (refine Rg.ord_guarded (v := ?_) (by rfl) (fun w' hS => ?_) hc5 ?_; rotate_left; (obtain ⟨s1, s2⟩ := hS; go_simp; with_reducible rfl); simp only [Act.put, List.setIfInBounds_toArray, List.set_cons_succ, List.set_cons_zero])
                            iterate 1 (refine Rg.ord_quiet (v := ?_) rfl (fun w' hS => ?_) hc5 ?_; rotate_left; (obtain ⟨s1, s2⟩ := hS; go_simp; with_reducible rfl); simp only [Act.put, List.setIfInBounds_toArray, List.set_cons_succ, List.set_cons_zero])
                            refine Rg.ord_nil ?_
                            go_wp2
                            exact ⟨⟨j', rfl, by omega, by show Hid _; exact HO5, by show Hid _; exact HW5, by show Hid _; exact HP2⟩, by simp [intOf]⟩
                        · have d1 : decide ((i : Int) ≤ (j1 : Int)) = false := decide_eq_false (by omega)
                          have dg : decide ((j1 : Int) < (i : Int)) = true := decide_eq_true (by omega)
                          go_wp2
                          go_quiet (fail)
                          obtain ⟨wq, hwq⟩ : ∃ z, z = wr.drewN nq := ⟨_, rfl⟩
                          rw [← hwq]
                          have HOwq := hide (show OwT wq 0 tId (slV g n cap) l2 from by rw [hwq]; exact HO.out.drewN nq)
                          have HWwq := hide (show w.grownBy wq (some g) from by rw [hwq]; exact ⟨HW.out.os, HW.out.tape, HW.out.output, HW.out.size, HW.out.block⟩)
                          clear hwq HO HW
                          have HO := HOwq
                          have HW := HWwq
                          clear HOwq HWwq
                          have HD := hide (HP.out.done (own_len HO.out) (by omega))
                          have hln2 := own_len HO.out
                          obtain ⟨ci, fi⟩ := rdy_cell HO.out (k := j1) (by omega)
                          obtain ⟨cj, fj⟩ := rdy_cell HO.out (k := 0) (by omega)
                          change wq.cell? ⟨g, j1, none⟩ = some (encStr (at_ l2 (j1))) at ci
                          change wq.cell? ⟨g, 0, none⟩ = some (encStr (at_ l2 (0))) at cj
                          have HOs := hide (own_swp (i := j1) (j := 0) HO.out)
                          have HWs := hide (grown_two_put (i := j1) (j := 0) HW.out (encStr (at_ l2 (0))) (encStr (at_ l2 (j1))))
                          obtain ⟨xi, hxi⟩ : ∃ z, z = at_ l2 (j1) := ⟨_, rfl⟩
                          obtain ⟨xj, hxj⟩ : ∃ z, z = at_ l2 (0) := ⟨_, rfl⟩
                          rw [← hxi] at ci HOs HWs
                          rw [← hxj] at cj HOs HWs
                          obtain ⟨v', hy'⟩ := cell?_setCell_some (w := wq) (p := ⟨g, j1, none⟩) (x := encStr xj) (q := ⟨g, 0, none⟩) cj
                          have HXi := hide hxi
                          have HXj := hide hxj
                          clear hxi hxj hln2
                          have b1 : (0 : Int) ≤ (j1 : Int) := by omega
                          have b2 : (j1 : Int) < (n : Int) := by omega
                          have b3 : (0 : Int) < (n : Int) := by omega
                          have b5 : 0 < n := by omega
                          go_wp2
                          go_region
                          all_goals (try go_wp2)
                          all_goals (try simp only [Exit.inBlock, Exit.then])
                          all_goals go_ret2
                          all_goals exact ⟨j1, false, _, rfl, HD.out.1, HD.out.2, HOs.out, ⟨HWs.out.os, HWs.out.tape, HWs.out.output, HWs.out.size, HWs.out.block⟩⟩
                  · have d1 : decide ((i : Int) ≤ (j : Int)) = false := decide_eq_false (by omega)
                    have dg : decide ((j : Int) < (i : Int)) = true := decide_eq_true (by omega)
                    go_wp2
                    go_quiet (fail)
                    obtain ⟨wq, hwq⟩ : ∃ z, z = wr.drewN nq := ⟨_, rfl⟩
                    rw [← hwq]
                    have HOwq := hide (show OwT wq 0 tId (slV g n cap) l2 from by rw [hwq]; exact HO.out.drewN nq)
                    have HWwq := hide (show w.grownBy wq (some g) from by rw [hwq]; exact ⟨HW.out.os, HW.out.tape, HW.out.output, HW.out.size, HW.out.block⟩)
                    clear hwq HO HW
                    have HO := HOwq
                    have HW := HWwq
                    clear HOwq HWwq
                    go_wp2
                    refine wp_loop_rounds 1 ?_
                    rw [rounds_succ]
                    go_wp2
                    go_quiet (fail)
                    obtain ⟨wk, hwq⟩ : ∃ z, z = wq.drewN nq := ⟨_, rfl⟩
                    rw [← hwq]
                    have HOwk := hide (show OwT wk 0 tId (slV g n cap) l2 from by rw [hwq]; exact HO.out.drewN nq)
                    have HWwk := hide (show w.grownBy wk (some g) from by rw [hwq]; exact ⟨HW.out.os, HW.out.tape, HW.out.output, HW.out.size, HW.out.block⟩)
                    clear hwq HO HW
                    have HO := HOwk
                    have HW := HWwk
                    clear HOwk HWwk
                    have HD := hide (HP.out.done (own_len HO.out) (by omega))
                    have hln2 := own_len HO.out
                    obtain ⟨ci, fi⟩ := rdy_cell HO.out (k := j) (by omega)
                    obtain ⟨cj, fj⟩ := rdy_cell HO.out (k := 0) (by omega)
                    change wk.cell? ⟨g, j, none⟩ = some (encStr (at_ l2 (j))) at ci
                    change wk.cell? ⟨g, 0, none⟩ = some (encStr (at_ l2 (0))) at cj
                    have HOs := hide (own_swp (i := j) (j := 0) HO.out)
                    have HWs := hide (grown_two_put (i := j) (j := 0) HW.out (encStr (at_ l2 (0))) (encStr (at_ l2 (j))))
                    obtain ⟨xi, hxi⟩ : ∃ z, z = at_ l2 (j) := ⟨_, rfl⟩
                    obtain ⟨xj, hxj⟩ : ∃ z, z = at_ l2 (0) := ⟨_, rfl⟩
                    rw [← hxi] at ci HOs HWs
                    rw [← hxj] at cj HOs HWs
                    obtain ⟨v', hy'⟩ := cell?_setCell_some (w := wk) (p := ⟨g, j, none⟩) (x := encStr xj) (q := ⟨g, 0, none⟩) cj
                    have HXi := hide hxi
                    have HXj := hide hxj
                    clear hxi hxj hln2
                    have b1 : (0 : Int) ≤ (j : Int) := by omega
                    have b2 : (j : Int) < (n : Int) := by omega
                    have b3 : (0 : Int) < (n : Int) := by omega
                    have b5 : 0 < n := by omega
                    go_wp2
                    go_region
                    all_goals (try go_wp2)
                    all_goals (try simp only [Exit.inBlock, Exit.then])
                    all_goals go_ret2
                    all_goals exact ⟨j, false, _, rfl, HD.out.1, HD.out.2, HOs.out, ⟨HWs.out.os, HWs.out.tape, HWs.out.output, HWs.out.size, HWs.out.block⟩⟩
            · have d2 : decide (cv < 0) = false := decide_eq_false (by rw [hcv]; exact fun h => hlt2 (cmpR_neg.1 h))
              have HP2 := hide (HP.out.down hij1 (by rw [← HX.out, ← HP.out.zero, ← HY.out]; exact hlt2))
              have e1 : (j' : Int) + 1 - 1 = (j' : Int) := by omega
              have pw : IntKind.i64.wrap (j' : Int) = (j' : Int) := wrap_small (by omega)
              clear hcv hlt2
              iterate 2 (refine Rg.ord_guarded (v := ?_) (by rfl) (fun w' hS => ?_) hc5 ?_; rotate_left; (obtain ⟨s1, s2⟩ := hS; go_simp; with_reducible rfl); simp only [Act.put, List.setIfInBounds_toArray, List.set_cons_succ, List.set_cons_zero])
              iterate 1 (refine Rg.ord_quiet (v := ?_) rfl (fun w' hS => ?_) hc5 ?_; rotate_left; (obtain ⟨s1, s2⟩ := hS; go_simp; with_reducible rfl); simp only [Act.put, List.setIfInBounds_toArray, List.set_cons_succ, List.set_cons_zero])
              refine Rg.ord_nil ?_
              go_wp2
              exact ⟨⟨j', rfl, by omega, by show Hid _; exact HO5, by show Hid _; exact HW5, by show Hid _; exact HP2⟩, by simp [intOf]⟩
          · have d1 : decide ((i : Int) ≤ (j1 : Int)) = false := decide_eq_false (by omega)
            have dg : decide ((j1 : Int) < (i : Int)) = true := decide_eq_true (by omega)
            go_wp2
            go_quiet (fail)
            obtain ⟨wq, hwq⟩ : ∃ z, z = wr.drewN nq := ⟨_, rfl⟩
            rw [← hwq]
            have HOwq := hide (show OwT wq 0 tId (slV g n cap) l1 from by rw [hwq]; exact HO.out.drewN nq)
            have HWwq := hide (show w.grownBy wq (some g) from by rw [hwq]; exact ⟨HW.out.os, HW.out.tape, HW.out.output, HW.out.size, HW.out.block⟩)
            clear hwq HO HW
            have HO := HOwq
            have HW := HWwq
            clear HOwq HWwq
            have HD := hide (HP.out.done (own_len HO.out) (by omega))
            have hln2 := own_len HO.out
            obtain ⟨ci, fi⟩ := rdy_cell HO.out (k := j1) (by omega)
            obtain ⟨cj, fj⟩ := rdy_cell HO.out (k := 0) (by omega)
            change wq.cell? ⟨g, j1, none⟩ = some (encStr (at_ l1 (j1))) at ci
            change wq.cell? ⟨g, 0, none⟩ = some (encStr (at_ l1 (0))) at cj
            have HOs := hide (own_swp (i := j1) (j := 0) HO.out)
            have HWs := hide (grown_two_put (i := j1) (j := 0) HW.out (encStr (at_ l1 (0))) (encStr (at_ l1 (j1))))
            obtain ⟨xi, hxi⟩ : ∃ z, z = at_ l1 (j1) := ⟨_, rfl⟩
            obtain ⟨xj, hxj⟩ : ∃ z, z = at_ l1 (0) := ⟨_, rfl⟩
            rw [← hxi] at ci HOs HWs
            rw [← hxj] at cj HOs HWs
            obtain ⟨v', hy'⟩ := cell?_setCell_some (w := wq) (p := ⟨g, j1, none⟩) (x := encStr xj) (q := ⟨g, 0, none⟩) cj
            have HXi := hide hxi
            have HXj := hide hxj
            clear hxi hxj hln2
            have b1 : (0 : Int) ≤ (j1 : Int) := by omega
            have b2 : (j1 : Int) < (n : Int) := by omega
            have b3 : (0 : Int) < (n : Int) := by omega
            have b5 : 0 < n := by omega
            go_wp2
            go_region
            all_goals (try go_wp2)
            all_goals (try simp only [Exit.inBlock, Exit.then])
            all_goals go_ret2
            all_goals exact ⟨j1, true, _, rfl, HD.out.1, HD.out.2, HOs.out, ⟨HWs.out.os, HWs.out.tape, HWs.out.output, HWs.out.size, HWs.out.block⟩⟩
    · have d1 : decide ((i : Int) ≤ (j : Int)) = false := decide_eq_false (by omega)
      have dg : decide ((j : Int) < (i : Int)) = true := decide_eq_true (by omega)
      go_wp2
      go_quiet (fail)
      obtain ⟨wq, hwq⟩ : ∃ z, z = wr.drewN nq := ⟨_, rfl⟩
      rw [← hwq]
      have HOwq := hide (show OwT wq 0 tId (slV g n cap) l1 from by rw [hwq]; exact HO.out.drewN nq)
      have HWwq := hide (show w.grownBy wq (some g) from by rw [hwq]; exact ⟨HW.out.os, HW.out.tape, HW.out.output, HW.out.size, HW.out.block⟩)
      clear hwq HO HW
      have HO := HOwq
      have HW := HWwq
      clear HOwq HWwq
      go_wp2
      refine wp_loop_rounds 1 ?_
      rw [rounds_succ]
      go_wp2
      go_quiet (fail)
      obtain ⟨wk, hwq⟩ : ∃ z, z = wq.drewN nq := ⟨_, rfl⟩
      rw [← hwq]
      have HOwk := hide (show OwT wk 0 tId (slV g n cap) l1 from by rw [hwq]; exact HO.out.drewN nq)
      have HWwk := hide (show w.grownBy wk (some g) from by rw [hwq]; exact ⟨HW.out.os, HW.out.tape, HW.out.output, HW.out.size, HW.out.block⟩)
      clear hwq HO HW
      have HO := HOwk
      have HW := HWwk
      clear HOwk HWwk
      have HD := hide (HP.out.done (own_len HO.out) (by omega))
      have hln2 := own_len HO.out
      obtain ⟨ci, fi⟩ := rdy_cell HO.out (k := j) (by omega)
      obtain ⟨cj, fj⟩ := rdy_cell HO.out (k := 0) (by omega)
      change wk.cell? ⟨g, j, none⟩ = some (encStr (at_ l1 (j))) at ci
      change wk.cell? ⟨g, 0, none⟩ = some (encStr (at_ l1 (0))) at cj
      have HOs := hide (own_swp (i := j) (j := 0) HO.out)
      have HWs := hide (grown_two_put (i := j) (j := 0) HW.out (encStr (at_ l1 (0))) (encStr (at_ l1 (j))))
      obtain ⟨xi, hxi⟩ : ∃ z, z = at_ l1 (j) := ⟨_, rfl⟩
      obtain ⟨xj, hxj⟩ : ∃ z, z = at_ l1 (0) := ⟨_, rfl⟩
      rw [← hxi] at ci HOs HWs
      rw [← hxj] at cj HOs HWs
      obtain ⟨v', hy'⟩ := cell?_setCell_some (w := wk) (p := ⟨g, j, none⟩) (x := encStr xj) (q := ⟨g, 0, none⟩) cj
      have HXi := hide hxi
      have HXj := hide hxj
      clear hxi hxj hln2
      have b1 : (0 : Int) ≤ (j : Int) := by omega
      have b2 : (j : Int) < (n : Int) := by omega
      have b3 : (0 : Int) < (n : Int) := by omega
      have b5 : 0 < n := by omega
      go_wp2
      go_region
      all_goals (try go_wp2)
      all_goals (try simp only [Exit.inBlock, Exit.then])
      all_goals go_ret2
      all_goals exact ⟨j, true, _, rfl, HD.out.1, HD.out.2, HOs.out, ⟨HWs.out.os, HWs.out.tape, HWs.out.output, HWs.out.size, HWs.out.block⟩⟩
end Go.Proofs.Ytplmcpdlommmaaa.Oq
