/-
  The reference's reader: Left, and End.
-/
import Derived.Test.YtlplgkdoiinfhaaDoorQ18
import Derived.Test.YtlplgkdoiinfhaaDoorQ10
import Derived.Test.YtlplgkdoiinfhaaDoorWK
namespace Go.Proofs.YtlplgkdoiinfhaaDoor.Wr
open Go Go.RowKit Kt

/-- the reference's reader in block g: its bytes, how many are behind it, why it failed -/
def RR (w : World) (B g : Nat) (bs : List UInt8) (at_ e : Nat) : Prop :=
  ∃ A c, Row w g 66 [.slice A bs.length c, .int .i64 (at_ : Int), .int .i64 (e : Int)] ∧ Sl w (fun b => b < B) A c bs ∧ B ≤ g ∧ at_ ≤ bs.length ∧ bs.length ≤ 4000
theorem RR.lt {w : World} {B g : Nat} {bs : List UInt8} {at_ e : Nat} (h : RR w B g bs at_ e) : g < w.heap.size := by obtain ⟨A, c, hr, _⟩ := h; exact hr.lt
theorem RR.drewN {w : World} {B g : Nat} {bs : List UInt8} {at_ e : Nat} (h : RR w B g bs at_ e) (n : Nat) : RR (w.drewN n) B g bs at_ e := h
theorem RR.below {w w' : World} {B g : Nat} {bs : List UInt8} {at_ e : Nat} (h : RR w B g bs at_ e) (hb : Below w.heap.size w w') : RR w' B g bs at_ e := by
  obtain ⟨A, c, hr, hs, hB, h1, h2⟩ := h
  exact ⟨A, c, hr.below hb hr.lt, hs.move fun b _ hlt => hb.block b hlt, hB, h1, h2⟩

theorem Only.drewN {S : Nat → Prop} {a b : World} (h : Only S a b) (n : Nat) : Only S a (b.drewN n) := ⟨h.os, h.tape, h.output, h.size, h.block⟩
theorem RR.only {S : Nat → Prop} {w w' : World} {B g : Nat} {bs : List UInt8} {at_ e : Nat} (h : RR w B g bs at_ e) (ho : Only S w w') (hg : ¬ S g) (hS : ∀ b, b < B → ¬ S b) : RR w' B g bs at_ e := by
  obtain ⟨A, c, hr, hs, hB, h1, h2⟩ := h
  exact ⟨A, c, hr.only ho hg, hs.only ho hS, hB, h1, h2⟩

set_option maxHeartbeats 1000000 in
set_option maxRecDepth 100000 in
theorem rleft_any {w : World} {B g : Nat} {bs : List UInt8} {at_ e : Nat} (h : RR w B g bs at_ e) :
    Calls Tryd.prog 44 #[.pointer (some ⟨g, 0, none⟩)] w fun y w' => y = .returned (.int .i64 (bs.length - at_ : Nat)) ∧ ∃ n, w' = w.drewN n := by
  obtain ⟨A, c, hr, _, _, h1, h2⟩ := h
  have c0 : w.cell? ⟨g, 0, none⟩ = some (.slice A bs.length c) := hr.cell 0
  have c1 : w.cell? ⟨g, 1, none⟩ = some (.int .i64 (at_ : Int)) := hr.cell 1
  have hsub : (bs.length : Int) - (at_ : Int) = ((bs.length - at_ : Nat) : Int) := by omega
  have Hr := hide hr
  clear hr
  go_enter Tryd.func44, Tryd.ntmps44
  go_wp2
  go_quiet (fail)
  go_wp2
  go_ret
  exact ⟨rfl, _, rfl⟩

end Go.Proofs.YtlplgkdoiinfhaaDoor.Wr

namespace Go.Proofs.YtlplgkdoiinfhaaDoor.Wr
open Go Go.RowKit Kt

theorem drop_getD (bs : List UInt8) (a j : Nat) : (bs.drop a).getD j 0 = bs.getD (a + j) 0 := by
  simp [List.getD_eq_getElem?_getD, List.getElem?_drop]
/-- the number that stands next, by its value's remainder -/
theorem next_same (X : List UInt8) (k n : Nat) (h : lead X = k) (hk : k < X.length) (h9 : k < 10) (hn : n = val (X.take (k + 1)) % 18446744073709551616) :
    numOf X = if form n = X.take (k + 1) then (n, k + 1, 0) else (0, 0, 3) := by
  have hlt : n < 18446744073709551616 := by rw [hn]; exact Nat.mod_lt _ (by omega)
  split
  · rename_i he
    have hl : (X.take (k + 1)).length = k + 1 := by rw [List.length_take]; omega
    have := numOf_form n (X.drop (k + 1)) hlt
    rw [he, hl, List.take_append_drop] at this
    exact this
  · rename_i he
    by_cases hx : (0 < k ∧ (X.getD k 0).toNat = 0) ∨ (k = 9 ∧ 1 < (X.getD k 0).toNat)
    · exact num_form X k h h9 hk hx
    · exfalso
      have hok := num_ok X k h h9 hk hx
      obtain ⟨h1, _, _, _, h2⟩ := numOf_ok _ _ _ hok
      rw [Nat.mod_eq_of_lt h1] at hn
      rw [hn] at he
      exact he h2
theorem val_cons (D : List UInt8) (j : Nat) (h : j < D.length) : val (D.drop j) = (D.getD j 0).toNat % 128 + 128 * val (D.drop (j + 1)) := by
  rw [List.drop_eq_getElem_cons h, val]
  simp [List.getElem?_eq_getElem h]

set_option maxHeartbeats 2000000 in
set_option maxRecDepth 100000 in
theorem rnext_any {w : World} {B g : Nat} {bs : List UInt8} {at_ e : Nat} (h : RR w B g bs at_ e) :
    Calls Tryd.prog 62 #[.pointer (some ⟨g, 0, none⟩)] w fun y w' => y = .returned (numV (numOf (bs.drop at_))) ∧ Below w.heap.size w w' := by
  have Hrr := hide h
  obtain ⟨A, c, hr, hs, _, h1, h2⟩ := h
  have Hs := hide hs.bound
  have hc := hs.1
  have Hr := hide hr
  obtain ⟨L, hL⟩ : ∃ L, bs.length - at_ = L := ⟨_, rfl⟩
  have Hleft : Hid (∀ wx, RR wx B g bs at_ e → Calls Tryd.prog 44 #[.pointer (some ⟨g, 0, none⟩)] wx fun y w' => y = .returned (.int .i64 (L : Nat)) ∧ ∃ n, w' = wx.drewN n) := hide fun wx hx => by rw [← hL]; exact rleft_any hx
  have hLb : at_ + L = bs.length := by omega
  obtain ⟨X, hX⟩ : ∃ X, bs.drop at_ = X := ⟨_, rfl⟩
  have hXl : X.length = L := by rw [← hX, List.length_drop]; exact hL
  have HX := hide hX
  have HXl := hide hXl
  rw [hX]
  clear hX hXl hL hr hs
  go_enter Tryd.func62, Tryd.ntmps62
  go_wp2
  go_loopw [5] (fun i wr => ∃ k : Nat, k ≤ L ∧ k ≤ 10 ∧ i = .int .i64 k ∧ (∀ j, j < k → 128 ≤ (X.getD j 0).toNat) ∧ Below w.heap.size w wr) (fun i _ => L - (intOf i).toNat)
  case atStart => exact ⟨0, Nat.zero_le _, Nat.zero_le _, rfl, fun j h => absurd h (Nat.not_lt_zero _), Below.refl _ _⟩
  case round =>
    obtain ⟨k, hkL, hk10, rfl, hall, hb⟩ := hrel
    have Hb := hide hb
    have Hall := hide hall
    have c0 : wr.cell? ⟨g, 0, none⟩ = some (.slice A bs.length c) := (Hr.out.below hb Hr.out.lt).cell 0
    have c1 : wr.cell? ⟨g, 1, none⟩ = some (.int .i64 (at_ : Int)) := (Hr.out.below hb Hr.out.lt).cell 1
    clear hb hall
    by_cases hkl : k < L
    · by_cases hk : k < 10
      · obtain ⟨b, o, rfl, ⟨_, hblt⟩, hcell⟩ := Hs.out.2 (by omega)
        obtain ⟨x, hx⟩ : ∃ x, x = (X.getD k 0).toNat := ⟨_, rfl⟩
        have hx2 : x = (bs.getD (at_ + k) 0).toNat := by rw [hx, ← HX.out, drop_getD]
        have hcx := hcell (at_ + k) (by omega)
        rw [← hx2] at hcx
        obtain ⟨q, hq⟩ : ∃ q, at_ + k = q := ⟨_, rfl⟩
        have Hq := hide hq
        rw [hq] at hcx
        have hwq : IntKind.i64.wrap ((at_ : Int) + (k : Int)) = (q : Int) := by rw [IntKind.wrap_i64]; omega
        have hql : q < bs.length := by omega
        have cx : wr.cell? ⟨b, o + q, none⟩ = some (.int .u8 (x : Int)) := (World.cell?_of_block (a := ⟨b, o + q, none⟩) (Hb.out.block b hblt)).trans hcx
        have Hx := hide hx
        have Hcell := hide hcell
        have Hblt := hide hblt
        have hx8 : x < 256 := by rw [hx]; exact toNat_lt _
        have hd1 : decide ((k : Int) < (L : Int)) = true := decide_eq_true (by omega)
        have hd2 : decide ((k : Int) < 10) = true := decide_eq_true (by omega)
        clear hx hx2 hcx hcell hblt hq
        by_cases h128 : 128 ≤ x
        · have hd3 : decide (127 < (x : Int)) = true := decide_eq_true (by omega)
          go_wp2_with fail
          refine Rg.wp_region_ord (fun w' => w'.cell? ⟨g, 0, none⟩ = some (.slice (some ⟨b, o, none⟩) bs.length c) ∧ w'.cell? ⟨g, 1, none⟩ = some (.int .i64 (at_ : Int)) ∧ w'.cell? ⟨b, o + q, none⟩ = some (.int .u8 (x : Int))) [(0, true), (1, true), (2, false), (3, true), (4, true), (5, true), (6, true), (7, true), (8, true), (9, true), (10, true), (11, true), (12, true), (13, true), (14, true), (15, true), (16, true), (17, true), (18, true), (19, true), (20, true), (21, true), (22, true)] (by kernel_rfl) (by kernel_rfl) ?_
          simp only [Rg.pick, List.map_cons, List.map_nil, List.getD_cons_zero, List.getD_cons_succ]
          iterate 2 (refine Rg.ord_quiet (v := ?_) rfl (fun w' hS => ?_) ⟨c0, c1, cx⟩ ?_; rotate_left; (obtain ⟨s0, s1, s2⟩ := hS; go_simp; with_reducible rfl); simp only [Act.put, List.setIfInBounds_toArray, List.set_cons_succ, List.set_cons_zero])
          refine Rg.ord_loud rfl (fun K hK => ?_)
          go_simp
          refine (Hleft.out _ ((Hrr.out.below Hb.out).drewN 1)).mono ?_
          rintro y wz ⟨rfl, nz, rfl⟩
          refine hK _ _ (fun _ => ⟨c0, c1, cx⟩) ?_
          clear hK K
          iterate 2 (refine Rg.ord_quiet (v := ?_) rfl (fun w' hS => ?_) ⟨c0, c1, cx⟩ ?_; rotate_left; (obtain ⟨s0, s1, s2⟩ := hS; go_simp; with_reducible rfl); simp only [Act.put, List.setIfInBounds_toArray, List.set_cons_succ, List.set_cons_zero])
          iterate 2 (refine Rg.ord_guarded (v := ?_) (by rfl) (fun w' hS => ?_) ⟨c0, c1, cx⟩ ?_; rotate_left; (obtain ⟨s0, s1, s2⟩ := hS; go_simp; with_reducible rfl); simp only [Act.put, List.setIfInBounds_toArray, List.set_cons_succ, List.set_cons_zero])
          iterate 2 (refine Rg.ord_quiet (v := ?_) rfl (fun w' hS => ?_) ⟨c0, c1, cx⟩ ?_; rotate_left; (obtain ⟨s0, s1, s2⟩ := hS; go_simp; with_reducible rfl); simp only [Act.put, List.setIfInBounds_toArray, List.set_cons_succ, List.set_cons_zero])
          iterate 13 (refine Rg.ord_guarded (v := ?_) (by rfl) (fun w' hS => ?_) ⟨c0, c1, cx⟩ ?_; rotate_left; (obtain ⟨s0, s1, s2⟩ := hS; go_simp; with_reducible rfl); simp only [Act.put, List.setIfInBounds_toArray, List.set_cons_succ, List.set_cons_zero])
          iterate 1 (refine Rg.ord_quiet (v := ?_) rfl (fun w' hS => ?_) ⟨c0, c1, cx⟩ ?_; rotate_left; (obtain ⟨s0, s1, s2⟩ := hS; go_simp; with_reducible rfl); simp only [Act.put, List.setIfInBounds_toArray, List.set_cons_succ, List.set_cons_zero])
          refine Rg.ord_nil ?_
          go_wp2
          refine ⟨⟨k + 1, by omega, by omega, by go_num, fun j hj => ?_, below_drewN Hb.out _⟩, by simp [intOf]; omega⟩
          rcases Nat.lt_or_ge j k with hj' | hj'
          · exact Hall.out j hj'
          · obtain rfl : j = k := by omega
            rw [← Hx.out]; exact h128
        · have hd3 : decide (127 < (x : Int)) = false := decide_eq_false (by omega)
          go_wp2_with fail
          refine Rg.wp_region_ord (fun w' => w'.cell? ⟨g, 0, none⟩ = some (.slice (some ⟨b, o, none⟩) bs.length c) ∧ w'.cell? ⟨g, 1, none⟩ = some (.int .i64 (at_ : Int)) ∧ w'.cell? ⟨b, o + q, none⟩ = some (.int .u8 (x : Int))) [(0, true), (1, true), (2, false), (3, true), (4, true), (5, true), (6, true), (7, true), (8, true), (9, true), (10, true), (11, true), (12, true), (13, true), (14, true), (15, true), (16, true), (17, true), (18, true), (19, true), (20, true), (21, true), (22, true)] (by kernel_rfl) (by kernel_rfl) ?_
          simp only [Rg.pick, List.map_cons, List.map_nil, List.getD_cons_zero, List.getD_cons_succ]
          iterate 2 (refine Rg.ord_quiet (v := ?_) rfl (fun w' hS => ?_) ⟨c0, c1, cx⟩ ?_; rotate_left; (obtain ⟨s0, s1, s2⟩ := hS; go_simp; with_reducible rfl); simp only [Act.put, List.setIfInBounds_toArray, List.set_cons_succ, List.set_cons_zero])
          refine Rg.ord_loud rfl (fun K hK => ?_)
          go_simp
          refine (Hleft.out _ ((Hrr.out.below Hb.out).drewN 1)).mono ?_
          rintro y wz ⟨rfl, nz, rfl⟩
          refine hK _ _ (fun _ => ⟨c0, c1, cx⟩) ?_
          clear hK K
          iterate 2 (refine Rg.ord_quiet (v := ?_) rfl (fun w' hS => ?_) ⟨c0, c1, cx⟩ ?_; rotate_left; (obtain ⟨s0, s1, s2⟩ := hS; go_simp; with_reducible rfl); simp only [Act.put, List.setIfInBounds_toArray, List.set_cons_succ, List.set_cons_zero])
          iterate 2 (refine Rg.ord_guarded (v := ?_) (by rfl) (fun w' hS => ?_) ⟨c0, c1, cx⟩ ?_; rotate_left; (obtain ⟨s0, s1, s2⟩ := hS; go_simp; with_reducible rfl); simp only [Act.put, List.setIfInBounds_toArray, List.set_cons_succ, List.set_cons_zero])
          iterate 2 (refine Rg.ord_quiet (v := ?_) rfl (fun w' hS => ?_) ⟨c0, c1, cx⟩ ?_; rotate_left; (obtain ⟨s0, s1, s2⟩ := hS; go_simp; with_reducible rfl); simp only [Act.put, List.setIfInBounds_toArray, List.set_cons_succ, List.set_cons_zero])
          iterate 13 (refine Rg.ord_guarded (v := ?_) (by rfl) (fun w' hS => ?_) ⟨c0, c1, cx⟩ ?_; rotate_left; (obtain ⟨s0, s1, s2⟩ := hS; go_simp; with_reducible rfl); simp only [Act.put, List.setIfInBounds_toArray, List.set_cons_succ, List.set_cons_zero])
          iterate 1 (refine Rg.ord_quiet (v := ?_) rfl (fun w' hS => ?_) ⟨c0, c1, cx⟩ ?_; rotate_left; (obtain ⟨s0, s1, s2⟩ := hS; go_simp; with_reducible rfl); simp only [Act.put, List.setIfInBounds_toArray, List.set_cons_succ, List.set_cons_zero])
          refine Rg.ord_nil ?_
          go_wp2_with fail
          have Hb1 := hide (below_drewN Hb.out (1 + nz))
          have Hlead := hide (lead_of X k (by have := HXl.out; omega) Hall.out (by have := Hx.out; omega))
          clear c0 c1 cx
          refine (Hleft.out _ (Hrr.out.below Hb1.out)).mono ?_
          rintro y wz ⟨rfl, nz2, rfl⟩
          have hkne : ((k : Int) == (L : Int)) = false := beq_eq_false_iff_ne.2 (by omega)
          have Hb2 := hide (below_drewN Hb1.out nz2)
          go_wp2_with fail
          obtain ⟨D, hD⟩ : ∃ D, X.take (k + 1) = D := ⟨_, rfl⟩
          have HD := hide hD
          have HDl := hide (show D.length = k + 1 by rw [← hD, List.length_take]; have := HXl.out; omega)
          clear hD
          go_loopw [6, 7] (fun v i wx => ∃ (z : Int) (n : Nat), i = .int .i64 z ∧ -1 ≤ z ∧ z ≤ k ∧ v = .int .u64 (n : Int) ∧ n = val (D.drop (z + 1).toNat) % 18446744073709551616 ∧ Below w.heap.size w wx) (fun _ i _ => (intOf i + 1).toNat)
          case atStart =>
            refine ⟨k, 0, rfl, by omega, Int.le_refl _, rfl, ?_, below_drewN Hb.out _⟩
            rw [show ((k : Int) + 1).toNat = D.length by have := HDl.out; omega, List.drop_length]
            rfl
          case round =>
            clear Hb Hb1 Hb2
            obtain ⟨z, n, rfl, hz1, hz2, rfl, hn, hb⟩ := hrel
            have Hn := hide hn
            have Hb := hide hb
            have d0 : wr.cell? ⟨g, 0, none⟩ = some (.slice (some ⟨b, o, none⟩) bs.length c) := (Hr.out.below hb Hr.out.lt).cell 0
            have d1 : wr.cell? ⟨g, 1, none⟩ = some (.int .i64 (at_ : Int)) := (Hr.out.below hb Hr.out.lt).cell 1
            have hn64 : n < 18446744073709551616 := by rw [hn]; exact Nat.mod_lt _ (by omega)
            have Hn64 := hide hn64
            clear hb hn
            by_cases hz : 0 ≤ z
            · obtain ⟨j, rfl⟩ := Int.eq_ofNat_of_zero_le hz
              have hjk : j ≤ k := by omega
              obtain ⟨x2, hx2⟩ : ∃ x2, x2 = (D.getD j 0).toNat := ⟨_, rfl⟩
              have hxb : x2 = (bs.getD (at_ + j) 0).toNat := by rw [hx2, ← HD.out, take_getD _ _ _ (by omega), ← HX.out, drop_getD]
              have hcx := Hcell.out (at_ + j) (by omega)
              rw [← hxb] at hcx
              obtain ⟨q2, hq2⟩ : ∃ q2, at_ + j = q2 := ⟨_, rfl⟩
              rw [hq2] at hcx
              have hwq2 : IntKind.i64.wrap ((at_ : Int) + (j : Int)) = (q2 : Int) := by rw [IntKind.wrap_i64]; omega
              have hql2 : q2 < bs.length := by omega
              have dx : wr.cell? ⟨b, o + q2, none⟩ = some (.int .u8 (x2 : Int)) := (World.cell?_of_block (a := ⟨b, o + q2, none⟩) (Hb.out.block b Hblt.out)).trans hcx
              have hx28 : x2 < 256 := by rw [hx2]; exact toNat_lt _
              obtain ⟨p, hp⟩ : ∃ p : Nat, 128 * n % 18446744073709551616 = p := ⟨_, rfl⟩
              have hwp : IntKind.u64.wrap (128 * (n : Int)) = (p : Int) := by rw [IntKind.wrap_u64]; omega
              obtain ⟨r, hr'⟩ : ∃ r : Nat, (p + x2 % 128) % 18446744073709551616 = r := ⟨_, rfl⟩
              have hwr : IntKind.u64.wrap ((p : Int) + (x2 : Int) % 128) = (r : Int) := by rw [IntKind.wrap_u64]; omega
              have hwr2 : IntKind.u64.wrap ((p : Int) + IntKind.u64.wrap ((x2 : Int).tmod 128)) = (r : Int) := by
                rw [show (x2 : Int).tmod 128 = ((x2 % 128 : Nat) : Int) from rfl, IntKind.wrap_u64, IntKind.wrap_u64]; omega
              have Hval := hide (show r = val (D.drop j) % 18446744073709551616 by
                have hv := val_cons D j (by have := HDl.out; omega)
                have := Hn.out
                rw [show ((j : Int) + 1).toNat = j + 1 by omega] at this
                rw [← hx2] at hv
                rw [hv]
                omega)
              clear hxb hcx hq2 hx2 hp hr' hn64
              go_wp2_with fail
              refine Rg.wp_region_ord (fun w' => w'.cell? ⟨g, 0, none⟩ = some (.slice (some ⟨b, o, none⟩) bs.length c) ∧ w'.cell? ⟨g, 1, none⟩ = some (.int .i64 (at_ : Int)) ∧ w'.cell? ⟨b, o + q2, none⟩ = some (.int .u8 (x2 : Int))) [(0, true), (1, true), (2, true), (3, true), (4, true), (5, true), (6, true), (7, true), (8, true), (9, true), (10, true), (11, true), (12, true), (13, true), (14, true), (15, true), (16, true), (17, true)] (by kernel_rfl) (by kernel_rfl) ?_
              simp only [Rg.pick, List.map_cons, List.map_nil, List.getD_cons_zero, List.getD_cons_succ]
              iterate 18 (refine Rg.ord_quiet (v := ?_) rfl (fun w' hS => ?_) ⟨d0, d1, dx⟩ ?_; rotate_left; (obtain ⟨s0, s1, s2⟩ := hS; go_simp; with_reducible rfl); simp only [Act.put, List.setIfInBounds_toArray, List.set_cons_succ, List.set_cons_zero])
              refine Rg.ord_nil ?_
              go_wp2
              refine ⟨⟨(j : Int) - 1, r, rfl, by omega, by omega, rfl, ?_, Hb.out.drew⟩, by simp only [intOf]; omega⟩
              rw [show ((j : Int) - 1 + 1).toNat = j by omega]
              exact Hval.out
            · obtain rfl : z = -1 := by omega
              have hnD : n = val (X.take (k + 1)) % 18446744073709551616 := by
                rw [Hn.out, show ((-1 : Int) + 1).toNat = 0 by omega, List.drop_zero, HD.out]
              have Hsame := hide (next_same X k n Hlead.out (by have := HXl.out; omega) hk hnD)
              have Hsl := hide (sl_take (Hs.out.cut (k := at_) h1) (k := k + 1) (by rw [List.length_drop]; omega))
              have hck : ¬ c = at_ := by omega
              rw [if_neg hck, HX.out, HD.out] at Hsl
              simp only [Option.map_some, Addr.add_mid] at Hsl
              obtain ⟨q1, hq1⟩ : ∃ q1, q + 1 = q1 := ⟨_, rfl⟩
              have hwq1 : IntKind.i64.wrap ((q : Int) + 1) = (q1 : Int) := by rw [IntKind.wrap_i64]; omega
              have hq1c : q1 ≤ c := by omega
              have hatq : at_ ≤ q1 := by have := Hq.out; omega
              have hsubq : q1 - at_ = k + 1 := by have := Hq.out; omega
              clear hnD hq1
              go_wp2_with fail
              refine Rg.wp_region_ord (fun w' => w'.cell? ⟨g, 0, none⟩ = some (.slice (some ⟨b, o, none⟩) bs.length c) ∧ w'.cell? ⟨g, 1, none⟩ = some (.int .i64 (at_ : Int))) [(0, true), (2, true), (3, true), (4, true), (5, true), (6, true), (7, true), (8, true), (9, true), (10, true), (11, true), (12, true), (13, true), (14, true), (15, true), (16, true), (17, true), (1, false), (18, false), (19, true)] (by kernel_rfl) (by kernel_rfl) ?_
              simp only [Rg.pick, List.map_cons, List.map_nil, List.getD_cons_zero, List.getD_cons_succ]
              iterate 17 (refine Rg.ord_quiet (v := ?_) rfl (fun w' hS => ?_) ⟨d0, d1⟩ ?_; rotate_left; (obtain ⟨s0, s1⟩ := hS; go_simp; with_reducible rfl); simp only [Act.put, List.setIfInBounds_toArray, List.set_cons_succ, List.set_cons_zero])
              refine Rg.ord_loud rfl (fun K hK => ?_)
              go_simp
              refine (rnum_any [] n none 0 (fun _ => True) wr.drew (Sl.nil _ _ _ _) Hn64.out (by simp)).mono ?_
              rintro y w5 ⟨v5, rfl, hv5, hb5⟩
              rw [List.nil_append] at hv5
              obtain ⟨F, hF⟩ : ∃ F, form n = F := ⟨_, rfl⟩
              have Hfl := hide (show F.length ≤ 10 by rw [← hF]; exact form_short n 10 (by have := Hn64.out; omega) (by omega))
              rw [hF] at hv5 Hsame
              obtain ⟨A5, c5, rfl, hs5⟩ := Is.own hv5
              have Hs5 := hide hs5
              have Hb5 := hide (Hb.out.trans ((show Below wr.heap.size wr w5 from ⟨hb5.os, hb5.tape, hb5.output, hb5.size, hb5.block⟩).mono Hb.out.size))
              have e0 : w5.cell? ⟨g, 0, none⟩ = some (.slice (some ⟨b, o, none⟩) bs.length c) := (Hr.out.below Hb5.out Hr.out.lt).cell 0
              have e1 : w5.cell? ⟨g, 1, none⟩ = some (.int .i64 (at_ : Int)) := (Hr.out.below Hb5.out Hr.out.lt).cell 1
              clear hv5 hs5 hb5 hF d0 d1
              refine hK _ _ (fun _ => ⟨e0, e1⟩) ?_
              clear hK K
              refine Rg.ord_loud rfl (fun K hK => ?_)
              go_simp
              have hbt := bytes_any F D A5 (some ⟨b, o + at_, none⟩) c5 (c - at_) _ _ w5 Hs5.out (Hsl.out.move fun b _ hb => Hb5.out.block b (by omega)) (by have := Hfl.out; omega)
              rw [HDl.out] at hbt
              refine hbt.mono ?_
              rintro y w6 ⟨rfl, hb6⟩
              have Hb6 := hide (Hb5.out.trans (hb6.mono Hb5.out.size))
              have f0 : w6.cell? ⟨g, 0, none⟩ = some (.slice (some ⟨b, o, none⟩) bs.length c) := (Hr.out.below Hb6.out Hr.out.lt).cell 0
              have f1 : w6.cell? ⟨g, 1, none⟩ = some (.int .i64 (at_ : Int)) := (Hr.out.below Hb6.out Hr.out.lt).cell 1
              clear hbt hb6 e0 e1
              refine hK _ _ (fun _ => ⟨f0, f1⟩) ?_
              clear hK K
              by_cases hFD : F = D
              · rw [decide_eq_true hFD]
                rw [HD.out, if_pos hFD] at Hsame
                refine Rg.ord_quiet (v := ?_) rfl (fun w' hS => ?_) ⟨f0, f1⟩ ?_
                rotate_left
                · clear hS
                  go_simp
                  with_reducible rfl
                simp only [Act.put, List.setIfInBounds_toArray, List.set_cons_succ, List.set_cons_zero]
                refine Rg.ord_nil ?_
                go_wp2
                go_ret3
                exact ⟨by rw [Hsame.out]; simp [numV], Hb6.out⟩
              · rw [decide_eq_false hFD]
                rw [HD.out, if_neg hFD] at Hsame
                refine Rg.ord_quiet (v := ?_) rfl (fun w' hS => ?_) ⟨f0, f1⟩ ?_
                rotate_left
                · clear hS
                  go_simp
                  with_reducible rfl
                simp only [Act.put, List.setIfInBounds_toArray, List.set_cons_succ, List.set_cons_zero]
                refine Rg.ord_nil ?_
                go_wp2
                go_ret3
                exact ⟨by rw [Hsame.out]; simp [numV], Hb6.out⟩
      · have hk10' : k = 10 := by omega
        have hd1 : decide ((k : Int) < (L : Int)) = true := decide_eq_true (by omega)
        have hd2 : decide ((k : Int) < 10) = false := decide_eq_false (by omega)
        have hbq : ((k : Int) == 10) = true := by rw [beq_iff_eq]; omega
        have HE := hide (num_long X (fun j hj => Hall.out j (by omega)) (by have := HXl.out; omega))
        clear hk10'
        go_wp2_with fail
        refine Rg.wp_region_ord (fun w' => w'.cell? ⟨g, 0, none⟩ = some (.slice A bs.length c) ∧ w'.cell? ⟨g, 1, none⟩ = some (.int .i64 (at_ : Int))) [(0, true), (1, true), (2, false), (3, true), (4, true), (5, true), (6, true), (7, true), (8, true), (9, true), (10, true), (11, true), (12, true), (13, true), (14, true), (15, true), (16, true), (17, true), (18, true), (19, true), (20, true), (21, true), (22, true)] (by kernel_rfl) (by kernel_rfl) ?_
        simp only [Rg.pick, List.map_cons, List.map_nil, List.getD_cons_zero, List.getD_cons_succ]
        iterate 2 (refine Rg.ord_quiet (v := ?_) rfl (fun w' hS => ?_) ⟨c0, c1⟩ ?_; rotate_left; (obtain ⟨s0, s1⟩ := hS; go_simp; with_reducible rfl); simp only [Act.put, List.setIfInBounds_toArray, List.set_cons_succ, List.set_cons_zero])
        refine Rg.ord_loud rfl (fun K hK => ?_)
        go_simp
        refine (Hleft.out _ ((Hrr.out.below Hb.out).drewN 1)).mono ?_
        rintro y wz ⟨rfl, nz, rfl⟩
        refine hK _ _ (fun _ => ⟨c0, c1⟩) ?_
        clear hK K
        iterate 2 (refine Rg.ord_quiet (v := ?_) rfl (fun w' hS => ?_) ⟨c0, c1⟩ ?_; rotate_left; (obtain ⟨s0, s1⟩ := hS; go_simp; with_reducible rfl); simp only [Act.put, List.setIfInBounds_toArray, List.set_cons_succ, List.set_cons_zero])
        iterate 2 (refine Rg.ord_guarded (v := ?_) (by rfl) (fun w' hS => ?_) ⟨c0, c1⟩ ?_; rotate_left; (obtain ⟨s0, s1⟩ := hS; go_simp; with_reducible rfl); simp only [Act.put, List.setIfInBounds_toArray, List.set_cons_succ, List.set_cons_zero])
        iterate 2 (refine Rg.ord_quiet (v := ?_) rfl (fun w' hS => ?_) ⟨c0, c1⟩ ?_; rotate_left; (obtain ⟨s0, s1⟩ := hS; go_simp; with_reducible rfl); simp only [Act.put, List.setIfInBounds_toArray, List.set_cons_succ, List.set_cons_zero])
        iterate 13 (refine Rg.ord_passed (by rfl) ⟨c0, c1⟩ ?_; simp only [Act.put, List.setIfInBounds_toArray, List.set_cons_succ, List.set_cons_zero])
        iterate 1 (refine Rg.ord_quiet (v := ?_) rfl (fun w' hS => ?_) ⟨c0, c1⟩ ?_; rotate_left; (obtain ⟨s0, s1⟩ := hS; go_simp; with_reducible rfl); simp only [Act.put, List.setIfInBounds_toArray, List.set_cons_succ, List.set_cons_zero])
        refine Rg.ord_nil ?_
        go_wp2
        go_ret3
        exact ⟨by rw [HE.out]; rfl, below_drewN Hb.out _⟩
    · obtain rfl : k = L := by omega
      have hd1 : decide ((k : Int) < (k : Int)) = false := decide_eq_false (by omega)
      by_cases hk : k = 10
      · have hbq : ((k : Int) == 10) = true := by rw [beq_iff_eq]; omega
        have HE := hide (num_long X (fun j hj => Hall.out j (by omega)) (by have := HXl.out; omega))
        clear hk
        go_wp2_with fail
        refine Rg.wp_region_ord (fun w' => w'.cell? ⟨g, 0, none⟩ = some (.slice A bs.length c) ∧ w'.cell? ⟨g, 1, none⟩ = some (.int .i64 (at_ : Int))) [(0, true), (1, true), (2, false), (3, true), (4, true), (5, true), (6, true), (7, true), (8, true), (9, true), (10, true), (11, true), (12, true), (13, true), (14, true), (15, true), (16, true), (17, true), (18, true), (19, true), (20, true), (21, true), (22, true)] (by kernel_rfl) (by kernel_rfl) ?_
        simp only [Rg.pick, List.map_cons, List.map_nil, List.getD_cons_zero, List.getD_cons_succ]
        iterate 2 (refine Rg.ord_quiet (v := ?_) rfl (fun w' hS => ?_) ⟨c0, c1⟩ ?_; rotate_left; (obtain ⟨s0, s1⟩ := hS; go_simp; with_reducible rfl); simp only [Act.put, List.setIfInBounds_toArray, List.set_cons_succ, List.set_cons_zero])
        refine Rg.ord_loud rfl (fun K hK => ?_)
        go_simp
        refine (Hleft.out _ ((Hrr.out.below Hb.out).drewN 1)).mono ?_
        rintro y wz ⟨rfl, nz, rfl⟩
        refine hK _ _ (fun _ => ⟨c0, c1⟩) ?_
        clear hK K
        iterate 2 (refine Rg.ord_quiet (v := ?_) rfl (fun w' hS => ?_) ⟨c0, c1⟩ ?_; rotate_left; (obtain ⟨s0, s1⟩ := hS; go_simp; with_reducible rfl); simp only [Act.put, List.setIfInBounds_toArray, List.set_cons_succ, List.set_cons_zero])
        iterate 2 (refine Rg.ord_passed (by rfl) ⟨c0, c1⟩ ?_; simp only [Act.put, List.setIfInBounds_toArray, List.set_cons_succ, List.set_cons_zero])
        iterate 2 (refine Rg.ord_quiet (v := ?_) rfl (fun w' hS => ?_) ⟨c0, c1⟩ ?_; rotate_left; (obtain ⟨s0, s1⟩ := hS; go_simp; with_reducible rfl); simp only [Act.put, List.setIfInBounds_toArray, List.set_cons_succ, List.set_cons_zero])
        iterate 13 (refine Rg.ord_passed (by rfl) ⟨c0, c1⟩ ?_; simp only [Act.put, List.setIfInBounds_toArray, List.set_cons_succ, List.set_cons_zero])
        iterate 1 (refine Rg.ord_quiet (v := ?_) rfl (fun w' hS => ?_) ⟨c0, c1⟩ ?_; rotate_left; (obtain ⟨s0, s1⟩ := hS; go_simp; with_reducible rfl); simp only [Act.put, List.setIfInBounds_toArray, List.set_cons_succ, List.set_cons_zero])
        refine Rg.ord_nil ?_
        go_wp2
        go_ret3
        exact ⟨by rw [HE.out]; rfl, below_drewN Hb.out _⟩
      · have hbq : ((k : Int) == 10) = false := beq_eq_false_iff_ne.2 (by omega)
        have HE := hide (num_short X (fun j hj => Hall.out j (by have := HXl.out; omega)) (by have := HXl.out; omega))
        go_wp2_with fail
        refine Rg.wp_region_ord (fun w' => w'.cell? ⟨g, 0, none⟩ = some (.slice A bs.length c) ∧ w'.cell? ⟨g, 1, none⟩ = some (.int .i64 (at_ : Int))) [(0, true), (1, true), (2, false), (3, true), (4, true), (5, true), (6, true), (7, true), (8, true), (9, true), (10, true), (11, true), (12, true), (13, true), (14, true), (15, true), (16, true), (17, true), (18, true), (19, true), (20, true), (21, true), (22, true)] (by kernel_rfl) (by kernel_rfl) ?_
        simp only [Rg.pick, List.map_cons, List.map_nil, List.getD_cons_zero, List.getD_cons_succ]
        iterate 2 (refine Rg.ord_quiet (v := ?_) rfl (fun w' hS => ?_) ⟨c0, c1⟩ ?_; rotate_left; (obtain ⟨s0, s1⟩ := hS; go_simp; with_reducible rfl); simp only [Act.put, List.setIfInBounds_toArray, List.set_cons_succ, List.set_cons_zero])
        refine Rg.ord_loud rfl (fun K hK => ?_)
        go_simp
        refine (Hleft.out _ ((Hrr.out.below Hb.out).drewN 1)).mono ?_
        rintro y wz ⟨rfl, nz, rfl⟩
        refine hK _ _ (fun _ => ⟨c0, c1⟩) ?_
        clear hK K
        iterate 2 (refine Rg.ord_quiet (v := ?_) rfl (fun w' hS => ?_) ⟨c0, c1⟩ ?_; rotate_left; (obtain ⟨s0, s1⟩ := hS; go_simp; with_reducible rfl); simp only [Act.put, List.setIfInBounds_toArray, List.set_cons_succ, List.set_cons_zero])
        iterate 2 (refine Rg.ord_passed (by rfl) ⟨c0, c1⟩ ?_; simp only [Act.put, List.setIfInBounds_toArray, List.set_cons_succ, List.set_cons_zero])
        iterate 2 (refine Rg.ord_quiet (v := ?_) rfl (fun w' hS => ?_) ⟨c0, c1⟩ ?_; rotate_left; (obtain ⟨s0, s1⟩ := hS; go_simp; with_reducible rfl); simp only [Act.put, List.setIfInBounds_toArray, List.set_cons_succ, List.set_cons_zero])
        iterate 13 (refine Rg.ord_passed (by rfl) ⟨c0, c1⟩ ?_; simp only [Act.put, List.setIfInBounds_toArray, List.set_cons_succ, List.set_cons_zero])
        iterate 1 (refine Rg.ord_quiet (v := ?_) rfl (fun w' hS => ?_) ⟨c0, c1⟩ ?_; rotate_left; (obtain ⟨s0, s1⟩ := hS; go_simp; with_reducible rfl); simp only [Act.put, List.setIfInBounds_toArray, List.set_cons_succ, List.set_cons_zero])
        refine Rg.ord_nil ?_
        go_wp2_with fail
        refine (Hleft.out _ (Hrr.out.below (below_drewN Hb.out _))).mono ?_
        rintro y wz ⟨rfl, nz2, rfl⟩
        go_wp2
        go_ret3
        exact ⟨by rw [HE.out]; rfl, below_drewN Hb.out _⟩
end Go.Proofs.YtlplgkdoiinfhaaDoor.Wr

namespace Go.Proofs.YtlplgkdoiinfhaaDoor.Wr
open Go Go.RowKit Kt

set_option maxHeartbeats 1000000 in
set_option maxRecDepth 100000 in
theorem rread_num {w : World} {B g : Nat} {bs : List UInt8} {at_ e : Nat} (h : RR w B g bs at_ e) :
    Calls Tryd.prog 42 #[.pointer (some ⟨g, 0, none⟩)] w fun y w' => ∃ n at' e', y = .returned (.int .u64 (n : Nat)) ∧ RR w' B g bs at' e' ∧ stepNum (bs.drop at_) e = (n, bs.drop at', e') ∧ Only (· = g) w w' := by
  have Hrr := hide h
  obtain ⟨A, c, hr, hs, hB, h1, h2⟩ := h
  have c2 : w.cell? ⟨g, 2, none⟩ = some (.int .i64 (e : Int)) := hr.cell 2
  have Hr := hide hr
  have Hs := hide hs
  clear hr hs
  by_cases he : e = 0
  · subst he
    obtain ⟨n, k, e, hnum⟩ : ∃ n k e, numOf (bs.drop at_) = (n, k, e) := ⟨_, _, _, rfl⟩
    have hst : stepNum (bs.drop at_) 0 = (n, bs.drop (at_ + k), e) := by unfold stepNum; rw [if_pos rfl, hnum, List.drop_drop]
    have hkl : k ≤ bs.length - at_ := by have := numOf_le (bs.drop at_); rw [hnum, List.length_drop] at this; exact this
    have Hst := hide hst
    have Hnx := hide (rnext_any Hrr.out)
    rw [hnum] at Hnx
    by_cases he : e = 0
    · subst he
      go_enter Tryd.func42, Tryd.ntmps42
      go_wp2_with fail
      refine Hnx.out.mono ?_
      rintro y w1 ⟨rfl, hb1⟩
      have Hr1 := hide (Hr.out.below hb1 Hr.out.lt)
      have Hs1 := hide (Hs.out.move (w' := w1) fun b _ hlt => hb1.block b hlt)
      have Ho1 := hide (Only.of_below (· = g) hb1)
      have d1 : w1.cell? ⟨g, 1, none⟩ = some (.int .i64 (at_ : Int)) := Hr1.out.cell 1
      have g1 := Hr1.out.free 1
      have hwk : IntKind.i64.wrap ((at_ : Int) + (k : Int)) = ((at_ + k : Nat) : Int) := by rw [IntKind.wrap_i64]; omega
      clear hb1
      simp only [numV]
      go_wp2
      go_ret
      refine ⟨n, at_ + k, 0, rfl, ⟨A, c, ?_, Hs1.out.only ((Only.refl (· = g) w1).put (g := g) (i := 1) rfl _) (fun b hb he => by have := hb; omega), hB, by omega, h2⟩, Hst.out, Ho1.out.put (g := g) (i := 1) rfl _⟩
      exact Hr1.out.put 1 (.int .i64 ((at_ + k : Nat) : Int))
    · obtain ⟨rfl, rfl, _⟩ := numOf_fail _ n k e hnum he
      have hb : ((e : Int) != 0) = true := by rw [bne_iff_ne]; omega
      go_enter Tryd.func42, Tryd.ntmps42
      go_wp2_with fail
      refine Hnx.out.mono ?_
      rintro y w1 ⟨rfl, hb1⟩
      have Hr1 := hide (Hr.out.below hb1 Hr.out.lt)
      have Hs1 := hide (Hs.out.move (w' := w1) fun b _ hlt => hb1.block b hlt)
      have Ho1 := hide (Only.of_below (· = g) hb1)
      have d2 : w1.cell? ⟨g, 2, none⟩ = some (.int .i64 ((0 : Nat) : Int)) := Hr1.out.cell 2
      have g2 := Hr1.out.free 2
      clear hb1
      simp only [numV]
      go_wp2
      go_ret
      refine ⟨0, at_, e, rfl, ⟨A, c, ?_, Hs1.out.only ((Only.refl (· = g) w1).put (g := g) (i := 2) rfl _) (fun b hb he => by have := hb; omega), hB, h1, h2⟩, Hst.out, Ho1.out.put (g := g) (i := 2) rfl _⟩
      exact Hr1.out.put 2 (.int .i64 (e : Int))
  · have hb : ((e : Int) != 0) = true := by rw [bne_iff_ne]; omega
    have Hst := hide (show stepNum (bs.drop at_) e = (0, bs.drop at_, e) by unfold stepNum; rw [if_neg he])
    go_enter Tryd.func42, Tryd.ntmps42
    go_wp2
    go_ret
    exact ⟨0, at_, e, rfl, Hrr.out, Hst.out, Only.refl _ _⟩
end Go.Proofs.YtlplgkdoiinfhaaDoor.Wr

namespace Go.Proofs.YtlplgkdoiinfhaaDoor.Wr
open Go Go.RowKit Kt

theorem wp_cat' {P : Program} {o : Oper} {a : Act} {K : Act → World → Prop} {Q : Exit → Act → World → Prop} {w : World} {E : TypeId}
    (s x : Operand) (t : TypeId) (ho : o.op = .call { callee := .builtin .append, args := #[s, x], argTypes := #[t, t] })
    (ht : P.underlying t = some (.slice E)) (hi : (P.info? E).map (fun i => (i.zero, i.size, i.bytes)) = some (some (.int .u8 0), 1, 1))
    (B : Nat) (w0 : World) (v : Value) (l bs : List UInt8) (n : Nat) (hn : bs.length = n) (Pb : Nat → Prop) (A : Option Addr) (c : Nat) (hs : a.eval s = v) (hx : a.eval x = .slice A n c)
    (hown : Own w B E v l) (hsl : Sl w Pb A c bs) (hlen : l.length + bs.length ≤ 70368744177664) (hb : Below B w0 w) (hbase : B ≤ w.heap.size)
    (h : ∀ v' w', Own w' B E v' (l ++ bs) → Below B w0 w' → w.grownBy w' v.ownBlock → K (a.put o.dst v') w') : o.wp P a w K Q := by
  subst hn
  exact wp_cat s x t ho ht hi B w0 v l bs Pb A c hs hx hown hsl hlen hb hbase h

set_option maxHeartbeats 2000000 in
set_option maxRecDepth 100000 in
theorem rread_text {w : World} {B g : Nat} {bs : List UInt8} {at_ e : Nat} (most : Int) (h : RR w B g bs at_ e) (hm1 : most ≤ 9223372036854775807) :
    Calls Tryd.prog 43 #[.pointer (some ⟨g, 0, none⟩), .int .i64 most] w fun y w' => ∃ v at' e', y = .returned v ∧ Own w' w.heap.size 5 v (stepText (bs.drop at_) e most).1 ∧ RR w' B g bs at' e' ∧ (stepText (bs.drop at_) e most).2 = (bs.drop at', e') ∧ Only (· = g) w w' := by
  have Hrr := hide h
  obtain ⟨A, c, hr, hs, hB, h1, h2⟩ := h
  have c2 : w.cell? ⟨g, 2, none⟩ = some (.int .i64 (e : Int)) := hr.cell 2
  have hc := hs.1
  have Hr := hide hr
  have Hs := hide hs
  clear hr hs
  by_cases he : e = 0
  · subst he
    obtain ⟨X, hX⟩ : ∃ X, bs.drop at_ = X := ⟨_, rfl⟩
    have hXl : X.length = bs.length - at_ := by rw [← hX, List.length_drop]
    obtain ⟨L, hL⟩ : ∃ L, bs.length - at_ = L := ⟨_, rfl⟩
    have Hleft : Hid (∀ wx, RR wx B g bs at_ 0 → Calls Tryd.prog 44 #[.pointer (some ⟨g, 0, none⟩)] wx fun y w' => y = .returned (.int .i64 (L : Nat)) ∧ ∃ n, w' = wx.drewN n) := hide fun wx hx => by rw [← hL]; exact rleft_any hx
    rw [hL] at hXl
    have hLb : at_ + L = bs.length := by omega
    have HXl := hide hXl
    have HX := hide hX
    obtain ⟨n, k, e, hnum⟩ : ∃ n k e, numOf X = (n, k, e) := ⟨_, _, _, rfl⟩
    have hkl : k ≤ L := by have := numOf_le X; rw [hnum] at this; simp only at this; omega
    have Hnx := hide (rnext_any Hrr.out)
    rw [hX, hnum] at Hnx
    rw [hX]
    have Hnum := hide hnum
    clear hX hXl hL hnum
    by_cases he : e = 0
    · subst he
      obtain ⟨hn64, hk1, hk10, _, _⟩ := numOf_ok X n k Hnum.out
      have Hn64 := hide hn64
      obtain ⟨M, hM⟩ : ∃ M, M = (max most 0).toNat := ⟨_, rfl⟩
      have hmx : (if 0 < most then most else (0 : Int)) = (M : Int) := by split <;> omega
      have hwM : IntKind.u64.wrap (M : Int) = (M : Int) := by rw [IntKind.wrap_u64]; omega
      have HM := hide hM
      clear hM hm1 hn64
      by_cases h3 : M < n
      · have Hst := hide (show stepText X 0 most = ([], X, 4) by unfold stepText; rw [if_pos rfl, text_over X most n k Hnum.out (by rw [← HM.out]; exact h3)]; rfl)
        go_enter Tryd.func43, Tryd.ntmps43
        go_wp2_with fail
        refine Hnx.out.mono ?_
        rintro y w1 ⟨rfl, hb1⟩
        have Hr1 := hide (Hr.out.below hb1 Hr.out.lt)
        have Hrr1 := hide (Hrr.out.below hb1)
        have Hs1 := hide (Hs.out.move (w' := w1) fun b _ hlt => hb1.block b hlt)
        have Hb1 := hide hb1
        have Ho1 := hide (Only.of_below (· = g) hb1)
        have d0 : w1.cell? ⟨g, 0, none⟩ = some (.slice A bs.length c) := Hr1.out.cell 0
        have d1 : w1.cell? ⟨g, 1, none⟩ = some (.int .i64 (at_ : Int)) := Hr1.out.cell 1
        have d2 : w1.cell? ⟨g, 2, none⟩ = some (.int .i64 ((0 : Nat) : Int)) := Hr1.out.cell 2
        have g1 := Hr1.out.free 1
        have g2 := Hr1.out.free 2
        clear hb1
        simp only [numV]
        go_wp2
        go_ret
        refine ⟨_, at_, 4, rfl, ?_, ⟨A, c, ?_, Hs1.out.only ((Only.refl (· = g) w1).put (g := g) (i := 2) rfl _) (fun b hb he => by have := hb; omega), hB, h1, h2⟩, ?_, Ho1.out.put (g := g) (i := 2) rfl _⟩
        · rw [Hst.out]; exact Own.nil _ _ _
        · exact Hr1.out.put 2 (.int .i64 (4 : Nat))
        · rw [Hst.out, HX.out]
      · by_cases h4 : L - k < n
        · have Hst := hide (show stepText X 0 most = ([], X, 2) by unfold stepText; rw [if_pos rfl, text_less X most n k Hnum.out (by rw [← HM.out]; exact h3) (by have := HXl.out; omega)]; rfl)
          go_enter Tryd.func43, Tryd.ntmps43
          go_wp2_with fail
          refine Hnx.out.mono ?_
          rintro y w1 ⟨rfl, hb1⟩
          have Hr1 := hide (Hr.out.below hb1 Hr.out.lt)
          have Hrr1 := hide (Hrr.out.below hb1)
          have Hs1 := hide (Hs.out.move (w' := w1) fun b _ hlt => hb1.block b hlt)
          have Hb1 := hide hb1
          have Ho1 := hide (Only.of_below (· = g) hb1)
          have d0 : w1.cell? ⟨g, 0, none⟩ = some (.slice A bs.length c) := Hr1.out.cell 0
          have d1 : w1.cell? ⟨g, 1, none⟩ = some (.int .i64 (at_ : Int)) := Hr1.out.cell 1
          have d2 : w1.cell? ⟨g, 2, none⟩ = some (.int .i64 ((0 : Nat) : Int)) := Hr1.out.cell 2
          have g1 := Hr1.out.free 1
          have g2 := Hr1.out.free 2
          clear hb1
          simp only [numV]
          go_wp2_with fail
          refine (Hleft.out _ Hrr1.out).mono ?_
          rintro y wz ⟨rfl, nz, rfl⟩
          go_wp2
          go_ret
          refine ⟨_, at_, 2, rfl, ?_, ⟨A, c, ?_, (Hs1.out.drewN nz).only ((Only.refl (· = g) (w1.drewN nz)).put (g := g) (i := 2) rfl _) (fun b hb he => by have := hb; omega), hB, h1, h2⟩, ?_, (Ho1.out.drewN nz).put (g := g) (i := 2) rfl _⟩
          · rw [Hst.out]; exact Own.nil _ _ _
          · exact (Hr1.out.drewN nz).put 2 (.int .i64 (2 : Nat))
          · rw [Hst.out, HX.out]
        · have Hst := hide (show stepText X 0 most = ((X.drop k).take n, X.drop (k + n), 0) by unfold stepText; rw [if_pos rfl, text_fine X most n k Hnum.out (by rw [← HM.out]; exact h3) (by have := HXl.out; omega)])
          obtain ⟨b, o, rfl, _, _⟩ := Hs.out.2 (by omega)
          obtain ⟨q1, hq1⟩ : ∃ q1, at_ + k = q1 := ⟨_, rfl⟩
          obtain ⟨q2, hq2⟩ : ∃ q2, q1 + n = q2 := ⟨_, rfl⟩
          have he1 : (at_ : Int) + (k : Int) = (q1 : Int) := by omega
          have he2 : (q1 : Int) + (n : Int) = (q2 : Int) := by omega
          have hq12 : q1 ≤ q2 := by omega
          have hq2c : q2 ≤ c := by omega
          have hsubq : q2 - q1 = n := by omega
          have Hq1 := hide hq1
          have Hq2 := hide hq2
          have hq2l : q2 ≤ bs.length := by omega
          have Hxe := hide (show (X.drop k).take n = (bs.drop q1).take n by rw [← HX.out, List.drop_drop, hq1])
          have Hxn := hide (show ((X.drop k).take n).length = n by rw [List.length_take, List.length_drop]; have := HXl.out; omega)
          have Hxd := hide (show X.drop (k + n) = bs.drop q2 by rw [← HX.out, List.drop_drop, ← Nat.add_assoc, hq1, hq2])
          clear hq1 hq2
          by_cases hck : c = q1
          · have hq21 : q2 ≤ q1 := by omega
            go_enter Tryd.func43, Tryd.ntmps43
            go_wp2_with fail
            refine Hnx.out.mono ?_
            rintro y w1 ⟨rfl, hb1⟩
            have Hr1 := hide (Hr.out.below hb1 Hr.out.lt)
            have Hrr1 := hide (Hrr.out.below hb1)
            have Hs1 := hide (Hs.out.move (w' := w1) fun b _ hlt => hb1.block b hlt)
            have Hb1 := hide hb1
            have Ho1 := hide (Only.of_below (· = g) hb1)
            have d0 : w1.cell? ⟨g, 0, none⟩ = some (.slice (some ⟨b, o, none⟩) bs.length c) := Hr1.out.cell 0
            have d1 : w1.cell? ⟨g, 1, none⟩ = some (.int .i64 (at_ : Int)) := Hr1.out.cell 1
            have d2 : w1.cell? ⟨g, 2, none⟩ = some (.int .i64 ((0 : Nat) : Int)) := Hr1.out.cell 2
            have g1 := Hr1.out.free 1
            have g2 := Hr1.out.free 2
            clear hb1
            simp only [numV]
            go_wp2_with fail
            refine (Hleft.out _ Hrr1.out).mono ?_
            rintro y wz ⟨rfl, nz, rfl⟩
            go_wp2_with fail
            have hr2 := (Hr1.out.drewN nz).put 1 (.int .i64 (q2 : Int))
            have ho2 := (Ho1.out.drewN nz).put (g := g) (i := 1) rfl (.int .i64 (q2 : Int))
            have hs2 := (Hs1.out.drewN nz).only ((Only.refl (· = g) (w1.drewN nz)).put (g := g) (i := 1) rfl (.int .i64 (q2 : Int))) (fun b hb he => by have := hb; omega)
            obtain ⟨w2, hw2⟩ : ∃ w2, w2 = (w1.drewN nz).setCell ⟨g, 1, none⟩ (.int .i64 (q2 : Int)) := ⟨_, rfl⟩
            rw [← hw2] at hr2 ho2 hs2 ⊢
            have Hr2 := hide hr2
            have Ho2 := hide ho2
            have Hs2 := hide hs2
            have Hsz := hide (show w1.heap.size ≤ w2.heap.size by rw [hw2]; simp [World.setCell, World.drewN])
            clear hw2 d0 d1 d2 g1 g2 hr2 ho2 hs2
            have d0 : w2.cell? ⟨g, 0, none⟩ = some (.slice (some ⟨b, o, none⟩) bs.length c) := Hr2.out.cell 0
            have d1 : w2.cell? ⟨g, 1, none⟩ = some (.int .i64 (q2 : Int)) := Hr2.out.cell 1
            refine Rg.wp_region_ord (fun w' => w'.cell? ⟨g, 0, none⟩ = some (.slice (some ⟨b, o, none⟩) bs.length c) ∧ w'.cell? ⟨g, 1, none⟩ = some (.int .i64 (q2 : Int))) [(1, true), (2, true), (3, true), (4, true), (5, true), (6, true), (7, true), (8, true), (9, true), (10, true), (0, false), (11, false), (12, true)] (by kernel_rfl) (by kernel_rfl) ?_
            simp only [Rg.pick, List.map_cons, List.map_nil, List.getD_cons_zero, List.getD_cons_succ]
            iterate 10 (refine Rg.ord_quiet (v := ?_) rfl (fun w' hS => ?_) ⟨d0, d1⟩ ?_; rotate_left; (obtain ⟨s0, s1⟩ := hS; go_simp; with_reducible rfl); simp only [Act.put, List.setIfInBounds_toArray, List.set_cons_succ, List.set_cons_zero])
            refine Rg.ord_loud rfl (fun K hK => ?_)
            go_simp
            refine hK _ _ (fun _ => ⟨(Hr2.out.alloc _).cell 0, (Hr2.out.alloc _).cell 1⟩) ?_
            clear hK K
            refine Rg.ord_loud rfl (fun K hK => ?_)
            refine wp_cat' (.tmp 59) (.tmp 69) 25 rfl Tryd.underlying25 info8 w2.heap.size w2 _ [] ((X.drop k).take n) n Hxn.out (fun _ => True) (some ⟨b, o, none⟩) 0 rfl rfl (Own.drew (Own.made w2 w2.heap.size 5 #[] 0 (Nat.le_refl _) rfl (Nat.zero_le _))) ?_ ?_ ?_ ?_ ?_
            · rw [List.eq_nil_of_length_eq_zero (show ((X.drop k).take n).length = 0 by rw [Hxn.out]; omega)]; exact Sl.nil _ _ _ _
            · rw [Hxn.out]; simp; omega
            · exact ((Below.refl _ _).alloc (Nat.le_refl _) _).drew
            · simp
            intro v5 w5 hown5 hb5 _
            have Hown5 := hide hown5
            have Hb5 := hide hb5
            have f0 : w5.cell? ⟨g, 0, none⟩ = some (.slice (some ⟨b, o, none⟩) bs.length c) := (Hr2.out.below hb5 Hr2.out.lt).cell 0
            have f1 : w5.cell? ⟨g, 1, none⟩ = some (.int .i64 (q2 : Int)) := (Hr2.out.below hb5 Hr2.out.lt).cell 1
            clear hown5 hb5 d0 d1
            refine hK _ _ (fun _ => ⟨f0, f1⟩) ?_
            clear hK K
            refine Rg.ord_quiet (v := ?_) rfl (fun w' hS => ?_) ⟨f0, f1⟩ ?_
            rotate_left
            · clear hS
              go_simp
              with_reducible rfl
            simp only [Act.put, List.setIfInBounds_toArray, List.set_cons_succ, List.set_cons_zero]
            refine Rg.ord_nil ?_
            go_wp2
            go_ret
            rw [Hst.out]
            refine ⟨_, q2, 0, rfl, Hown5.out.base (Nat.le_trans Hb1.out.size Hsz.out), ⟨_, c, Hr2.out.below Hb5.out Hr2.out.lt, Hs2.out.move (fun b _ hlt => Hb5.out.block b hlt), hB, hq2l, h2⟩, ?_, Ho2.out.trans (Only.of_below _ Hb5.out)⟩
            rw [Hxd.out]

          · go_enter Tryd.func43, Tryd.ntmps43
            go_wp2_with fail
            refine Hnx.out.mono ?_
            rintro y w1 ⟨rfl, hb1⟩
            have Hr1 := hide (Hr.out.below hb1 Hr.out.lt)
            have Hrr1 := hide (Hrr.out.below hb1)
            have Hs1 := hide (Hs.out.move (w' := w1) fun b _ hlt => hb1.block b hlt)
            have Hb1 := hide hb1
            have Ho1 := hide (Only.of_below (· = g) hb1)
            have d0 : w1.cell? ⟨g, 0, none⟩ = some (.slice (some ⟨b, o, none⟩) bs.length c) := Hr1.out.cell 0
            have d1 : w1.cell? ⟨g, 1, none⟩ = some (.int .i64 (at_ : Int)) := Hr1.out.cell 1
            have d2 : w1.cell? ⟨g, 2, none⟩ = some (.int .i64 ((0 : Nat) : Int)) := Hr1.out.cell 2
            have g1 := Hr1.out.free 1
            have g2 := Hr1.out.free 2
            clear hb1
            simp only [numV]
            go_wp2_with fail
            refine (Hleft.out _ Hrr1.out).mono ?_
            rintro y wz ⟨rfl, nz, rfl⟩
            go_wp2_with fail
            have hr2 := (Hr1.out.drewN nz).put 1 (.int .i64 (q2 : Int))
            have ho2 := (Ho1.out.drewN nz).put (g := g) (i := 1) rfl (.int .i64 (q2 : Int))
            have hs2 := (Hs1.out.drewN nz).only ((Only.refl (· = g) (w1.drewN nz)).put (g := g) (i := 1) rfl (.int .i64 (q2 : Int))) (fun b hb he => by have := hb; omega)
            obtain ⟨w2, hw2⟩ : ∃ w2, w2 = (w1.drewN nz).setCell ⟨g, 1, none⟩ (.int .i64 (q2 : Int)) := ⟨_, rfl⟩
            rw [← hw2] at hr2 ho2 hs2 ⊢
            have Hr2 := hide hr2
            have Ho2 := hide ho2
            have Hs2 := hide hs2
            have Hsz := hide (show w1.heap.size ≤ w2.heap.size by rw [hw2]; simp [World.setCell, World.drewN])
            clear hw2 d0 d1 d2 g1 g2 hr2 ho2 hs2
            have d0 : w2.cell? ⟨g, 0, none⟩ = some (.slice (some ⟨b, o, none⟩) bs.length c) := Hr2.out.cell 0
            have d1 : w2.cell? ⟨g, 1, none⟩ = some (.int .i64 (q2 : Int)) := Hr2.out.cell 1
            refine Rg.wp_region_ord (fun w' => w'.cell? ⟨g, 0, none⟩ = some (.slice (some ⟨b, o, none⟩) bs.length c) ∧ w'.cell? ⟨g, 1, none⟩ = some (.int .i64 (q2 : Int))) [(1, true), (2, true), (3, true), (4, true), (5, true), (6, true), (7, true), (8, true), (9, true), (10, true), (0, false), (11, false), (12, true)] (by kernel_rfl) (by kernel_rfl) ?_
            simp only [Rg.pick, List.map_cons, List.map_nil, List.getD_cons_zero, List.getD_cons_succ]
            iterate 10 (refine Rg.ord_quiet (v := ?_) rfl (fun w' hS => ?_) ⟨d0, d1⟩ ?_; rotate_left; (obtain ⟨s0, s1⟩ := hS; go_simp; with_reducible rfl); simp only [Act.put, List.setIfInBounds_toArray, List.set_cons_succ, List.set_cons_zero])
            refine Rg.ord_loud rfl (fun K hK => ?_)
            go_simp
            refine hK _ _ (fun _ => ⟨(Hr2.out.alloc _).cell 0, (Hr2.out.alloc _).cell 1⟩) ?_
            clear hK K
            refine Rg.ord_loud rfl (fun K hK => ?_)
            refine wp_cat' (.tmp 59) (.tmp 69) 25 rfl Tryd.underlying25 info8 w2.heap.size w2 _ [] ((X.drop k).take n) n Hxn.out (fun _ => True) (some ⟨b, o + q1, none⟩) (c - q1) rfl rfl (Own.drew (Own.made w2 w2.heap.size 5 #[] 0 (Nat.le_refl _) rfl (Nat.zero_le _))) ?_ ?_ ?_ ?_ ?_
            · have hsl := sl_take (Hs2.out.cut (k := q1) (by omega)) (k := n) (by rw [List.length_drop]; omega)
              rw [if_neg hck] at hsl
              simp only [Option.map_some, Addr.add_mid] at hsl
              rw [Hxe.out]
              exact (hsl.move (w' := (w2.alloc (.cells #[] 5)).drew) fun b _ hlt => Below.heap_alloc w2 _ b hlt).imp fun _ _ _ => trivial
            · rw [Hxn.out]; simp; omega
            · exact ((Below.refl _ _).alloc (Nat.le_refl _) _).drew
            · simp
            intro v5 w5 hown5 hb5 _
            have Hown5 := hide hown5
            have Hb5 := hide hb5
            have f0 : w5.cell? ⟨g, 0, none⟩ = some (.slice (some ⟨b, o, none⟩) bs.length c) := (Hr2.out.below hb5 Hr2.out.lt).cell 0
            have f1 : w5.cell? ⟨g, 1, none⟩ = some (.int .i64 (q2 : Int)) := (Hr2.out.below hb5 Hr2.out.lt).cell 1
            clear hown5 hb5 d0 d1
            refine hK _ _ (fun _ => ⟨f0, f1⟩) ?_
            clear hK K
            refine Rg.ord_quiet (v := ?_) rfl (fun w' hS => ?_) ⟨f0, f1⟩ ?_
            rotate_left
            · clear hS
              go_simp
              with_reducible rfl
            simp only [Act.put, List.setIfInBounds_toArray, List.set_cons_succ, List.set_cons_zero]
            refine Rg.ord_nil ?_
            go_wp2
            go_ret
            rw [Hst.out]
            refine ⟨_, q2, 0, rfl, Hown5.out.base (Nat.le_trans Hb1.out.size Hsz.out), ⟨_, c, Hr2.out.below Hb5.out Hr2.out.lt, Hs2.out.move (fun b _ hlt => Hb5.out.block b hlt), hB, hq2l, h2⟩, ?_, Ho2.out.trans (Only.of_below _ Hb5.out)⟩
            rw [Hxd.out]

    · obtain ⟨rfl, rfl, _⟩ := numOf_fail X n k e Hnum.out he
      have hb : ((e : Int) != 0) = true := by rw [bne_iff_ne]; omega
      have hb' : ((e : Int) == 0) = false := beq_eq_false_iff_ne.2 (by omega)
      have Hst := hide (show stepText X 0 most = ([], X, e) by unfold stepText; rw [if_pos rfl, text_bad X most (by rw [Hnum.out]; exact he), Hnum.out]; rfl)
      go_enter Tryd.func43, Tryd.ntmps43
      go_wp2_with fail
      refine Hnx.out.mono ?_
      rintro y w1 ⟨rfl, hb1⟩
      have Hr1 := hide (Hr.out.below hb1 Hr.out.lt)
      have Hrr1 := hide (Hrr.out.below hb1)
      have Hs1 := hide (Hs.out.move (w' := w1) fun b _ hlt => hb1.block b hlt)
      have Hb1 := hide hb1
      have Ho1 := hide (Only.of_below (· = g) hb1)
      have d0 : w1.cell? ⟨g, 0, none⟩ = some (.slice A bs.length c) := Hr1.out.cell 0
      have d1 : w1.cell? ⟨g, 1, none⟩ = some (.int .i64 (at_ : Int)) := Hr1.out.cell 1
      have d2 : w1.cell? ⟨g, 2, none⟩ = some (.int .i64 ((0 : Nat) : Int)) := Hr1.out.cell 2
      have g1 := Hr1.out.free 1
      have g2 := Hr1.out.free 2
      clear hb1
      simp only [numV]
      go_wp2
      go_ret
      refine ⟨_, at_, e, rfl, ?_, ⟨A, c, ?_, Hs1.out.only ((Only.refl (· = g) w1).put (g := g) (i := 2) rfl _) (fun b hb he => by have := hb; omega), hB, h1, h2⟩, ?_, Ho1.out.put (g := g) (i := 2) rfl _⟩
      · rw [Hst.out]; exact Own.nil _ _ _
      · exact Hr1.out.put 2 (.int .i64 (e : Nat))
      · rw [Hst.out, HX.out]
  · have hb : ((e : Int) != 0) = true := by rw [bne_iff_ne]; omega
    have Hst := hide (show stepText (bs.drop at_) e most = ([], bs.drop at_, e) by unfold stepText; rw [if_neg he])
    go_enter Tryd.func43, Tryd.ntmps43
    go_wp2
    go_ret
    rw [Hst.out]
    exact ⟨_, at_, e, rfl, Own.nil _ _ _, Hrr.out, rfl, Only.refl _ _⟩
end Go.Proofs.YtlplgkdoiinfhaaDoor.Wr
