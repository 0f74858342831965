/-
  The walk of the statement WireReads.
-/
import Derived.Test.YtiomhbajbbpmiaaRrD
import Derived.Test.YtiomhbajbbpmiaaWL
import Derived.Test.YtiomhbajbbpmiaaWS
namespace Go.Proofs.Ytiomhbajbbpmiaa.Wr
open Go Go.RowKit Kt Lw

theorem Rd.drewN {w : World} {B g : Nat} {bs : List UInt8} {e : Nat} (h : Rd w B g bs e) (n : Nat) : Rd (w.drewN n) B g bs e := h
theorem RR.fcell {w : World} {B g : Nat} {bs : List UInt8} {at_ e : Nat} (h : RR w B g bs at_ e) : w.cell? ⟨g, 2, none⟩ = some (.int .i64 (e : Int)) := by
  obtain ⟨A, c, hr, _⟩ := h
  exact hr.cell 2
theorem Rd.beside {w w' : World} {B B' g g' : Nat} {bs bs' : List UInt8} {e at_ e' : Nat} (h : Rd w B g bs e) (h' : RR w B' g' bs' at_ e') (hne : g ≠ g') (ho : Only (· = g') w w') : Rd w' B g bs e := by
  obtain ⟨A, c, hr, hs, h1, h2⟩ := h
  obtain ⟨A', c', hr', _⟩ := h'
  refine ⟨A, c, hr.only ho hne, ⟨hs.1, fun hn => ?_⟩, h1, h2⟩
  obtain ⟨b, o, rfl, hp, hc⟩ := hs.2 hn
  have hbg : b ≠ g' := by
    intro hb
    have := hc 0 hn
    rw [hb, hr'.cell] at this
    rcases o with _ | _ | _ | o
    · simp at this
    · simp at this
    · simp at this
    · simp at this
  refine ⟨b, o, rfl, hp, fun j hj => ?_⟩
  exact (World.cell?_of_block (a := ⟨b, o + j, none⟩) (ho.block b (World.block_lt_of_cell? w ⟨b, o + j, none⟩ (hc j hj)) hbg)).trans (hc j hj)

theorem stepText_len (bs : List UInt8) (e : Nat) (most : Int) : (stepText bs e most).1.length ≤ bs.length := by
  unfold stepText
  split
  · unfold textOf
    split
    · simp
    · split
      · simp
      · split
        · simp
        · simp only [List.length_take, List.length_drop]
          omega
  · simp

set_option maxHeartbeats 4000000 in
set_option maxRecDepth 100000 in
theorem reads_late (bs : List UInt8) (l : List Int) (A A1 : Option Addr) (c c1 : Nat) (w : World) (hs : Sl w (fun _ => True) A c bs) (hl : Vs w (fun _ => True) A1 c1 (nums .i64 l))
    (hlb : ∀ z ∈ l, z ≤ 9223372036854775807) (h1 : bs.length ≤ 200) (h2 : l.length ≤ 40) :
    Calls Try.prog 4 #[.slice A bs.length c, .slice A1 l.length c1] w fun e w' => e = .returned (.bool true) ∧ Below w.heap.size w w' := by
  have Hs := hide hs.bound
  have Hl := hide hl
  have Hlb := hide hlb
  have hl1 := hl.1
  rw [nums_len] at hl1
  clear hs hl hlb
  go_enter Try.func4, Try.ntmps4
  go_wp2_with (go_at_call 10; refine (awake_any _).mono ?_; rintro e w1 ⟨rfl, hb1⟩; have Hb1 := hide hb1; clear hb1)
  refine (open_any bs A c _ w1 (Hs.out.move fun b _ hb => Hb1.out.block b hb) (by omega)).mono ?_
  rintro y w2 ⟨g1, rfl, hr2, hb2⟩
  have Hr2 := hide hr2
  have Hb2 := hide (Hb1.out.trans (hb2.mono Hb1.out.size))
  have Hg1 := hide (show w.heap.size ≤ g1 by have := hr2.from; have := Hb1.out.size; omega)
  have Hg12 := hide hr2.lt
  obtain ⟨B1, hB1⟩ : ∃ B1, B1 = w1.heap.size := ⟨_, rfl⟩
  rw [← hB1] at Hr2
  clear hr2 hb2 hB1
  go_wp2_with fail
  have hrow := Row.fresh w2 35 #[.slice A bs.length c, .int .i64 0, .int .i64 0]
  have hb3 := (Below.refl w2.heap.size w2).alloc (Nat.le_refl _) (.cells #[.slice A bs.length c, .int .i64 0, .int .i64 0] 35)
  obtain ⟨w3, hw3⟩ : ∃ w3, w3 = w2.alloc (.cells #[.slice A bs.length c, .int .i64 0, .int .i64 0] 35) := ⟨_, rfl⟩
  obtain ⟨g2, hg2⟩ : ∃ g2, g2 = w2.heap.size := ⟨_, rfl⟩
  rw [← hw3] at hrow hb3
  have Hb3 := hide (Hb2.out.trans (hb3.mono Hb2.out.size))
  have Hs3 : Hid (RR w3 w.heap.size g2 bs 0 0) := hide ⟨A, c, by rw [hg2]; exact hrow, (Hs.out.move fun b _ hlt => Hb3.out.block b hlt).imp fun b _ hb => hb.2, by rw [hg2]; exact Hb2.out.size, Nat.zero_le _, h1⟩
  have Hr3 := hide (Hr2.out.below hb3)
  have Hne := hide (show g1 ≠ g2 by have := Hg12.out; omega)
  have Hg2 := hide (show w.heap.size ≤ g2 by have := Hb2.out.size; omega)
  rw [← hw3, ← hg2]
  clear hw3 hg2 hrow hb3 Hr2 Hb2 Hb1 Hg12
  go_loopw [8] (fun i wr => ∃ (k at_ e : Nat), k ≤ l.length ∧ i = .int .i64 k ∧ Rd wr B1 g1 (bs.drop at_) e ∧ RR wr w.heap.size g2 bs at_ e ∧ Below w.heap.size w wr) (fun i _ => l.length - (intOf i).toNat)
  case atStart => exact ⟨0, 0, 0, Nat.zero_le _, rfl, by rw [List.drop_zero]; exact Hr3.out, Hs3.out, Hb3.out⟩
  case round =>
    clear Hr3 Hs3 Hb3
    obtain ⟨k, at_, e, hk, rfl, hr, hs, hb⟩ := hrel
    have Hr := hide hr
    have Hsr := hide hs
    have Hb := hide hb
    clear hr hs hb
    by_cases hlt : k < l.length
    · obtain ⟨z, hz⟩ : ∃ z, z = l.getD k 0 := ⟨_, rfl⟩
      obtain ⟨b, o, rfl, _, hc⟩ := Hl.out.2 (by rw [nums_len]; omega)
      have ck0 := hc k _ (nums_at .i64 l k hlt)
      rw [← hz] at ck0
      have hblt := World.block_lt_of_cell? w ⟨b, o + k, none⟩ ck0
      have Hck : Hid (∀ wx, Below w.heap.size w wx → wx.cell? ⟨b, o + k, none⟩ = some (.int .i64 z)) := hide fun wx hbx => (World.cell?_of_block (a := ⟨b, o + k, none⟩) (hbx.block b hblt)).trans ck0
      have ck := Hck.out _ Hb.out
      have Hzb := hide (Hlb.out z (by rw [hz, List.getD_eq_getElem?_getD, List.getElem?_eq_getElem hlt]; exact List.getElem_mem _))
      clear hc hz ck0 hblt
      by_cases hz0 : z < 0
      · obtain ⟨n, X1, e1, hst⟩ : ∃ n X1 e1, stepNum (bs.drop at_) e = (n, X1, e1) := ⟨_, _, _, rfl⟩
        have Hst := hide hst
        clear hst
        go_wp2_with fail
        refine (read_num Hr.out).mono ?_
        rintro y w4 ⟨rfl, hr4, ho4⟩
        rw [Hst.out] at hr4 ⊢
        have Hr4 := hide hr4
        have Hs4 := hide (Hsr.out.only ho4 (fun h => Hne.out h.symm) (fun b hb h => by have := Hg1.out; omega))
        have Hb4 := hide (ho4.below Hb.out Hb.out.size fun b hb h => by have := Hg1.out; omega)
        clear hr4 ho4
        go_wp2_with fail
        refine (rread_num Hs4.out).mono ?_
        rintro y w5 ⟨n', at', e', rfl, hs5, hst', ho5⟩
        rw [Hst.out] at hst'
        cases hst'
        have Hr5 := hide (Hr4.out.beside Hs4.out Hne.out ho5)
        have Hs5 := hide hs5
        have Hb5 := hide (ho5.below Hb4.out Hb4.out.size fun b hb h => by have := Hg2.out; omega)
        have cf := Hs5.out.fcell
        obtain ⟨Ld, hLd⟩ : ∃ Ld, (bs.drop at').length = Ld := ⟨_, rfl⟩
        have HLd := hide hLd
        have HLd' := hide (show bs.length - at' = Ld by rw [← hLd]; exact List.length_drop.symm)
        clear hLd
        clear hs5 ho5
        go_wp2_with fail
        refine Rg.wp_region_ord (fun w' => w'.cell? ⟨g2, 2, none⟩ = some (.int .i64 (e1 : Int))) [(0, true), (2, true), (1, false), (3, false), (4, true), (5, true), (6, true), (8, true), (9, true), (10, true), (11, true), (7, false), (12, true), (13, true), (14, true), (15, true), (17, true), (16, false), (18, false), (19, true), (20, true)] (by kernel_rfl) (by kernel_rfl) ?_
        simp only [Rg.pick, List.map_cons, List.map_nil, List.getD_cons_zero, List.getD_cons_succ]
        iterate 2 (refine Rg.ord_quiet (v := ?_) rfl (fun w' hS => ?_) cf ?_; rotate_left; (obtain s0 := hS; go_simp; with_reducible rfl); simp only [Act.put, List.setIfInBounds_toArray, List.set_cons_succ, List.set_cons_zero])
        refine Rg.ord_loud (by rfl) (fun K hK => ?_)
        go_simp
        refine (left_any Hr5.out.drew).mono ?_
        rintro y wz ⟨rfl, rfl⟩
        rw [HLd.out]
        refine hK _ _ (fun _ => cf) ?_
        clear hK K
        refine Rg.ord_loud (by rfl) (fun K hK => ?_)
        go_simp
        refine (rleft_any (Hs5.out.drewN 1)).mono ?_
        rintro y wz ⟨rfl, nz, rfl⟩
        rw [HLd'.out]
        refine hK _ _ (fun _ => cf) ?_
        clear hK K
        iterate 2 (refine Rg.ord_quiet (v := ?_) rfl (fun w' hS => ?_) cf ?_; rotate_left; (obtain s0 := hS; go_simp; with_reducible rfl); simp only [Act.put, List.setIfInBounds_toArray, List.set_cons_succ, List.set_cons_zero])
        iterate 5 (refine Rg.ord_guarded (v := ?_) (by rfl) (fun w' hS => ?_) cf ?_; rotate_left; (obtain s0 := hS; go_simp; with_reducible rfl); simp only [Act.put, List.setIfInBounds_toArray, List.set_cons_succ, List.set_cons_zero])
        refine Rg.ord_loud (by rfl) (fun K hK => ?_)
        go_simp
        refine (fail_any (Hr5.out.drewN (1 + nz))).mono ?_
        rintro y wz ⟨rfl, rfl⟩
        refine hK _ _ (fun _ => cf) ?_
        clear hK K
        iterate 1 (refine Rg.ord_guarded (v := ?_) (by rfl) (fun w' hS => ?_) cf ?_; rotate_left; (obtain s0 := hS; go_simp; with_reducible rfl); simp only [Act.put, List.setIfInBounds_toArray, List.set_cons_succ, List.set_cons_zero])
        iterate 2 (refine Rg.ord_quiet (v := ?_) rfl (fun w' hS => ?_) cf ?_; rotate_left; (obtain s0 := hS; go_simp; with_reducible rfl); simp only [Act.put, List.setIfInBounds_toArray, List.set_cons_succ, List.set_cons_zero])
        iterate 2 (refine Rg.ord_guarded (v := ?_) (by rfl) (fun w' hS => ?_) cf ?_; rotate_left; (obtain s0 := hS; go_simp; with_reducible rfl); simp only [Act.put, List.setIfInBounds_toArray, List.set_cons_succ, List.set_cons_zero])
        refine Rg.ord_loud (by rfl) (fun K hK => ?_)
        go_simp
        refine (end_any (Hr5.out.drewN (1 + nz))).mono ?_
        rintro y w6 ⟨rfl, hb6⟩
        have hb6' : Below w5.heap.size w5 w6 := ⟨hb6.os, hb6.tape, hb6.output, hb6.size, hb6.block⟩
        have Hr6 := hide (Hr5.out.below hb6')
        have Hs6 := hide (Hs5.out.below hb6')
        have Hb6 := hide (Hb5.out.trans (hb6'.mono Hb5.out.size))
        have cf := (Hs6.out).fcell
        clear hb6 hb6'
        refine hK _ _ (fun _ => cf) ?_
        clear hK K
        refine Rg.ord_loud (by rfl) (fun K hK => ?_)
        go_simp
        refine (rend_any Hs6.out).mono ?_
        rintro y wz ⟨rfl, nz2, rfl⟩
        refine hK _ _ (fun _ => cf) ?_
        clear hK K
        iterate 1 (refine Rg.ord_guarded (v := ?_) (by rfl) (fun w' hS => ?_) cf ?_; rotate_left; (obtain s0 := hS; go_simp; with_reducible rfl); simp only [Act.put, List.setIfInBounds_toArray, List.set_cons_succ, List.set_cons_zero])
        iterate 1 (refine Rg.ord_quiet (v := ?_) rfl (fun w' hS => ?_) cf ?_; rotate_left; (obtain s0 := hS; go_simp; with_reducible rfl); simp only [Act.put, List.setIfInBounds_toArray, List.set_cons_succ, List.set_cons_zero])
        refine Rg.ord_nil ?_
        go_wp2
        refine ⟨⟨k + 1, at', e1, by omega, by go_num, Hr6.out.drewN _, Hs6.out.drewN _, below_drewN Hb6.out _⟩, by simp [intOf]; omega⟩
      · obtain ⟨x, X1, e1, hst⟩ : ∃ x X1 e1, stepText (bs.drop at_) e z = (x, X1, e1) := ⟨_, _, _, rfl⟩
        have Hst := hide hst
        have Hxl := hide (show x.length ≤ 9223372036854775807 by
          have := stepText_len (bs.drop at_) e z
          rw [hst, List.length_drop] at this
          simp only at this
          omega)
        clear hst
        go_wp2_with fail
        refine (read_text z Hr.out Hzb.out).mono ?_
        rintro y w4 ⟨v4, rfl, hv4, hr4, ho4⟩
        rw [Hst.out] at hr4 hv4
        obtain ⟨A4, c4, rfl, hx4⟩ := Is.own hv4
        have Hx4 := hide hx4
        have Hr4 := hide hr4
        have Hs4 := hide (Hsr.out.only ho4 (fun h => Hne.out h.symm) (fun b hb h => by have := Hg1.out; omega))
        have Hb4 := hide (ho4.below Hb.out Hb.out.size fun b hb h => by have := Hg1.out; omega)
        have ck4 := Hck.out _ Hb4.out
        have Hg2l := hide (show g2 < wr.heap.size from Hsr.out.lt)
        clear hr4 ho4 hv4 hx4
        go_wp2_with fail
        refine (rread_text z Hs4.out Hzb.out).mono ?_
        rintro y w5' ⟨v5, at', e', rfl, hv5, hs5, hst', ho5⟩
        rw [Hst.out] at hst' hv5
        cases hst'
        obtain ⟨A5, c5, rfl, hx5⟩ := Is.own hv5
        have Hx5 := hide hx5
        have Hx4' := hide (Hx4.out.only ho5 fun b hb h => by have := hb.1; have := Hg2l.out; omega)
        have Hr5' := hide (Hr4.out.beside Hs4.out Hne.out ho5)
        have Hs5' := hide hs5
        have Hb5' := hide (ho5.below Hb4.out Hb4.out.size fun b hb h => by have := Hg2.out; omega)
        clear hs5 ho5 hv5 hx5
        go_wp2_with fail
        refine (bytes_any x x A4 A5 c4 c5 _ _ w5' Hx4'.out Hx5.out Hxl.out).mono ?_
        rintro y w5 ⟨rfl, hb5⟩
        simp only [decide_true]
        have Hr5 := hide (Hr5'.out.below hb5)
        have Hs5 := hide (Hs5'.out.below hb5)
        have Hb5 := hide (Hb5'.out.trans (hb5.mono Hb5'.out.size))
        have cf := Hs5.out.fcell
        obtain ⟨Ld, hLd⟩ : ∃ Ld, (bs.drop at').length = Ld := ⟨_, rfl⟩
        have HLd := hide hLd
        have HLd' := hide (show bs.length - at' = Ld by rw [← hLd]; exact List.length_drop.symm)
        clear hLd
        clear hb5
        go_wp2_with fail
        refine Rg.wp_region_ord (fun w' => w'.cell? ⟨g2, 2, none⟩ = some (.int .i64 (e1 : Int))) [(0, true), (2, true), (1, false), (3, false), (4, true), (5, true), (6, true), (8, true), (9, true), (10, true), (11, true), (7, false), (12, true), (13, true), (14, true), (15, true), (17, true), (16, false), (18, false), (19, true), (20, true)] (by kernel_rfl) (by kernel_rfl) ?_
        simp only [Rg.pick, List.map_cons, List.map_nil, List.getD_cons_zero, List.getD_cons_succ]
        iterate 2 (refine Rg.ord_quiet (v := ?_) rfl (fun w' hS => ?_) cf ?_; rotate_left; (obtain s0 := hS; go_simp; with_reducible rfl); simp only [Act.put, List.setIfInBounds_toArray, List.set_cons_succ, List.set_cons_zero])
        refine Rg.ord_loud (by rfl) (fun K hK => ?_)
        go_simp
        refine (left_any Hr5.out.drew).mono ?_
        rintro y wz ⟨rfl, rfl⟩
        rw [HLd.out]
        refine hK _ _ (fun _ => cf) ?_
        clear hK K
        refine Rg.ord_loud (by rfl) (fun K hK => ?_)
        go_simp
        refine (rleft_any (Hs5.out.drewN 1)).mono ?_
        rintro y wz ⟨rfl, nz, rfl⟩
        rw [HLd'.out]
        refine hK _ _ (fun _ => cf) ?_
        clear hK K
        iterate 2 (refine Rg.ord_quiet (v := ?_) rfl (fun w' hS => ?_) cf ?_; rotate_left; (obtain s0 := hS; go_simp; with_reducible rfl); simp only [Act.put, List.setIfInBounds_toArray, List.set_cons_succ, List.set_cons_zero])
        iterate 5 (refine Rg.ord_guarded (v := ?_) (by rfl) (fun w' hS => ?_) cf ?_; rotate_left; (obtain s0 := hS; go_simp; with_reducible rfl); simp only [Act.put, List.setIfInBounds_toArray, List.set_cons_succ, List.set_cons_zero])
        refine Rg.ord_loud (by rfl) (fun K hK => ?_)
        go_simp
        refine (fail_any (Hr5.out.drewN (1 + nz))).mono ?_
        rintro y wz ⟨rfl, rfl⟩
        refine hK _ _ (fun _ => cf) ?_
        clear hK K
        iterate 1 (refine Rg.ord_guarded (v := ?_) (by rfl) (fun w' hS => ?_) cf ?_; rotate_left; (obtain s0 := hS; go_simp; with_reducible rfl); simp only [Act.put, List.setIfInBounds_toArray, List.set_cons_succ, List.set_cons_zero])
        iterate 2 (refine Rg.ord_quiet (v := ?_) rfl (fun w' hS => ?_) cf ?_; rotate_left; (obtain s0 := hS; go_simp; with_reducible rfl); simp only [Act.put, List.setIfInBounds_toArray, List.set_cons_succ, List.set_cons_zero])
        iterate 2 (refine Rg.ord_guarded (v := ?_) (by rfl) (fun w' hS => ?_) cf ?_; rotate_left; (obtain s0 := hS; go_simp; with_reducible rfl); simp only [Act.put, List.setIfInBounds_toArray, List.set_cons_succ, List.set_cons_zero])
        refine Rg.ord_loud (by rfl) (fun K hK => ?_)
        go_simp
        refine (end_any (Hr5.out.drewN (1 + nz))).mono ?_
        rintro y w6 ⟨rfl, hb6⟩
        have hb6' : Below w5.heap.size w5 w6 := ⟨hb6.os, hb6.tape, hb6.output, hb6.size, hb6.block⟩
        have Hr6 := hide (Hr5.out.below hb6')
        have Hs6 := hide (Hs5.out.below hb6')
        have Hb6 := hide (Hb5.out.trans (hb6'.mono Hb5.out.size))
        have cf := (Hs6.out).fcell
        clear hb6 hb6'
        refine hK _ _ (fun _ => cf) ?_
        clear hK K
        refine Rg.ord_loud (by rfl) (fun K hK => ?_)
        go_simp
        refine (rend_any Hs6.out).mono ?_
        rintro y wz ⟨rfl, nz2, rfl⟩
        refine hK _ _ (fun _ => cf) ?_
        clear hK K
        iterate 1 (refine Rg.ord_guarded (v := ?_) (by rfl) (fun w' hS => ?_) cf ?_; rotate_left; (obtain s0 := hS; go_simp; with_reducible rfl); simp only [Act.put, List.setIfInBounds_toArray, List.set_cons_succ, List.set_cons_zero])
        iterate 1 (refine Rg.ord_quiet (v := ?_) rfl (fun w' hS => ?_) cf ?_; rotate_left; (obtain s0 := hS; go_simp; with_reducible rfl); simp only [Act.put, List.setIfInBounds_toArray, List.set_cons_succ, List.set_cons_zero])
        refine Rg.ord_nil ?_
        go_wp2
        refine ⟨⟨k + 1, at', e1, by omega, by go_num, Hr6.out.drewN _, Hs6.out.drewN _, below_drewN Hb6.out _⟩, by simp [intOf]; omega⟩
    · obtain rfl : k = l.length := by omega
      obtain ⟨Ld, hLd⟩ : ∃ Ld, (bs.drop at_).length = Ld := ⟨_, rfl⟩
      have HLd := hide hLd
      have HLd' := hide (show bs.length - at_ = Ld by rw [← hLd]; exact List.length_drop.symm)
      clear hLd
      go_wp2_with fail
      refine (left_any Hr.out).mono ?_
      rintro y wz ⟨rfl, rfl⟩
      rw [HLd.out]
      go_wp2_with fail
      refine (rleft_any Hsr.out).mono ?_
      rintro y wz ⟨rfl, nz, rfl⟩
      rw [HLd'.out]
      go_wp2
      go_ret
      exact ⟨rfl, below_drewN Hb.out _⟩
end Go.Proofs.Ytiomhbajbbpmiaa.Wr
