/-
  The reference's reader: Text.
-/
import Derived.Test.YtiomhbajbbpmiaaRrC

namespace Go.Proofs.Ytiomhbajbbpmiaa.Wr
open Go Go.RowKit Kt

theorem wp_cat' {P : Program} {o : Oper} {a : Act} {K : Act → World → Prop} {Q : Exit → Act → World → Prop} {w : World} {E : TypeId}
    (s x : Operand) (t : TypeId) (ho : o.op = .call { callee := .builtin .append, args := #[s, x], argTypes := #[t, t] })
    (ht : P.underlying t = some (.slice E)) (hi : (P.info? E).map (fun i => (i.zero, i.size, i.bytes)) = some (some (.int .u8 0), 1, 1))
    (B : Nat) (w0 : World) (v : Value) (l bs : List UInt8) (n : Nat) (hn : bs.length = n) (Pb : Nat → Prop) (A : Option Addr) (c : Nat) (hs : a.eval s = v) (hx : a.eval x = .slice A n c)
    (hown : Own w B E v l) (hsl : Sl w Pb A c bs) (hlen : l.length + bs.length ≤ 70368744177664) (hb : Below B w0 w) (hbase : B ≤ w.heap.size)
    (h : ∀ v' w', Own w' B E v' (l ++ bs) → Below B w0 w' → w.grownBy w' v.ownBlock → K (a.put o.dst v') w') : o.wp P a w K Q := by
  subst hn
  exact wp_cat s x t ho ht hi B w0 v l bs Pb A c hs hx hown hsl hlen hb hbase h

set_option maxHeartbeats 2000000 in
set_option maxRecDepth 100000 in
theorem rread_text {w : World} {B g : Nat} {bs : List UInt8} {at_ e : Nat} (most : Int) (h : RR w B g bs at_ e) (hm1 : most ≤ 9223372036854775807) :
    Calls Try.prog 20 #[.pointer (some ⟨g, 0, none⟩), .int .i64 most] w fun y w' => ∃ v at' e', y = .returned v ∧ Own w' w.heap.size 5 v (stepText (bs.drop at_) e most).1 ∧ RR w' B g bs at' e' ∧ (stepText (bs.drop at_) e most).2 = (bs.drop at', e') ∧ Only (· = g) w w' := by
  have Hrr := hide h
  obtain ⟨A, c, hr, hs, hB, h1, h2⟩ := h
  have c2 : w.cell? ⟨g, 2, none⟩ = some (.int .i64 (e : Int)) := hr.cell 2
  have hc := hs.1
  have Hr := hide hr
  have Hs := hide hs
  clear hr hs
  by_cases he : e = 0
  · subst he
    obtain ⟨X, hX⟩ : ∃ X, bs.drop at_ = X := ⟨_, rfl⟩
    have hXl : X.length = bs.length - at_ := by rw [← hX, List.length_drop]
    obtain ⟨L, hL⟩ : ∃ L, bs.length - at_ = L := ⟨_, rfl⟩
    have Hleft : Hid (∀ wx, RR wx B g bs at_ 0 → Calls Try.prog 22 #[.pointer (some ⟨g, 0, none⟩)] wx fun y w' => y = .returned (.int .i64 (L : Nat)) ∧ ∃ n, w' = wx.drewN n) := hide fun wx hx => by rw [← hL]; exact rleft_any hx
    rw [hL] at hXl
    have hLb : at_ + L = bs.length := by omega
    have HXl := hide hXl
    have HX := hide hX
    obtain ⟨n, k, e, hnum⟩ : ∃ n k e, numOf X = (n, k, e) := ⟨_, _, _, rfl⟩
    have hkl : k ≤ L := by have := numOf_le X; rw [hnum] at this; simp only at this; omega
    have Hnx := hide (rnext_any Hrr.out)
    rw [hX, hnum] at Hnx
    rw [hX]
    have Hnum := hide hnum
    clear hX hXl hL hnum
    by_cases he : e = 0
    · subst he
      obtain ⟨hn64, hk1, hk10, _, _⟩ := numOf_ok X n k Hnum.out
      have Hn64 := hide hn64
      obtain ⟨M, hM⟩ : ∃ M, M = (max most 0).toNat := ⟨_, rfl⟩
      have hmx : (if 0 < most then most else (0 : Int)) = (M : Int) := by split <;> omega
      have hwM : IntKind.u64.wrap (M : Int) = (M : Int) := by rw [IntKind.wrap_u64]; omega
      have HM := hide hM
      clear hM hm1 hn64
      by_cases h3 : M < n
      · have Hst := hide (show stepText X 0 most = ([], X, 4) by unfold stepText; rw [if_pos rfl, text_over X most n k Hnum.out (by rw [← HM.out]; exact h3)]; rfl)
        go_enter Try.func20, Try.ntmps20
        go_wp2_with fail
        refine Hnx.out.mono ?_
        rintro y w1 ⟨rfl, hb1⟩
        have Hr1 := hide (Hr.out.below hb1 Hr.out.lt)
        have Hrr1 := hide (Hrr.out.below hb1)
        have Hs1 := hide (Hs.out.move (w' := w1) fun b _ hlt => hb1.block b hlt)
        have Hb1 := hide hb1
        have Ho1 := hide (Only.of_below (· = g) hb1)
        have d0 : w1.cell? ⟨g, 0, none⟩ = some (.slice A bs.length c) := Hr1.out.cell 0
        have d1 : w1.cell? ⟨g, 1, none⟩ = some (.int .i64 (at_ : Int)) := Hr1.out.cell 1
        have d2 : w1.cell? ⟨g, 2, none⟩ = some (.int .i64 ((0 : Nat) : Int)) := Hr1.out.cell 2
        have g1 := Hr1.out.free 1
        have g2 := Hr1.out.free 2
        clear hb1
        simp only [numV]
        go_wp2
        go_ret
        refine ⟨_, at_, 4, rfl, ?_, ⟨A, c, ?_, Hs1.out.only ((Only.refl (· = g) w1).put (g := g) (i := 2) rfl _) (fun b hb he => by have := hb; omega), hB, h1, h2⟩, ?_, Ho1.out.put (g := g) (i := 2) rfl _⟩
        · rw [Hst.out]; exact Own.nil _ _ _
        · exact Hr1.out.put 2 (.int .i64 (4 : Nat))
        · rw [Hst.out, HX.out]
      · by_cases h4 : L - k < n
        · have Hst := hide (show stepText X 0 most = ([], X, 2) by unfold stepText; rw [if_pos rfl, text_less X most n k Hnum.out (by rw [← HM.out]; exact h3) (by have := HXl.out; omega)]; rfl)
          go_enter Try.func20, Try.ntmps20
          go_wp2_with fail
          refine Hnx.out.mono ?_
          rintro y w1 ⟨rfl, hb1⟩
          have Hr1 := hide (Hr.out.below hb1 Hr.out.lt)
          have Hrr1 := hide (Hrr.out.below hb1)
          have Hs1 := hide (Hs.out.move (w' := w1) fun b _ hlt => hb1.block b hlt)
          have Hb1 := hide hb1
          have Ho1 := hide (Only.of_below (· = g) hb1)
          have d0 : w1.cell? ⟨g, 0, none⟩ = some (.slice A bs.length c) := Hr1.out.cell 0
          have d1 : w1.cell? ⟨g, 1, none⟩ = some (.int .i64 (at_ : Int)) := Hr1.out.cell 1
          have d2 : w1.cell? ⟨g, 2, none⟩ = some (.int .i64 ((0 : Nat) : Int)) := Hr1.out.cell 2
          have g1 := Hr1.out.free 1
          have g2 := Hr1.out.free 2
          clear hb1
          simp only [numV]
          go_wp2_with fail
          refine (Hleft.out _ Hrr1.out).mono ?_
          rintro y wz ⟨rfl, nz, rfl⟩
          go_wp2
          go_ret
          refine ⟨_, at_, 2, rfl, ?_, ⟨A, c, ?_, (Hs1.out.drewN nz).only ((Only.refl (· = g) (w1.drewN nz)).put (g := g) (i := 2) rfl _) (fun b hb he => by have := hb; omega), hB, h1, h2⟩, ?_, (Ho1.out.drewN nz).put (g := g) (i := 2) rfl _⟩
          · rw [Hst.out]; exact Own.nil _ _ _
          · exact (Hr1.out.drewN nz).put 2 (.int .i64 (2 : Nat))
          · rw [Hst.out, HX.out]
        · have Hst := hide (show stepText X 0 most = ((X.drop k).take n, X.drop (k + n), 0) by unfold stepText; rw [if_pos rfl, text_fine X most n k Hnum.out (by rw [← HM.out]; exact h3) (by have := HXl.out; omega)])
          obtain ⟨b, o, rfl, _, _⟩ := Hs.out.2 (by omega)
          obtain ⟨q1, hq1⟩ : ∃ q1, at_ + k = q1 := ⟨_, rfl⟩
          obtain ⟨q2, hq2⟩ : ∃ q2, q1 + n = q2 := ⟨_, rfl⟩
          have he1 : (at_ : Int) + (k : Int) = (q1 : Int) := by omega
          have he2 : (q1 : Int) + (n : Int) = (q2 : Int) := by omega
          have hq12 : q1 ≤ q2 := by omega
          have hq2c : q2 ≤ c := by omega
          have hsubq : q2 - q1 = n := by omega
          have Hq1 := hide hq1
          have Hq2 := hide hq2
          have hq2l : q2 ≤ bs.length := by omega
          have Hxe := hide (show (X.drop k).take n = (bs.drop q1).take n by rw [← HX.out, List.drop_drop, hq1])
          have Hxn := hide (show ((X.drop k).take n).length = n by rw [List.length_take, List.length_drop]; have := HXl.out; omega)
          have Hxd := hide (show X.drop (k + n) = bs.drop q2 by rw [← HX.out, List.drop_drop, ← Nat.add_assoc, hq1, hq2])
          clear hq1 hq2
          by_cases hck : c = q1
          · have hq21 : q2 ≤ q1 := by omega
            go_enter Try.func20, Try.ntmps20
            go_wp2_with fail
            refine Hnx.out.mono ?_
            rintro y w1 ⟨rfl, hb1⟩
            have Hr1 := hide (Hr.out.below hb1 Hr.out.lt)
            have Hrr1 := hide (Hrr.out.below hb1)
            have Hs1 := hide (Hs.out.move (w' := w1) fun b _ hlt => hb1.block b hlt)
            have Hb1 := hide hb1
            have Ho1 := hide (Only.of_below (· = g) hb1)
            have d0 : w1.cell? ⟨g, 0, none⟩ = some (.slice (some ⟨b, o, none⟩) bs.length c) := Hr1.out.cell 0
            have d1 : w1.cell? ⟨g, 1, none⟩ = some (.int .i64 (at_ : Int)) := Hr1.out.cell 1
            have d2 : w1.cell? ⟨g, 2, none⟩ = some (.int .i64 ((0 : Nat) : Int)) := Hr1.out.cell 2
            have g1 := Hr1.out.free 1
            have g2 := Hr1.out.free 2
            clear hb1
            simp only [numV]
            go_wp2_with fail
            refine (Hleft.out _ Hrr1.out).mono ?_
            rintro y wz ⟨rfl, nz, rfl⟩
            go_wp2_with fail
            have hr2 := (Hr1.out.drewN nz).put 1 (.int .i64 (q2 : Int))
            have ho2 := (Ho1.out.drewN nz).put (g := g) (i := 1) rfl (.int .i64 (q2 : Int))
            have hs2 := (Hs1.out.drewN nz).only ((Only.refl (· = g) (w1.drewN nz)).put (g := g) (i := 1) rfl (.int .i64 (q2 : Int))) (fun b hb he => by have := hb; omega)
            obtain ⟨w2, hw2⟩ : ∃ w2, w2 = (w1.drewN nz).setCell ⟨g, 1, none⟩ (.int .i64 (q2 : Int)) := ⟨_, rfl⟩
            rw [← hw2] at hr2 ho2 hs2 ⊢
            have Hr2 := hide hr2
            have Ho2 := hide ho2
            have Hs2 := hide hs2
            have Hsz := hide (show w1.heap.size ≤ w2.heap.size by rw [hw2]; simp [World.setCell, World.drewN])
            clear hw2 d0 d1 d2 g1 g2 hr2 ho2 hs2
            have d0 : w2.cell? ⟨g, 0, none⟩ = some (.slice (some ⟨b, o, none⟩) bs.length c) := Hr2.out.cell 0
            have d1 : w2.cell? ⟨g, 1, none⟩ = some (.int .i64 (q2 : Int)) := Hr2.out.cell 1
            refine Rg.wp_region_ord (fun w' => w'.cell? ⟨g, 0, none⟩ = some (.slice (some ⟨b, o, none⟩) bs.length c) ∧ w'.cell? ⟨g, 1, none⟩ = some (.int .i64 (q2 : Int))) [(1, true), (2, true), (3, true), (4, true), (5, true), (6, true), (7, true), (8, true), (9, true), (10, true), (0, false), (11, false), (12, true)] (by kernel_rfl) (by kernel_rfl) ?_
            simp only [Rg.pick, List.map_cons, List.map_nil, List.getD_cons_zero, List.getD_cons_succ]
            iterate 10 (refine Rg.ord_quiet (v := ?_) rfl (fun w' hS => ?_) ⟨d0, d1⟩ ?_; rotate_left; (obtain ⟨s0, s1⟩ := hS; go_simp; with_reducible rfl); simp only [Act.put, List.setIfInBounds_toArray, List.set_cons_succ, List.set_cons_zero])
            refine Rg.ord_loud rfl (fun K hK => ?_)
            go_simp
            refine hK _ _ (fun _ => ⟨(Hr2.out.alloc _).cell 0, (Hr2.out.alloc _).cell 1⟩) ?_
            clear hK K
            refine Rg.ord_loud rfl (fun K hK => ?_)
            refine wp_cat' (.tmp 59) (.tmp 69) 22 rfl Try.underlying22 info8 w2.heap.size w2 _ [] ((X.drop k).take n) n Hxn.out (fun _ => True) (some ⟨b, o, none⟩) 0 rfl rfl (Own.drew (Own.made w2 w2.heap.size 5 #[] 0 (Nat.le_refl _) rfl (Nat.zero_le _))) ?_ ?_ ?_ ?_ ?_
            · rw [List.eq_nil_of_length_eq_zero (show ((X.drop k).take n).length = 0 by rw [Hxn.out]; omega)]; exact Sl.nil _ _ _ _
            · rw [Hxn.out]; simp; omega
            · exact ((Below.refl _ _).alloc (Nat.le_refl _) _).drew
            · simp
            intro v5 w5 hown5 hb5 _
            have Hown5 := hide hown5
            have Hb5 := hide hb5
            have f0 : w5.cell? ⟨g, 0, none⟩ = some (.slice (some ⟨b, o, none⟩) bs.length c) := (Hr2.out.below hb5 Hr2.out.lt).cell 0
            have f1 : w5.cell? ⟨g, 1, none⟩ = some (.int .i64 (q2 : Int)) := (Hr2.out.below hb5 Hr2.out.lt).cell 1
            clear hown5 hb5 d0 d1
            refine hK _ _ (fun _ => ⟨f0, f1⟩) ?_
            clear hK K
            refine Rg.ord_quiet (v := ?_) rfl (fun w' hS => ?_) ⟨f0, f1⟩ ?_
            rotate_left
            · clear hS
              go_simp
              with_reducible rfl
            simp only [Act.put, List.setIfInBounds_toArray, List.set_cons_succ, List.set_cons_zero]
            refine Rg.ord_nil ?_
            go_wp2
            go_ret
            rw [Hst.out]
            refine ⟨_, q2, 0, rfl, Hown5.out.base (Nat.le_trans Hb1.out.size Hsz.out), ⟨_, c, Hr2.out.below Hb5.out Hr2.out.lt, Hs2.out.move (fun b _ hlt => Hb5.out.block b hlt), hB, hq2l, h2⟩, ?_, Ho2.out.trans (Only.of_below _ Hb5.out)⟩
            rw [Hxd.out]

          · go_enter Try.func20, Try.ntmps20
            go_wp2_with fail
            refine Hnx.out.mono ?_
            rintro y w1 ⟨rfl, hb1⟩
            have Hr1 := hide (Hr.out.below hb1 Hr.out.lt)
            have Hrr1 := hide (Hrr.out.below hb1)
            have Hs1 := hide (Hs.out.move (w' := w1) fun b _ hlt => hb1.block b hlt)
            have Hb1 := hide hb1
            have Ho1 := hide (Only.of_below (· = g) hb1)
            have d0 : w1.cell? ⟨g, 0, none⟩ = some (.slice (some ⟨b, o, none⟩) bs.length c) := Hr1.out.cell 0
            have d1 : w1.cell? ⟨g, 1, none⟩ = some (.int .i64 (at_ : Int)) := Hr1.out.cell 1
            have d2 : w1.cell? ⟨g, 2, none⟩ = some (.int .i64 ((0 : Nat) : Int)) := Hr1.out.cell 2
            have g1 := Hr1.out.free 1
            have g2 := Hr1.out.free 2
            clear hb1
            simp only [numV]
            go_wp2_with fail
            refine (Hleft.out _ Hrr1.out).mono ?_
            rintro y wz ⟨rfl, nz, rfl⟩
            go_wp2_with fail
            have hr2 := (Hr1.out.drewN nz).put 1 (.int .i64 (q2 : Int))
            have ho2 := (Ho1.out.drewN nz).put (g := g) (i := 1) rfl (.int .i64 (q2 : Int))
            have hs2 := (Hs1.out.drewN nz).only ((Only.refl (· = g) (w1.drewN nz)).put (g := g) (i := 1) rfl (.int .i64 (q2 : Int))) (fun b hb he => by have := hb; omega)
            obtain ⟨w2, hw2⟩ : ∃ w2, w2 = (w1.drewN nz).setCell ⟨g, 1, none⟩ (.int .i64 (q2 : Int)) := ⟨_, rfl⟩
            rw [← hw2] at hr2 ho2 hs2 ⊢
            have Hr2 := hide hr2
            have Ho2 := hide ho2
            have Hs2 := hide hs2
            have Hsz := hide (show w1.heap.size ≤ w2.heap.size by rw [hw2]; simp [World.setCell, World.drewN])
            clear hw2 d0 d1 d2 g1 g2 hr2 ho2 hs2
            have d0 : w2.cell? ⟨g, 0, none⟩ = some (.slice (some ⟨b, o, none⟩) bs.length c) := Hr2.out.cell 0
            have d1 : w2.cell? ⟨g, 1, none⟩ = some (.int .i64 (q2 : Int)) := Hr2.out.cell 1
            refine Rg.wp_region_ord (fun w' => w'.cell? ⟨g, 0, none⟩ = some (.slice (some ⟨b, o, none⟩) bs.length c) ∧ w'.cell? ⟨g, 1, none⟩ = some (.int .i64 (q2 : Int))) [(1, true), (2, true), (3, true), (4, true), (5, true), (6, true), (7, true), (8, true), (9, true), (10, true), (0, false), (11, false), (12, true)] (by kernel_rfl) (by kernel_rfl) ?_
            simp only [Rg.pick, List.map_cons, List.map_nil, List.getD_cons_zero, List.getD_cons_succ]
            iterate 10 (refine Rg.ord_quiet (v := ?_) rfl (fun w' hS => ?_) ⟨d0, d1⟩ ?_; rotate_left; (obtain ⟨s0, s1⟩ := hS; go_simp; with_reducible rfl); simp only [Act.put, List.setIfInBounds_toArray, List.set_cons_succ, List.set_cons_zero])
            refine Rg.ord_loud rfl (fun K hK => ?_)
            go_simp
            refine hK _ _ (fun _ => ⟨(Hr2.out.alloc _).cell 0, (Hr2.out.alloc _).cell 1⟩) ?_
            clear hK K
            refine Rg.ord_loud rfl (fun K hK => ?_)
            refine wp_cat' (.tmp 59) (.tmp 69) 22 rfl Try.underlying22 info8 w2.heap.size w2 _ [] ((X.drop k).take n) n Hxn.out (fun _ => True) (some ⟨b, o + q1, none⟩) (c - q1) rfl rfl (Own.drew (Own.made w2 w2.heap.size 5 #[] 0 (Nat.le_refl _) rfl (Nat.zero_le _))) ?_ ?_ ?_ ?_ ?_
            · have hsl := sl_take (Hs2.out.cut (k := q1) (by omega)) (k := n) (by rw [List.length_drop]; omega)
              rw [if_neg hck] at hsl
              simp only [Option.map_some, Addr.add_mid] at hsl
              rw [Hxe.out]
              exact (hsl.move (w' := (w2.alloc (.cells #[] 5)).drew) fun b _ hlt => Below.heap_alloc w2 _ b hlt).imp fun _ _ _ => trivial
            · rw [Hxn.out]; simp; omega
            · exact ((Below.refl _ _).alloc (Nat.le_refl _) _).drew
            · simp
            intro v5 w5 hown5 hb5 _
            have Hown5 := hide hown5
            have Hb5 := hide hb5
            have f0 : w5.cell? ⟨g, 0, none⟩ = some (.slice (some ⟨b, o, none⟩) bs.length c) := (Hr2.out.below hb5 Hr2.out.lt).cell 0
            have f1 : w5.cell? ⟨g, 1, none⟩ = some (.int .i64 (q2 : Int)) := (Hr2.out.below hb5 Hr2.out.lt).cell 1
            clear hown5 hb5 d0 d1
            refine hK _ _ (fun _ => ⟨f0, f1⟩) ?_
            clear hK K
            refine Rg.ord_quiet (v := ?_) rfl (fun w' hS => ?_) ⟨f0, f1⟩ ?_
            rotate_left
            · clear hS
              go_simp
              with_reducible rfl
            simp only [Act.put, List.setIfInBounds_toArray, List.set_cons_succ, List.set_cons_zero]
            refine Rg.ord_nil ?_
            go_wp2
            go_ret
            rw [Hst.out]
            refine ⟨_, q2, 0, rfl, Hown5.out.base (Nat.le_trans Hb1.out.size Hsz.out), ⟨_, c, Hr2.out.below Hb5.out Hr2.out.lt, Hs2.out.move (fun b _ hlt => Hb5.out.block b hlt), hB, hq2l, h2⟩, ?_, Ho2.out.trans (Only.of_below _ Hb5.out)⟩
            rw [Hxd.out]

    · obtain ⟨rfl, rfl, _⟩ := numOf_fail X n k e Hnum.out he
      have hb : ((e : Int) != 0) = true := by rw [bne_iff_ne]; omega
      have hb' : ((e : Int) == 0) = false := beq_eq_false_iff_ne.2 (by omega)
      have Hst := hide (show stepText X 0 most = ([], X, e) by unfold stepText; rw [if_pos rfl, text_bad X most (by rw [Hnum.out]; exact he), Hnum.out]; rfl)
      go_enter Try.func20, Try.ntmps20
      go_wp2_with fail
      refine Hnx.out.mono ?_
      rintro y w1 ⟨rfl, hb1⟩
      have Hr1 := hide (Hr.out.below hb1 Hr.out.lt)
      have Hrr1 := hide (Hrr.out.below hb1)
      have Hs1 := hide (Hs.out.move (w' := w1) fun b _ hlt => hb1.block b hlt)
      have Hb1 := hide hb1
      have Ho1 := hide (Only.of_below (· = g) hb1)
      have d0 : w1.cell? ⟨g, 0, none⟩ = some (.slice A bs.length c) := Hr1.out.cell 0
      have d1 : w1.cell? ⟨g, 1, none⟩ = some (.int .i64 (at_ : Int)) := Hr1.out.cell 1
      have d2 : w1.cell? ⟨g, 2, none⟩ = some (.int .i64 ((0 : Nat) : Int)) := Hr1.out.cell 2
      have g1 := Hr1.out.free 1
      have g2 := Hr1.out.free 2
      clear hb1
      simp only [numV]
      go_wp2
      go_ret
      refine ⟨_, at_, e, rfl, ?_, ⟨A, c, ?_, Hs1.out.only ((Only.refl (· = g) w1).put (g := g) (i := 2) rfl _) (fun b hb he => by have := hb; omega), hB, h1, h2⟩, ?_, Ho1.out.put (g := g) (i := 2) rfl _⟩
      · rw [Hst.out]; exact Own.nil _ _ _
      · exact Hr1.out.put 2 (.int .i64 (e : Nat))
      · rw [Hst.out, HX.out]
  · have hb : ((e : Int) != 0) = true := by rw [bne_iff_ne]; omega
    have Hst := hide (show stepText (bs.drop at_) e most = ([], bs.drop at_, e) by unfold stepText; rw [if_neg he])
    go_enter Try.func20, Try.ntmps20
    go_wp2
    go_ret
    rw [Hst.out]
    exact ⟨_, at_, e, rfl, Own.nil _ _ _, Hrr.out, rfl, Only.refl _ _⟩
end Go.Proofs.Ytiomhbajbbpmiaa.Wr
