/-
  The reference's reader: Num.
-/
import Derived.Test.YtabgkfkjnpcbkaaDoorQTM
import Derived.BigQuiet
import Derived.Test.YtabgkfkjnpcbkaaDoorTF
import Derived.Test.YtabgkfkjnpcbkaaDoorQTH
import Derived.Test.YtabgkfkjnpcbkaaDoorQWS
import Derived.SizedLaws

namespace Go.Proofs.YtabgkfkjnpcbkaaDoor.Wr
open Go Go.RowKit Kt

set_option maxHeartbeats 1000000 in
set_option maxRecDepth 100000 in
theorem rread_num {w : World} {B g : Nat} {bs : List UInt8} {at_ e : Nat} (h : RR w B g bs at_ e) :
    Calls Tryd.prog 41 #[.pointer (some ⟨g, 0, none⟩)] w fun y w' => ∃ n at' e', y = .returned (.int .u64 (n : Nat)) ∧ RR w' B g bs at' e' ∧ stepNum (bs.drop at_) e = (n, bs.drop at', e') ∧ Only (· = g) w w' := by
  have Hrr := hide h
  obtain ⟨A, c, hr, hs, hB, h1, h2⟩ := h
  have c2 : w.cell? ⟨g, 2, none⟩ = some (.int .i64 (e : Int)) := hr.cell 2
  have Hr := hide hr
  have Hs := hide hs
  clear hr hs
  by_cases he : e = 0
  · subst he
    obtain ⟨n, k, e, hnum⟩ : ∃ n k e, numOf (bs.drop at_) = (n, k, e) := ⟨_, _, _, rfl⟩
    have hst : stepNum (bs.drop at_) 0 = (n, bs.drop (at_ + k), e) := by unfold stepNum; rw [if_pos rfl, hnum, List.drop_drop]
    have hkl : k ≤ bs.length - at_ := by have := numOf_le (bs.drop at_); rw [hnum, List.length_drop] at this; exact this
    have Hst := hide hst
    have Hnx := hide (rnext_any Hrr.out)
    rw [hnum] at Hnx
    by_cases he : e = 0
    · subst he
      go_enter Tryd.func41, Tryd.ntmps41
      go_wp2_with fail
      refine Hnx.out.mono ?_
      rintro y w1 ⟨rfl, hb1⟩
      have Hr1 := hide (Hr.out.below hb1 Hr.out.lt)
      have Hs1 := hide (Hs.out.move (w' := w1) fun b _ hlt => hb1.block b hlt)
      have Ho1 := hide (Only.of_below (· = g) hb1)
      have d1 : w1.cell? ⟨g, 1, none⟩ = some (.int .i64 (at_ : Int)) := Hr1.out.cell 1
      have g1 := Hr1.out.free 1
      have hwk : IntKind.i64.wrap ((at_ : Int) + (k : Int)) = ((at_ + k : Nat) : Int) := by rw [IntKind.wrap_i64]; omega
      clear hb1
      simp only [numV]
      go_wp2
      go_ret
      refine ⟨n, at_ + k, 0, rfl, ⟨A, c, ?_, Hs1.out.only ((Only.refl (· = g) w1).put (g := g) (i := 1) rfl _) (fun b hb he => by have := hb; omega), hB, by omega, h2⟩, Hst.out, Ho1.out.put (g := g) (i := 1) rfl _⟩
      exact Hr1.out.put 1 (.int .i64 ((at_ + k : Nat) : Int))
    · obtain ⟨rfl, rfl, _⟩ := numOf_fail _ n k e hnum he
      have hb : ((e : Int) != 0) = true := by rw [bne_iff_ne]; omega
      go_enter Tryd.func41, Tryd.ntmps41
      go_wp2_with fail
      refine Hnx.out.mono ?_
      rintro y w1 ⟨rfl, hb1⟩
      have Hr1 := hide (Hr.out.below hb1 Hr.out.lt)
      have Hs1 := hide (Hs.out.move (w' := w1) fun b _ hlt => hb1.block b hlt)
      have Ho1 := hide (Only.of_below (· = g) hb1)
      have d2 : w1.cell? ⟨g, 2, none⟩ = some (.int .i64 ((0 : Nat) : Int)) := Hr1.out.cell 2
      have g2 := Hr1.out.free 2
      clear hb1
      simp only [numV]
      go_wp2
      go_ret
      refine ⟨0, at_, e, rfl, ⟨A, c, ?_, Hs1.out.only ((Only.refl (· = g) w1).put (g := g) (i := 2) rfl _) (fun b hb he => by have := hb; omega), hB, h1, h2⟩, Hst.out, Ho1.out.put (g := g) (i := 2) rfl _⟩
      exact Hr1.out.put 2 (.int .i64 (e : Int))
  · have hb : ((e : Int) != 0) = true := by rw [bne_iff_ne]; omega
    have Hst := hide (show stepNum (bs.drop at_) e = (0, bs.drop at_, e) by unfold stepNum; rw [if_neg he])
    go_enter Tryd.func41, Tryd.ntmps41
    go_wp2
    go_ret
    exact ⟨0, at_, e, rfl, Hrr.out, Hst.out, Only.refl _ _⟩
end Go.Proofs.YtabgkfkjnpcbkaaDoor.Wr

namespace Go.Proofs.YtabgkfkjnpcbkaaDoor.Wr
open Go Go.RowKit Kt

theorem wp_cat' {P : Program} {o : Oper} {a : Act} {K : Act → World → Prop} {Q : Exit → Act → World → Prop} {w : World} {E : TypeId}
    (s x : Operand) (t : TypeId) (ho : o.op = .call { callee := .builtin .append, args := #[s, x], argTypes := #[t, t] })
    (ht : P.underlying t = some (.slice E)) (hi : (P.info? E).map (fun i => (i.zero, i.size, i.bytes)) = some (some (.int .u8 0), 1, 1))
    (B : Nat) (w0 : World) (v : Value) (l bs : List UInt8) (n : Nat) (hn : bs.length = n) (Pb : Nat → Prop) (A : Option Addr) (c : Nat) (hs : a.eval s = v) (hx : a.eval x = .slice A n c)
    (hown : Own w B E v l) (hsl : Sl w Pb A c bs) (hlen : l.length + bs.length ≤ 70368744177664) (hb : Below B w0 w) (hbase : B ≤ w.heap.size)
    (h : ∀ v' w', Own w' B E v' (l ++ bs) → Below B w0 w' → w.grownBy w' v.ownBlock → K (a.put o.dst v') w') : o.wp P a w K Q := by
  subst hn
  exact wp_cat s x t ho ht hi B w0 v l bs Pb A c hs hx hown hsl hlen hb hbase h

set_option maxHeartbeats 2000000 in
set_option maxRecDepth 100000 in
theorem rread_text {w : World} {B g : Nat} {bs : List UInt8} {at_ e : Nat} (most : Int) (h : RR w B g bs at_ e) (hm1 : most ≤ 9223372036854775807) :
    Calls Tryd.prog 42 #[.pointer (some ⟨g, 0, none⟩), .int .i64 most] w fun y w' => ∃ v at' e', y = .returned v ∧ Own w' w.heap.size 5 v (stepText (bs.drop at_) e most).1 ∧ RR w' B g bs at' e' ∧ (stepText (bs.drop at_) e most).2 = (bs.drop at', e') ∧ Only (· = g) w w' := by
  have Hrr := hide h
  obtain ⟨A, c, hr, hs, hB, h1, h2⟩ := h
  have c2 : w.cell? ⟨g, 2, none⟩ = some (.int .i64 (e : Int)) := hr.cell 2
  have hc := hs.1
  have Hr := hide hr
  have Hs := hide hs
  clear hr hs
  by_cases he : e = 0
  · subst he
    obtain ⟨X, hX⟩ : ∃ X, bs.drop at_ = X := ⟨_, rfl⟩
    have hXl : X.length = bs.length - at_ := by rw [← hX, List.length_drop]
    obtain ⟨L, hL⟩ : ∃ L, bs.length - at_ = L := ⟨_, rfl⟩
    have Hleft : Hid (∀ wx, RR wx B g bs at_ 0 → Calls Tryd.prog 70 #[.pointer (some ⟨g, 0, none⟩)] wx fun y w' => y = .returned (.int .i64 (L : Nat)) ∧ ∃ n, w' = wx.drewN n) := hide fun wx hx => by rw [← hL]; exact rleft_any hx
    rw [hL] at hXl
    have hLb : at_ + L = bs.length := by omega
    have HXl := hide hXl
    have HX := hide hX
    obtain ⟨n, k, e, hnum⟩ : ∃ n k e, numOf X = (n, k, e) := ⟨_, _, _, rfl⟩
    have hkl : k ≤ L := by have := numOf_le X; rw [hnum] at this; simp only at this; omega
    have Hnx := hide (rnext_any Hrr.out)
    rw [hX, hnum] at Hnx
    rw [hX]
    have Hnum := hide hnum
    clear hX hXl hL hnum
    by_cases he : e = 0
    · subst he
      obtain ⟨hn64, hk1, hk10, _, _⟩ := numOf_ok X n k Hnum.out
      have Hn64 := hide hn64
      obtain ⟨M, hM⟩ : ∃ M, M = (max most 0).toNat := ⟨_, rfl⟩
      have hmx : (if 0 < most then most else (0 : Int)) = (M : Int) := by split <;> omega
      have hwM : IntKind.u64.wrap (M : Int) = (M : Int) := by rw [IntKind.wrap_u64]; omega
      have HM := hide hM
      clear hM hm1 hn64
      by_cases h3 : M < n
      · have Hst := hide (show stepText X 0 most = ([], X, 4) by unfold stepText; rw [if_pos rfl, text_over X most n k Hnum.out (by rw [← HM.out]; exact h3)]; rfl)
        go_enter Tryd.func42, Tryd.ntmps42
        go_wp2_with fail
        refine Hnx.out.mono ?_
        rintro y w1 ⟨rfl, hb1⟩
        have Hr1 := hide (Hr.out.below hb1 Hr.out.lt)
        have Hrr1 := hide (Hrr.out.below hb1)
        have Hs1 := hide (Hs.out.move (w' := w1) fun b _ hlt => hb1.block b hlt)
        have Hb1 := hide hb1
        have Ho1 := hide (Only.of_below (· = g) hb1)
        have d0 : w1.cell? ⟨g, 0, none⟩ = some (.slice A bs.length c) := Hr1.out.cell 0
        have d1 : w1.cell? ⟨g, 1, none⟩ = some (.int .i64 (at_ : Int)) := Hr1.out.cell 1
        have d2 : w1.cell? ⟨g, 2, none⟩ = some (.int .i64 ((0 : Nat) : Int)) := Hr1.out.cell 2
        have g1 := Hr1.out.free 1
        have g2 := Hr1.out.free 2
        clear hb1
        simp only [numV]
        go_wp2
        go_ret
        refine ⟨_, at_, 4, rfl, ?_, ⟨A, c, ?_, Hs1.out.only ((Only.refl (· = g) w1).put (g := g) (i := 2) rfl _) (fun b hb he => by have := hb; omega), hB, h1, h2⟩, ?_, Ho1.out.put (g := g) (i := 2) rfl _⟩
        · rw [Hst.out]; exact Own.nil _ _ _
        · exact Hr1.out.put 2 (.int .i64 (4 : Nat))
        · rw [Hst.out, HX.out]
      · by_cases h4 : L - k < n
        · have Hst := hide (show stepText X 0 most = ([], X, 2) by unfold stepText; rw [if_pos rfl, text_less X most n k Hnum.out (by rw [← HM.out]; exact h3) (by have := HXl.out; omega)]; rfl)
          go_enter Tryd.func42, Tryd.ntmps42
          go_wp2_with fail
          refine Hnx.out.mono ?_
          rintro y w1 ⟨rfl, hb1⟩
          have Hr1 := hide (Hr.out.below hb1 Hr.out.lt)
          have Hrr1 := hide (Hrr.out.below hb1)
          have Hs1 := hide (Hs.out.move (w' := w1) fun b _ hlt => hb1.block b hlt)
          have Hb1 := hide hb1
          have Ho1 := hide (Only.of_below (· = g) hb1)
          have d0 : w1.cell? ⟨g, 0, none⟩ = some (.slice A bs.length c) := Hr1.out.cell 0
          have d1 : w1.cell? ⟨g, 1, none⟩ = some (.int .i64 (at_ : Int)) := Hr1.out.cell 1
          have d2 : w1.cell? ⟨g, 2, none⟩ = some (.int .i64 ((0 : Nat) : Int)) := Hr1.out.cell 2
          have g1 := Hr1.out.free 1
          have g2 := Hr1.out.free 2
          clear hb1
          simp only [numV]
          go_wp2_with fail
          refine (Hleft.out _ Hrr1.out).mono ?_
          rintro y wz ⟨rfl, nz, rfl⟩
          go_wp2
          go_ret
          refine ⟨_, at_, 2, rfl, ?_, ⟨A, c, ?_, (Hs1.out.drewN nz).only ((Only.refl (· = g) (w1.drewN nz)).put (g := g) (i := 2) rfl _) (fun b hb he => by have := hb; omega), hB, h1, h2⟩, ?_, (Ho1.out.drewN nz).put (g := g) (i := 2) rfl _⟩
          · rw [Hst.out]; exact Own.nil _ _ _
          · exact (Hr1.out.drewN nz).put 2 (.int .i64 (2 : Nat))
          · rw [Hst.out, HX.out]
        · have Hst := hide (show stepText X 0 most = ((X.drop k).take n, X.drop (k + n), 0) by unfold stepText; rw [if_pos rfl, text_fine X most n k Hnum.out (by rw [← HM.out]; exact h3) (by have := HXl.out; omega)])
          obtain ⟨b, o, rfl, _, _⟩ := Hs.out.2 (by omega)
          obtain ⟨q1, hq1⟩ : ∃ q1, at_ + k = q1 := ⟨_, rfl⟩
          obtain ⟨q2, hq2⟩ : ∃ q2, q1 + n = q2 := ⟨_, rfl⟩
          have he1 : (at_ : Int) + (k : Int) = (q1 : Int) := by omega
          have he2 : (q1 : Int) + (n : Int) = (q2 : Int) := by omega
          have hq12 : q1 ≤ q2 := by omega
          have hq2c : q2 ≤ c := by omega
          have hsubq : q2 - q1 = n := by omega
          have Hq1 := hide hq1
          have Hq2 := hide hq2
          have hq2l : q2 ≤ bs.length := by omega
          have Hxe := hide (show (X.drop k).take n = (bs.drop q1).take n by rw [← HX.out, List.drop_drop, hq1])
          have Hxn := hide (show ((X.drop k).take n).length = n by rw [List.length_take, List.length_drop]; have := HXl.out; omega)
          have Hxd := hide (show X.drop (k + n) = bs.drop q2 by rw [← HX.out, List.drop_drop, ← Nat.add_assoc, hq1, hq2])
          clear hq1 hq2
          by_cases hck : c = q1
          · have hq21 : q2 ≤ q1 := by omega
            go_enter Tryd.func42, Tryd.ntmps42
            go_wp2_with fail
            refine Hnx.out.mono ?_
            rintro y w1 ⟨rfl, hb1⟩
            have Hr1 := hide (Hr.out.below hb1 Hr.out.lt)
            have Hrr1 := hide (Hrr.out.below hb1)
            have Hs1 := hide (Hs.out.move (w' := w1) fun b _ hlt => hb1.block b hlt)
            have Hb1 := hide hb1
            have Ho1 := hide (Only.of_below (· = g) hb1)
            have d0 : w1.cell? ⟨g, 0, none⟩ = some (.slice (some ⟨b, o, none⟩) bs.length c) := Hr1.out.cell 0
            have d1 : w1.cell? ⟨g, 1, none⟩ = some (.int .i64 (at_ : Int)) := Hr1.out.cell 1
            have d2 : w1.cell? ⟨g, 2, none⟩ = some (.int .i64 ((0 : Nat) : Int)) := Hr1.out.cell 2
            have g1 := Hr1.out.free 1
            have g2 := Hr1.out.free 2
            clear hb1
            simp only [numV]
            go_wp2_with fail
            refine (Hleft.out _ Hrr1.out).mono ?_
            rintro y wz ⟨rfl, nz, rfl⟩
            go_wp2_with fail
            have hr2 := (Hr1.out.drewN nz).put 1 (.int .i64 (q2 : Int))
            have ho2 := (Ho1.out.drewN nz).put (g := g) (i := 1) rfl (.int .i64 (q2 : Int))
            have hs2 := (Hs1.out.drewN nz).only ((Only.refl (· = g) (w1.drewN nz)).put (g := g) (i := 1) rfl (.int .i64 (q2 : Int))) (fun b hb he => by have := hb; omega)
            obtain ⟨w2, hw2⟩ : ∃ w2, w2 = (w1.drewN nz).setCell ⟨g, 1, none⟩ (.int .i64 (q2 : Int)) := ⟨_, rfl⟩
            rw [← hw2] at hr2 ho2 hs2 ⊢
            have Hr2 := hide hr2
            have Ho2 := hide ho2
            have Hs2 := hide hs2
            have Hsz := hide (show w1.heap.size ≤ w2.heap.size by rw [hw2]; simp [World.setCell, World.drewN])
            clear hw2 d0 d1 d2 g1 g2 hr2 ho2 hs2
            have d0 : w2.cell? ⟨g, 0, none⟩ = some (.slice (some ⟨b, o, none⟩) bs.length c) := Hr2.out.cell 0
            have d1 : w2.cell? ⟨g, 1, none⟩ = some (.int .i64 (q2 : Int)) := Hr2.out.cell 1
            refine Rg.wp_region_ord (fun w' => w'.cell? ⟨g, 0, none⟩ = some (.slice (some ⟨b, o, none⟩) bs.length c) ∧ w'.cell? ⟨g, 1, none⟩ = some (.int .i64 (q2 : Int))) [(1, true), (2, true), (3, true), (4, true), (5, true), (6, true), (7, true), (8, true), (9, true), (10, true), (0, false), (11, false), (12, true)] (by kernel_rfl) (by kernel_rfl) ?_
            simp only [Rg.pick, List.map_cons, List.map_nil, List.getD_cons_zero, List.getD_cons_succ]
            iterate 10 (refine Rg.ord_quiet (v := ?_) rfl (fun w' hS => ?_) ⟨d0, d1⟩ ?_; rotate_left; (obtain ⟨s0, s1⟩ := hS; go_simp; with_reducible rfl); simp only [Act.put, List.setIfInBounds_toArray, List.set_cons_succ, List.set_cons_zero])
            refine Rg.ord_loud rfl (fun K hK => ?_)
            go_simp
            refine hK _ _ (fun _ => ⟨(Hr2.out.alloc _).cell 0, (Hr2.out.alloc _).cell 1⟩) ?_
            clear hK K
            refine Rg.ord_loud rfl (fun K hK => ?_)
            refine wp_cat' (.tmp 59) (.tmp 69) 28 rfl Tryd.underlying28 info8 w2.heap.size w2 _ [] ((X.drop k).take n) n Hxn.out (fun _ => True) (some ⟨b, o, none⟩) 0 rfl rfl (Own.drew (Own.made w2 w2.heap.size 5 #[] 0 (Nat.le_refl _) rfl (Nat.zero_le _))) ?_ ?_ ?_ ?_ ?_
            · rw [List.eq_nil_of_length_eq_zero (show ((X.drop k).take n).length = 0 by rw [Hxn.out]; omega)]; exact Sl.nil _ _ _ _
            · rw [Hxn.out]; simp; omega
            · exact ((Below.refl _ _).alloc (Nat.le_refl _) _).drew
            · simp
            intro v5 w5 hown5 hb5 _
            have Hown5 := hide hown5
            have Hb5 := hide hb5
            have f0 : w5.cell? ⟨g, 0, none⟩ = some (.slice (some ⟨b, o, none⟩) bs.length c) := (Hr2.out.below hb5 Hr2.out.lt).cell 0
            have f1 : w5.cell? ⟨g, 1, none⟩ = some (.int .i64 (q2 : Int)) := (Hr2.out.below hb5 Hr2.out.lt).cell 1
            clear hown5 hb5 d0 d1
            refine hK _ _ (fun _ => ⟨f0, f1⟩) ?_
            clear hK K
            refine Rg.ord_quiet (v := ?_) rfl (fun w' hS => ?_) ⟨f0, f1⟩ ?_
            rotate_left
            · clear hS
              go_simp
              with_reducible rfl
            simp only [Act.put, List.setIfInBounds_toArray, List.set_cons_succ, List.set_cons_zero]
            refine Rg.ord_nil ?_
            go_wp2
            go_ret
            rw [Hst.out]
            refine ⟨_, q2, 0, rfl, Hown5.out.base (Nat.le_trans Hb1.out.size Hsz.out), ⟨_, c, Hr2.out.below Hb5.out Hr2.out.lt, Hs2.out.move (fun b _ hlt => Hb5.out.block b hlt), hB, hq2l, h2⟩, ?_, Ho2.out.trans (Only.of_below _ Hb5.out)⟩
            rw [Hxd.out]

          · go_enter Tryd.func42, Tryd.ntmps42
            go_wp2_with fail
            refine Hnx.out.mono ?_
            rintro y w1 ⟨rfl, hb1⟩
            have Hr1 := hide (Hr.out.below hb1 Hr.out.lt)
            have Hrr1 := hide (Hrr.out.below hb1)
            have Hs1 := hide (Hs.out.move (w' := w1) fun b _ hlt => hb1.block b hlt)
            have Hb1 := hide hb1
            have Ho1 := hide (Only.of_below (· = g) hb1)
            have d0 : w1.cell? ⟨g, 0, none⟩ = some (.slice (some ⟨b, o, none⟩) bs.length c) := Hr1.out.cell 0
            have d1 : w1.cell? ⟨g, 1, none⟩ = some (.int .i64 (at_ : Int)) := Hr1.out.cell 1
            have d2 : w1.cell? ⟨g, 2, none⟩ = some (.int .i64 ((0 : Nat) : Int)) := Hr1.out.cell 2
            have g1 := Hr1.out.free 1
            have g2 := Hr1.out.free 2
            clear hb1
            simp only [numV]
            go_wp2_with fail
            refine (Hleft.out _ Hrr1.out).mono ?_
            rintro y wz ⟨rfl, nz, rfl⟩
            go_wp2_with fail
            have hr2 := (Hr1.out.drewN nz).put 1 (.int .i64 (q2 : Int))
            have ho2 := (Ho1.out.drewN nz).put (g := g) (i := 1) rfl (.int .i64 (q2 : Int))
            have hs2 := (Hs1.out.drewN nz).only ((Only.refl (· = g) (w1.drewN nz)).put (g := g) (i := 1) rfl (.int .i64 (q2 : Int))) (fun b hb he => by have := hb; omega)
            obtain ⟨w2, hw2⟩ : ∃ w2, w2 = (w1.drewN nz).setCell ⟨g, 1, none⟩ (.int .i64 (q2 : Int)) := ⟨_, rfl⟩
            rw [← hw2] at hr2 ho2 hs2 ⊢
            have Hr2 := hide hr2
            have Ho2 := hide ho2
            have Hs2 := hide hs2
            have Hsz := hide (show w1.heap.size ≤ w2.heap.size by rw [hw2]; simp [World.setCell, World.drewN])
            clear hw2 d0 d1 d2 g1 g2 hr2 ho2 hs2
            have d0 : w2.cell? ⟨g, 0, none⟩ = some (.slice (some ⟨b, o, none⟩) bs.length c) := Hr2.out.cell 0
            have d1 : w2.cell? ⟨g, 1, none⟩ = some (.int .i64 (q2 : Int)) := Hr2.out.cell 1
            refine Rg.wp_region_ord (fun w' => w'.cell? ⟨g, 0, none⟩ = some (.slice (some ⟨b, o, none⟩) bs.length c) ∧ w'.cell? ⟨g, 1, none⟩ = some (.int .i64 (q2 : Int))) [(1, true), (2, true), (3, true), (4, true), (5, true), (6, true), (7, true), (8, true), (9, true), (10, true), (0, false), (11, false), (12, true)] (by kernel_rfl) (by kernel_rfl) ?_
            simp only [Rg.pick, List.map_cons, List.map_nil, List.getD_cons_zero, List.getD_cons_succ]
            iterate 10 (refine Rg.ord_quiet (v := ?_) rfl (fun w' hS => ?_) ⟨d0, d1⟩ ?_; rotate_left; (obtain ⟨s0, s1⟩ := hS; go_simp; with_reducible rfl); simp only [Act.put, List.setIfInBounds_toArray, List.set_cons_succ, List.set_cons_zero])
            refine Rg.ord_loud rfl (fun K hK => ?_)
            go_simp
            refine hK _ _ (fun _ => ⟨(Hr2.out.alloc _).cell 0, (Hr2.out.alloc _).cell 1⟩) ?_
            clear hK K
            refine Rg.ord_loud rfl (fun K hK => ?_)
            refine wp_cat' (.tmp 59) (.tmp 69) 28 rfl Tryd.underlying28 info8 w2.heap.size w2 _ [] ((X.drop k).take n) n Hxn.out (fun _ => True) (some ⟨b, o + q1, none⟩) (c - q1) rfl rfl (Own.drew (Own.made w2 w2.heap.size 5 #[] 0 (Nat.le_refl _) rfl (Nat.zero_le _))) ?_ ?_ ?_ ?_ ?_
            · have hsl := sl_take (Hs2.out.cut (k := q1) (by omega)) (k := n) (by rw [List.length_drop]; omega)
              rw [if_neg hck] at hsl
              simp only [Option.map_some, Addr.add_mid] at hsl
              rw [Hxe.out]
              exact (hsl.move (w' := (w2.alloc (.cells #[] 5)).drew) fun b _ hlt => Below.heap_alloc w2 _ b hlt).imp fun _ _ _ => trivial
            · rw [Hxn.out]; simp; omega
            · exact ((Below.refl _ _).alloc (Nat.le_refl _) _).drew
            · simp
            intro v5 w5 hown5 hb5 _
            have Hown5 := hide hown5
            have Hb5 := hide hb5
            have f0 : w5.cell? ⟨g, 0, none⟩ = some (.slice (some ⟨b, o, none⟩) bs.length c) := (Hr2.out.below hb5 Hr2.out.lt).cell 0
            have f1 : w5.cell? ⟨g, 1, none⟩ = some (.int .i64 (q2 : Int)) := (Hr2.out.below hb5 Hr2.out.lt).cell 1
            clear hown5 hb5 d0 d1
            refine hK _ _ (fun _ => ⟨f0, f1⟩) ?_
            clear hK K
            refine Rg.ord_quiet (v := ?_) rfl (fun w' hS => ?_) ⟨f0, f1⟩ ?_
            rotate_left
            · clear hS
              go_simp
              with_reducible rfl
            simp only [Act.put, List.setIfInBounds_toArray, List.set_cons_succ, List.set_cons_zero]
            refine Rg.ord_nil ?_
            go_wp2
            go_ret
            rw [Hst.out]
            refine ⟨_, q2, 0, rfl, Hown5.out.base (Nat.le_trans Hb1.out.size Hsz.out), ⟨_, c, Hr2.out.below Hb5.out Hr2.out.lt, Hs2.out.move (fun b _ hlt => Hb5.out.block b hlt), hB, hq2l, h2⟩, ?_, Ho2.out.trans (Only.of_below _ Hb5.out)⟩
            rw [Hxd.out]

    · obtain ⟨rfl, rfl, _⟩ := numOf_fail X n k e Hnum.out he
      have hb : ((e : Int) != 0) = true := by rw [bne_iff_ne]; omega
      have hb' : ((e : Int) == 0) = false := beq_eq_false_iff_ne.2 (by omega)
      have Hst := hide (show stepText X 0 most = ([], X, e) by unfold stepText; rw [if_pos rfl, text_bad X most (by rw [Hnum.out]; exact he), Hnum.out]; rfl)
      go_enter Tryd.func42, Tryd.ntmps42
      go_wp2_with fail
      refine Hnx.out.mono ?_
      rintro y w1 ⟨rfl, hb1⟩
      have Hr1 := hide (Hr.out.below hb1 Hr.out.lt)
      have Hrr1 := hide (Hrr.out.below hb1)
      have Hs1 := hide (Hs.out.move (w' := w1) fun b _ hlt => hb1.block b hlt)
      have Hb1 := hide hb1
      have Ho1 := hide (Only.of_below (· = g) hb1)
      have d0 : w1.cell? ⟨g, 0, none⟩ = some (.slice A bs.length c) := Hr1.out.cell 0
      have d1 : w1.cell? ⟨g, 1, none⟩ = some (.int .i64 (at_ : Int)) := Hr1.out.cell 1
      have d2 : w1.cell? ⟨g, 2, none⟩ = some (.int .i64 ((0 : Nat) : Int)) := Hr1.out.cell 2
      have g1 := Hr1.out.free 1
      have g2 := Hr1.out.free 2
      clear hb1
      simp only [numV]
      go_wp2
      go_ret
      refine ⟨_, at_, e, rfl, ?_, ⟨A, c, ?_, Hs1.out.only ((Only.refl (· = g) w1).put (g := g) (i := 2) rfl _) (fun b hb he => by have := hb; omega), hB, h1, h2⟩, ?_, Ho1.out.put (g := g) (i := 2) rfl _⟩
      · rw [Hst.out]; exact Own.nil _ _ _
      · exact Hr1.out.put 2 (.int .i64 (e : Nat))
      · rw [Hst.out, HX.out]
  · have hb : ((e : Int) != 0) = true := by rw [bne_iff_ne]; omega
    have Hst := hide (show stepText (bs.drop at_) e most = ([], bs.drop at_, e) by unfold stepText; rw [if_neg he])
    go_enter Tryd.func42, Tryd.ntmps42
    go_wp2
    go_ret
    rw [Hst.out]
    exact ⟨_, at_, e, rfl, Own.nil _ _ _, Hrr.out, rfl, Only.refl _ _⟩
end Go.Proofs.YtabgkfkjnpcbkaaDoor.Wr
namespace Go.Proofs.YtabgkfkjnpcbkaaDoor.Tr
open Go Go.RowKit Kt Lw Li Lx Df Wr

theorem OwF.only {S : Nat → Prop} {w w' : World} {B : Nat} {v : Value} {L : List Fl} (h : OwF w B v L) (ho : Only S w w') (hv : ∀ g, v.ownBlock = some g → ¬ S g) : OwF w' B v L := by
  refine ⟨h.1, ?_⟩
  rcases h.2 with ⟨h1, h2⟩ | ⟨g, cap, cur, hv', h1, h2, h3⟩
  · exact .inl ⟨h1, h2⟩
  · exact .inr ⟨g, cap, cur, hv', h1, (ho.block g (Array.getElem?_eq_some_iff.1 h2).1 (hv g (by rw [hv']; rfl))).trans h2, h3⟩
theorem own_only {S : Nat → Prop} {w w' : World} {B : Nat} {E : TypeId} {v : Value} {l : Bs} (h : Own w B E v l) (ho : Only S w w') (hv : ∀ g, v.ownBlock = some g → ¬ S g) : Own w' B E v l := by
  refine ⟨h.1, ?_⟩
  rcases h.2 with ⟨h1, h2⟩ | ⟨g, cap, cur, hv', h1, h2, h3⟩
  · exact .inl ⟨h1, h2⟩
  · exact .inr ⟨g, cap, cur, hv', h1, (ho.block g (Array.getElem?_eq_some_iff.1 h2).1 (hv g (by rw [hv']; rfl))).trans h2, h3⟩
theorem rr_fail {w : World} {B g : Nat} {bs : Bs} {at_ e : Nat} (h : RR w B g bs at_ e) : w.cell? ⟨g, 2, none⟩ = some (.int .i64 (e : Int)) := by
  obtain ⟨A, c, hr, _⟩ := h
  exact hr.cell 2
theorem rr_grown {w w' : World} {B g : Nat} {bs : Bs} {at_ e : Nat} {r : Option Nat} (h : RR w B g bs at_ e) (hg : w.grownBy w' r) (hr : ∀ b, r = some b → B ≤ b ∧ b ≠ g) : RR w' B g bs at_ e := by
  obtain ⟨A, c, hrow, hs, hB, h1, h2⟩ := h
  refine ⟨A, c, ?_, hs.move fun b hb hlt => hg.block b hlt fun e => ?_, hB, h1, h2⟩
  · exact (hg.block g hrow.lt fun e => (hr g e.symm).2 rfl).trans hrow
  · have := (hr b e.symm).1
    omega
theorem rr_ne {w : World} {B g : Nat} {bs : Bs} {at_ e : Nat} (h : RR w B g bs at_ e) {B' : Nat} {v : Value} {L : List Fl} (k : OwF w B' v L) : ∀ b, v.ownBlock = some b → b ≠ g := by
  obtain ⟨A, c, hrow, _⟩ := h
  exact OwF.ne hrow (by decide) k
theorem files_no {n : Nat} {b p b1 x b2 : Bs} {e1 e2 : Nat} (h1 : stepText b 0 200 = (p, b1, e1)) (h2 : stepText b1 e1 65536 = (x, b2, e2)) (he : e2 ≠ 0) : files (n + 1) b = ([], [], e2) := by
  unfold stepText at h1 h2
  rw [if_pos rfl] at h1
  cases h1
  rw [files]
  by_cases h0 : (textOf b 200).2.2 = 0
  · rw [if_pos h0] at h2
    cases h2
    rw [if_neg (by simpa using h0), if_pos he]
  · rw [if_neg h0] at h2
    cases h2
    rw [if_pos h0]
theorem files_yes {n : Nat} {b p b1 x b2 : Bs} {e1 e2 : Nat} (h1 : stepText b 0 200 = (p, b1, e1)) (h2 : stepText b1 e1 65536 = (x, b2, e2)) (he : e2 = 0) : files (n + 1) b = (⟨p, x⟩ :: (files n b2).1, (files n b2).2) := by
  unfold stepText at h1 h2
  rw [if_pos rfl] at h1
  cases h1
  rw [files]
  by_cases h0 : (textOf b 200).2.2 = 0
  · rw [if_pos h0] at h2
    cases h2
    rw [if_neg (by simpa using h0), if_neg (by simpa using he)]
  · rw [if_neg h0] at h2
    cases h2
    exact absurd he h0
theorem text_len (bs : Bs) (e : Nat) (most : Int) : (stepText bs e most).1.length ≤ bs.length := by
  unfold stepText
  split
  · unfold textOf
    split
    · simp
    · split
      · simp
      · split
        · simp
        · simp only [List.length_take, List.length_drop]
          omega
  · simp
end Go.Proofs.YtabgkfkjnpcbkaaDoor.Tr
namespace Go.Proofs.YtabgkfkjnpcbkaaDoor.Lw
open Go Go.RowKit Go.WideShapes Go.ChangeShapes Go.ChangeAt Go.ChangeMaps Kt

section
variable {H : Type} {enc : TypeId × Value → H} {P : Program}
theorem reach_eq : reachBytes = 140737488351232 := by decide
set_option maxRecDepth 100000 in
theorem open_textS {t : TypeId} {W : World} {base : Nat} {v : Value} {d : DataW H} {ps : List MemPlace} {ts : List TypeId} {ds : List (DataW H)} (hz : (DataW.weightsEach P ts ds).all (· ≤ reachBytes) = true) (j : Nat) (hj : ts[j]? = some t) (hd : ds[j]? = some d)
    (ht : P.underlying t = some .string) (hval : Value.okWide P W .any base t v) (h : DataW.Trod enc P W 0 (fun _ => true) true t v d ps) : ∃ l : List UInt8, v = .string ⟨l.toArray⟩ ∧ l.length ≤ 140737488351232 := by
  obtain ⟨s, rfl, rfl, _, _⟩ := open_string ht hval h
  refine ⟨s.data.toList, by simp, ?_⟩
  have := sized_string hz hj hd
  rwa [reach_eq] at this
theorem strs_weights (e : TypeId) : ∀ (l : List ByteArray) (s : ByteArray), s ∈ l → s.data.toList.length ∈ DataW.weightsAll P e (strs l : List (DataW H))
  | [], s, h => by cases h
  | a :: l, s, h => by
    rw [strs, List.map_cons, DataW.weightsAll, List.mem_append]
    rcases List.mem_cons.1 h with rfl | h
    · left
      rw [DataW.weights]
      exact List.mem_singleton.2 rfl
    · right
      exact strs_weights e l s h
set_option maxRecDepth 100000 in
theorem open_textsS {t e : TypeId} {W : World} {base : Nat} {v : Value} {d : DataW H} {ps : List MemPlace} {ts : List TypeId} {ds : List (DataW H)} (hz : (DataW.weightsEach P ts ds).all (· ≤ reachBytes) = true) (j : Nat) (hj : ts[j]? = some t) (hd : ds[j]? = some d)
    (ht : P.underlying t = some (.slice e)) (he : P.underlying e = some .string) (hc : P.cellsOf e = 1)
    (hval : Value.okWide P W .any base t v) (h : DataW.Trod enc P W 0 (fun _ => true) true t v d ps) :
    ∃ (l : List (List UInt8)) (A : Option Addr) (c : Nat), v = .slice A l.length c ∧ Vs W (fun _ => True) A c (texts l) ∧ (∀ s ∈ l, s.length ≤ 140737488351232) ∧ l.length ≤ maxLen := by
  obtain ⟨a1, len, cap, rfl⟩ := okWide_slice ht hval
  obtain ⟨fuel, hf⟩ := h
  rcases open_strings ht he hc hf with ⟨hcs, hx⟩ | ⟨a, len', cap', zs, hcs, _, hl, hm, hzs, hx, hcell, hwz⟩
  · simp [Value.cells] at hcs
    obtain ⟨rfl, rfl, rfl⟩ := hcs
    exact ⟨[], none, 0, rfl, ⟨Nat.zero_le _, fun h => by simp [texts] at h⟩, fun z hz => (by cases hz), Nat.zero_le _⟩
  · simp [Value.cells] at hcs
    obtain ⟨rfl, rfl, rfl⟩ := hcs
    simp only [if_true] at hzs
    have hlen : ((zs.take len).map fun s => s.data.toList).length = len := by rw [List.length_map, List.length_take]; omega
    refine ⟨(zs.take len).map fun s => s.data.toList, some a, cap, by rw [hlen], ⟨by rw [texts_len, hlen]; exact hl, fun hn => ?_⟩, fun z hzm => ?_, by rw [hlen]; omega⟩
    · rw [texts_len, hlen] at hn
      obtain ⟨ab, ao, spot⟩ := a
      have hspot : spot = none := by simpa [Addr.add] using World.cell?_spot (hcell 0 (by omega))
      subst hspot
      refine ⟨ab, ao, rfl, trivial, fun k v hk => ?_⟩
      have hkl : k < len := by have := (List.getElem?_eq_some_iff.1 hk).1; rw [texts_len, hlen] at this; exact this
      have hck := hcell k (by omega)
      rw [Addr.add_mid] at hck
      rw [hck, ← hk, texts_at _ _ (by rw [hlen]; exact hkl)]
      simp [List.getD_eq_getElem?_getD, hkl, List.getElem?_eq_getElem (show k < zs.length by omega)]
    · obtain ⟨s, hs, rfl⟩ := List.mem_map.1 hzm
      injection hx with hx1 hx2
      rw [hx1] at hd
      have hw : s.data.toList.length ∈ DataW.weightsEach P ts ds := DataW.weights_mem_each hj hd _ (by
        rw [DataW.weights, ht]
        exact List.mem_cons.2 (.inr (List.mem_append.2 (.inl (strs_weights e _ s hs)))))
      have := List.all_eq_true.1 hz _ hw
      rw [reach_eq] at this
      simpa using this
end
end Go.Proofs.YtabgkfkjnpcbkaaDoor.Lw
