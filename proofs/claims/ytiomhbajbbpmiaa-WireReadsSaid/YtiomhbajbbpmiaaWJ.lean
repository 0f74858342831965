/-
  What a reader's Text comes to.
-/
import Derived.Test.YtiomhbajbbpmiaaWI
namespace Go.Proofs.Ytiomhbajbbpmiaa.Wr
open Go Go.RowKit Kt

set_option maxHeartbeats 1000000 in
set_option maxRecDepth 100000 in
theorem read_text {w : World} {B g : Nat} {bs : List UInt8} {e : Nat} (most : Int) (h : Rd w B g bs e) (hm : most ≤ 9223372036854775807) :
    Calls Try.prog 19 #[.pointer (some ⟨g, 0, none⟩), .int .i64 most] w fun y w' => ∃ v, y = .returned v ∧ Own w' w.heap.size 5 v (stepText bs e most).1 ∧ Rd w' B g (stepText bs e most).2.1 (stepText bs e most).2.2 ∧ Only (· = g) w w' := by
  have Hrd := hide h
  have Hm := hide hm
  clear hm
  obtain ⟨A, c, hr, hs, hB, hl⟩ := h
  have c1a : ∀ o o' o'', (((w.alloc o).alloc o').alloc o'').cell? ⟨g, 1, none⟩ = some (.int .i64 (e : Int)) := fun o o' o'' => (((hr.alloc o).alloc o').alloc o'').cell 1
  have Hr := hide hr
  have Hs := hide hs
  clear hr hs
  obtain ⟨w1, hw1⟩ : ∃ w1, w1 = w.alloc (.cells #[.pointer (some ⟨g, 0, none⟩)] 30) := ⟨_, rfl⟩
  obtain ⟨w2, hw2⟩ : ∃ w2, w2 = w1.alloc (.cells #[.int .i64 most] 3) := ⟨_, rfl⟩
  obtain ⟨w3, hw3⟩ : ∃ w3, w3 = w2.alloc (.cells #[.slice none 0 0] 22) := ⟨_, rfl⟩
  have e1 : w1.heap.size = w.heap.size + 1 := by rw [hw1]; simp
  have e2 : w2.heap.size = w.heap.size + 2 := by rw [hw2]; simp [e1]
  have hb1 : Below w.heap.size w w3 := by rw [hw3, hw2, hw1]; exact (((Below.refl _ _).alloc (Nat.le_refl _) _).alloc (by simp) _).alloc (by simp; omega) _
  have hr1 : Row w3 w.heap.size 30 [.pointer (some ⟨g, 0, none⟩)] := by rw [hw3, hw2, hw1]; exact ((Row.fresh w _ _).alloc _).alloc _
  have hm1 : Row w3 (w.heap.size + 1) 3 [.int .i64 most] := by rw [hw3, hw2]; exact (Row.new w1 _ e1.symm rfl).alloc _
  have hn1 : Row w3 (w.heap.size + 2) 22 [.slice none 0 0] := by rw [hw3]; exact Row.new w2 _ e2.symm rfl
  have hg1 := Hr.out.below hb1 Hr.out.lt
  have hs1 := Hs.out.bound.move (w' := w3) fun b hb _ => hb1.block b hb.2
  have Hlt := hide Hr.out.lt
  have Hb1 := hide hb1
  by_cases he : e = 0
  · subst he
    obtain ⟨x, k, e, htx⟩ : ∃ x k e, textOf bs most = (x, k, e) := ⟨_, _, _, rfl⟩
    have Hk := hide (show k ≤ bs.length by have := text_le bs most; rw [htx] at this; exact this)
    have Hst := hide (show stepText bs 0 most = (x, bs.drop k, e) by unfold stepText; rw [if_pos rfl, htx])
    have Hun := hide (unless_text (w := w3) (g := g) (R := fun _ w4 => (∃ v, Own w4 w3.heap.size 5 v x ∧ Row w4 (w.heap.size + 2) 22 [v]) ∧ Row w4 g 53 [cutV A bs.length c k, .int .i64 (e : Int)] ∧ Only (fun b => b = g ∨ b = w.heap.size + 2) w3 w4) (hg1.cell 1)
      ((text_clo bs x most (.slice none 0 0) A c g w.heap.size (w.heap.size + 1) (w.heap.size + 2) k e _ w3 hr1 hm1 hn1 rfl hg1 hs1 (fun b hb => by omega) (by omega) (by omega) (by have := Hlt.out; omega) (by have := Hlt.out; omega) (by have := Hlt.out; omega) hl Hm.out htx).mono fun y w1 hq => ⟨_, hq.1, hq.2⟩))
    clear hr1 hm1 hn1 hg1 hs1 htx e1 e2
    subst hw1 hw2 hw3
    go_enter Try.func19, Try.ntmps19
    go_wp2_with fail
    refine Hun.out.mono ?_
    rintro y w4 ⟨_, rfl, ⟨v, hv, hn2⟩, hg2, ho2⟩
    have Ho := hide (ho2.over (T := (· = g)) hb1 fun b hb h => by omega)
    have Hg2 := hide hg2
    have Hv := hide hv
    have cn : w4.cell? ⟨w.heap.size + 2, 0, none⟩ = some v := hn2.cell 0
    clear hb1 hn2 hg2 ho2 hv
    go_wp2
    go_ret
    rw [Hst.out]
    exact ⟨_, rfl, Hv.out.base Hb1.out.size, Rd.cut Hg2.out (Hs.out.only Ho.out fun b hb => hb.2) hB hl Hk.out, Ho.out⟩
  · have Hst := hide (show stepText bs e most = ([], bs, e) by unfold stepText; rw [if_neg he])
    have hb : ((e : Int) != 0) = true := by rw [bne_iff_ne]; omega
    clear hr1 hm1 hn1 hg1 hs1 e1 e2 hb1
    subst hw1 hw2 hw3
    go_enter Try.func19, Try.ntmps19
    go_wp2
    go_ret
    rw [Hst.out]
    exact ⟨_, rfl, Own.nil _ _ _, Hrd.out.below Hb1.out, Only.of_below _ Hb1.out⟩
end Go.Proofs.Ytiomhbajbbpmiaa.Wr
