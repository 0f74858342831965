/-
  The reference's reader: Num.
-/
import Derived.Test.YtiomhbajbbpmiaaRrB

namespace Go.Proofs.Ytiomhbajbbpmiaa.Wr
open Go Go.RowKit Kt

set_option maxHeartbeats 1000000 in
set_option maxRecDepth 100000 in
theorem rread_num {w : World} {B g : Nat} {bs : List UInt8} {at_ e : Nat} (h : RR w B g bs at_ e) :
    Calls Try.prog 18 #[.pointer (some ⟨g, 0, none⟩)] w fun y w' => ∃ n at' e', y = .returned (.int .u64 (n : Nat)) ∧ RR w' B g bs at' e' ∧ stepNum (bs.drop at_) e = (n, bs.drop at', e') ∧ Only (· = g) w w' := by
  have Hrr := hide h
  obtain ⟨A, c, hr, hs, hB, h1, h2⟩ := h
  have c2 : w.cell? ⟨g, 2, none⟩ = some (.int .i64 (e : Int)) := hr.cell 2
  have Hr := hide hr
  have Hs := hide hs
  clear hr hs
  by_cases he : e = 0
  · subst he
    obtain ⟨n, k, e, hnum⟩ : ∃ n k e, numOf (bs.drop at_) = (n, k, e) := ⟨_, _, _, rfl⟩
    have hst : stepNum (bs.drop at_) 0 = (n, bs.drop (at_ + k), e) := by unfold stepNum; rw [if_pos rfl, hnum, List.drop_drop]
    have hkl : k ≤ bs.length - at_ := by have := numOf_le (bs.drop at_); rw [hnum, List.length_drop] at this; exact this
    have Hst := hide hst
    have Hnx := hide (rnext_any Hrr.out)
    rw [hnum] at Hnx
    by_cases he : e = 0
    · subst he
      go_enter Try.func18, Try.ntmps18
      go_wp2_with fail
      refine Hnx.out.mono ?_
      rintro y w1 ⟨rfl, hb1⟩
      have Hr1 := hide (Hr.out.below hb1 Hr.out.lt)
      have Hs1 := hide (Hs.out.move (w' := w1) fun b _ hlt => hb1.block b hlt)
      have Ho1 := hide (Only.of_below (· = g) hb1)
      have d1 : w1.cell? ⟨g, 1, none⟩ = some (.int .i64 (at_ : Int)) := Hr1.out.cell 1
      have g1 := Hr1.out.free 1
      have hwk : IntKind.i64.wrap ((at_ : Int) + (k : Int)) = ((at_ + k : Nat) : Int) := by rw [IntKind.wrap_i64]; omega
      clear hb1
      simp only [numV]
      go_wp2
      go_ret
      refine ⟨n, at_ + k, 0, rfl, ⟨A, c, ?_, Hs1.out.only ((Only.refl (· = g) w1).put (g := g) (i := 1) rfl _) (fun b hb he => by have := hb; omega), hB, by omega, h2⟩, Hst.out, Ho1.out.put (g := g) (i := 1) rfl _⟩
      exact Hr1.out.put 1 (.int .i64 ((at_ + k : Nat) : Int))
    · obtain ⟨rfl, rfl, _⟩ := numOf_fail _ n k e hnum he
      have hb : ((e : Int) != 0) = true := by rw [bne_iff_ne]; omega
      go_enter Try.func18, Try.ntmps18
      go_wp2_with fail
      refine Hnx.out.mono ?_
      rintro y w1 ⟨rfl, hb1⟩
      have Hr1 := hide (Hr.out.below hb1 Hr.out.lt)
      have Hs1 := hide (Hs.out.move (w' := w1) fun b _ hlt => hb1.block b hlt)
      have Ho1 := hide (Only.of_below (· = g) hb1)
      have d2 : w1.cell? ⟨g, 2, none⟩ = some (.int .i64 ((0 : Nat) : Int)) := Hr1.out.cell 2
      have g2 := Hr1.out.free 2
      clear hb1
      simp only [numV]
      go_wp2
      go_ret
      refine ⟨0, at_, e, rfl, ⟨A, c, ?_, Hs1.out.only ((Only.refl (· = g) w1).put (g := g) (i := 2) rfl _) (fun b hb he => by have := hb; omega), hB, h1, h2⟩, Hst.out, Ho1.out.put (g := g) (i := 2) rfl _⟩
      exact Hr1.out.put 2 (.int .i64 (e : Int))
  · have hb : ((e : Int) != 0) = true := by rw [bne_iff_ne]; omega
    have Hst := hide (show stepNum (bs.drop at_) e = (0, bs.drop at_, e) by unfold stepNum; rw [if_neg he])
    go_enter Try.func18, Try.ntmps18
    go_wp2
    go_ret
    exact ⟨0, at_, e, rfl, Hrr.out, Hst.out, Only.refl _ _⟩
end Go.Proofs.Ytiomhbajbbpmiaa.Wr
