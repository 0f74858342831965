/-
  Lists that the program's text itself writes down; the chapter's example.
-/
import Derived.Test.YteehbpnbephojaaEM
namespace Go.Proofs.Yteehbpnbephojaa.Df
open Go Go.RowKit Kt Lw Li

theorem lit_vs (w : World) (E : TypeId) (l : Ls) : Vs (w.alloc (.cells (texts l).toArray E)) (fun _ => True) (some ⟨w.heap.size, 0, none⟩) l.length (texts l) :=
  ⟨by simp [texts], fun _ => ⟨w.heap.size, 0, rfl, trivial, fun j v hj => by
    rw [Nat.zero_add, (Row.fresh w _ _).cell]
    exact hj⟩⟩
theorem lit_es (w : World) (e : Ed) (A : Option Addr) (c : Nat) (P : Nat → Prop) (h : Vs w P A c (texts e.ins)) (E : TypeId) : Es (w.alloc (.cells (edC e (.slice A e.ins.length c)).toArray E)) (some ⟨w.heap.size, 0, none⟩) 1 [e] :=
  ⟨by simp, fun _ => ⟨w.heap.size, 0, rfl, by simp, fun j e' hj => by
    have hj0 : j = 0 := by
      have := (List.getElem?_eq_some_iff.1 hj).1
      simpa using this
    subst hj0
    simp at hj
    subst hj
    refine ⟨A, c, fun k v hk => ?_, Lw.Vs.bound (Lw.Vs.below h ((Below.refl _ w).alloc (Nat.le_refl _) _))⟩
    rw [show 0 + 3 * 0 + k = k from by omega, (Row.fresh w _ _).cell]
    exact hk⟩⟩
abbrev abc : Ls := [[97], [98], [99]]
abbrev axc : Ls := [[97], [120], [99]]
theorem D_abc : D abc axc = [⟨1, 1, [[120]]⟩] := by
  have h1 : fr abc axc = 1 := by decide
  have h2 : bk abc axc = 1 := by decide
  have h3 : mid abc 1 1 = [[98]] := by decide
  have h4 : mid axc 1 1 = [[120]] := by decide
  unfold D
  rw [h1, h2, h3, h4, if_pos (by decide), go_both, if_neg (by decide), if_pos (by rw [lcs_nil_right]; exact Nat.zero_le _), go_come, go_nil]
  rfl
end Go.Proofs.Yteehbpnbephojaa.Df
