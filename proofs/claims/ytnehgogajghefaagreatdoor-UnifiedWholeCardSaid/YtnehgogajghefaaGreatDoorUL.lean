/-
  unified: lack, whole, sides.
-/
import Derived.Test.YtnehgogajghefaaGreatDoorUK
namespace Go.Proofs.YtnehgogajghefaaGreatDoor.Un
open Go Go.RowKit Kt Lw Li Df Hu

theorem own_ne {w : World} {B g : Nat} {E : TypeId} {k n : Nat} {v : Value} {xs cs : List Value} (h : w.ownsRow B E k v n xs) (hrow : Row w g tR cs) (hE : E ≠ tR) : v.ownBlock ≠ some g := by
  intro e
  rcases h.2 with ⟨rfl, _⟩ | ⟨g', cap, cur, rfl, _, hgg, _⟩
  · cases e
  · simp only [Value.ownBlock, Option.some.injEq] at e
    subst e
    unfold Row at hrow
    rw [hgg] at hrow
    simp only [Option.some.injEq, Obj.cells.injEq] at hrow
    exact hE hrow.2.1
theorem tH_tR : tH ≠ tR := by decide
theorem tS_tR : tS ≠ tR := by decide
/-- the reader's own block turns: its hunks stand -/
theorem Rv.off {w w' : World} {B g : Nat} {v : Value} {L : List Hk} {cs : List Value} (h : Rv w B v L) (hrow : Row w g tR cs) (hg : w.grownBy w' (some g)) : Rv w' B v L := by
  cases L with
  | nil => exact h
  | cons e L =>
    obtain ⟨go, cap, V, vi, h1, h2, h3⟩ := h
    refine ⟨go, cap, V, vi, h1, h2, ⟨⟨World.ownsRow.kept h3.out.row hg (.inr (own_ne h3.out.row hrow tH_tR)), fun p hp => World.ownsRow.kept (h3.out.rows p hp) hg (.inr (own_ne (h3.out.rows p hp) hrow tS_tR))⟩, World.ownsRow.kept h3.own hg (.inr (own_ne h3.own hrow tS_tR)), h3.apart⟩⟩
def isW (s : St) : Bool := decide (s.old = 0 ∧ s.fresh = 0)
set_option maxRecDepth 100000 in
set_option maxHeartbeats 1000000 in
theorem whole_any (g : Nat) (f v : Value) (o n : Int) (w : World) (h : Row w g tR [f, v, .int .i64 o, .int .i64 n]) :
    Calls Tryz.prog 23 #[.pointer (some ⟨g, 0, none⟩)] w fun y w' => y = .returned (.bool (decide (o = 0 ∧ n = 0))) ∧ ∃ k, w' = w.drewN k := by
  have c2 := h.cell 2
  have c3 := h.cell 3
  simp only [List.getElem?_cons_zero, List.getElem?_cons_succ] at c2 c3
  clear h
  by_cases ho : o = 0
  · have e1 : ((o : Int) == 0) = true := by rw [ho]; rfl
    by_cases hn : n = 0
    · have e2 : ((n : Int) == 0) = true := by rw [hn]; rfl
      have hd : decide (o = 0 ∧ n = 0) = true := decide_eq_true ⟨ho, hn⟩
      rw [hd]
      clear ho hn hd
      go_enter Tryz.func23, Tryz.ntmps23
      go_wp2
      go_ret
      exact ⟨rfl, 0, rfl⟩
    · have e2 : ((n : Int) == 0) = false := beq_eq_false_iff_ne.2 hn
      have hd : decide (o = 0 ∧ n = 0) = false := decide_eq_false fun h => hn h.2
      rw [hd]
      clear ho hn hd
      go_enter Tryz.func23, Tryz.ntmps23
      go_wp2
      go_ret
      exact ⟨rfl, 0, rfl⟩
  · have e1 : ((o : Int) == 0) = false := beq_eq_false_iff_ne.2 ho
    have hd : decide (o = 0 ∧ n = 0) = false := decide_eq_false fun h => ho h.1
    rw [hd]
    clear ho hd
    go_enter Tryz.func23, Tryz.ntmps23
    go_wp2
    go_ret
    exact ⟨rfl, 0, rfl⟩
end Go.Proofs.YtnehgogajghefaaGreatDoor.Un
