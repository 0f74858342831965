/-
  The reference's Many, Right.
-/
import Derived.Test.YtnehgogajghefaaGreatDoorQ5
import Derived.Test.YtnehgogajghefaaGreatDoorQ2
namespace Go.Proofs.YtnehgogajghefaaGreatDoor.Hu
open Go Go.RowKit Kt Lw Li Df

theorem u8_eq {b c : UInt8} (h : b = c) : ((b.toNat : Int) == (c.toNat : Int)) = true := by rw [h]; exact beq_self_eq_true _
/-- what stands ahead of line k -/
def ahead (L : Ls) (k : Nat) : Bool := decide (0 < k ∧ sg (L.getD (k - 1) []) = 43)
end Go.Proofs.YtnehgogajghefaaGreatDoor.Hu
