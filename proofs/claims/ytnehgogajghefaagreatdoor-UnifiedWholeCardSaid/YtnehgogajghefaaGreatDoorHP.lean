/-
  The statements' own example (awake) of the hunks' layer comes out true.
-/
import Derived.Test.YtnehgogajghefaaGreatDoorHO
import Derived.Test.YtnehgogajghefaaGreatDoorENs
namespace Go.Proofs.YtnehgogajghefaaGreatDoor.Hu
open Go Go.RowKit Kt Lw Li Df

abbrev exL : List Ed := [⟨1, 1, [[120]]⟩]
abbrev exH : Hk := ⟨0, 3, 0, 3, [[32, 97], [45, 98], [43, 120], [32, 99]]⟩
theorem ex_make : mkHs abc 1 0 exL = [exH] := by
  rw [mkHs_cons, show (spl 1 ⟨1, 1, [[120]]⟩ []).2 = [] from rfl, mkHs_nil]
  rfl
theorem ex_right : right abc.length (-1) exL = true := by decide
theorem ex_hright : hright exH = true := by decide
theorem ex_hedits : hedits exH = exL := by rfl
theorem ex_hturn : (hturn exH).lines = [[32, 97], [45, 120], [43, 98], [32, 99]] := by rfl

theorem run_field4 (w : World) (x0 x1 x2 x3 : Int) (A : Option Addr) (n c : Nat) : (Instr.field tH (.agg #[.int .i64 x0, .int .i64 x1, .int .i64 x2, .int .i64 x3, .slice A n c]) 4).run Tryz.prog w = .ok (.slice A n c) w := by
  kernel_rfl
end Go.Proofs.YtnehgogajghefaaGreatDoor.Hu
