/-
  Rows with no variable: what their builders ask; a world for the witness.
-/
import Derived.Test.YtodicgopmcdjpaaRows
import Derived.Test.YtodicgopmcdjpaaLaw
import Derived.Deep.DeepHandedRow
namespace Go.Proofs.Ytodicgopmcdjpaa.Wt
open Go.ChangeShapes Go.WideShapes Go.ChangeAt Go.RowKit Kt

theorem own : ownKnob Try.prog.godebug = none := by kernel_rfl
theorem laidOut : laidOutB Try.prog = true := by kernel_rfl
theorem cells8 : Try.prog.cellsOf 5 = 1 := by kernel_rfl
end Go.Proofs.Ytodicgopmcdjpaa.Wt
