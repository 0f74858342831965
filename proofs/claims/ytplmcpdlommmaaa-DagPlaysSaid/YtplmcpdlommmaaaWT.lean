/-
  Rows with no variable: what their builders ask; a world for the witness.
-/
import Derived.Test.YtplmcpdlommmaaaRows
import Derived.Test.YtplmcpdlommmaaaLaw
import Derived.Deep.DeepHandedRow
namespace Go.Proofs.Ytplmcpdlommmaaa.Wt
open Go.ChangeShapes Go.WideShapes Go.ChangeAt Go.RowKit Kt

theorem own : ownKnob Try.prog.godebug = none := by kernel_rfl
theorem laidOut : laidOutB Try.prog = true := by kernel_rfl
theorem cells8 : Try.prog.cellsOf 5 = 1 := by kernel_rfl
end Go.Proofs.Ytplmcpdlommmaaa.Wt
