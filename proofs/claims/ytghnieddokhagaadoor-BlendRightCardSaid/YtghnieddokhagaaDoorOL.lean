/-
  What the world's shape gives a row of this seat.
-/
import Derived.Test.YtghnieddokhagaaDoorOJ
import Derived.Test.YtghnieddokhagaaDoorLaw
import Derived.Test.YtghnieddokhagaaDoorRows
import Derived.LaidSub
import Derived.Shelf.Vars
namespace Go.Proofs.YtghnieddokhagaaDoor.Tr
open Go Go.RowKit Go.WideShapes Go.ChangeShapes Go.ChangeAt Go.ChangeMaps Go.Deep Kt Lw Li Df
theorem own : ownKnob Tryd.prog.godebug = none := by kernel_rfl
theorem laidOut : laidOutB Tryd.prog = true := by kernel_rfl
theorem cells8 : Tryd.prog.cellsOf 5 = 1 := by kernel_rfl
theorem most_of {W : World} (h : W.ShapedOpen Tryd.prog) : Most W :=
  cell_of_shapedOpen_int (zero := #[.int .i64 0]) (t := 3) h (of_decide_eq_true (by kernel_rfl)) (by kernel_rfl) rfl (by kernel_rfl) (by kernel_rfl) Tryd.underlying3
end Go.Proofs.YtghnieddokhagaaDoor.Tr
