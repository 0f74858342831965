/-
  What wire.form comes to.
-/
import Derived.Test.YtahcokfoifdlmaaWA
import Derived.Test.YtahcokfoifdlmaaKitB
import Derived.WalkLawsBesides
import Derived.Test.YtahcokfoifdlmaaChecked

namespace Go.Proofs.Ytahcokfoifdlmaa.Wr
open Go Go.RowKit Kt

theorem info8 : (Try.prog.info? 5).map (fun i => (i.zero, i.size, i.bytes)) = some (some (.int .u8 0), 1, 1) := by kernel_rfl
theorem make10 (w : World) : (Instr.makeSlice 30 (.int .i64 0) (.int .i64 10)).run Try.prog w = .ok (.slice (some ⟨w.heap.size, 0, none⟩) 0 10) (w.alloc (.cells (u8s (List.replicate 10 0)).toArray 5)) := by kernel_rfl

end Go.Proofs.Ytahcokfoifdlmaa.Wr
