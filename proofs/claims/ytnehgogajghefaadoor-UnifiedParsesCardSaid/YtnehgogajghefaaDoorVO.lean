/-
  The reference's Digits, side, mark, can, Print; the statement UnifiedPrints, walked.
-/
import Derived.Test.YtnehgogajghefaaDoorQ10
import Derived.Test.YtnehgogajghefaaDoorQ11
import Derived.Test.YtnehgogajghefaaDoorQ8
import Derived.Test.YtnehgogajghefaaDoorUX
import Derived.Test.YtnehgogajghefaaDoorHX
import Derived.Test.YtnehgogajghefaaDoorUV
namespace Go.Proofs.YtnehgogajghefaaDoor.Un
open Go Go.RowKit Kt Lw Li Df Hu

end Go.Proofs.YtnehgogajghefaaDoor.Un
namespace Go.Proofs.YtnehgogajghefaaDoor.Un
open Go Go.RowKit Kt Lw Li Df Hu

theorem mark_any (w : World) : Calls Tryd.prog 16 #[] w fun y w' => y = .returned (.string ⟨markB.toArray⟩) ∧ w' = w := by
  go_enter Tryd.func16, Tryd.ntmps16
  go_wp2
  go_ret
  exact ⟨rfl, rfl⟩
end Go.Proofs.YtnehgogajghefaaDoor.Un
namespace Go.Proofs.YtnehgogajghefaaDoor.Un
open Go Go.RowKit Kt Lw Li Df Hu

end Go.Proofs.YtnehgogajghefaaDoor.Un
namespace Go.Proofs.YtnehgogajghefaaDoor.Un
open Go Go.RowKit Kt Lw Li Df Hu

end Go.Proofs.YtnehgogajghefaaDoor.Un
namespace Go.Proofs.YtnehgogajghefaaDoor.Un
open Go Go.RowKit Kt Lw Li Df Hu

end Go.Proofs.YtnehgogajghefaaDoor.Un
