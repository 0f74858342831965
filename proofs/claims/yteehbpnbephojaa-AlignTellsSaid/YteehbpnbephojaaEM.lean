/-
  The reference's Same, of edits that are the same.
-/
import Derived.Test.YteehbpnbephojaaEL
namespace Go.Proofs.Yteehbpnbephojaa.Df
open Go Go.RowKit Kt Lw Li

theorem cell_keep {w w' : World} {p : Addr} {v : Value} (hb : Below w.heap.size w w') (hc : w.cell? p = some v) : w'.cell? p = some v :=
  (World.cell?_of_block (hb.block p.block (World.block_lt_of_cell? w p hc))).trans hc
end Go.Proofs.Yteehbpnbephojaa.Df
