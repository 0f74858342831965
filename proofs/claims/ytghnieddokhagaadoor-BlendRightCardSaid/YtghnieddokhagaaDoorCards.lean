/-
  DERIVED. GIVEN WITH THE SEED: THE CARDS: each row of YtghnieddokhagaaDoorRows.lean that lists a variable, with what it lists TIED to the program's text (the seventh form; the later family's looks); each row that meets fmt, with fmt's text TOLD by the authors' own Lean function (tested against real Go, not proved from fmt's source: count such statements apart). THE CARD IS WHAT COUNTS. Prove the row's statement (the work); the ties are given (YtghnieddokhagaaDoorTie.lean); close each card by the builder's one call (the guide's Derived/Test/ToyasCard.lean, 'card_holds'). Laid BY PROGRAM, IN A SANDBOX (cutbox-door.mjs). By AI agents, Wed Nov 11 2026. No macro, syntax, notation, axiom, sorry.
-/
import Derived.Test.YtghnieddokhagaaDoorRows
import GoSem.ClaimSeven
namespace Go.Proofs.YtghnieddokhagaaDoor
namespace Rows

/-- THE TIED CARD OF 'grapevinelaw11.BlendRight'. -/
def blendRightCard : Claim7 := { stood := { row := blendRightRow, standIns := [], harness := (true, "988ea0fc473e3e3f0ce9e9a8202131eaaa66adef5af8cb957fbd30e8f48522d7"), looks := false }, kinds := [], alts := [], laidByText := true, laidKinds := [.data, .pinned], laidTests := true, laidLooks := .later }
def BlendRightCardSaid : Prop := Claim7.holds Tryd.pinned (.plain (OpenSpec.ofChange blendRightSpec)) blendRightCard

/-- THE SECOND FORM's CARD OF 'grapevinelaw11.BlendRight'. -/
def blendRightUptoCard : Claim7 := { stood := { row := blendRightUptoRow, standIns := [], harness := (true, "988ea0fc473e3e3f0ce9e9a8202131eaaa66adef5af8cb957fbd30e8f48522d7"), looks := false }, kinds := [], alts := [], laidByText := true, laidKinds := [.data, .pinned], laidTests := true, laidLooks := .later }
def BlendRightUptoCardSaid : Prop := Claim7.holds Tryd.pinned (.plain (OpenSpec.upto blendRightSpec)) blendRightUptoCard
end Rows
end Go.Proofs.YtghnieddokhagaaDoor
