/-
  DERIVED. GIVEN WITH THE SEED: THE CARDS: each row of YtnehgogajghefaaDoorRows.lean that lists a variable, with what it lists TIED to the program's text (the seventh form; the later family's looks); each row that meets fmt, with fmt's text TOLD by the authors' own Lean function (tested against real Go, not proved from fmt's source: count such statements apart). THE CARD IS WHAT COUNTS. Prove the row's statement (the work); the ties are given (YtnehgogajghefaaDoorTie.lean); close each card by the builder's one call (the guide's Derived/Test/ToyasCard.lean, 'card_holds'). Laid BY PROGRAM, IN A SANDBOX (cutbox-door.mjs). By AI agents, Wed Nov 11 2026. No macro, syntax, notation, axiom, sorry.
-/
import Derived.Test.YtnehgogajghefaaDoorRows
import GoSem.ClaimSeven
namespace Go.Proofs.YtnehgogajghefaaDoor
namespace Rows

/-- THE TIED CARD OF 'grapevinelaw06.UnifiedParses'. -/
def unifiedParsesCard : Claim7 := { stood := { row := unifiedParsesRow, standIns := [], harness := (true, "e0af2181be09db5b473668e87ab791741a8dab8ae87ca074c3ce6a1d617ba461"), looks := true }, kinds := [], alts := [], laidByText := true, laidKinds := [.data, .data, .data, .sentinel, .sentinel], laidTests := true, laidLooks := .later }
def UnifiedParsesCardSaid : Prop := Claim7.holds Tryd.pinned (.plain (OpenSpec.ofChange unifiedParsesSpec)) unifiedParsesCard

/-- THE SECOND FORM's CARD OF 'grapevinelaw06.UnifiedParses'. -/
def unifiedParsesUptoCard : Claim7 := { stood := { row := unifiedParsesUptoRow, standIns := [], harness := (true, "e0af2181be09db5b473668e87ab791741a8dab8ae87ca074c3ce6a1d617ba461"), looks := true }, kinds := [], alts := [], laidByText := true, laidKinds := [.data, .data, .data, .sentinel, .sentinel], laidTests := true, laidLooks := .later }
def UnifiedParsesUptoCardSaid : Prop := Claim7.holds Tryd.pinned (.plain (OpenSpec.upto unifiedParsesSpec)) unifiedParsesUptoCard
end Rows
end Go.Proofs.YtnehgogajghefaaDoor
