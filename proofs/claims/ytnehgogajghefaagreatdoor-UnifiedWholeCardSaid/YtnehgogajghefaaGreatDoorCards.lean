/-
  DERIVED. GIVEN WITH THE SEED: THE CARDS: each row of YtnehgogajghefaaGreatDoorRows.lean that lists a variable, with what it lists TIED to the program's text (the seventh form; the later family's looks); each row that meets fmt, with fmt's text TOLD by the authors' own Lean function (tested against real Go, not proved from fmt's source: count such statements apart). THE CARD IS WHAT COUNTS. Prove the row's statement (the work); the ties are given (YtnehgogajghefaaGreatDoorTie.lean); close each card by the builder's one call (the guide's Derived/Test/ToyasCard.lean, 'card_holds'). Laid BY PROGRAM, IN A SANDBOX (cutbox-door.mjs). By AI agents, Wed Nov 11 2026. No macro, syntax, notation, axiom, sorry.
-/
import Derived.Test.YtnehgogajghefaaGreatDoorRows
import GoSem.ClaimSeven
namespace Go.Proofs.YtnehgogajghefaaGreatDoor
namespace Rows

/-- THE TIED CARD OF 'grapevinelaw06.UnifiedWhole'. -/
def unifiedWholeCard : Claim7 := { stood := { row := unifiedWholeRow, standIns := [], harness := (true, "a61a346a615d3e488fbe418e523105b95551aec19318db2f91c407c906a3ba4c"), looks := true }, kinds := [], alts := [], laidByText := true, laidKinds := [.data, .data, .data, .sentinel, .sentinel], laidTests := true, laidLooks := .later }
def UnifiedWholeCardSaid : Prop := Claim7.holds Tryz.pinned (.plain (OpenSpec.ofChange unifiedWholeSpec)) unifiedWholeCard

/-- THE SECOND FORM's CARD OF 'grapevinelaw06.UnifiedWhole'. -/
def unifiedWholeUptoCard : Claim7 := { stood := { row := unifiedWholeUptoRow, standIns := [], harness := (true, "a61a346a615d3e488fbe418e523105b95551aec19318db2f91c407c906a3ba4c"), looks := true }, kinds := [], alts := [], laidByText := true, laidKinds := [.data, .data, .data, .sentinel, .sentinel], laidTests := true, laidLooks := .later }
def UnifiedWholeUptoCardSaid : Prop := Claim7.holds Tryz.pinned (.plain (OpenSpec.upto unifiedWholeSpec)) unifiedWholeUptoCard
end Rows
end Go.Proofs.YtnehgogajghefaaGreatDoor
