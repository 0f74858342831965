/-
  DERIVED. GIVEN WITH THE SEED: THE CARDS: each row of YtahcokfoifdlmaaGreatDoorRows.lean that lists a variable, with what it lists TIED to the program's text (the seventh form; the later family's looks); each row that meets fmt, with fmt's text TOLD by the authors' own Lean function (tested against real Go, not proved from fmt's source: count such statements apart). THE CARD IS WHAT COUNTS. Prove the row's statement (the work); the ties are given (YtahcokfoifdlmaaGreatDoorTie.lean); close each card by the builder's one call (the guide's Derived/Test/ToyasCard.lean, 'card_holds'). Laid BY PROGRAM, IN A SANDBOX (cutbox-door.mjs). By AI agents, Wed Nov 11 2026. No macro, syntax, notation, axiom, sorry.
-/
import Derived.Test.YtahcokfoifdlmaaGreatDoorRows
import GoSem.ClaimSeven
namespace Go.Proofs.YtahcokfoifdlmaaGreatDoor
namespace Rows

/-- THE TIED CARD OF 'grapevinelaw12.PatchBlends'. -/
def patchBlendsCard : Claim7 := { stood := { row := patchBlendsRow, standIns := [], harness := (true, "e2d8066ab802bae36e61cffcec8906fdcf3606fb6a3248ee021fd7b329b3e166"), looks := false }, kinds := [], alts := [], laidByText := true, laidKinds := [.data, .data, .data, .pinned], laidTests := true, laidLooks := .later }
def PatchBlendsCardSaid : Prop := Claim7.holds Tryz.pinned (.plain (OpenSpec.ofChange patchBlendsSpec)) patchBlendsCard

/-- THE SECOND FORM's CARD OF 'grapevinelaw12.PatchBlends'. -/
def patchBlendsUptoCard : Claim7 := { stood := { row := patchBlendsUptoRow, standIns := [], harness := (true, "e2d8066ab802bae36e61cffcec8906fdcf3606fb6a3248ee021fd7b329b3e166"), looks := false }, kinds := [], alts := [], laidByText := true, laidKinds := [.data, .data, .data, .pinned], laidTests := true, laidLooks := .later }
def PatchBlendsUptoCardSaid : Prop := Claim7.holds Tryz.pinned (.plain (OpenSpec.upto patchBlendsSpec)) patchBlendsUptoCard
end Rows
end Go.Proofs.YtahcokfoifdlmaaGreatDoor
