/-
  DERIVED. GIVEN WITH THE SEED: THE CARDS: each row of YtoppmagelkfhoaaDoorRows.lean that lists a variable, with what it lists TIED to the program's text (the seventh form; the later family's looks); each row that meets fmt, with fmt's text TOLD by the authors' own Lean function (tested against real Go, not proved from fmt's source: count such statements apart). THE CARD IS WHAT COUNTS. Prove the row's statement (the work); the ties are given (YtoppmagelkfhoaaDoorTie.lean); close each card by the builder's one call (the guide's Derived/Test/ToyasCard.lean, 'card_holds'). Laid BY PROGRAM, IN A SANDBOX (cutbox-door.mjs). By AI agents, Wed Nov 11 2026. No macro, syntax, notation, axiom, sorry.
-/
import Derived.Test.YtoppmagelkfhoaaDoorRows
import GoSem.ClaimSeven
namespace Go.Proofs.YtoppmagelkfhoaaDoor
namespace Rows

/-- THE TIED CARD OF 'grapevinelaw01.DigestTells'. -/
def digestTellsCard : Claim7 := { stood := { row := digestTellsRow, standIns := [], harness := (true, "4dcff59f98a2b5673620f2e6a6078c705dd4a45e2349b4aa1f5a97093b3e2fbb"), looks := false }, kinds := [], alts := [], laidByText := true, laidKinds := [.data, .data], laidTests := true, laidLooks := .later }
def DigestTellsCardSaid : Prop := Claim7.holds Tryd.pinned (.plain (OpenSpec.ofChange digestTellsSpec)) digestTellsCard

/-- THE SECOND FORM's CARD OF 'grapevinelaw01.DigestTells'. -/
def digestTellsUptoCard : Claim7 := { stood := { row := digestTellsUptoRow, standIns := [], harness := (true, "4dcff59f98a2b5673620f2e6a6078c705dd4a45e2349b4aa1f5a97093b3e2fbb"), looks := false }, kinds := [], alts := [], laidByText := true, laidKinds := [.data, .data], laidTests := true, laidLooks := .later }
def DigestTellsUptoCardSaid : Prop := Claim7.holds Tryd.pinned (.plain (OpenSpec.upto digestTellsSpec)) digestTellsUptoCard
end Rows
end Go.Proofs.YtoppmagelkfhoaaDoor
