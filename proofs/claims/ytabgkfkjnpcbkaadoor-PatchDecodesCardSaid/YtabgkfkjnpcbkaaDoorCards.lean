/-
  DERIVED. GIVEN WITH THE SEED: THE CARDS: each row of YtabgkfkjnpcbkaaDoorRows.lean that lists a variable, with what it lists TIED to the program's text (the seventh form; the later family's looks); each row that meets fmt, with fmt's text TOLD by the authors' own Lean function (tested against real Go, not proved from fmt's source: count such statements apart). THE CARD IS WHAT COUNTS. Prove the row's statement (the work); the ties are given (YtabgkfkjnpcbkaaDoorTie.lean); close each card by the builder's one call (the guide's Derived/Test/ToyasCard.lean, 'card_holds'). Laid BY PROGRAM, IN A SANDBOX (cutbox-door.mjs). By AI agents, Wed Nov 11 2026. No macro, syntax, notation, axiom, sorry.
-/
import Derived.Test.YtabgkfkjnpcbkaaDoorRows
import GoSem.ClaimSeven
namespace Go.Proofs.YtabgkfkjnpcbkaaDoor
namespace Rows

/-- THE TIED CARD OF 'grapevinelaw12.PatchEncodes'. -/
def patchEncodesCard : Claim7 := { stood := { row := patchEncodesRow, standIns := [], harness := (true, "636a4b82f53fd5f3471326f916a5184113fed348859d04414c62fdfd39017711"), looks := false }, kinds := [], alts := [], laidByText := true, laidKinds := [.data, .data, .data, .pinned], laidTests := true, laidLooks := .later }
def PatchEncodesCardSaid : Prop := Claim7.holds Tryd.pinned (.plain (OpenSpec.ofChange patchEncodesSpec)) patchEncodesCard

/-- THE TIED CARD OF 'grapevinelaw12.PatchDecodes'. -/
def patchDecodesCard : Claim7 := { stood := { row := patchDecodesRow, standIns := [], harness := (true, "636a4b82f53fd5f3471326f916a5184113fed348859d04414c62fdfd39017711"), looks := false }, kinds := [], alts := [], laidByText := true, laidKinds := [.data, .data, .data, .pinned], laidTests := true, laidLooks := .later }
def PatchDecodesCardSaid : Prop := Claim7.holds Tryd.pinned (.plain (OpenSpec.ofChange patchDecodesSpec)) patchDecodesCard

/-- THE TIED CARD OF 'grapevinelaw12.PatchPlays'. -/
def patchPlaysCard : Claim7 := { stood := { row := patchPlaysRow, standIns := [], harness := (true, "636a4b82f53fd5f3471326f916a5184113fed348859d04414c62fdfd39017711"), looks := false }, kinds := [], alts := [], laidByText := true, laidKinds := [.data, .data, .data, .pinned], laidTests := true, laidLooks := .later }
def PatchPlaysCardSaid : Prop := Claim7.holds Tryd.pinned (.plain (OpenSpec.ofChange patchPlaysSpec)) patchPlaysCard

/-- THE TIED CARD OF 'grapevinelaw12.PatchBack'. -/
def patchBackCard : Claim7 := { stood := { row := patchBackRow, standIns := [], harness := (true, "636a4b82f53fd5f3471326f916a5184113fed348859d04414c62fdfd39017711"), looks := false }, kinds := [], alts := [], laidByText := true, laidKinds := [.data, .data, .data, .pinned], laidTests := true, laidLooks := .later }
def PatchBackCardSaid : Prop := Claim7.holds Tryd.pinned (.plain (OpenSpec.ofChange patchBackSpec)) patchBackCard

/-- THE TIED CARD OF 'grapevinelaw12.PatchBetween'. -/
def patchBetweenCard : Claim7 := { stood := { row := patchBetweenRow, standIns := [], harness := (true, "636a4b82f53fd5f3471326f916a5184113fed348859d04414c62fdfd39017711"), looks := false }, kinds := [], alts := [], laidByText := true, laidKinds := [.data, .data, .data, .pinned], laidTests := true, laidLooks := .later }
def PatchBetweenCardSaid : Prop := Claim7.holds Tryd.pinned (.plain (OpenSpec.ofChange patchBetweenSpec)) patchBetweenCard

/-- THE TIED CARD OF 'grapevinelaw12.PatchLimits'. -/
def patchLimitsCard : Claim7 := { stood := { row := patchLimitsRow, standIns := [], harness := (true, "636a4b82f53fd5f3471326f916a5184113fed348859d04414c62fdfd39017711"), looks := false }, kinds := [], alts := [], laidByText := true, laidKinds := [.data, .data, .data, .pinned], laidTests := true, laidLooks := .later }
def PatchLimitsCardSaid : Prop := Claim7.holds Tryd.pinned (.plain (OpenSpec.ofChange patchLimitsSpec)) patchLimitsCard

/-- THE TIED CARD OF 'grapevinelaw12.PatchTwice'. -/
def patchTwiceCard : Claim7 := { stood := { row := patchTwiceRow, standIns := [], harness := (true, "636a4b82f53fd5f3471326f916a5184113fed348859d04414c62fdfd39017711"), looks := false }, kinds := [], alts := [], laidByText := true, laidKinds := [.data, .data, .data, .pinned], laidTests := true, laidLooks := .later }
def PatchTwiceCardSaid : Prop := Claim7.holds Tryd.pinned (.plain (OpenSpec.ofChange patchTwiceSpec)) patchTwiceCard

/-- THE SECOND FORM's CARD OF 'grapevinelaw12.PatchEncodes'. -/
def patchEncodesUptoCard : Claim7 := { stood := { row := patchEncodesUptoRow, standIns := [], harness := (true, "636a4b82f53fd5f3471326f916a5184113fed348859d04414c62fdfd39017711"), looks := false }, kinds := [], alts := [], laidByText := true, laidKinds := [.data, .data, .data, .pinned], laidTests := true, laidLooks := .later }
def PatchEncodesUptoCardSaid : Prop := Claim7.holds Tryd.pinned (.plain (OpenSpec.upto patchEncodesSpec)) patchEncodesUptoCard

/-- THE SECOND FORM's CARD OF 'grapevinelaw12.PatchDecodes'. -/
def patchDecodesUptoCard : Claim7 := { stood := { row := patchDecodesUptoRow, standIns := [], harness := (true, "636a4b82f53fd5f3471326f916a5184113fed348859d04414c62fdfd39017711"), looks := false }, kinds := [], alts := [], laidByText := true, laidKinds := [.data, .data, .data, .pinned], laidTests := true, laidLooks := .later }
def PatchDecodesUptoCardSaid : Prop := Claim7.holds Tryd.pinned (.plain (OpenSpec.upto patchDecodesSpec)) patchDecodesUptoCard

/-- THE SECOND FORM's CARD OF 'grapevinelaw12.PatchPlays'. -/
def patchPlaysUptoCard : Claim7 := { stood := { row := patchPlaysUptoRow, standIns := [], harness := (true, "636a4b82f53fd5f3471326f916a5184113fed348859d04414c62fdfd39017711"), looks := false }, kinds := [], alts := [], laidByText := true, laidKinds := [.data, .data, .data, .pinned], laidTests := true, laidLooks := .later }
def PatchPlaysUptoCardSaid : Prop := Claim7.holds Tryd.pinned (.plain (OpenSpec.upto patchPlaysSpec)) patchPlaysUptoCard

/-- THE SECOND FORM's CARD OF 'grapevinelaw12.PatchBack'. -/
def patchBackUptoCard : Claim7 := { stood := { row := patchBackUptoRow, standIns := [], harness := (true, "636a4b82f53fd5f3471326f916a5184113fed348859d04414c62fdfd39017711"), looks := false }, kinds := [], alts := [], laidByText := true, laidKinds := [.data, .data, .data, .pinned], laidTests := true, laidLooks := .later }
def PatchBackUptoCardSaid : Prop := Claim7.holds Tryd.pinned (.plain (OpenSpec.upto patchBackSpec)) patchBackUptoCard

/-- THE SECOND FORM's CARD OF 'grapevinelaw12.PatchBetween'. -/
def patchBetweenUptoCard : Claim7 := { stood := { row := patchBetweenUptoRow, standIns := [], harness := (true, "636a4b82f53fd5f3471326f916a5184113fed348859d04414c62fdfd39017711"), looks := false }, kinds := [], alts := [], laidByText := true, laidKinds := [.data, .data, .data, .pinned], laidTests := true, laidLooks := .later }
def PatchBetweenUptoCardSaid : Prop := Claim7.holds Tryd.pinned (.plain (OpenSpec.upto patchBetweenSpec)) patchBetweenUptoCard

/-- THE SECOND FORM's CARD OF 'grapevinelaw12.PatchLimits'. -/
def patchLimitsUptoCard : Claim7 := { stood := { row := patchLimitsUptoRow, standIns := [], harness := (true, "636a4b82f53fd5f3471326f916a5184113fed348859d04414c62fdfd39017711"), looks := false }, kinds := [], alts := [], laidByText := true, laidKinds := [.data, .data, .data, .pinned], laidTests := true, laidLooks := .later }
def PatchLimitsUptoCardSaid : Prop := Claim7.holds Tryd.pinned (.plain (OpenSpec.upto patchLimitsSpec)) patchLimitsUptoCard

/-- THE SECOND FORM's CARD OF 'grapevinelaw12.PatchTwice'. -/
def patchTwiceUptoCard : Claim7 := { stood := { row := patchTwiceUptoRow, standIns := [], harness := (true, "636a4b82f53fd5f3471326f916a5184113fed348859d04414c62fdfd39017711"), looks := false }, kinds := [], alts := [], laidByText := true, laidKinds := [.data, .data, .data, .pinned], laidTests := true, laidLooks := .later }
def PatchTwiceUptoCardSaid : Prop := Claim7.holds Tryd.pinned (.plain (OpenSpec.upto patchTwiceSpec)) patchTwiceUptoCard
end Rows
end Go.Proofs.YtabgkfkjnpcbkaaDoor
