/-
  DERIVED. GIVEN WITH THE SEED: THE CARDS: each row of YtcmjdepjckhpdabDoorRows.lean that lists a variable, with what it lists TIED to the program's text (the seventh form; the later family's looks); each row that meets fmt, with fmt's text TOLD by the authors' own Lean function (tested against real Go, not proved from fmt's source: count such statements apart). THE CARD IS WHAT COUNTS. Prove the row's statement (the work); the ties are given (YtcmjdepjckhpdabDoorTie.lean); close each card by the builder's one call (the guide's Derived/Test/ToyasCard.lean, 'card_holds'). Laid BY PROGRAM, IN A SANDBOX (cutbox-door.mjs). By AI agents, Wed Nov 11 2026. No macro, syntax, notation, axiom, sorry.
-/
import Derived.Test.YtcmjdepjckhpdabDoorRows
import GoSem.ClaimSeven
namespace Go.Proofs.YtcmjdepjckhpdabDoor
namespace Rows

/-- THE TIED CARD OF 'grapevinelaw14.StoreGoesOn'. -/
def storeGoesOnCard : Claim7 := { stood := { row := storeGoesOnRow, standIns := [], harness := (true, "d74158c9005a0001682b966dc94e8f50610ea62f4ee1541abfb093d2b6c190ad"), looks := false }, kinds := [], alts := [], laidByText := true, laidKinds := [.data, .data], laidTests := true, laidLooks := .later }
def StoreGoesOnCardSaid : Prop := Claim7.holds Tryd.pinned (.plain (OpenSpec.ofChange storeGoesOnSpec)) storeGoesOnCard

/-- THE SECOND FORM's CARD OF 'grapevinelaw14.StoreGoesOn'. -/
def storeGoesOnUptoCard : Claim7 := { stood := { row := storeGoesOnUptoRow, standIns := [], harness := (true, "d74158c9005a0001682b966dc94e8f50610ea62f4ee1541abfb093d2b6c190ad"), looks := false }, kinds := [], alts := [], laidByText := true, laidKinds := [.data, .data], laidTests := true, laidLooks := .later }
def StoreGoesOnUptoCardSaid : Prop := Claim7.holds Tryd.pinned (.plain (OpenSpec.upto storeGoesOnSpec)) storeGoesOnUptoCard
end Rows
end Go.Proofs.YtcmjdepjckhpdabDoor
