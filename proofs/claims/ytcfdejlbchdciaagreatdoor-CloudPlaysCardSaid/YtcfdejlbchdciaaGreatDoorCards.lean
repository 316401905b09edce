/-
  DERIVED. GIVEN WITH THE SEED: THE CARDS: each row of YtcfdejlbchdciaaGreatDoorRows.lean that lists a variable, with what it lists TIED to the program's text (the seventh form; the later family's looks); each row that meets fmt, with fmt's text TOLD by the authors' own Lean function (tested against real Go, not proved from fmt's source: count such statements apart). THE CARD IS WHAT COUNTS. Prove the row's statement (the work); the ties are given (YtcfdejlbchdciaaGreatDoorTie.lean); close each card by the builder's one call (the guide's Derived/Test/ToyasCard.lean, 'card_holds'). Laid BY PROGRAM, IN A SANDBOX (cutbox-door.mjs). By AI agents, Wed Nov 11 2026. No macro, syntax, notation, axiom, sorry.
-/
import Derived.Test.YtcfdejlbchdciaaGreatDoorRows
import GoSem.ClaimSeven
namespace Go.Proofs.YtcfdejlbchdciaaGreatDoor
namespace Rows

/-- THE TIED CARD OF 'triremelaw17.CloudPlays'. -/
def cloudPlaysCard : Claim7 := { stood := { row := cloudPlaysRow, standIns := [], harness := (true, "349c2a8ed1ec7b2aecde00c2fda007db3d8607cc29110ba001ec47bf0bc14359"), looks := false }, kinds := [], alts := [], laidByText := true, laidKinds := [.data, .data, .data], laidTests := true, laidLooks := .later }
def CloudPlaysCardSaid : Prop := Claim7.holds Tryz.pinned (.plain (OpenSpec.ofChange cloudPlaysSpec)) cloudPlaysCard

/-- THE SECOND FORM's CARD OF 'triremelaw17.CloudPlays'. -/
def cloudPlaysUptoCard : Claim7 := { stood := { row := cloudPlaysUptoRow, standIns := [], harness := (true, "349c2a8ed1ec7b2aecde00c2fda007db3d8607cc29110ba001ec47bf0bc14359"), looks := false }, kinds := [], alts := [], laidByText := true, laidKinds := [.data, .data, .data], laidTests := true, laidLooks := .later }
def CloudPlaysUptoCardSaid : Prop := Claim7.holds Tryz.pinned (.plain (OpenSpec.upto cloudPlaysSpec)) cloudPlaysUptoCard
end Rows
end Go.Proofs.YtcfdejlbchdciaaGreatDoor
