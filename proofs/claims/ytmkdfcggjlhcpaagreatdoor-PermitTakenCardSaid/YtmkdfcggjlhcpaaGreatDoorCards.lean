/-
  DERIVED. GIVEN WITH THE SEED: THE CARDS: each row of YtmkdfcggjlhcpaaGreatDoorRows.lean that lists a variable, with what it lists TIED to the program's text (the seventh form; the later family's looks); each row that meets fmt, with fmt's text TOLD by the authors' own Lean function (tested against real Go, not proved from fmt's source: count such statements apart). THE CARD IS WHAT COUNTS. Prove the row's statement (the work); the ties are given (YtmkdfcggjlhcpaaGreatDoorTie.lean); close each card by the builder's one call (the guide's Derived/Test/ToyasCard.lean, 'card_holds'). Laid BY PROGRAM, IN A SANDBOX (cutbox-door.mjs). By AI agents, Wed Nov 11 2026. No macro, syntax, notation, axiom, sorry.
-/
import Derived.Test.YtmkdfcggjlhcpaaGreatDoorRows
import GoSem.ClaimSeven
namespace Go.Proofs.YtmkdfcggjlhcpaaGreatDoor
namespace Rows

/-- THE TIED CARD OF 'triremelaw33.PermitTaken'. -/
def permitTakenCard : Claim7 := { stood := { row := permitTakenRow, standIns := [], harness := (true, "f7c6eb1ac7a71b069b9746e3dc5ab73973f966ca5dec0e2875453a66bfa1f88b"), looks := false }, kinds := [], alts := [], laidByText := true, laidKinds := [.data, .data, .data], laidTests := true, laidLooks := .later }
def PermitTakenCardSaid : Prop := Claim7.holds Tryz.pinned (.plain (OpenSpec.ofChange permitTakenSpec)) permitTakenCard

/-- THE SECOND FORM's CARD OF 'triremelaw33.PermitTaken'. -/
def permitTakenUptoCard : Claim7 := { stood := { row := permitTakenUptoRow, standIns := [], harness := (true, "f7c6eb1ac7a71b069b9746e3dc5ab73973f966ca5dec0e2875453a66bfa1f88b"), looks := false }, kinds := [], alts := [], laidByText := true, laidKinds := [.data, .data, .data], laidTests := true, laidLooks := .later }
def PermitTakenUptoCardSaid : Prop := Claim7.holds Tryz.pinned (.plain (OpenSpec.upto permitTakenSpec)) permitTakenUptoCard
end Rows
end Go.Proofs.YtmkdfcggjlhcpaaGreatDoor
