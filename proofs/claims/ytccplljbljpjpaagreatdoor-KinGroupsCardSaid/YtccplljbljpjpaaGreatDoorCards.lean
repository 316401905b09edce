/-
  DERIVED. GIVEN WITH THE SEED: THE CARDS: each row of YtccplljbljpjpaaGreatDoorRows.lean that lists a variable, with what it lists TIED to the program's text (the seventh form; the later family's looks); each row that meets fmt, with fmt's text TOLD by the authors' own Lean function (tested against real Go, not proved from fmt's source: count such statements apart). THE CARD IS WHAT COUNTS. Prove the row's statement (the work); the ties are given (YtccplljbljpjpaaGreatDoorTie.lean); close each card by the builder's one call (the guide's Derived/Test/ToyasCard.lean, 'card_holds'). Laid BY PROGRAM, IN A SANDBOX (cutbox-door.mjs). By AI agents, Wed Nov 11 2026. No macro, syntax, notation, axiom, sorry.
-/
import Derived.Test.YtccplljbljpjpaaGreatDoorRows
import GoSem.ClaimSeven
namespace Go.Proofs.YtccplljbljpjpaaGreatDoor
namespace Rows

/-- THE TIED CARD OF 'triremelaw08.KinGroups'. -/
def kinGroupsCard : Claim7 := { stood := { row := kinGroupsRow, standIns := [], harness := (true, "51e4782b1aa5ddddadd17d371640b650b9ac361da34d246026a408f539b5305c"), looks := false }, kinds := [], alts := [], laidByText := true, laidKinds := [.data, .data, .data, .data, .data], laidTests := true, laidLooks := .later }
def KinGroupsCardSaid : Prop := Claim7.holds Tryz.pinned (.plain (OpenSpec.ofChange kinGroupsSpec)) kinGroupsCard

/-- THE TIED CARD OF 'triremelaw08.KinTells'. -/
def kinTellsCard : Claim7 := { stood := { row := kinTellsRow, standIns := [], harness := (true, "51e4782b1aa5ddddadd17d371640b650b9ac361da34d246026a408f539b5305c"), looks := false }, kinds := [], alts := [], laidByText := true, laidKinds := [.data, .data, .data, .data, .data], laidTests := true, laidLooks := .later }
def KinTellsCardSaid : Prop := Claim7.holds Tryz.pinned (.plain (OpenSpec.ofChange kinTellsSpec)) kinTellsCard

/-- THE SECOND FORM's CARD OF 'triremelaw08.KinGroups'. -/
def kinGroupsUptoCard : Claim7 := { stood := { row := kinGroupsUptoRow, standIns := [], harness := (true, "51e4782b1aa5ddddadd17d371640b650b9ac361da34d246026a408f539b5305c"), looks := false }, kinds := [], alts := [], laidByText := true, laidKinds := [.data, .data, .data, .data, .data], laidTests := true, laidLooks := .later }
def KinGroupsUptoCardSaid : Prop := Claim7.holds Tryz.pinned (.plain (OpenSpec.upto kinGroupsSpec)) kinGroupsUptoCard

/-- THE SECOND FORM's CARD OF 'triremelaw08.KinTells'. -/
def kinTellsUptoCard : Claim7 := { stood := { row := kinTellsUptoRow, standIns := [], harness := (true, "51e4782b1aa5ddddadd17d371640b650b9ac361da34d246026a408f539b5305c"), looks := false }, kinds := [], alts := [], laidByText := true, laidKinds := [.data, .data, .data, .data, .data], laidTests := true, laidLooks := .later }
def KinTellsUptoCardSaid : Prop := Claim7.holds Tryz.pinned (.plain (OpenSpec.upto kinTellsSpec)) kinTellsUptoCard
end Rows
end Go.Proofs.YtccplljbljpjpaaGreatDoor
