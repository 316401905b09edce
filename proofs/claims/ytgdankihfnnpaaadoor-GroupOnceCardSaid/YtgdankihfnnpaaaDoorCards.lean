/-
  DERIVED. GIVEN WITH THE SEED: THE CARDS: each row of YtgdankihfnnpaaaDoorRows.lean that lists a variable, with what it lists TIED to the program's text (the seventh form; the later family's looks); each row that meets fmt, with fmt's text TOLD by the authors' own Lean function (tested against real Go, not proved from fmt's source: count such statements apart). THE CARD IS WHAT COUNTS. Prove the row's statement (the work); the ties are given (YtgdankihfnnpaaaDoorTie.lean); close each card by the builder's one call (the guide's Derived/Test/ToyasCard.lean, 'card_holds'). Laid BY PROGRAM, IN A SANDBOX (cutbox-door.mjs). By AI agents, Wed Nov 11 2026. No macro, syntax, notation, axiom, sorry.
-/
import Derived.Test.YtgdankihfnnpaaaDoorRows
import GoSem.ClaimSeven
namespace Go.Proofs.YtgdankihfnnpaaaDoor
namespace Rows

/-- THE TIED CARD OF 'triremelaw16.GroupTells'. -/
def groupTellsCard : Claim7 := { stood := { row := groupTellsRow, standIns := [], harness := (true, "eb52ce30a7cd04ba66286f92754591956626c4bbfdbdb9c114345c17c76078d5"), looks := false }, kinds := [], alts := [], laidByText := true, laidKinds := [.data, .data, .data], laidTests := true, laidLooks := .later }
def GroupTellsCardSaid : Prop := Claim7.holds Tryd.pinned (.plain (OpenSpec.ofChange groupTellsSpec)) groupTellsCard

/-- THE TIED CARD OF 'triremelaw16.GroupMachines'. -/
def groupMachinesCard : Claim7 := { stood := { row := groupMachinesRow, standIns := [], harness := (true, "eb52ce30a7cd04ba66286f92754591956626c4bbfdbdb9c114345c17c76078d5"), looks := false }, kinds := [], alts := [], laidByText := true, laidKinds := [.data, .data, .data], laidTests := true, laidLooks := .later }
def GroupMachinesCardSaid : Prop := Claim7.holds Tryd.pinned (.plain (OpenSpec.ofChange groupMachinesSpec)) groupMachinesCard

/-- THE TIED CARD OF 'triremelaw16.GroupOnce'. -/
def groupOnceCard : Claim7 := { stood := { row := groupOnceRow, standIns := [], harness := (true, "eb52ce30a7cd04ba66286f92754591956626c4bbfdbdb9c114345c17c76078d5"), looks := false }, kinds := [], alts := [], laidByText := true, laidKinds := [.data, .data, .data], laidTests := true, laidLooks := .later }
def GroupOnceCardSaid : Prop := Claim7.holds Tryd.pinned (.plain (OpenSpec.ofChange groupOnceSpec)) groupOnceCard

/-- THE TIED CARD OF 'triremelaw16.GroupFind'. -/
def groupFindCard : Claim7 := { stood := { row := groupFindRow, standIns := [], harness := (true, "eb52ce30a7cd04ba66286f92754591956626c4bbfdbdb9c114345c17c76078d5"), looks := false }, kinds := [], alts := [], laidByText := true, laidKinds := [.data, .data, .data], laidTests := true, laidLooks := .later }
def GroupFindCardSaid : Prop := Claim7.holds Tryd.pinned (.plain (OpenSpec.ofChange groupFindSpec)) groupFindCard

/-- THE SECOND FORM's CARD OF 'triremelaw16.GroupTells'. -/
def groupTellsUptoCard : Claim7 := { stood := { row := groupTellsUptoRow, standIns := [], harness := (true, "eb52ce30a7cd04ba66286f92754591956626c4bbfdbdb9c114345c17c76078d5"), looks := false }, kinds := [], alts := [], laidByText := true, laidKinds := [.data, .data, .data], laidTests := true, laidLooks := .later }
def GroupTellsUptoCardSaid : Prop := Claim7.holds Tryd.pinned (.plain (OpenSpec.upto groupTellsSpec)) groupTellsUptoCard

/-- THE SECOND FORM's CARD OF 'triremelaw16.GroupMachines'. -/
def groupMachinesUptoCard : Claim7 := { stood := { row := groupMachinesUptoRow, standIns := [], harness := (true, "eb52ce30a7cd04ba66286f92754591956626c4bbfdbdb9c114345c17c76078d5"), looks := false }, kinds := [], alts := [], laidByText := true, laidKinds := [.data, .data, .data], laidTests := true, laidLooks := .later }
def GroupMachinesUptoCardSaid : Prop := Claim7.holds Tryd.pinned (.plain (OpenSpec.upto groupMachinesSpec)) groupMachinesUptoCard

/-- THE SECOND FORM's CARD OF 'triremelaw16.GroupOnce'. -/
def groupOnceUptoCard : Claim7 := { stood := { row := groupOnceUptoRow, standIns := [], harness := (true, "eb52ce30a7cd04ba66286f92754591956626c4bbfdbdb9c114345c17c76078d5"), looks := false }, kinds := [], alts := [], laidByText := true, laidKinds := [.data, .data, .data], laidTests := true, laidLooks := .later }
def GroupOnceUptoCardSaid : Prop := Claim7.holds Tryd.pinned (.plain (OpenSpec.upto groupOnceSpec)) groupOnceUptoCard

/-- THE SECOND FORM's CARD OF 'triremelaw16.GroupFind'. -/
def groupFindUptoCard : Claim7 := { stood := { row := groupFindUptoRow, standIns := [], harness := (true, "eb52ce30a7cd04ba66286f92754591956626c4bbfdbdb9c114345c17c76078d5"), looks := false }, kinds := [], alts := [], laidByText := true, laidKinds := [.data, .data, .data], laidTests := true, laidLooks := .later }
def GroupFindUptoCardSaid : Prop := Claim7.holds Tryd.pinned (.plain (OpenSpec.upto groupFindSpec)) groupFindUptoCard
end Rows
end Go.Proofs.YtgdankihfnnpaaaDoor
