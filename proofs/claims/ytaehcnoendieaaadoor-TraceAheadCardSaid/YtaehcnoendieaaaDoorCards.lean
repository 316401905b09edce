/-
  DERIVED. GIVEN WITH THE SEED: THE CARDS: each row of YtaehcnoendieaaaDoorRows.lean that lists a variable, with what it lists TIED to the program's text (the seventh form; the later family's looks); each row that meets fmt, with fmt's text TOLD by the authors' own Lean function (tested against real Go, not proved from fmt's source: count such statements apart). THE CARD IS WHAT COUNTS. Prove the row's statement (the work); the ties are given (YtaehcnoendieaaaDoorTie.lean); close each card by the builder's one call (the guide's Derived/Test/ToyasCard.lean, 'card_holds'). Laid BY PROGRAM, IN A SANDBOX (cutbox-door.mjs). By AI agents, Wed Nov 11 2026. No macro, syntax, notation, axiom, sorry.
-/
import Derived.Test.YtaehcnoendieaaaDoorRows
import GoSem.ClaimSeven
namespace Go.Proofs.YtaehcnoendieaaaDoor
namespace Rows

/-- THE TIED CARD OF 'triremelaw32.TraceParses'. -/
def traceParsesCard : Claim7 := { stood := { row := traceParsesRow, standIns := [], harness := (true, "967f6739d6ed25e883f9f52cdc5f95cb51a01c853e0c1cb3a92ca484a7c2ea65"), looks := false }, kinds := [], alts := [], laidByText := true, laidKinds := [.data, .data, .data, .data, .pinned], laidTests := true, laidLooks := .later }
def TraceParsesCardSaid : Prop := Claim7.holds Tryd.pinned (.plain (OpenSpec.ofChange traceParsesSpec)) traceParsesCard

/-- THE TIED CARD OF 'triremelaw32.TraceTells'. -/
def traceTellsCard : Claim7 := { stood := { row := traceTellsRow, standIns := [], harness := (true, "967f6739d6ed25e883f9f52cdc5f95cb51a01c853e0c1cb3a92ca484a7c2ea65"), looks := false }, kinds := [], alts := [], laidByText := true, laidKinds := [.data, .data, .data, .data, .pinned], laidTests := true, laidLooks := .later }
def TraceTellsCardSaid : Prop := Claim7.holds Tryd.pinned (.plain (OpenSpec.ofChange traceTellsSpec)) traceTellsCard

/-- THE TIED CARD OF 'triremelaw32.TraceBack'. -/
def traceBackCard : Claim7 := { stood := { row := traceBackRow, standIns := [], harness := (true, "967f6739d6ed25e883f9f52cdc5f95cb51a01c853e0c1cb3a92ca484a7c2ea65"), looks := false }, kinds := [], alts := [], laidByText := true, laidKinds := [.data, .data, .data, .data, .pinned], laidTests := true, laidLooks := .later }
def TraceBackCardSaid : Prop := Claim7.holds Tryd.pinned (.plain (OpenSpec.ofChange traceBackSpec)) traceBackCard

/-- THE TIED CARD OF 'triremelaw32.TraceAhead'. -/
def traceAheadCard : Claim7 := { stood := { row := traceAheadRow, standIns := [], harness := (true, "967f6739d6ed25e883f9f52cdc5f95cb51a01c853e0c1cb3a92ca484a7c2ea65"), looks := false }, kinds := [], alts := [], laidByText := true, laidKinds := [.data, .data, .data, .data, .pinned], laidTests := true, laidLooks := .later }
def TraceAheadCardSaid : Prop := Claim7.holds Tryd.pinned (.plain (OpenSpec.ofChange traceAheadSpec)) traceAheadCard

/-- THE SECOND FORM's CARD OF 'triremelaw32.TraceParses'. -/
def traceParsesUptoCard : Claim7 := { stood := { row := traceParsesUptoRow, standIns := [], harness := (true, "967f6739d6ed25e883f9f52cdc5f95cb51a01c853e0c1cb3a92ca484a7c2ea65"), looks := false }, kinds := [], alts := [], laidByText := true, laidKinds := [.data, .data, .data, .data, .pinned], laidTests := true, laidLooks := .later }
def TraceParsesUptoCardSaid : Prop := Claim7.holds Tryd.pinned (.plain (OpenSpec.upto traceParsesSpec)) traceParsesUptoCard

/-- THE SECOND FORM's CARD OF 'triremelaw32.TraceTells'. -/
def traceTellsUptoCard : Claim7 := { stood := { row := traceTellsUptoRow, standIns := [], harness := (true, "967f6739d6ed25e883f9f52cdc5f95cb51a01c853e0c1cb3a92ca484a7c2ea65"), looks := false }, kinds := [], alts := [], laidByText := true, laidKinds := [.data, .data, .data, .data, .pinned], laidTests := true, laidLooks := .later }
def TraceTellsUptoCardSaid : Prop := Claim7.holds Tryd.pinned (.plain (OpenSpec.upto traceTellsSpec)) traceTellsUptoCard

/-- THE SECOND FORM's CARD OF 'triremelaw32.TraceBack'. -/
def traceBackUptoCard : Claim7 := { stood := { row := traceBackUptoRow, standIns := [], harness := (true, "967f6739d6ed25e883f9f52cdc5f95cb51a01c853e0c1cb3a92ca484a7c2ea65"), looks := false }, kinds := [], alts := [], laidByText := true, laidKinds := [.data, .data, .data, .data, .pinned], laidTests := true, laidLooks := .later }
def TraceBackUptoCardSaid : Prop := Claim7.holds Tryd.pinned (.plain (OpenSpec.upto traceBackSpec)) traceBackUptoCard

/-- THE SECOND FORM's CARD OF 'triremelaw32.TraceAhead'. -/
def traceAheadUptoCard : Claim7 := { stood := { row := traceAheadUptoRow, standIns := [], harness := (true, "967f6739d6ed25e883f9f52cdc5f95cb51a01c853e0c1cb3a92ca484a7c2ea65"), looks := false }, kinds := [], alts := [], laidByText := true, laidKinds := [.data, .data, .data, .data, .pinned], laidTests := true, laidLooks := .later }
def TraceAheadUptoCardSaid : Prop := Claim7.holds Tryd.pinned (.plain (OpenSpec.upto traceAheadSpec)) traceAheadUptoCard
end Rows
end Go.Proofs.YtaehcnoendieaaaDoor
