/-
  DERIVED. GIVEN WITH THE SEED: THE CARDS: each row of YtccplljbljpjpaaDoorRows.lean that lists a variable, with what it lists TIED to the program's text (the seventh form; the later family's looks); each row that meets fmt, with fmt's text TOLD by the authors' own Lean function (tested against real Go, not proved from fmt's source: count such statements apart). THE CARD IS WHAT COUNTS. Prove the row's statement (the work); the ties are given (YtccplljbljpjpaaDoorTie.lean); close each card by the builder's one call (the guide's Derived/Test/ToyasCard.lean, 'card_holds'). Laid BY PROGRAM, IN A SANDBOX (cutbox-door.mjs). By AI agents, Wed Nov 11 2026. No macro, syntax, notation, axiom, sorry.
-/
import Derived.Test.YtccplljbljpjpaaDoorRows
import GoSem.ClaimSeven
namespace Go.Proofs.YtccplljbljpjpaaDoor
namespace Rows

/-- THE TIED CARD OF 'triremelaw08.KinOnce'. -/
def kinOnceCard : Claim7 := { stood := { row := kinOnceRow, standIns := [], harness := (true, "e94ba3b05e32604a776a188f465c4608ab4b4036f1b4137630747009e16e9ceb"), looks := false }, kinds := [], alts := [], laidByText := true, laidKinds := [.data, .data, .data, .data, .data], laidTests := true, laidLooks := .later }
def KinOnceCardSaid : Prop := Claim7.holds Tryd.pinned (.plain (OpenSpec.ofChange kinOnceSpec)) kinOnceCard

/-- THE TIED CARD OF 'triremelaw08.KinBack'. -/
def kinBackCard : Claim7 := { stood := { row := kinBackRow, standIns := [], harness := (true, "e94ba3b05e32604a776a188f465c4608ab4b4036f1b4137630747009e16e9ceb"), looks := false }, kinds := [], alts := [], laidByText := true, laidKinds := [.data, .data, .data, .data, .data], laidTests := true, laidLooks := .later }
def KinBackCardSaid : Prop := Claim7.holds Tryd.pinned (.plain (OpenSpec.ofChange kinBackSpec)) kinBackCard

/-- THE SECOND FORM's CARD OF 'triremelaw08.KinOnce'. -/
def kinOnceUptoCard : Claim7 := { stood := { row := kinOnceUptoRow, standIns := [], harness := (true, "e94ba3b05e32604a776a188f465c4608ab4b4036f1b4137630747009e16e9ceb"), looks := false }, kinds := [], alts := [], laidByText := true, laidKinds := [.data, .data, .data, .data, .data], laidTests := true, laidLooks := .later }
def KinOnceUptoCardSaid : Prop := Claim7.holds Tryd.pinned (.plain (OpenSpec.upto kinOnceSpec)) kinOnceUptoCard

/-- THE SECOND FORM's CARD OF 'triremelaw08.KinBack'. -/
def kinBackUptoCard : Claim7 := { stood := { row := kinBackUptoRow, standIns := [], harness := (true, "e94ba3b05e32604a776a188f465c4608ab4b4036f1b4137630747009e16e9ceb"), looks := false }, kinds := [], alts := [], laidByText := true, laidKinds := [.data, .data, .data, .data, .data], laidTests := true, laidLooks := .later }
def KinBackUptoCardSaid : Prop := Claim7.holds Tryd.pinned (.plain (OpenSpec.upto kinBackSpec)) kinBackUptoCard
end Rows
end Go.Proofs.YtccplljbljpjpaaDoor
