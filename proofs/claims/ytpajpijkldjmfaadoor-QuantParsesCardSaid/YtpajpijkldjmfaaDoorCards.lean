/-
  DERIVED. GIVEN WITH THE SEED: THE CARDS: each row of YtpajpijkldjmfaaDoorRows.lean that lists a variable, with what it lists TIED to the program's text (the seventh form; the later family's looks); each row that meets fmt, with fmt's text TOLD by the authors' own Lean function (tested against real Go, not proved from fmt's source: count such statements apart). THE CARD IS WHAT COUNTS. Prove the row's statement (the work); the ties are given (YtpajpijkldjmfaaDoorTie.lean); close each card by the builder's one call (the guide's Derived/Test/ToyasCard.lean, 'card_holds'). Laid BY PROGRAM, IN A SANDBOX (cutbox-door.mjs). By AI agents, Wed Nov 11 2026. No macro, syntax, notation, axiom, sorry.
-/
import Derived.Test.YtpajpijkldjmfaaDoorRows
import GoSem.ClaimSeven
namespace Go.Proofs.YtpajpijkldjmfaaDoor
namespace Rows

/-- THE TIED CARD OF 'triremelaw03.QuantParses'. -/
def quantParsesCard : Claim7 := { stood := { row := quantParsesRow, standIns := [], harness := (true, "d73708aa058d235656674f38b1c91d3987a954e5bc81ae99e313e8e9fbe90af9"), looks := true }, kinds := [], alts := [], laidByText := true, laidKinds := [.data, .data, .data], laidTests := true, laidLooks := .later }
def QuantParsesCardSaid : Prop := Claim7.holds Tryd.pinned (.plain (OpenSpec.ofChange quantParsesSpec)) quantParsesCard

/-- THE TIED CARD OF 'triremelaw03.QuantShows'. -/
def quantShowsCard : Claim7 := { stood := { row := quantShowsRow, standIns := [], harness := (true, "d73708aa058d235656674f38b1c91d3987a954e5bc81ae99e313e8e9fbe90af9"), looks := true }, kinds := [], alts := [], laidByText := true, laidKinds := [.data, .data, .data], laidTests := true, laidLooks := .later }
def QuantShowsCardSaid : Prop := Claim7.holds Tryd.pinned (.plain (OpenSpec.ofChange quantShowsSpec)) quantShowsCard

/-- THE TIED CARD OF 'triremelaw03.QuantBack'. -/
def quantBackCard : Claim7 := { stood := { row := quantBackRow, standIns := [], harness := (true, "d73708aa058d235656674f38b1c91d3987a954e5bc81ae99e313e8e9fbe90af9"), looks := true }, kinds := [], alts := [], laidByText := true, laidKinds := [.data, .data, .data], laidTests := true, laidLooks := .later }
def QuantBackCardSaid : Prop := Claim7.holds Tryd.pinned (.plain (OpenSpec.ofChange quantBackSpec)) quantBackCard

/-- THE TIED CARD OF 'triremelaw03.QuantUnits'. -/
def quantUnitsCard : Claim7 := { stood := { row := quantUnitsRow, standIns := [], harness := (true, "d73708aa058d235656674f38b1c91d3987a954e5bc81ae99e313e8e9fbe90af9"), looks := true }, kinds := [], alts := [], laidByText := true, laidKinds := [.data, .data, .data], laidTests := true, laidLooks := .later }
def QuantUnitsCardSaid : Prop := Claim7.holds Tryd.pinned (.plain (OpenSpec.ofChange quantUnitsSpec)) quantUnitsCard

/-- THE TIED CARD OF 'triremelaw03.QuantZeros'. -/
def quantZerosCard : Claim7 := { stood := { row := quantZerosRow, standIns := [], harness := (true, "d73708aa058d235656674f38b1c91d3987a954e5bc81ae99e313e8e9fbe90af9"), looks := true }, kinds := [], alts := [], laidByText := true, laidKinds := [.data, .data, .data], laidTests := true, laidLooks := .later }
def QuantZerosCardSaid : Prop := Claim7.holds Tryd.pinned (.plain (OpenSpec.ofChange quantZerosSpec)) quantZerosCard

/-- THE SECOND FORM's CARD OF 'triremelaw03.QuantParses'. -/
def quantParsesUptoCard : Claim7 := { stood := { row := quantParsesUptoRow, standIns := [], harness := (true, "d73708aa058d235656674f38b1c91d3987a954e5bc81ae99e313e8e9fbe90af9"), looks := true }, kinds := [], alts := [], laidByText := true, laidKinds := [.data, .data, .data], laidTests := true, laidLooks := .later }
def QuantParsesUptoCardSaid : Prop := Claim7.holds Tryd.pinned (.plain (OpenSpec.upto quantParsesSpec)) quantParsesUptoCard

/-- THE SECOND FORM's CARD OF 'triremelaw03.QuantShows'. -/
def quantShowsUptoCard : Claim7 := { stood := { row := quantShowsUptoRow, standIns := [], harness := (true, "d73708aa058d235656674f38b1c91d3987a954e5bc81ae99e313e8e9fbe90af9"), looks := true }, kinds := [], alts := [], laidByText := true, laidKinds := [.data, .data, .data], laidTests := true, laidLooks := .later }
def QuantShowsUptoCardSaid : Prop := Claim7.holds Tryd.pinned (.plain (OpenSpec.upto quantShowsSpec)) quantShowsUptoCard

/-- THE SECOND FORM's CARD OF 'triremelaw03.QuantBack'. -/
def quantBackUptoCard : Claim7 := { stood := { row := quantBackUptoRow, standIns := [], harness := (true, "d73708aa058d235656674f38b1c91d3987a954e5bc81ae99e313e8e9fbe90af9"), looks := true }, kinds := [], alts := [], laidByText := true, laidKinds := [.data, .data, .data], laidTests := true, laidLooks := .later }
def QuantBackUptoCardSaid : Prop := Claim7.holds Tryd.pinned (.plain (OpenSpec.upto quantBackSpec)) quantBackUptoCard

/-- THE SECOND FORM's CARD OF 'triremelaw03.QuantUnits'. -/
def quantUnitsUptoCard : Claim7 := { stood := { row := quantUnitsUptoRow, standIns := [], harness := (true, "d73708aa058d235656674f38b1c91d3987a954e5bc81ae99e313e8e9fbe90af9"), looks := true }, kinds := [], alts := [], laidByText := true, laidKinds := [.data, .data, .data], laidTests := true, laidLooks := .later }
def QuantUnitsUptoCardSaid : Prop := Claim7.holds Tryd.pinned (.plain (OpenSpec.upto quantUnitsSpec)) quantUnitsUptoCard

/-- THE SECOND FORM's CARD OF 'triremelaw03.QuantZeros'. -/
def quantZerosUptoCard : Claim7 := { stood := { row := quantZerosUptoRow, standIns := [], harness := (true, "d73708aa058d235656674f38b1c91d3987a954e5bc81ae99e313e8e9fbe90af9"), looks := true }, kinds := [], alts := [], laidByText := true, laidKinds := [.data, .data, .data], laidTests := true, laidLooks := .later }
def QuantZerosUptoCardSaid : Prop := Claim7.holds Tryd.pinned (.plain (OpenSpec.upto quantZerosSpec)) quantZerosUptoCard
end Rows
end Go.Proofs.YtpajpijkldjmfaaDoor
