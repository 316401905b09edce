/-
  DERIVED. GIVEN WITH THE SEED: THE CARDS: each row of YtbomcghjifgfoaaDoorRows.lean that lists a variable, with what it lists TIED to the program's text (the seventh form; the later family's looks); each row that meets fmt, with fmt's text TOLD by the authors' own Lean function (tested against real Go, not proved from fmt's source: count such statements apart). THE CARD IS WHAT COUNTS. Prove the row's statement (the work); the ties are given (YtbomcghjifgfoaaDoorTie.lean); close each card by the builder's one call (the guide's Derived/Test/ToyasCard.lean, 'card_holds'). Laid BY PROGRAM, IN A SANDBOX (cutbox-door.mjs). By AI agents, Wed Nov 11 2026. No macro, syntax, notation, axiom, sorry.
-/
import Derived.Test.YtbomcghjifgfoaaDoorRows
import GoSem.ClaimSeven
namespace Go.Proofs.YtbomcghjifgfoaaDoor
namespace Rows

/-- THE TIED CARD OF 'triremelaw29.HealthTells'. -/
def healthTellsCard : Claim7 := { stood := { row := healthTellsRow, standIns := [], harness := (true, "2955b2129994c8dfe6f715d5cf9389b7b698794fa1847c3f9d6c37bb13f9da39"), looks := false }, kinds := [], alts := [], laidByText := true, laidKinds := [.data, .data, .data], laidTests := true, laidLooks := .later }
def HealthTellsCardSaid : Prop := Claim7.holds Tryd.pinned (.plain (OpenSpec.ofChange healthTellsSpec)) healthTellsCard

/-- THE TIED CARD OF 'triremelaw29.HealthGuests'. -/
def healthGuestsCard : Claim7 := { stood := { row := healthGuestsRow, standIns := [], harness := (true, "2955b2129994c8dfe6f715d5cf9389b7b698794fa1847c3f9d6c37bb13f9da39"), looks := false }, kinds := [], alts := [], laidByText := true, laidKinds := [.data, .data, .data], laidTests := true, laidLooks := .later }
def HealthGuestsCardSaid : Prop := Claim7.holds Tryd.pinned (.plain (OpenSpec.ofChange healthGuestsSpec)) healthGuestsCard

/-- THE TIED CARD OF 'triremelaw29.HealthParts'. -/
def healthPartsCard : Claim7 := { stood := { row := healthPartsRow, standIns := [], harness := (true, "2955b2129994c8dfe6f715d5cf9389b7b698794fa1847c3f9d6c37bb13f9da39"), looks := false }, kinds := [], alts := [], laidByText := true, laidKinds := [.data, .data, .data], laidTests := true, laidLooks := .later }
def HealthPartsCardSaid : Prop := Claim7.holds Tryd.pinned (.plain (OpenSpec.ofChange healthPartsSpec)) healthPartsCard

/-- THE SECOND FORM's CARD OF 'triremelaw29.HealthTells'. -/
def healthTellsUptoCard : Claim7 := { stood := { row := healthTellsUptoRow, standIns := [], harness := (true, "2955b2129994c8dfe6f715d5cf9389b7b698794fa1847c3f9d6c37bb13f9da39"), looks := false }, kinds := [], alts := [], laidByText := true, laidKinds := [.data, .data, .data], laidTests := true, laidLooks := .later }
def HealthTellsUptoCardSaid : Prop := Claim7.holds Tryd.pinned (.plain (OpenSpec.upto healthTellsSpec)) healthTellsUptoCard

/-- THE SECOND FORM's CARD OF 'triremelaw29.HealthGuests'. -/
def healthGuestsUptoCard : Claim7 := { stood := { row := healthGuestsUptoRow, standIns := [], harness := (true, "2955b2129994c8dfe6f715d5cf9389b7b698794fa1847c3f9d6c37bb13f9da39"), looks := false }, kinds := [], alts := [], laidByText := true, laidKinds := [.data, .data, .data], laidTests := true, laidLooks := .later }
def HealthGuestsUptoCardSaid : Prop := Claim7.holds Tryd.pinned (.plain (OpenSpec.upto healthGuestsSpec)) healthGuestsUptoCard

/-- THE SECOND FORM's CARD OF 'triremelaw29.HealthParts'. -/
def healthPartsUptoCard : Claim7 := { stood := { row := healthPartsUptoRow, standIns := [], harness := (true, "2955b2129994c8dfe6f715d5cf9389b7b698794fa1847c3f9d6c37bb13f9da39"), looks := false }, kinds := [], alts := [], laidByText := true, laidKinds := [.data, .data, .data], laidTests := true, laidLooks := .later }
def HealthPartsUptoCardSaid : Prop := Claim7.holds Tryd.pinned (.plain (OpenSpec.upto healthPartsSpec)) healthPartsUptoCard
end Rows
end Go.Proofs.YtbomcghjifgfoaaDoor
