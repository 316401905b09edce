/-
  DERIVED. GIVEN WITH THE SEED: THE CARDS: each row of YtcfdejlbchdciaaDoorRows.lean that lists a variable, with what it lists TIED to the program's text (the seventh form; the later family's looks); each row that meets fmt, with fmt's text TOLD by the authors' own Lean function (tested against real Go, not proved from fmt's source: count such statements apart). THE CARD IS WHAT COUNTS. Prove the row's statement (the work); the ties are given (YtcfdejlbchdciaaDoorTie.lean); close each card by the builder's one call (the guide's Derived/Test/ToyasCard.lean, 'card_holds'). Laid BY PROGRAM, IN A SANDBOX (cutbox-door.mjs). By AI agents, Wed Nov 11 2026. No macro, syntax, notation, axiom, sorry.
-/
import Derived.Test.YtcfdejlbchdciaaDoorRows
import GoSem.ClaimSeven
namespace Go.Proofs.YtcfdejlbchdciaaDoor
namespace Rows

/-- THE TIED CARD OF 'triremelaw17.CloudBounds'. -/
def cloudBoundsCard : Claim7 := { stood := { row := cloudBoundsRow, standIns := [], harness := (true, "f354cd2e0f8ae39a5d44c11f507c265737bc9b112f26cb673179b4600d9d2e61"), looks := false }, kinds := [], alts := [], laidByText := true, laidKinds := [.data, .data, .data], laidTests := true, laidLooks := .later }
def CloudBoundsCardSaid : Prop := Claim7.holds Tryd.pinned (.plain (OpenSpec.ofChange cloudBoundsSpec)) cloudBoundsCard

/-- THE TIED CARD OF 'triremelaw17.CloudSettles'. -/
def cloudSettlesCard : Claim7 := { stood := { row := cloudSettlesRow, standIns := [], harness := (true, "f354cd2e0f8ae39a5d44c11f507c265737bc9b112f26cb673179b4600d9d2e61"), looks := false }, kinds := [], alts := [], laidByText := true, laidKinds := [.data, .data, .data], laidTests := true, laidLooks := .later }
def CloudSettlesCardSaid : Prop := Claim7.holds Tryd.pinned (.plain (OpenSpec.ofChange cloudSettlesSpec)) cloudSettlesCard

/-- THE TIED CARD OF 'triremelaw17.CloudNil'. -/
def cloudNilCard : Claim7 := { stood := { row := cloudNilRow, standIns := [], harness := (true, "f354cd2e0f8ae39a5d44c11f507c265737bc9b112f26cb673179b4600d9d2e61"), looks := false }, kinds := [], alts := [], laidByText := true, laidKinds := [.data, .data, .data], laidTests := true, laidLooks := .later }
def CloudNilCardSaid : Prop := Claim7.holds Tryd.pinned (.plain (OpenSpec.ofChange cloudNilSpec)) cloudNilCard

/-- THE SECOND FORM's CARD OF 'triremelaw17.CloudBounds'. -/
def cloudBoundsUptoCard : Claim7 := { stood := { row := cloudBoundsUptoRow, standIns := [], harness := (true, "f354cd2e0f8ae39a5d44c11f507c265737bc9b112f26cb673179b4600d9d2e61"), looks := false }, kinds := [], alts := [], laidByText := true, laidKinds := [.data, .data, .data], laidTests := true, laidLooks := .later }
def CloudBoundsUptoCardSaid : Prop := Claim7.holds Tryd.pinned (.plain (OpenSpec.upto cloudBoundsSpec)) cloudBoundsUptoCard

/-- THE SECOND FORM's CARD OF 'triremelaw17.CloudSettles'. -/
def cloudSettlesUptoCard : Claim7 := { stood := { row := cloudSettlesUptoRow, standIns := [], harness := (true, "f354cd2e0f8ae39a5d44c11f507c265737bc9b112f26cb673179b4600d9d2e61"), looks := false }, kinds := [], alts := [], laidByText := true, laidKinds := [.data, .data, .data], laidTests := true, laidLooks := .later }
def CloudSettlesUptoCardSaid : Prop := Claim7.holds Tryd.pinned (.plain (OpenSpec.upto cloudSettlesSpec)) cloudSettlesUptoCard

/-- THE SECOND FORM's CARD OF 'triremelaw17.CloudNil'. -/
def cloudNilUptoCard : Claim7 := { stood := { row := cloudNilUptoRow, standIns := [], harness := (true, "f354cd2e0f8ae39a5d44c11f507c265737bc9b112f26cb673179b4600d9d2e61"), looks := false }, kinds := [], alts := [], laidByText := true, laidKinds := [.data, .data, .data], laidTests := true, laidLooks := .later }
def CloudNilUptoCardSaid : Prop := Claim7.holds Tryd.pinned (.plain (OpenSpec.upto cloudNilSpec)) cloudNilUptoCard
end Rows
end Go.Proofs.YtcfdejlbchdciaaDoor
