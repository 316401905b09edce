/-
  No cell of these rows narrows 'for every input' (looked for: loops, veiled, ifaces, maps, wideKeys, modest, calm, conditions, laid).
  DERIVED. THE GIVEN ROWS OF THIS SEAT. 4 by the template 'for every input the law returns true; each argument reads behind the call as it read before'; 0 by the template 'total and deterministic' (their statements: YtedombidblhmeaaTotals.lean).
  GIVEN WITH THE SEED: the statements are not yours to turn. If you find one false, say at which input.
  Laid BY PROGRAM, IN A SANDBOX (cutbox-rows.mjs): the forced cells as the released guide's own fill.sh prints them over the translation e23b9a67a43bb922… (all of the seat's roots in one cut). By AI agents, Wed Nov 11 2026. No macro, syntax, notation, axiom, sorry.
-/
import Derived.Test.YtedombidblhmeaaChecked
import GoSem.Claim
import GoSem.ClaimJoined
import GoSem.ClaimMapViews
import Derived.JoinedTies
import Derived.KernelRfl
namespace Go.Proofs.Ytedombidblhmeaa
/- THE CELL 'sum', in the pinned program and in every row, IS THE sha256 OF THE DUMP (.gsa) THAT YtedombidblhmeaaProg.lean LOADS. Nothing in Lean hashes anything: it is a label: what it is worth is what the hold of that sum in a sandbox is worth. -/
noncomputable def Try.pinned : Pinned := { name := "ytedombidblhmeaa", sum := "e23b9a67a43bb9224b00249a05b83f164ca5230c974c13b9a30061d2ef404e1b", checked := Try.checked }
namespace Rows
def none {H : Type} : Left H := { results := [], args := [] }

/-- 'triremelaw24.BackoffPlays': WHATEVER THE INPUT: true; the input reads as it did. -/
def backoffPlaysSpec : ChangeSpec := { name := "backoffPlays", fn := fun _ => fun
  | [d1, d2] => { results := [.lit (.bool true)], args := [d1, d2] }
  | _ => none }
def backoffPlaysRow : OpenClaim := { program := "ytedombidblhmeaa", sum := "e23b9a67a43bb9224b00249a05b83f164ca5230c974c13b9a30061d2ef404e1b", func := "trireme/triremelaw24.BackoffPlays", spec := "backoffPlays", inPlace := ["maps.clone"], unfollowed := true, recurses := true, apart := false }
def BackoffPlaysSaid : Prop := backoffPlaysRow.holds Try.pinned (OpenSpec.ofChange backoffPlaysSpec)

/-- ITS FALSE NEIGHBOUR: 'it returns false'. Refute it at one input. -/
def backoffPlaysWrong : ChangeSpec := { name := "backoffPlays", fn := fun _ => fun
  | [d1, d2] => { results := [.lit (.bool false)], args := [d1, d2] }
  | _ => none }
def BackoffPlaysWrongFalsely : Prop := backoffPlaysRow.holds Try.pinned (OpenSpec.ofChange backoffPlaysWrong)

/-- 'triremelaw24.BackoffDoubles': WHATEVER THE INPUT: true; the input reads as it did. -/
def backoffDoublesSpec : ChangeSpec := { name := "backoffDoubles", fn := fun _ => fun
  | [d1, d2, d3] => { results := [.lit (.bool true)], args := [d1, d2, d3] }
  | _ => none }
def backoffDoublesRow : OpenClaim := { program := "ytedombidblhmeaa", sum := "e23b9a67a43bb9224b00249a05b83f164ca5230c974c13b9a30061d2ef404e1b", func := "trireme/triremelaw24.BackoffDoubles", spec := "backoffDoubles", unfollowed := true, recurses := true, apart := false }
def BackoffDoublesSaid : Prop := backoffDoublesRow.holds Try.pinned (OpenSpec.ofChange backoffDoublesSpec)

/-- ITS FALSE NEIGHBOUR: 'it returns false'. Refute it at one input. -/
def backoffDoublesWrong : ChangeSpec := { name := "backoffDoubles", fn := fun _ => fun
  | [d1, d2, d3] => { results := [.lit (.bool false)], args := [d1, d2, d3] }
  | _ => none }
def BackoffDoublesWrongFalsely : Prop := backoffDoublesRow.holds Try.pinned (OpenSpec.ofChange backoffDoublesWrong)

/-- 'triremelaw24.BackoffApart': WHATEVER THE INPUT: true; the input reads as it did. -/
def backoffApartSpec : ChangeSpec := { name := "backoffApart", fn := fun _ => fun
  | [d] => { results := [.lit (.bool true)], args := [d] }
  | _ => none }
def backoffApartRow : OpenClaim := { program := "ytedombidblhmeaa", sum := "e23b9a67a43bb9224b00249a05b83f164ca5230c974c13b9a30061d2ef404e1b", func := "trireme/triremelaw24.BackoffApart", spec := "backoffApart", unfollowed := true, recurses := true, apart := false }
def BackoffApartSaid : Prop := backoffApartRow.holds Try.pinned (OpenSpec.ofChange backoffApartSpec)

/-- ITS FALSE NEIGHBOUR: 'it returns false'. Refute it at one input. -/
def backoffApartWrong : ChangeSpec := { name := "backoffApart", fn := fun _ => fun
  | [d] => { results := [.lit (.bool false)], args := [d] }
  | _ => none }
def BackoffApartWrongFalsely : Prop := backoffApartRow.holds Try.pinned (OpenSpec.ofChange backoffApartWrong)

/-- 'triremelaw24.BackoffNil': WHATEVER THE INPUT: true; the input reads as it did. -/
def backoffNilSpec : ChangeSpec := { name := "backoffNil", fn := fun _ => fun
  | [d1, d2] => { results := [.lit (.bool true)], args := [d1, d2] }
  | _ => none }
def backoffNilRow : OpenClaim := { program := "ytedombidblhmeaa", sum := "e23b9a67a43bb9224b00249a05b83f164ca5230c974c13b9a30061d2ef404e1b", func := "trireme/triremelaw24.BackoffNil", spec := "backoffNil", inPlace := ["maps.clone"], unfollowed := true, recurses := true, apart := false }
def BackoffNilSaid : Prop := backoffNilRow.holds Try.pinned (OpenSpec.ofChange backoffNilSpec)

/-- ITS FALSE NEIGHBOUR: 'it returns false'. Refute it at one input. -/
def backoffNilWrong : ChangeSpec := { name := "backoffNil", fn := fun _ => fun
  | [d1, d2] => { results := [.lit (.bool false)], args := [d1, d2] }
  | _ => none }
def BackoffNilWrongFalsely : Prop := backoffNilRow.holds Try.pinned (OpenSpec.ofChange backoffNilWrong)

/- THE SECOND FORM. 'bulk': how many values and letters a reading holds, each counted each time it is reached (what is shared counts as often as it is met; a slice's spare places count too). A statement '..UptoSaid' is the law's where the arguments, and the package variables that the reading takes, are together of bulk at most 1048576: NARROWER than '..Said'. Prove '..Said' where nothing that the law and all that it calls make is longer than what came in: it says more and counts as full. Else prove '..UptoSaid'. A law counts once. -/
mutual
def uptoBulk {H : Type} : DataW H → Nat
  | .lit (.string bytes) => bytes.length + 1
  | .lit _ => 1
  | .nil => 1
  | .ptr d => uptoBulk d + 1
  | .slice elems spare => uptoBulkAll elems + uptoBulkAll spare + 1
  | .agg parts => uptoBulkAll parts + 1
  | .iface _ d => uptoBulk d + 1
  | .map entries => uptoBulkEntries entries + 1
  | .held _ => 1
def uptoBulkAll {H : Type} : List (DataW H) → Nat
  | [] => 0
  | d :: r => uptoBulk d + uptoBulkAll r
def uptoBulkEntries {H : Type} : List (Lit × DataW H) → Nat
  | [] => 0
  | x :: r => uptoBulkEntry x + uptoBulkEntries r
def uptoBulkEntry {H : Type} : Lit × DataW H → Nat
  | (.string bytes, d) => bytes.length + uptoBulk d + 1
  | (_, d) => uptoBulk d + 1
 end
def uptoSmall : (H : Type) → List (DataW H) → Bool := fun _ ds => decide (uptoBulkAll ds ≤ 1048576)
def OpenSpec.upto (s : _root_.Go.ChangeSpec) : _root_.Go.OpenSpec := { _root_.Go.OpenSpec.ofChange s with cond := some uptoSmall }

/-- 'triremelaw24.BackoffPlays', WHERE WHAT IT READS IS OF BULK AT MOST 1048576: true; the input reads as it did. -/
def backoffPlaysUptoRow : OpenClaim := { program := "ytedombidblhmeaa", sum := "e23b9a67a43bb9224b00249a05b83f164ca5230c974c13b9a30061d2ef404e1b", func := "trireme/triremelaw24.BackoffPlays", spec := "backoffPlays", inPlace := ["maps.clone"], unfollowed := true, recurses := true, apart := false, narrowed := true }
def BackoffPlaysUptoSaid : Prop := backoffPlaysUptoRow.holds Try.pinned (OpenSpec.upto backoffPlaysSpec)

/-- 'triremelaw24.BackoffDoubles', WHERE WHAT IT READS IS OF BULK AT MOST 1048576: true; the input reads as it did. -/
def backoffDoublesUptoRow : OpenClaim := { program := "ytedombidblhmeaa", sum := "e23b9a67a43bb9224b00249a05b83f164ca5230c974c13b9a30061d2ef404e1b", func := "trireme/triremelaw24.BackoffDoubles", spec := "backoffDoubles", unfollowed := true, recurses := true, apart := false, narrowed := true }
def BackoffDoublesUptoSaid : Prop := backoffDoublesUptoRow.holds Try.pinned (OpenSpec.upto backoffDoublesSpec)

/-- 'triremelaw24.BackoffApart', WHERE WHAT IT READS IS OF BULK AT MOST 1048576: true; the input reads as it did. -/
def backoffApartUptoRow : OpenClaim := { program := "ytedombidblhmeaa", sum := "e23b9a67a43bb9224b00249a05b83f164ca5230c974c13b9a30061d2ef404e1b", func := "trireme/triremelaw24.BackoffApart", spec := "backoffApart", unfollowed := true, recurses := true, apart := false, narrowed := true }
def BackoffApartUptoSaid : Prop := backoffApartUptoRow.holds Try.pinned (OpenSpec.upto backoffApartSpec)

/-- 'triremelaw24.BackoffNil', WHERE WHAT IT READS IS OF BULK AT MOST 1048576: true; the input reads as it did. -/
def backoffNilUptoRow : OpenClaim := { program := "ytedombidblhmeaa", sum := "e23b9a67a43bb9224b00249a05b83f164ca5230c974c13b9a30061d2ef404e1b", func := "trireme/triremelaw24.BackoffNil", spec := "backoffNil", inPlace := ["maps.clone"], unfollowed := true, recurses := true, apart := false, narrowed := true }
def BackoffNilUptoSaid : Prop := backoffNilUptoRow.holds Try.pinned (OpenSpec.upto backoffNilSpec)

end Rows
end Go.Proofs.Ytedombidblhmeaa
