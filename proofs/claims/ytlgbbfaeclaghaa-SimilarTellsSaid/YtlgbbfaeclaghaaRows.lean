/-
  No cell of these rows narrows 'for every input' (looked for: loops, veiled, ifaces, maps, wideKeys, modest, calm, conditions, laid).
  DERIVED. THE GIVEN ROWS OF THIS SEAT. 3 by the template 'for every input the law returns true; each argument reads behind the call as it read before'; 0 by the template 'total and deterministic' (their statements: YtlgbbfaeclaghaaTotals.lean).
  GIVEN WITH THE SEED: the statements are not yours to turn. If you find one false, say at which input.
  Laid BY PROGRAM, IN A SANDBOX (cutbox-rows.mjs): the forced cells as the released guide's own fill.sh prints them over the translation 6c113cb3c9303fc0… (all of the seat's roots in one cut). By AI agents, Wed Nov 11 2026. No macro, syntax, notation, axiom, sorry.
-/
import Derived.Test.YtlgbbfaeclaghaaChecked
import GoSem.Claim
import GoSem.ClaimJoined
import GoSem.ClaimMapViews
import Derived.JoinedTies
import Derived.KernelRfl
namespace Go.Proofs.Ytlgbbfaeclaghaa
/- THE CELL 'sum', in the pinned program and in every row, IS THE sha256 OF THE DUMP (.gsa) THAT YtlgbbfaeclaghaaProg.lean LOADS. Nothing in Lean hashes anything: it is a label: what it is worth is what the hold of that sum in a sandbox is worth. -/
noncomputable def Try.pinned : Pinned := { name := "ytlgbbfaeclaghaa", sum := "6c113cb3c9303fc02d0b3dc4546e566c029ce468fcb7f8e0c08b22dd9d6302c3", checked := Try.checked }
namespace Rows
def none {H : Type} : Left H := { results := [], args := [] }

/-- 'triremelaw22.SimilarEven': WHATEVER THE INPUT: true; the input reads as it did. -/
def similarEvenSpec : ChangeSpec := { name := "similarEven", fn := fun _ => fun
  | [d1, d2, d3] => { results := [.lit (.bool true)], args := [d1, d2, d3] }
  | _ => none }
def similarEvenRow : OpenClaim := { program := "ytlgbbfaeclaghaa", sum := "6c113cb3c9303fc02d0b3dc4546e566c029ce468fcb7f8e0c08b22dd9d6302c3", func := "trireme/triremelaw22.SimilarEven", spec := "similarEven", unfollowed := true, recurses := true, apart := false }
def SimilarEvenSaid : Prop := similarEvenRow.holds Try.pinned (OpenSpec.ofChange similarEvenSpec)

/-- ITS FALSE NEIGHBOUR: 'it returns false'. Refute it at one input. -/
def similarEvenWrong : ChangeSpec := { name := "similarEven", fn := fun _ => fun
  | [d1, d2, d3] => { results := [.lit (.bool false)], args := [d1, d2, d3] }
  | _ => none }
def SimilarEvenWrongFalsely : Prop := similarEvenRow.holds Try.pinned (OpenSpec.ofChange similarEvenWrong)

/-- 'triremelaw22.SimilarShares': WHATEVER THE INPUT: true; the input reads as it did. -/
def similarSharesSpec : ChangeSpec := { name := "similarShares", fn := fun _ => fun
  | [d1, d2, d3] => { results := [.lit (.bool true)], args := [d1, d2, d3] }
  | _ => none }
def similarSharesRow : OpenClaim := { program := "ytlgbbfaeclaghaa", sum := "6c113cb3c9303fc02d0b3dc4546e566c029ce468fcb7f8e0c08b22dd9d6302c3", func := "trireme/triremelaw22.SimilarShares", spec := "similarShares", unfollowed := true, recurses := true, apart := false }
def SimilarSharesSaid : Prop := similarSharesRow.holds Try.pinned (OpenSpec.ofChange similarSharesSpec)

/-- ITS FALSE NEIGHBOUR: 'it returns false'. Refute it at one input. -/
def similarSharesWrong : ChangeSpec := { name := "similarShares", fn := fun _ => fun
  | [d1, d2, d3] => { results := [.lit (.bool false)], args := [d1, d2, d3] }
  | _ => none }
def SimilarSharesWrongFalsely : Prop := similarSharesRow.holds Try.pinned (OpenSpec.ofChange similarSharesWrong)

/-- 'triremelaw22.SimilarTells': WHATEVER THE INPUT: true; the input reads as it did. -/
def similarTellsSpec : ChangeSpec := { name := "similarTells", fn := fun _ => fun
  | [d1, d2] => { results := [.lit (.bool true)], args := [d1, d2] }
  | _ => none }
def similarTellsRow : OpenClaim := { program := "ytlgbbfaeclaghaa", sum := "6c113cb3c9303fc02d0b3dc4546e566c029ce468fcb7f8e0c08b22dd9d6302c3", func := "trireme/triremelaw22.SimilarTells", spec := "similarTells", unfollowed := true, recurses := true, apart := false }
def SimilarTellsSaid : Prop := similarTellsRow.holds Try.pinned (OpenSpec.ofChange similarTellsSpec)

/-- ITS FALSE NEIGHBOUR: 'it returns false'. Refute it at one input. -/
def similarTellsWrong : ChangeSpec := { name := "similarTells", fn := fun _ => fun
  | [d1, d2] => { results := [.lit (.bool false)], args := [d1, d2] }
  | _ => none }
def SimilarTellsWrongFalsely : Prop := similarTellsRow.holds Try.pinned (OpenSpec.ofChange similarTellsWrong)

/- THE SECOND FORM. 'bulk': how many values and letters a reading holds, each counted each time it is reached (what is shared counts as often as it is met; a slice's spare places count too). A statement '..UptoSaid' is the law's where the arguments, and the package variables that the reading takes, are together of bulk at most 1048576: NARROWER than '..Said'. Prove '..Said' where nothing that the law and all that it calls make is longer than what came in: it says more and counts as full. Else prove '..UptoSaid'. A law counts once. -/
mutual
def uptoBulk {H : Type} : DataW H → Nat
  | .lit (.string bytes) => bytes.length + 1
  | .lit _ => 1
  | .nil => 1
  | .ptr d => uptoBulk d + 1
  | .slice elems spare => uptoBulkAll elems + uptoBulkAll spare + 1
  | .agg parts => uptoBulkAll parts + 1
  | .iface _ d => uptoBulk d + 1
  | .map entries => uptoBulkEntries entries + 1
  | .held _ => 1
def uptoBulkAll {H : Type} : List (DataW H) → Nat
  | [] => 0
  | d :: r => uptoBulk d + uptoBulkAll r
def uptoBulkEntries {H : Type} : List (Lit × DataW H) → Nat
  | [] => 0
  | x :: r => uptoBulkEntry x + uptoBulkEntries r
def uptoBulkEntry {H : Type} : Lit × DataW H → Nat
  | (.string bytes, d) => bytes.length + uptoBulk d + 1
  | (_, d) => uptoBulk d + 1
 end
def uptoSmall : (H : Type) → List (DataW H) → Bool := fun _ ds => decide (uptoBulkAll ds ≤ 1048576)
def OpenSpec.upto (s : _root_.Go.ChangeSpec) : _root_.Go.OpenSpec := { _root_.Go.OpenSpec.ofChange s with cond := some uptoSmall }

/-- 'triremelaw22.SimilarEven', WHERE WHAT IT READS IS OF BULK AT MOST 1048576: true; the input reads as it did. -/
def similarEvenUptoRow : OpenClaim := { program := "ytlgbbfaeclaghaa", sum := "6c113cb3c9303fc02d0b3dc4546e566c029ce468fcb7f8e0c08b22dd9d6302c3", func := "trireme/triremelaw22.SimilarEven", spec := "similarEven", unfollowed := true, recurses := true, apart := false, narrowed := true }
def SimilarEvenUptoSaid : Prop := similarEvenUptoRow.holds Try.pinned (OpenSpec.upto similarEvenSpec)

/-- 'triremelaw22.SimilarShares', WHERE WHAT IT READS IS OF BULK AT MOST 1048576: true; the input reads as it did. -/
def similarSharesUptoRow : OpenClaim := { program := "ytlgbbfaeclaghaa", sum := "6c113cb3c9303fc02d0b3dc4546e566c029ce468fcb7f8e0c08b22dd9d6302c3", func := "trireme/triremelaw22.SimilarShares", spec := "similarShares", unfollowed := true, recurses := true, apart := false, narrowed := true }
def SimilarSharesUptoSaid : Prop := similarSharesUptoRow.holds Try.pinned (OpenSpec.upto similarSharesSpec)

/-- 'triremelaw22.SimilarTells', WHERE WHAT IT READS IS OF BULK AT MOST 1048576: true; the input reads as it did. -/
def similarTellsUptoRow : OpenClaim := { program := "ytlgbbfaeclaghaa", sum := "6c113cb3c9303fc02d0b3dc4546e566c029ce468fcb7f8e0c08b22dd9d6302c3", func := "trireme/triremelaw22.SimilarTells", spec := "similarTells", unfollowed := true, recurses := true, apart := false, narrowed := true }
def SimilarTellsUptoSaid : Prop := similarTellsUptoRow.holds Try.pinned (OpenSpec.upto similarTellsSpec)

end Rows
end Go.Proofs.Ytlgbbfaeclaghaa
