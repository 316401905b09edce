/-
  No cell of these rows narrows 'for every input' (looked for: loops, veiled, ifaces, maps, wideKeys, modest, calm, conditions, laid).
  DERIVED. THE GIVEN ROWS OF THIS SEAT. 3 by the template 'for every input the law returns true; each argument reads behind the call as it read before'; 0 by the template 'total and deterministic' (their statements: YtemeocgmlhmooaaTotals.lean).
  GIVEN WITH THE SEED: the statements are not yours to turn. If you find one false, say at which input.
  Laid BY PROGRAM, IN A SANDBOX (cutbox-rows.mjs): the forced cells as the released guide's own fill.sh prints them over the translation 011c194a0d272faf… (all of the seat's roots in one cut). By AI agents, Wed Nov 11 2026. No macro, syntax, notation, axiom, sorry.
-/
import Derived.Test.YtemeocgmlhmooaaChecked
import GoSem.Claim
import GoSem.ClaimJoined
import GoSem.ClaimMapViews
import Derived.JoinedTies
import Derived.KernelRfl
namespace Go.Proofs.Ytemeocgmlhmooaa
/- THE CELL 'sum', in the pinned program and in every row, IS THE sha256 OF THE DUMP (.gsa) THAT YtemeocgmlhmooaaProg.lean LOADS. Nothing in Lean hashes anything: it is a label: what it is worth is what the hold of that sum in a sandbox is worth. -/
noncomputable def Try.pinned : Pinned := { name := "ytemeocgmlhmooaa", sum := "011c194a0d272fafd33da846e18e4ea0dc491aab381f3e2afae652d75b52934d", checked := Try.checked }
namespace Rows
def none {H : Type} : Left H := { results := [], args := [] }

/-- 'triremelaw05.LabelsRight': WHATEVER THE INPUT: true; the input reads as it did. -/
def labelsRightSpec : ChangeSpec := { name := "labelsRight", fn := fun _ => fun
  | [d1, d2] => { results := [.lit (.bool true)], args := [d1, d2] }
  | _ => none }
def labelsRightRow : OpenClaim := { program := "ytemeocgmlhmooaa", sum := "011c194a0d272fafd33da846e18e4ea0dc491aab381f3e2afae652d75b52934d", func := "trireme/triremelaw05.LabelsRight", spec := "labelsRight", unfollowed := true, recurses := true, apart := false }
def LabelsRightSaid : Prop := labelsRightRow.holds Try.pinned (OpenSpec.ofChange labelsRightSpec)

/-- ITS FALSE NEIGHBOUR: 'it returns false'. Refute it at one input. -/
def labelsRightWrong : ChangeSpec := { name := "labelsRight", fn := fun _ => fun
  | [d1, d2] => { results := [.lit (.bool false)], args := [d1, d2] }
  | _ => none }
def LabelsRightWrongFalsely : Prop := labelsRightRow.holds Try.pinned (OpenSpec.ofChange labelsRightWrong)

/-- 'triremelaw05.LabelsSet': WHATEVER THE INPUT: true; the input reads as it did. -/
def labelsSetSpec : ChangeSpec := { name := "labelsSet", fn := fun _ => fun
  | [d1, d2, d3] => { results := [.lit (.bool true)], args := [d1, d2, d3] }
  | _ => none }
def labelsSetRow : OpenClaim := { program := "ytemeocgmlhmooaa", sum := "011c194a0d272fafd33da846e18e4ea0dc491aab381f3e2afae652d75b52934d", func := "trireme/triremelaw05.LabelsSet", spec := "labelsSet", unfollowed := true, recurses := true, apart := false }
def LabelsSetSaid : Prop := labelsSetRow.holds Try.pinned (OpenSpec.ofChange labelsSetSpec)

/-- ITS FALSE NEIGHBOUR: 'it returns false'. Refute it at one input. -/
def labelsSetWrong : ChangeSpec := { name := "labelsSet", fn := fun _ => fun
  | [d1, d2, d3] => { results := [.lit (.bool false)], args := [d1, d2, d3] }
  | _ => none }
def LabelsSetWrongFalsely : Prop := labelsSetRow.holds Try.pinned (OpenSpec.ofChange labelsSetWrong)

/-- 'triremelaw05.LabelsMeets': WHATEVER THE INPUT: true; the input reads as it did. -/
def labelsMeetsSpec : ChangeSpec := { name := "labelsMeets", fn := fun _ => fun
  | [d1, d2, d3] => { results := [.lit (.bool true)], args := [d1, d2, d3] }
  | _ => none }
def labelsMeetsRow : OpenClaim := { program := "ytemeocgmlhmooaa", sum := "011c194a0d272fafd33da846e18e4ea0dc491aab381f3e2afae652d75b52934d", func := "trireme/triremelaw05.LabelsMeets", spec := "labelsMeets", unfollowed := true, recurses := true, apart := false }
def LabelsMeetsSaid : Prop := labelsMeetsRow.holds Try.pinned (OpenSpec.ofChange labelsMeetsSpec)

/-- ITS FALSE NEIGHBOUR: 'it returns false'. Refute it at one input. -/
def labelsMeetsWrong : ChangeSpec := { name := "labelsMeets", fn := fun _ => fun
  | [d1, d2, d3] => { results := [.lit (.bool false)], args := [d1, d2, d3] }
  | _ => none }
def LabelsMeetsWrongFalsely : Prop := labelsMeetsRow.holds Try.pinned (OpenSpec.ofChange labelsMeetsWrong)

/- THE SECOND FORM. 'bulk': how many values and letters a reading holds, each counted each time it is reached (what is shared counts as often as it is met; a slice's spare places count too). A statement '..UptoSaid' is the law's where the arguments, and the package variables that the reading takes, are together of bulk at most 1048576: NARROWER than '..Said'. Prove '..Said' where nothing that the law and all that it calls make is longer than what came in: it says more and counts as full. Else prove '..UptoSaid'. A law counts once. -/
mutual
def uptoBulk {H : Type} : DataW H → Nat
  | .lit (.string bytes) => bytes.length + 1
  | .lit _ => 1
  | .nil => 1
  | .ptr d => uptoBulk d + 1
  | .slice elems spare => uptoBulkAll elems + uptoBulkAll spare + 1
  | .agg parts => uptoBulkAll parts + 1
  | .iface _ d => uptoBulk d + 1
  | .map entries => uptoBulkEntries entries + 1
  | .held _ => 1
def uptoBulkAll {H : Type} : List (DataW H) → Nat
  | [] => 0
  | d :: r => uptoBulk d + uptoBulkAll r
def uptoBulkEntries {H : Type} : List (Lit × DataW H) → Nat
  | [] => 0
  | x :: r => uptoBulkEntry x + uptoBulkEntries r
def uptoBulkEntry {H : Type} : Lit × DataW H → Nat
  | (.string bytes, d) => bytes.length + uptoBulk d + 1
  | (_, d) => uptoBulk d + 1
 end
def uptoSmall : (H : Type) → List (DataW H) → Bool := fun _ ds => decide (uptoBulkAll ds ≤ 1048576)
def OpenSpec.upto (s : _root_.Go.ChangeSpec) : _root_.Go.OpenSpec := { _root_.Go.OpenSpec.ofChange s with cond := some uptoSmall }

/-- 'triremelaw05.LabelsRight', WHERE WHAT IT READS IS OF BULK AT MOST 1048576: true; the input reads as it did. -/
def labelsRightUptoRow : OpenClaim := { program := "ytemeocgmlhmooaa", sum := "011c194a0d272fafd33da846e18e4ea0dc491aab381f3e2afae652d75b52934d", func := "trireme/triremelaw05.LabelsRight", spec := "labelsRight", unfollowed := true, recurses := true, apart := false, narrowed := true }
def LabelsRightUptoSaid : Prop := labelsRightUptoRow.holds Try.pinned (OpenSpec.upto labelsRightSpec)

/-- 'triremelaw05.LabelsSet', WHERE WHAT IT READS IS OF BULK AT MOST 1048576: true; the input reads as it did. -/
def labelsSetUptoRow : OpenClaim := { program := "ytemeocgmlhmooaa", sum := "011c194a0d272fafd33da846e18e4ea0dc491aab381f3e2afae652d75b52934d", func := "trireme/triremelaw05.LabelsSet", spec := "labelsSet", unfollowed := true, recurses := true, apart := false, narrowed := true }
def LabelsSetUptoSaid : Prop := labelsSetUptoRow.holds Try.pinned (OpenSpec.upto labelsSetSpec)

/-- 'triremelaw05.LabelsMeets', WHERE WHAT IT READS IS OF BULK AT MOST 1048576: true; the input reads as it did. -/
def labelsMeetsUptoRow : OpenClaim := { program := "ytemeocgmlhmooaa", sum := "011c194a0d272fafd33da846e18e4ea0dc491aab381f3e2afae652d75b52934d", func := "trireme/triremelaw05.LabelsMeets", spec := "labelsMeets", unfollowed := true, recurses := true, apart := false, narrowed := true }
def LabelsMeetsUptoSaid : Prop := labelsMeetsUptoRow.holds Try.pinned (OpenSpec.upto labelsMeetsSpec)

end Rows
end Go.Proofs.Ytemeocgmlhmooaa
