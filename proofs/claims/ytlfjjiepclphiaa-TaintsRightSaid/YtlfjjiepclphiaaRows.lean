/-
  No cell of these rows narrows 'for every input' (looked for: loops, veiled, ifaces, maps, wideKeys, modest, calm, conditions, laid).
  DERIVED. THE GIVEN ROWS OF THIS SEAT. 5 by the template 'for every input the law returns true; each argument reads behind the call as it read before'; 0 by the template 'total and deterministic' (their statements: YtlfjjiepclphiaaTotals.lean).
  GIVEN WITH THE SEED: the statements are not yours to turn. If you find one false, say at which input.
  Laid BY PROGRAM, IN A SANDBOX (cutbox-rows.mjs): the forced cells as the released guide's own fill.sh prints them over the translation c70308c87e5bf58f… (all of the seat's roots in one cut). By AI agents, Wed Nov 11 2026. No macro, syntax, notation, axiom, sorry.
-/
import Derived.Test.YtlfjjiepclphiaaChecked
import GoSem.Claim
import GoSem.ClaimJoined
import GoSem.ClaimMapViews
import Derived.JoinedTies
import Derived.KernelRfl
namespace Go.Proofs.Ytlfjjiepclphiaa
/- THE CELL 'sum', in the pinned program and in every row, IS THE sha256 OF THE DUMP (.gsa) THAT YtlfjjiepclphiaaProg.lean LOADS. Nothing in Lean hashes anything: it is a label: what it is worth is what the hold of that sum in a sandbox is worth. -/
noncomputable def Try.pinned : Pinned := { name := "ytlfjjiepclphiaa", sum := "c70308c87e5bf58fb814fe3d6c1e0e564512649e58aa3b07d7d1ee2551086a0c", checked := Try.checked }
namespace Rows
def none {H : Type} : Left H := { results := [], args := [] }

/-- 'triremelaw06.TaintsMore': WHATEVER THE INPUT: true; the input reads as it did. -/
def taintsMoreSpec : ChangeSpec := { name := "taintsMore", fn := fun _ => fun
  | [d1, d2, d3] => { results := [.lit (.bool true)], args := [d1, d2, d3] }
  | _ => none }
def taintsMoreRow : OpenClaim := { program := "ytlfjjiepclphiaa", sum := "c70308c87e5bf58fb814fe3d6c1e0e564512649e58aa3b07d7d1ee2551086a0c", func := "trireme/triremelaw06.TaintsMore", spec := "taintsMore", apart := false }
def TaintsMoreSaid : Prop := taintsMoreRow.holds Try.pinned (OpenSpec.ofChange taintsMoreSpec)

/-- ITS FALSE NEIGHBOUR: 'it returns false'. Refute it at one input. -/
def taintsMoreWrong : ChangeSpec := { name := "taintsMore", fn := fun _ => fun
  | [d1, d2, d3] => { results := [.lit (.bool false)], args := [d1, d2, d3] }
  | _ => none }
def TaintsMoreWrongFalsely : Prop := taintsMoreRow.holds Try.pinned (OpenSpec.ofChange taintsMoreWrong)

/-- 'triremelaw06.TaintsOrder': WHATEVER THE INPUT: true; the input reads as it did. -/
def taintsOrderSpec : ChangeSpec := { name := "taintsOrder", fn := fun _ => fun
  | [d1, d2, d3] => { results := [.lit (.bool true)], args := [d1, d2, d3] }
  | _ => none }
def taintsOrderRow : OpenClaim := { program := "ytlfjjiepclphiaa", sum := "c70308c87e5bf58fb814fe3d6c1e0e564512649e58aa3b07d7d1ee2551086a0c", func := "trireme/triremelaw06.TaintsOrder", spec := "taintsOrder", apart := false }
def TaintsOrderSaid : Prop := taintsOrderRow.holds Try.pinned (OpenSpec.ofChange taintsOrderSpec)

/-- ITS FALSE NEIGHBOUR: 'it returns false'. Refute it at one input. -/
def taintsOrderWrong : ChangeSpec := { name := "taintsOrder", fn := fun _ => fun
  | [d1, d2, d3] => { results := [.lit (.bool false)], args := [d1, d2, d3] }
  | _ => none }
def TaintsOrderWrongFalsely : Prop := taintsOrderRow.holds Try.pinned (OpenSpec.ofChange taintsOrderWrong)

/-- 'triremelaw06.TaintsAdd': WHATEVER THE INPUT: true; the input reads as it did. -/
def taintsAddSpec : ChangeSpec := { name := "taintsAdd", fn := fun _ => fun
  | [d1, d2, d3] => { results := [.lit (.bool true)], args := [d1, d2, d3] }
  | _ => none }
def taintsAddRow : OpenClaim := { program := "ytlfjjiepclphiaa", sum := "c70308c87e5bf58fb814fe3d6c1e0e564512649e58aa3b07d7d1ee2551086a0c", func := "trireme/triremelaw06.TaintsAdd", spec := "taintsAdd", apart := false }
def TaintsAddSaid : Prop := taintsAddRow.holds Try.pinned (OpenSpec.ofChange taintsAddSpec)

/-- ITS FALSE NEIGHBOUR: 'it returns false'. Refute it at one input. -/
def taintsAddWrong : ChangeSpec := { name := "taintsAdd", fn := fun _ => fun
  | [d1, d2, d3] => { results := [.lit (.bool false)], args := [d1, d2, d3] }
  | _ => none }
def TaintsAddWrongFalsely : Prop := taintsAddRow.holds Try.pinned (OpenSpec.ofChange taintsAddWrong)

/-- 'triremelaw06.TaintsBears': WHATEVER THE INPUT: true; the input reads as it did. -/
def taintsBearsSpec : ChangeSpec := { name := "taintsBears", fn := fun _ => fun
  | [d1, d2, d3] => { results := [.lit (.bool true)], args := [d1, d2, d3] }
  | _ => none }
def taintsBearsRow : OpenClaim := { program := "ytlfjjiepclphiaa", sum := "c70308c87e5bf58fb814fe3d6c1e0e564512649e58aa3b07d7d1ee2551086a0c", func := "trireme/triremelaw06.TaintsBears", spec := "taintsBears", apart := false }
def TaintsBearsSaid : Prop := taintsBearsRow.holds Try.pinned (OpenSpec.ofChange taintsBearsSpec)

/-- ITS FALSE NEIGHBOUR: 'it returns false'. Refute it at one input. -/
def taintsBearsWrong : ChangeSpec := { name := "taintsBears", fn := fun _ => fun
  | [d1, d2, d3] => { results := [.lit (.bool false)], args := [d1, d2, d3] }
  | _ => none }
def TaintsBearsWrongFalsely : Prop := taintsBearsRow.holds Try.pinned (OpenSpec.ofChange taintsBearsWrong)

/-- 'triremelaw06.TaintsRight': WHATEVER THE INPUT: true; the input reads as it did. -/
def taintsRightSpec : ChangeSpec := { name := "taintsRight", fn := fun _ => fun
  | [d1, d2] => { results := [.lit (.bool true)], args := [d1, d2] }
  | _ => none }
def taintsRightRow : OpenClaim := { program := "ytlfjjiepclphiaa", sum := "c70308c87e5bf58fb814fe3d6c1e0e564512649e58aa3b07d7d1ee2551086a0c", func := "trireme/triremelaw06.TaintsRight", spec := "taintsRight", apart := false }
def TaintsRightSaid : Prop := taintsRightRow.holds Try.pinned (OpenSpec.ofChange taintsRightSpec)

/-- ITS FALSE NEIGHBOUR: 'it returns false'. Refute it at one input. -/
def taintsRightWrong : ChangeSpec := { name := "taintsRight", fn := fun _ => fun
  | [d1, d2] => { results := [.lit (.bool false)], args := [d1, d2] }
  | _ => none }
def TaintsRightWrongFalsely : Prop := taintsRightRow.holds Try.pinned (OpenSpec.ofChange taintsRightWrong)

/- THE SECOND FORM. 'bulk': how many values and letters a reading holds, each counted each time it is reached (what is shared counts as often as it is met; a slice's spare places count too). A statement '..UptoSaid' is the law's where the arguments, and the package variables that the reading takes, are together of bulk at most 1048576: NARROWER than '..Said'. Prove '..Said' where nothing that the law and all that it calls make is longer than what came in: it says more and counts as full. Else prove '..UptoSaid'. A law counts once. -/
mutual
def uptoBulk {H : Type} : DataW H → Nat
  | .lit (.string bytes) => bytes.length + 1
  | .lit _ => 1
  | .nil => 1
  | .ptr d => uptoBulk d + 1
  | .slice elems spare => uptoBulkAll elems + uptoBulkAll spare + 1
  | .agg parts => uptoBulkAll parts + 1
  | .iface _ d => uptoBulk d + 1
  | .map entries => uptoBulkEntries entries + 1
  | .held _ => 1
def uptoBulkAll {H : Type} : List (DataW H) → Nat
  | [] => 0
  | d :: r => uptoBulk d + uptoBulkAll r
def uptoBulkEntries {H : Type} : List (Lit × DataW H) → Nat
  | [] => 0
  | x :: r => uptoBulkEntry x + uptoBulkEntries r
def uptoBulkEntry {H : Type} : Lit × DataW H → Nat
  | (.string bytes, d) => bytes.length + uptoBulk d + 1
  | (_, d) => uptoBulk d + 1
 end
def uptoSmall : (H : Type) → List (DataW H) → Bool := fun _ ds => decide (uptoBulkAll ds ≤ 1048576)
def OpenSpec.upto (s : _root_.Go.ChangeSpec) : _root_.Go.OpenSpec := { _root_.Go.OpenSpec.ofChange s with cond := some uptoSmall }

/-- 'triremelaw06.TaintsMore', WHERE WHAT IT READS IS OF BULK AT MOST 1048576: true; the input reads as it did. -/
def taintsMoreUptoRow : OpenClaim := { program := "ytlfjjiepclphiaa", sum := "c70308c87e5bf58fb814fe3d6c1e0e564512649e58aa3b07d7d1ee2551086a0c", func := "trireme/triremelaw06.TaintsMore", spec := "taintsMore", apart := false, narrowed := true }
def TaintsMoreUptoSaid : Prop := taintsMoreUptoRow.holds Try.pinned (OpenSpec.upto taintsMoreSpec)

/-- 'triremelaw06.TaintsOrder', WHERE WHAT IT READS IS OF BULK AT MOST 1048576: true; the input reads as it did. -/
def taintsOrderUptoRow : OpenClaim := { program := "ytlfjjiepclphiaa", sum := "c70308c87e5bf58fb814fe3d6c1e0e564512649e58aa3b07d7d1ee2551086a0c", func := "trireme/triremelaw06.TaintsOrder", spec := "taintsOrder", apart := false, narrowed := true }
def TaintsOrderUptoSaid : Prop := taintsOrderUptoRow.holds Try.pinned (OpenSpec.upto taintsOrderSpec)

/-- 'triremelaw06.TaintsAdd', WHERE WHAT IT READS IS OF BULK AT MOST 1048576: true; the input reads as it did. -/
def taintsAddUptoRow : OpenClaim := { program := "ytlfjjiepclphiaa", sum := "c70308c87e5bf58fb814fe3d6c1e0e564512649e58aa3b07d7d1ee2551086a0c", func := "trireme/triremelaw06.TaintsAdd", spec := "taintsAdd", apart := false, narrowed := true }
def TaintsAddUptoSaid : Prop := taintsAddUptoRow.holds Try.pinned (OpenSpec.upto taintsAddSpec)

/-- 'triremelaw06.TaintsBears', WHERE WHAT IT READS IS OF BULK AT MOST 1048576: true; the input reads as it did. -/
def taintsBearsUptoRow : OpenClaim := { program := "ytlfjjiepclphiaa", sum := "c70308c87e5bf58fb814fe3d6c1e0e564512649e58aa3b07d7d1ee2551086a0c", func := "trireme/triremelaw06.TaintsBears", spec := "taintsBears", apart := false, narrowed := true }
def TaintsBearsUptoSaid : Prop := taintsBearsUptoRow.holds Try.pinned (OpenSpec.upto taintsBearsSpec)

/-- 'triremelaw06.TaintsRight', WHERE WHAT IT READS IS OF BULK AT MOST 1048576: true; the input reads as it did. -/
def taintsRightUptoRow : OpenClaim := { program := "ytlfjjiepclphiaa", sum := "c70308c87e5bf58fb814fe3d6c1e0e564512649e58aa3b07d7d1ee2551086a0c", func := "trireme/triremelaw06.TaintsRight", spec := "taintsRight", apart := false, narrowed := true }
def TaintsRightUptoSaid : Prop := taintsRightUptoRow.holds Try.pinned (OpenSpec.upto taintsRightSpec)

end Rows
end Go.Proofs.Ytlfjjiepclphiaa
