/-
  No cell of these rows narrows 'for every input' (looked for: loops, veiled, ifaces, maps, wideKeys, modest, calm, conditions, laid).
  DERIVED. THE GIVEN ROWS OF THIS SEAT. 5 by the template 'for every input the law returns true; each argument reads behind the call as it read before'; 0 by the template 'total and deterministic' (their statements: YtfaeebbanphbgabTotals.lean).
  GIVEN WITH THE SEED: the statements are not yours to turn. If you find one false, say at which input.
  Laid BY PROGRAM, IN A SANDBOX (cutbox-rows.mjs): the forced cells as the released guide's own fill.sh prints them over the translation 3ae0df2381ca7904… (all of the seat's roots in one cut). By AI agents, Wed Nov 11 2026. No macro, syntax, notation, axiom, sorry.
-/
import Derived.Test.YtfaeebbanphbgabChecked
import GoSem.Claim
import GoSem.ClaimJoined
import GoSem.ClaimMapViews
import Derived.JoinedTies
import Derived.KernelRfl
namespace Go.Proofs.Ytfaeebbanphbgab
/- THE CELL 'sum', in the pinned program and in every row, IS THE sha256 OF THE DUMP (.gsa) THAT YtfaeebbanphbgabProg.lean LOADS. Nothing in Lean hashes anything: it is a label: what it is worth is what the hold of that sum in a sandbox is worth. -/
noncomputable def Try.pinned : Pinned := { name := "ytfaeebbanphbgab", sum := "3ae0df2381ca79045d832afbb158ba39c9316998d9a17e44666435e4e7e3ca79", checked := Try.checked }
namespace Rows
def none {H : Type} : Left H := { results := [], args := [] }

/-- 'triremelaw21.ExpandChooses': WHATEVER THE INPUT: true; the input reads as it did. -/
def expandChoosesSpec : ChangeSpec := { name := "expandChooses", fn := fun _ => fun
  | [d1, d2, d3] => { results := [.lit (.bool true)], args := [d1, d2, d3] }
  | _ => none }
def expandChoosesRow : OpenClaim := { program := "ytfaeebbanphbgab", sum := "3ae0df2381ca79045d832afbb158ba39c9316998d9a17e44666435e4e7e3ca79", func := "trireme/triremelaw21.ExpandChooses", spec := "expandChooses", unfollowed := true, recurses := true, apart := false }
def ExpandChoosesSaid : Prop := expandChoosesRow.holds Try.pinned (OpenSpec.ofChange expandChoosesSpec)

/-- ITS FALSE NEIGHBOUR: 'it returns false'. Refute it at one input. -/
def expandChoosesWrong : ChangeSpec := { name := "expandChooses", fn := fun _ => fun
  | [d1, d2, d3] => { results := [.lit (.bool false)], args := [d1, d2, d3] }
  | _ => none }
def ExpandChoosesWrongFalsely : Prop := expandChoosesRow.holds Try.pinned (OpenSpec.ofChange expandChoosesWrong)

/-- 'triremelaw21.ExpandBest': WHATEVER THE INPUT: true; the input reads as it did. -/
def expandBestSpec : ChangeSpec := { name := "expandBest", fn := fun _ => fun
  | [d1, d2, d3] => { results := [.lit (.bool true)], args := [d1, d2, d3] }
  | _ => none }
def expandBestRow : OpenClaim := { program := "ytfaeebbanphbgab", sum := "3ae0df2381ca79045d832afbb158ba39c9316998d9a17e44666435e4e7e3ca79", func := "trireme/triremelaw21.ExpandBest", spec := "expandBest", unfollowed := true, recurses := true, apart := false }
def ExpandBestSaid : Prop := expandBestRow.holds Try.pinned (OpenSpec.ofChange expandBestSpec)

/-- ITS FALSE NEIGHBOUR: 'it returns false'. Refute it at one input. -/
def expandBestWrong : ChangeSpec := { name := "expandBest", fn := fun _ => fun
  | [d1, d2, d3] => { results := [.lit (.bool false)], args := [d1, d2, d3] }
  | _ => none }
def ExpandBestWrongFalsely : Prop := expandBestRow.holds Try.pinned (OpenSpec.ofChange expandBestWrong)

/-- 'triremelaw21.ExpandOrder': WHATEVER THE INPUT: true; the input reads as it did. -/
def expandOrderSpec : ChangeSpec := { name := "expandOrder", fn := fun _ => fun
  | [d1, d2] => { results := [.lit (.bool true)], args := [d1, d2] }
  | _ => none }
def expandOrderRow : OpenClaim := { program := "ytfaeebbanphbgab", sum := "3ae0df2381ca79045d832afbb158ba39c9316998d9a17e44666435e4e7e3ca79", func := "trireme/triremelaw21.ExpandOrder", spec := "expandOrder", unfollowed := true, recurses := true, apart := false }
def ExpandOrderSaid : Prop := expandOrderRow.holds Try.pinned (OpenSpec.ofChange expandOrderSpec)

/-- ITS FALSE NEIGHBOUR: 'it returns false'. Refute it at one input. -/
def expandOrderWrong : ChangeSpec := { name := "expandOrder", fn := fun _ => fun
  | [d1, d2] => { results := [.lit (.bool false)], args := [d1, d2] }
  | _ => none }
def ExpandOrderWrongFalsely : Prop := expandOrderRow.holds Try.pinned (OpenSpec.ofChange expandOrderWrong)

/-- 'triremelaw21.ExpandNext': WHATEVER THE INPUT: true; the input reads as it did. -/
def expandNextSpec : ChangeSpec := { name := "expandNext", fn := fun _ => fun
  | [d] => { results := [.lit (.bool true)], args := [d] }
  | _ => none }
def expandNextRow : OpenClaim := { program := "ytfaeebbanphbgab", sum := "3ae0df2381ca79045d832afbb158ba39c9316998d9a17e44666435e4e7e3ca79", func := "trireme/triremelaw21.ExpandNext", spec := "expandNext", unfollowed := true, recurses := true, apart := false }
def ExpandNextSaid : Prop := expandNextRow.holds Try.pinned (OpenSpec.ofChange expandNextSpec)

/-- ITS FALSE NEIGHBOUR: 'it returns false'. Refute it at one input. -/
def expandNextWrong : ChangeSpec := { name := "expandNext", fn := fun _ => fun
  | [d] => { results := [.lit (.bool false)], args := [d] }
  | _ => none }
def ExpandNextWrongFalsely : Prop := expandNextRow.holds Try.pinned (OpenSpec.ofChange expandNextWrong)

/-- 'triremelaw21.ExpandOne': WHATEVER THE INPUT: true; the input reads as it did. -/
def expandOneSpec : ChangeSpec := { name := "expandOne", fn := fun _ => fun
  | [d1, d2, d3] => { results := [.lit (.bool true)], args := [d1, d2, d3] }
  | _ => none }
def expandOneRow : OpenClaim := { program := "ytfaeebbanphbgab", sum := "3ae0df2381ca79045d832afbb158ba39c9316998d9a17e44666435e4e7e3ca79", func := "trireme/triremelaw21.ExpandOne", spec := "expandOne", unfollowed := true, recurses := true, apart := false }
def ExpandOneSaid : Prop := expandOneRow.holds Try.pinned (OpenSpec.ofChange expandOneSpec)

/-- ITS FALSE NEIGHBOUR: 'it returns false'. Refute it at one input. -/
def expandOneWrong : ChangeSpec := { name := "expandOne", fn := fun _ => fun
  | [d1, d2, d3] => { results := [.lit (.bool false)], args := [d1, d2, d3] }
  | _ => none }
def ExpandOneWrongFalsely : Prop := expandOneRow.holds Try.pinned (OpenSpec.ofChange expandOneWrong)

/- THE SECOND FORM. 'bulk': how many values and letters a reading holds, each counted each time it is reached (what is shared counts as often as it is met; a slice's spare places count too). A statement '..UptoSaid' is the law's where the arguments, and the package variables that the reading takes, are together of bulk at most 1048576: NARROWER than '..Said'. Prove '..Said' where nothing that the law and all that it calls make is longer than what came in: it says more and counts as full. Else prove '..UptoSaid'. A law counts once. -/
mutual
def uptoBulk {H : Type} : DataW H → Nat
  | .lit (.string bytes) => bytes.length + 1
  | .lit _ => 1
  | .nil => 1
  | .ptr d => uptoBulk d + 1
  | .slice elems spare => uptoBulkAll elems + uptoBulkAll spare + 1
  | .agg parts => uptoBulkAll parts + 1
  | .iface _ d => uptoBulk d + 1
  | .map entries => uptoBulkEntries entries + 1
  | .held _ => 1
def uptoBulkAll {H : Type} : List (DataW H) → Nat
  | [] => 0
  | d :: r => uptoBulk d + uptoBulkAll r
def uptoBulkEntries {H : Type} : List (Lit × DataW H) → Nat
  | [] => 0
  | x :: r => uptoBulkEntry x + uptoBulkEntries r
def uptoBulkEntry {H : Type} : Lit × DataW H → Nat
  | (.string bytes, d) => bytes.length + uptoBulk d + 1
  | (_, d) => uptoBulk d + 1
 end
def uptoSmall : (H : Type) → List (DataW H) → Bool := fun _ ds => decide (uptoBulkAll ds ≤ 1048576)
def OpenSpec.upto (s : _root_.Go.ChangeSpec) : _root_.Go.OpenSpec := { _root_.Go.OpenSpec.ofChange s with cond := some uptoSmall }

/-- 'triremelaw21.ExpandChooses', WHERE WHAT IT READS IS OF BULK AT MOST 1048576: true; the input reads as it did. -/
def expandChoosesUptoRow : OpenClaim := { program := "ytfaeebbanphbgab", sum := "3ae0df2381ca79045d832afbb158ba39c9316998d9a17e44666435e4e7e3ca79", func := "trireme/triremelaw21.ExpandChooses", spec := "expandChooses", unfollowed := true, recurses := true, apart := false, narrowed := true }
def ExpandChoosesUptoSaid : Prop := expandChoosesUptoRow.holds Try.pinned (OpenSpec.upto expandChoosesSpec)

/-- 'triremelaw21.ExpandBest', WHERE WHAT IT READS IS OF BULK AT MOST 1048576: true; the input reads as it did. -/
def expandBestUptoRow : OpenClaim := { program := "ytfaeebbanphbgab", sum := "3ae0df2381ca79045d832afbb158ba39c9316998d9a17e44666435e4e7e3ca79", func := "trireme/triremelaw21.ExpandBest", spec := "expandBest", unfollowed := true, recurses := true, apart := false, narrowed := true }
def ExpandBestUptoSaid : Prop := expandBestUptoRow.holds Try.pinned (OpenSpec.upto expandBestSpec)

/-- 'triremelaw21.ExpandOrder', WHERE WHAT IT READS IS OF BULK AT MOST 1048576: true; the input reads as it did. -/
def expandOrderUptoRow : OpenClaim := { program := "ytfaeebbanphbgab", sum := "3ae0df2381ca79045d832afbb158ba39c9316998d9a17e44666435e4e7e3ca79", func := "trireme/triremelaw21.ExpandOrder", spec := "expandOrder", unfollowed := true, recurses := true, apart := false, narrowed := true }
def ExpandOrderUptoSaid : Prop := expandOrderUptoRow.holds Try.pinned (OpenSpec.upto expandOrderSpec)

/-- 'triremelaw21.ExpandNext', WHERE WHAT IT READS IS OF BULK AT MOST 1048576: true; the input reads as it did. -/
def expandNextUptoRow : OpenClaim := { program := "ytfaeebbanphbgab", sum := "3ae0df2381ca79045d832afbb158ba39c9316998d9a17e44666435e4e7e3ca79", func := "trireme/triremelaw21.ExpandNext", spec := "expandNext", unfollowed := true, recurses := true, apart := false, narrowed := true }
def ExpandNextUptoSaid : Prop := expandNextUptoRow.holds Try.pinned (OpenSpec.upto expandNextSpec)

/-- 'triremelaw21.ExpandOne', WHERE WHAT IT READS IS OF BULK AT MOST 1048576: true; the input reads as it did. -/
def expandOneUptoRow : OpenClaim := { program := "ytfaeebbanphbgab", sum := "3ae0df2381ca79045d832afbb158ba39c9316998d9a17e44666435e4e7e3ca79", func := "trireme/triremelaw21.ExpandOne", spec := "expandOne", unfollowed := true, recurses := true, apart := false, narrowed := true }
def ExpandOneUptoSaid : Prop := expandOneUptoRow.holds Try.pinned (OpenSpec.upto expandOneSpec)

end Rows
end Go.Proofs.Ytfaeebbanphbgab
