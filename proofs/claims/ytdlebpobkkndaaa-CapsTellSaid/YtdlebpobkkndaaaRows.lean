/-
  No cell of these rows narrows 'for every input' (looked for: loops, veiled, ifaces, maps, wideKeys, modest, calm, conditions, laid).
  DERIVED. THE GIVEN ROWS OF THIS SEAT. 3 by the template 'for every input the law returns true; each argument reads behind the call as it read before'; 0 by the template 'total and deterministic' (their statements: YtdlebpobkkndaaaTotals.lean).
  GIVEN WITH THE SEED: the statements are not yours to turn. If you find one false, say at which input.
  Laid BY PROGRAM, IN A SANDBOX (cutbox-rows.mjs): the forced cells as the released guide's own fill.sh prints them over the translation bd843af91bee475b… (all of the seat's roots in one cut). By AI agents, Wed Nov 11 2026. No macro, syntax, notation, axiom, sorry.
-/
import Derived.Test.YtdlebpobkkndaaaChecked
import GoSem.Claim
import GoSem.ClaimJoined
import GoSem.ClaimMapViews
import Derived.JoinedTies
import Derived.KernelRfl
namespace Go.Proofs.Ytdlebpobkkndaaa
/- THE CELL 'sum', in the pinned program and in every row, IS THE sha256 OF THE DUMP (.gsa) THAT YtdlebpobkkndaaaProg.lean LOADS. Nothing in Lean hashes anything: it is a label: what it is worth is what the hold of that sum in a sandbox is worth. -/
noncomputable def Try.pinned : Pinned := { name := "ytdlebpobkkndaaa", sum := "bd843af91bee475b57174824c0d70b711809aa19c5cbbe5cfb06821c147709a8", checked := Try.checked }
namespace Rows
def none {H : Type} : Left H := { results := [], args := [] }

/-- 'triremelaw23.CapsTell': WHATEVER THE INPUT: true; the input reads as it did. -/
def capsTellSpec : ChangeSpec := { name := "capsTell", fn := fun _ => fun
  | [d1, d2, d3] => { results := [.lit (.bool true)], args := [d1, d2, d3] }
  | _ => none }
def capsTellRow : OpenClaim := { program := "ytdlebpobkkndaaa", sum := "bd843af91bee475b57174824c0d70b711809aa19c5cbbe5cfb06821c147709a8", func := "trireme/triremelaw23.CapsTell", spec := "capsTell", unfollowed := true, recurses := true, apart := false }
def CapsTellSaid : Prop := capsTellRow.holds Try.pinned (OpenSpec.ofChange capsTellSpec)

/-- ITS FALSE NEIGHBOUR: 'it returns false'. Refute it at one input. -/
def capsTellWrong : ChangeSpec := { name := "capsTell", fn := fun _ => fun
  | [d1, d2, d3] => { results := [.lit (.bool false)], args := [d1, d2, d3] }
  | _ => none }
def CapsTellWrongFalsely : Prop := capsTellRow.holds Try.pinned (OpenSpec.ofChange capsTellWrong)

/-- 'triremelaw23.CapsRoom': WHATEVER THE INPUT: true; the input reads as it did. -/
def capsRoomSpec : ChangeSpec := { name := "capsRoom", fn := fun _ => fun
  | [d1, d2, d3] => { results := [.lit (.bool true)], args := [d1, d2, d3] }
  | _ => none }
def capsRoomRow : OpenClaim := { program := "ytdlebpobkkndaaa", sum := "bd843af91bee475b57174824c0d70b711809aa19c5cbbe5cfb06821c147709a8", func := "trireme/triremelaw23.CapsRoom", spec := "capsRoom", unfollowed := true, recurses := true, apart := false }
def CapsRoomSaid : Prop := capsRoomRow.holds Try.pinned (OpenSpec.ofChange capsRoomSpec)

/-- ITS FALSE NEIGHBOUR: 'it returns false'. Refute it at one input. -/
def capsRoomWrong : ChangeSpec := { name := "capsRoom", fn := fun _ => fun
  | [d1, d2, d3] => { results := [.lit (.bool false)], args := [d1, d2, d3] }
  | _ => none }
def CapsRoomWrongFalsely : Prop := capsRoomRow.holds Try.pinned (OpenSpec.ofChange capsRoomWrong)

/-- 'triremelaw23.CapsLess': WHATEVER THE INPUT: true; the input reads as it did. -/
def capsLessSpec : ChangeSpec := { name := "capsLess", fn := fun _ => fun
  | [d1, d2, d3] => { results := [.lit (.bool true)], args := [d1, d2, d3] }
  | _ => none }
def capsLessRow : OpenClaim := { program := "ytdlebpobkkndaaa", sum := "bd843af91bee475b57174824c0d70b711809aa19c5cbbe5cfb06821c147709a8", func := "trireme/triremelaw23.CapsLess", spec := "capsLess", unfollowed := true, recurses := true, apart := false }
def CapsLessSaid : Prop := capsLessRow.holds Try.pinned (OpenSpec.ofChange capsLessSpec)

/-- ITS FALSE NEIGHBOUR: 'it returns false'. Refute it at one input. -/
def capsLessWrong : ChangeSpec := { name := "capsLess", fn := fun _ => fun
  | [d1, d2, d3] => { results := [.lit (.bool false)], args := [d1, d2, d3] }
  | _ => none }
def CapsLessWrongFalsely : Prop := capsLessRow.holds Try.pinned (OpenSpec.ofChange capsLessWrong)

/- THE SECOND FORM. 'bulk': how many values and letters a reading holds, each counted each time it is reached (what is shared counts as often as it is met; a slice's spare places count too). A statement '..UptoSaid' is the law's where the arguments, and the package variables that the reading takes, are together of bulk at most 1048576: NARROWER than '..Said'. Prove '..Said' where nothing that the law and all that it calls make is longer than what came in: it says more and counts as full. Else prove '..UptoSaid'. A law counts once. -/
mutual
def uptoBulk {H : Type} : DataW H → Nat
  | .lit (.string bytes) => bytes.length + 1
  | .lit _ => 1
  | .nil => 1
  | .ptr d => uptoBulk d + 1
  | .slice elems spare => uptoBulkAll elems + uptoBulkAll spare + 1
  | .agg parts => uptoBulkAll parts + 1
  | .iface _ d => uptoBulk d + 1
  | .map entries => uptoBulkEntries entries + 1
  | .held _ => 1
def uptoBulkAll {H : Type} : List (DataW H) → Nat
  | [] => 0
  | d :: r => uptoBulk d + uptoBulkAll r
def uptoBulkEntries {H : Type} : List (Lit × DataW H) → Nat
  | [] => 0
  | x :: r => uptoBulkEntry x + uptoBulkEntries r
def uptoBulkEntry {H : Type} : Lit × DataW H → Nat
  | (.string bytes, d) => bytes.length + uptoBulk d + 1
  | (_, d) => uptoBulk d + 1
 end
def uptoSmall : (H : Type) → List (DataW H) → Bool := fun _ ds => decide (uptoBulkAll ds ≤ 1048576)
def OpenSpec.upto (s : _root_.Go.ChangeSpec) : _root_.Go.OpenSpec := { _root_.Go.OpenSpec.ofChange s with cond := some uptoSmall }

/-- 'triremelaw23.CapsTell', WHERE WHAT IT READS IS OF BULK AT MOST 1048576: true; the input reads as it did. -/
def capsTellUptoRow : OpenClaim := { program := "ytdlebpobkkndaaa", sum := "bd843af91bee475b57174824c0d70b711809aa19c5cbbe5cfb06821c147709a8", func := "trireme/triremelaw23.CapsTell", spec := "capsTell", unfollowed := true, recurses := true, apart := false, narrowed := true }
def CapsTellUptoSaid : Prop := capsTellUptoRow.holds Try.pinned (OpenSpec.upto capsTellSpec)

/-- 'triremelaw23.CapsRoom', WHERE WHAT IT READS IS OF BULK AT MOST 1048576: true; the input reads as it did. -/
def capsRoomUptoRow : OpenClaim := { program := "ytdlebpobkkndaaa", sum := "bd843af91bee475b57174824c0d70b711809aa19c5cbbe5cfb06821c147709a8", func := "trireme/triremelaw23.CapsRoom", spec := "capsRoom", unfollowed := true, recurses := true, apart := false, narrowed := true }
def CapsRoomUptoSaid : Prop := capsRoomUptoRow.holds Try.pinned (OpenSpec.upto capsRoomSpec)

/-- 'triremelaw23.CapsLess', WHERE WHAT IT READS IS OF BULK AT MOST 1048576: true; the input reads as it did. -/
def capsLessUptoRow : OpenClaim := { program := "ytdlebpobkkndaaa", sum := "bd843af91bee475b57174824c0d70b711809aa19c5cbbe5cfb06821c147709a8", func := "trireme/triremelaw23.CapsLess", spec := "capsLess", unfollowed := true, recurses := true, apart := false, narrowed := true }
def CapsLessUptoSaid : Prop := capsLessUptoRow.holds Try.pinned (OpenSpec.upto capsLessSpec)

end Rows
end Go.Proofs.Ytdlebpobkkndaaa
