/-
  No cell of these rows narrows 'for every input' (looked for: loops, veiled, ifaces, maps, wideKeys, modest, calm, conditions, laid).
  DERIVED. THE GIVEN ROWS OF THIS SEAT. 4 by the template 'for every input the law returns true; each argument reads behind the call as it read before'; 0 by the template 'total and deterministic' (their statements: YtdfadbpepmkicaaGreatTotals.lean).
  GIVEN WITH THE SEED: the statements are not yours to turn. If you find one false, say at which input.
  Laid BY PROGRAM, IN A SANDBOX (cutbox-rows.mjs): the forced cells as the released guide's own fill.sh prints them over the translation f2895cc0c960cc87… (all of the seat's roots in one cut). By AI agents, Wed Nov 11 2026. No macro, syntax, notation, axiom, sorry.
-/
import Derived.Test.YtdfadbpepmkicaaGreatChecked
import GoSem.Claim
import GoSem.ClaimJoined
import GoSem.ClaimMapViews
import Derived.JoinedTies
import Derived.KernelRfl
namespace Go.Proofs.YtdfadbpepmkicaaGreat
/- THE CELL 'sum', in the pinned program and in every row, IS THE sha256 OF THE DUMP (.gsa) THAT YtdfadbpepmkicaaGreatProg.lean LOADS. Nothing in Lean hashes anything: it is a label: what it is worth is what the hold of that sum in a sandbox is worth. -/
noncomputable def Tryz.pinned : Pinned := { name := "ytdfadbpepmkicaagreat", sum := "f2895cc0c960cc8739c5d635428a527da09d42c6096329df36ddd82c1d68d672", checked := Tryz.checked }
namespace Rows
def none {H : Type} : Left H := { results := [], args := [] }

/-- 'triremelaw14.SchedSteps': WHATEVER THE INPUT: true; the input reads as it did. -/
def schedStepsSpec : ChangeSpec := { name := "schedSteps", fn := fun _ => fun
  | [d1, d2] => { results := [.lit (.bool true)], args := [d1, d2] }
  | _ => none }
def schedStepsRow : OpenClaim := { program := "ytdfadbpepmkicaagreat", sum := "f2895cc0c960cc8739c5d635428a527da09d42c6096329df36ddd82c1d68d672", func := "trireme/triremelaw14.SchedSteps", spec := "schedSteps", unfollowed := true, recurses := true, apart := false }
def SchedStepsSaid : Prop := schedStepsRow.holds Tryz.pinned (OpenSpec.ofChange schedStepsSpec)

/-- ITS FALSE NEIGHBOUR: 'it returns false'. Refute it at one input. -/
def schedStepsWrong : ChangeSpec := { name := "schedSteps", fn := fun _ => fun
  | [d1, d2] => { results := [.lit (.bool false)], args := [d1, d2] }
  | _ => none }
def SchedStepsWrongFalsely : Prop := schedStepsRow.holds Tryz.pinned (OpenSpec.ofChange schedStepsWrong)

/-- 'triremelaw14.SchedBest': WHATEVER THE INPUT: true; the input reads as it did. -/
def schedBestSpec : ChangeSpec := { name := "schedBest", fn := fun _ => fun
  | [d1, d2, d3] => { results := [.lit (.bool true)], args := [d1, d2, d3] }
  | _ => none }
def schedBestRow : OpenClaim := { program := "ytdfadbpepmkicaagreat", sum := "f2895cc0c960cc8739c5d635428a527da09d42c6096329df36ddd82c1d68d672", func := "trireme/triremelaw14.SchedBest", spec := "schedBest", unfollowed := true, recurses := true, apart := false }
def SchedBestSaid : Prop := schedBestRow.holds Tryz.pinned (OpenSpec.ofChange schedBestSpec)

/-- ITS FALSE NEIGHBOUR: 'it returns false'. Refute it at one input. -/
def schedBestWrong : ChangeSpec := { name := "schedBest", fn := fun _ => fun
  | [d1, d2, d3] => { results := [.lit (.bool false)], args := [d1, d2, d3] }
  | _ => none }
def SchedBestWrongFalsely : Prop := schedBestRow.holds Tryz.pinned (OpenSpec.ofChange schedBestWrong)

/-- 'triremelaw14.SchedSafe': WHATEVER THE INPUT: true; the input reads as it did. -/
def schedSafeSpec : ChangeSpec := { name := "schedSafe", fn := fun _ => fun
  | [d1, d2] => { results := [.lit (.bool true)], args := [d1, d2] }
  | _ => none }
def schedSafeRow : OpenClaim := { program := "ytdfadbpepmkicaagreat", sum := "f2895cc0c960cc8739c5d635428a527da09d42c6096329df36ddd82c1d68d672", func := "trireme/triremelaw14.SchedSafe", spec := "schedSafe", unfollowed := true, recurses := true, apart := false }
def SchedSafeSaid : Prop := schedSafeRow.holds Tryz.pinned (OpenSpec.ofChange schedSafeSpec)

/-- ITS FALSE NEIGHBOUR: 'it returns false'. Refute it at one input. -/
def schedSafeWrong : ChangeSpec := { name := "schedSafe", fn := fun _ => fun
  | [d1, d2] => { results := [.lit (.bool false)], args := [d1, d2] }
  | _ => none }
def SchedSafeWrongFalsely : Prop := schedSafeRow.holds Tryz.pinned (OpenSpec.ofChange schedSafeWrong)

/-- 'triremelaw14.SchedCount': WHATEVER THE INPUT: true; the input reads as it did. -/
def schedCountSpec : ChangeSpec := { name := "schedCount", fn := fun _ => fun
  | [d1, d2] => { results := [.lit (.bool true)], args := [d1, d2] }
  | _ => none }
def schedCountRow : OpenClaim := { program := "ytdfadbpepmkicaagreat", sum := "f2895cc0c960cc8739c5d635428a527da09d42c6096329df36ddd82c1d68d672", func := "trireme/triremelaw14.SchedCount", spec := "schedCount", unfollowed := true, recurses := true, apart := false }
def SchedCountSaid : Prop := schedCountRow.holds Tryz.pinned (OpenSpec.ofChange schedCountSpec)

/-- ITS FALSE NEIGHBOUR: 'it returns false'. Refute it at one input. -/
def schedCountWrong : ChangeSpec := { name := "schedCount", fn := fun _ => fun
  | [d1, d2] => { results := [.lit (.bool false)], args := [d1, d2] }
  | _ => none }
def SchedCountWrongFalsely : Prop := schedCountRow.holds Tryz.pinned (OpenSpec.ofChange schedCountWrong)

/- THE SECOND FORM. 'bulk': how many values and letters a reading holds, each counted each time it is reached (what is shared counts as often as it is met; a slice's spare places count too). A statement '..UptoSaid' is the law's where the arguments, and the package variables that the reading takes, are together of bulk at most 1048576: NARROWER than '..Said'. Prove '..Said' where nothing that the law and all that it calls make is longer than what came in: it says more and counts as full. Else prove '..UptoSaid'. A law counts once. -/
mutual
def uptoBulk {H : Type} : DataW H → Nat
  | .lit (.string bytes) => bytes.length + 1
  | .lit _ => 1
  | .nil => 1
  | .ptr d => uptoBulk d + 1
  | .slice elems spare => uptoBulkAll elems + uptoBulkAll spare + 1
  | .agg parts => uptoBulkAll parts + 1
  | .iface _ d => uptoBulk d + 1
  | .map entries => uptoBulkEntries entries + 1
  | .held _ => 1
def uptoBulkAll {H : Type} : List (DataW H) → Nat
  | [] => 0
  | d :: r => uptoBulk d + uptoBulkAll r
def uptoBulkEntries {H : Type} : List (Lit × DataW H) → Nat
  | [] => 0
  | x :: r => uptoBulkEntry x + uptoBulkEntries r
def uptoBulkEntry {H : Type} : Lit × DataW H → Nat
  | (.string bytes, d) => bytes.length + uptoBulk d + 1
  | (_, d) => uptoBulk d + 1
 end
def uptoSmall : (H : Type) → List (DataW H) → Bool := fun _ ds => decide (uptoBulkAll ds ≤ 1048576)
def OpenSpec.upto (s : _root_.Go.ChangeSpec) : _root_.Go.OpenSpec := { _root_.Go.OpenSpec.ofChange s with cond := some uptoSmall }

/-- 'triremelaw14.SchedSteps', WHERE WHAT IT READS IS OF BULK AT MOST 1048576: true; the input reads as it did. -/
def schedStepsUptoRow : OpenClaim := { program := "ytdfadbpepmkicaagreat", sum := "f2895cc0c960cc8739c5d635428a527da09d42c6096329df36ddd82c1d68d672", func := "trireme/triremelaw14.SchedSteps", spec := "schedSteps", unfollowed := true, recurses := true, apart := false, narrowed := true }
def SchedStepsUptoSaid : Prop := schedStepsUptoRow.holds Tryz.pinned (OpenSpec.upto schedStepsSpec)

/-- 'triremelaw14.SchedBest', WHERE WHAT IT READS IS OF BULK AT MOST 1048576: true; the input reads as it did. -/
def schedBestUptoRow : OpenClaim := { program := "ytdfadbpepmkicaagreat", sum := "f2895cc0c960cc8739c5d635428a527da09d42c6096329df36ddd82c1d68d672", func := "trireme/triremelaw14.SchedBest", spec := "schedBest", unfollowed := true, recurses := true, apart := false, narrowed := true }
def SchedBestUptoSaid : Prop := schedBestUptoRow.holds Tryz.pinned (OpenSpec.upto schedBestSpec)

/-- 'triremelaw14.SchedSafe', WHERE WHAT IT READS IS OF BULK AT MOST 1048576: true; the input reads as it did. -/
def schedSafeUptoRow : OpenClaim := { program := "ytdfadbpepmkicaagreat", sum := "f2895cc0c960cc8739c5d635428a527da09d42c6096329df36ddd82c1d68d672", func := "trireme/triremelaw14.SchedSafe", spec := "schedSafe", unfollowed := true, recurses := true, apart := false, narrowed := true }
def SchedSafeUptoSaid : Prop := schedSafeUptoRow.holds Tryz.pinned (OpenSpec.upto schedSafeSpec)

/-- 'triremelaw14.SchedCount', WHERE WHAT IT READS IS OF BULK AT MOST 1048576: true; the input reads as it did. -/
def schedCountUptoRow : OpenClaim := { program := "ytdfadbpepmkicaagreat", sum := "f2895cc0c960cc8739c5d635428a527da09d42c6096329df36ddd82c1d68d672", func := "trireme/triremelaw14.SchedCount", spec := "schedCount", unfollowed := true, recurses := true, apart := false, narrowed := true }
def SchedCountUptoSaid : Prop := schedCountUptoRow.holds Tryz.pinned (OpenSpec.upto schedCountSpec)

end Rows
end Go.Proofs.YtdfadbpepmkicaaGreat
