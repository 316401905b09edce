/-
  No cell of these rows narrows 'for every input' (looked for: loops, veiled, ifaces, maps, wideKeys, modest, calm, conditions, laid).
  DERIVED. THE GIVEN ROWS OF THIS SEAT. 7 by the template 'for every input the law returns true; each argument reads behind the call as it read before'; 0 by the template 'total and deterministic' (their statements: YtfaeebbanphbgaaTotals.lean).
  GIVEN WITH THE SEED: the statements are not yours to turn. If you find one false, say at which input.
  Laid BY PROGRAM, IN A SANDBOX (cutbox-rows.mjs): the forced cells as the released guide's own fill.sh prints them over the translation f2722cbf31d76b1a… (all of the seat's roots in one cut). By AI agents, Wed Nov 11 2026. No macro, syntax, notation, axiom, sorry.
-/
import Derived.Test.YtfaeebbanphbgaaChecked
import GoSem.Claim
import GoSem.ClaimJoined
import GoSem.ClaimMapViews
import Derived.JoinedTies
import Derived.KernelRfl
namespace Go.Proofs.Ytfaeebbanphbgaa
/- THE CELL 'sum', in the pinned program and in every row, IS THE sha256 OF THE DUMP (.gsa) THAT YtfaeebbanphbgaaProg.lean LOADS. Nothing in Lean hashes anything: it is a label: what it is worth is what the hold of that sum in a sandbox is worth. -/
noncomputable def Try.pinned : Pinned := { name := "ytfaeebbanphbgaa", sum := "f2722cbf31d76b1a0b5f8789afe4899a67416265f3f543dc9f76bf3a3e035c72", checked := Try.checked }
namespace Rows
def none {H : Type} : Left H := { results := [], args := [] }

/-- 'triremelaw04.ResSums': WHATEVER THE INPUT: true; the input reads as it did. -/
def resSumsSpec : ChangeSpec := { name := "resSums", fn := fun _ => fun
  | [d1, d2, d3] => { results := [.lit (.bool true)], args := [d1, d2, d3] }
  | _ => none }
def resSumsRow : OpenClaim := { program := "ytfaeebbanphbgaa", sum := "f2722cbf31d76b1a0b5f8789afe4899a67416265f3f543dc9f76bf3a3e035c72", func := "trireme/triremelaw04.ResSums", spec := "resSums", apart := false }
def ResSumsSaid : Prop := resSumsRow.holds Try.pinned (OpenSpec.ofChange resSumsSpec)

/-- ITS FALSE NEIGHBOUR: 'it returns false'. Refute it at one input. -/
def resSumsWrong : ChangeSpec := { name := "resSums", fn := fun _ => fun
  | [d1, d2, d3] => { results := [.lit (.bool false)], args := [d1, d2, d3] }
  | _ => none }
def ResSumsWrongFalsely : Prop := resSumsRow.holds Try.pinned (OpenSpec.ofChange resSumsWrong)

/-- 'triremelaw04.ResFits': WHATEVER THE INPUT: true; the input reads as it did. -/
def resFitsSpec : ChangeSpec := { name := "resFits", fn := fun _ => fun
  | [d1, d2] => { results := [.lit (.bool true)], args := [d1, d2] }
  | _ => none }
def resFitsRow : OpenClaim := { program := "ytfaeebbanphbgaa", sum := "f2722cbf31d76b1a0b5f8789afe4899a67416265f3f543dc9f76bf3a3e035c72", func := "trireme/triremelaw04.ResFits", spec := "resFits", apart := false }
def ResFitsSaid : Prop := resFitsRow.holds Try.pinned (OpenSpec.ofChange resFitsSpec)

/-- ITS FALSE NEIGHBOUR: 'it returns false'. Refute it at one input. -/
def resFitsWrong : ChangeSpec := { name := "resFits", fn := fun _ => fun
  | [d1, d2] => { results := [.lit (.bool false)], args := [d1, d2] }
  | _ => none }
def ResFitsWrongFalsely : Prop := resFitsRow.holds Try.pinned (OpenSpec.ofChange resFitsWrong)

/-- 'triremelaw04.ResBack': WHATEVER THE INPUT: true; the input reads as it did. -/
def resBackSpec : ChangeSpec := { name := "resBack", fn := fun _ => fun
  | [d1, d2] => { results := [.lit (.bool true)], args := [d1, d2] }
  | _ => none }
def resBackRow : OpenClaim := { program := "ytfaeebbanphbgaa", sum := "f2722cbf31d76b1a0b5f8789afe4899a67416265f3f543dc9f76bf3a3e035c72", func := "trireme/triremelaw04.ResBack", spec := "resBack", apart := false }
def ResBackSaid : Prop := resBackRow.holds Try.pinned (OpenSpec.ofChange resBackSpec)

/-- ITS FALSE NEIGHBOUR: 'it returns false'. Refute it at one input. -/
def resBackWrong : ChangeSpec := { name := "resBack", fn := fun _ => fun
  | [d1, d2] => { results := [.lit (.bool false)], args := [d1, d2] }
  | _ => none }
def ResBackWrongFalsely : Prop := resBackRow.holds Try.pinned (OpenSpec.ofChange resBackWrong)

/-- 'triremelaw04.ResTimes': WHATEVER THE INPUT: true; the input reads as it did. -/
def resTimesSpec : ChangeSpec := { name := "resTimes", fn := fun _ => fun
  | [d1, d2] => { results := [.lit (.bool true)], args := [d1, d2] }
  | _ => none }
def resTimesRow : OpenClaim := { program := "ytfaeebbanphbgaa", sum := "f2722cbf31d76b1a0b5f8789afe4899a67416265f3f543dc9f76bf3a3e035c72", func := "trireme/triremelaw04.ResTimes", spec := "resTimes", apart := false }
def ResTimesSaid : Prop := resTimesRow.holds Try.pinned (OpenSpec.ofChange resTimesSpec)

/-- ITS FALSE NEIGHBOUR: 'it returns false'. Refute it at one input. -/
def resTimesWrong : ChangeSpec := { name := "resTimes", fn := fun _ => fun
  | [d1, d2] => { results := [.lit (.bool false)], args := [d1, d2] }
  | _ => none }
def ResTimesWrongFalsely : Prop := resTimesRow.holds Try.pinned (OpenSpec.ofChange resTimesWrong)

/-- 'triremelaw04.ResShare': WHATEVER THE INPUT: true; the input reads as it did. -/
def resShareSpec : ChangeSpec := { name := "resShare", fn := fun _ => fun
  | [d1, d2, d3] => { results := [.lit (.bool true)], args := [d1, d2, d3] }
  | _ => none }
def resShareRow : OpenClaim := { program := "ytfaeebbanphbgaa", sum := "f2722cbf31d76b1a0b5f8789afe4899a67416265f3f543dc9f76bf3a3e035c72", func := "trireme/triremelaw04.ResShare", spec := "resShare", apart := false }
def ResShareSaid : Prop := resShareRow.holds Try.pinned (OpenSpec.ofChange resShareSpec)

/-- ITS FALSE NEIGHBOUR: 'it returns false'. Refute it at one input. -/
def resShareWrong : ChangeSpec := { name := "resShare", fn := fun _ => fun
  | [d1, d2, d3] => { results := [.lit (.bool false)], args := [d1, d2, d3] }
  | _ => none }
def ResShareWrongFalsely : Prop := resShareRow.holds Try.pinned (OpenSpec.ofChange resShareWrong)

/-- 'triremelaw04.ResAssoc': WHATEVER THE INPUT: true; the input reads as it did. -/
def resAssocSpec : ChangeSpec := { name := "resAssoc", fn := fun _ => fun
  | [d1, d2, d3] => { results := [.lit (.bool true)], args := [d1, d2, d3] }
  | _ => none }
def resAssocRow : OpenClaim := { program := "ytfaeebbanphbgaa", sum := "f2722cbf31d76b1a0b5f8789afe4899a67416265f3f543dc9f76bf3a3e035c72", func := "trireme/triremelaw04.ResAssoc", spec := "resAssoc", apart := false }
def ResAssocSaid : Prop := resAssocRow.holds Try.pinned (OpenSpec.ofChange resAssocSpec)

/-- ITS FALSE NEIGHBOUR: 'it returns false'. Refute it at one input. -/
def resAssocWrong : ChangeSpec := { name := "resAssoc", fn := fun _ => fun
  | [d1, d2, d3] => { results := [.lit (.bool false)], args := [d1, d2, d3] }
  | _ => none }
def ResAssocWrongFalsely : Prop := resAssocRow.holds Try.pinned (OpenSpec.ofChange resAssocWrong)

/-- 'triremelaw04.ResOrder': WHATEVER THE INPUT: true; the input reads as it did. -/
def resOrderSpec : ChangeSpec := { name := "resOrder", fn := fun _ => fun
  | [d1, d2, d3] => { results := [.lit (.bool true)], args := [d1, d2, d3] }
  | _ => none }
def resOrderRow : OpenClaim := { program := "ytfaeebbanphbgaa", sum := "f2722cbf31d76b1a0b5f8789afe4899a67416265f3f543dc9f76bf3a3e035c72", func := "trireme/triremelaw04.ResOrder", spec := "resOrder", apart := false }
def ResOrderSaid : Prop := resOrderRow.holds Try.pinned (OpenSpec.ofChange resOrderSpec)

/-- ITS FALSE NEIGHBOUR: 'it returns false'. Refute it at one input. -/
def resOrderWrong : ChangeSpec := { name := "resOrder", fn := fun _ => fun
  | [d1, d2, d3] => { results := [.lit (.bool false)], args := [d1, d2, d3] }
  | _ => none }
def ResOrderWrongFalsely : Prop := resOrderRow.holds Try.pinned (OpenSpec.ofChange resOrderWrong)

/- THE SECOND FORM. 'bulk': how many values and letters a reading holds, each counted each time it is reached (what is shared counts as often as it is met; a slice's spare places count too). A statement '..UptoSaid' is the law's where the arguments, and the package variables that the reading takes, are together of bulk at most 1048576: NARROWER than '..Said'. Prove '..Said' where nothing that the law and all that it calls make is longer than what came in: it says more and counts as full. Else prove '..UptoSaid'. A law counts once. -/
mutual
def uptoBulk {H : Type} : DataW H → Nat
  | .lit (.string bytes) => bytes.length + 1
  | .lit _ => 1
  | .nil => 1
  | .ptr d => uptoBulk d + 1
  | .slice elems spare => uptoBulkAll elems + uptoBulkAll spare + 1
  | .agg parts => uptoBulkAll parts + 1
  | .iface _ d => uptoBulk d + 1
  | .map entries => uptoBulkEntries entries + 1
  | .held _ => 1
def uptoBulkAll {H : Type} : List (DataW H) → Nat
  | [] => 0
  | d :: r => uptoBulk d + uptoBulkAll r
def uptoBulkEntries {H : Type} : List (Lit × DataW H) → Nat
  | [] => 0
  | x :: r => uptoBulkEntry x + uptoBulkEntries r
def uptoBulkEntry {H : Type} : Lit × DataW H → Nat
  | (.string bytes, d) => bytes.length + uptoBulk d + 1
  | (_, d) => uptoBulk d + 1
 end
def uptoSmall : (H : Type) → List (DataW H) → Bool := fun _ ds => decide (uptoBulkAll ds ≤ 1048576)
def OpenSpec.upto (s : _root_.Go.ChangeSpec) : _root_.Go.OpenSpec := { _root_.Go.OpenSpec.ofChange s with cond := some uptoSmall }

/-- 'triremelaw04.ResSums', WHERE WHAT IT READS IS OF BULK AT MOST 1048576: true; the input reads as it did. -/
def resSumsUptoRow : OpenClaim := { program := "ytfaeebbanphbgaa", sum := "f2722cbf31d76b1a0b5f8789afe4899a67416265f3f543dc9f76bf3a3e035c72", func := "trireme/triremelaw04.ResSums", spec := "resSums", apart := false, narrowed := true }
def ResSumsUptoSaid : Prop := resSumsUptoRow.holds Try.pinned (OpenSpec.upto resSumsSpec)

/-- 'triremelaw04.ResFits', WHERE WHAT IT READS IS OF BULK AT MOST 1048576: true; the input reads as it did. -/
def resFitsUptoRow : OpenClaim := { program := "ytfaeebbanphbgaa", sum := "f2722cbf31d76b1a0b5f8789afe4899a67416265f3f543dc9f76bf3a3e035c72", func := "trireme/triremelaw04.ResFits", spec := "resFits", apart := false, narrowed := true }
def ResFitsUptoSaid : Prop := resFitsUptoRow.holds Try.pinned (OpenSpec.upto resFitsSpec)

/-- 'triremelaw04.ResBack', WHERE WHAT IT READS IS OF BULK AT MOST 1048576: true; the input reads as it did. -/
def resBackUptoRow : OpenClaim := { program := "ytfaeebbanphbgaa", sum := "f2722cbf31d76b1a0b5f8789afe4899a67416265f3f543dc9f76bf3a3e035c72", func := "trireme/triremelaw04.ResBack", spec := "resBack", apart := false, narrowed := true }
def ResBackUptoSaid : Prop := resBackUptoRow.holds Try.pinned (OpenSpec.upto resBackSpec)

/-- 'triremelaw04.ResTimes', WHERE WHAT IT READS IS OF BULK AT MOST 1048576: true; the input reads as it did. -/
def resTimesUptoRow : OpenClaim := { program := "ytfaeebbanphbgaa", sum := "f2722cbf31d76b1a0b5f8789afe4899a67416265f3f543dc9f76bf3a3e035c72", func := "trireme/triremelaw04.ResTimes", spec := "resTimes", apart := false, narrowed := true }
def ResTimesUptoSaid : Prop := resTimesUptoRow.holds Try.pinned (OpenSpec.upto resTimesSpec)

/-- 'triremelaw04.ResShare', WHERE WHAT IT READS IS OF BULK AT MOST 1048576: true; the input reads as it did. -/
def resShareUptoRow : OpenClaim := { program := "ytfaeebbanphbgaa", sum := "f2722cbf31d76b1a0b5f8789afe4899a67416265f3f543dc9f76bf3a3e035c72", func := "trireme/triremelaw04.ResShare", spec := "resShare", apart := false, narrowed := true }
def ResShareUptoSaid : Prop := resShareUptoRow.holds Try.pinned (OpenSpec.upto resShareSpec)

/-- 'triremelaw04.ResAssoc', WHERE WHAT IT READS IS OF BULK AT MOST 1048576: true; the input reads as it did. -/
def resAssocUptoRow : OpenClaim := { program := "ytfaeebbanphbgaa", sum := "f2722cbf31d76b1a0b5f8789afe4899a67416265f3f543dc9f76bf3a3e035c72", func := "trireme/triremelaw04.ResAssoc", spec := "resAssoc", apart := false, narrowed := true }
def ResAssocUptoSaid : Prop := resAssocUptoRow.holds Try.pinned (OpenSpec.upto resAssocSpec)

/-- 'triremelaw04.ResOrder', WHERE WHAT IT READS IS OF BULK AT MOST 1048576: true; the input reads as it did. -/
def resOrderUptoRow : OpenClaim := { program := "ytfaeebbanphbgaa", sum := "f2722cbf31d76b1a0b5f8789afe4899a67416265f3f543dc9f76bf3a3e035c72", func := "trireme/triremelaw04.ResOrder", spec := "resOrder", apart := false, narrowed := true }
def ResOrderUptoSaid : Prop := resOrderUptoRow.holds Try.pinned (OpenSpec.upto resOrderSpec)

end Rows
end Go.Proofs.Ytfaeebbanphbgaa
