/-
  The contract of labels.Set.
-/
import Derived.Test.YthbpnfpalcgfeaaLab3
import Derived.OwnWalk
namespace Go.Proofs.Ythbpnfpalcgfeaa
namespace Lb
set_option linter.unusedSimpArgs false
open Go.RowKit
set_option linter.unusedVariables false

theorem tail_zero (key : ByteArray) (l : List Lab) (k : Nat) : tailK key l k k = [] := by
  unfold tailK
  simp

end Lb
end Go.Proofs.Ythbpnfpalcgfeaa
