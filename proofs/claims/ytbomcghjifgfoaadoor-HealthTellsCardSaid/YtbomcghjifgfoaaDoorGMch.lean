/-
  The contracts of res.Right, spec.wordOrEmpty, spec.RightMachine, spec.RightGroup, triremeref07.RightGroup.
-/
import Derived.Test.YtbomcghjifgfoaaDoorGrpO
import Derived.Test.YtbomcghjifgfoaaDoorGLab
import Derived.Test.YtbomcghjifgfoaaDoorGTnt
namespace Go.Proofs.YtbomcghjifgfoaaDoor
open Go.RowKit
set_option linter.unusedVariables false

end Go.Proofs.YtbomcghjifgfoaaDoor
