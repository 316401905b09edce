/-
  The contract of lex.Word.
-/
import Derived.Test.YtbomcghjifgfoaaDoorLex1
namespace Go.Proofs.YtbomcghjifgfoaaDoor
open Go.RowKit
set_option linter.unusedVariables false

end Go.Proofs.YtbomcghjifgfoaaDoor
