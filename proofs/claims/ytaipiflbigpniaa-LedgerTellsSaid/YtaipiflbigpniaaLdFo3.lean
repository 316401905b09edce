/-
  Means of 22 to 26 ticks, number by number.
-/
import Derived.Test.YtaipiflbigpniaaLdFo
namespace Go.Proofs.Ytaipiflbigpniaa
open Go.RowKit
set_option linter.unusedVariables false
set_option linter.unusedSimpArgs false

theorem ticks_3 : ((List.range 5).all fun d => tickB (d + 22)) = true := by kernel_rfl
end Go.Proofs.Ytaipiflbigpniaa
