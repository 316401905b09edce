/-
  Means of 1 to 15 ticks, number by number.
-/
import Derived.Test.YtaipiflbigpniaaLdFo
namespace Go.Proofs.Ytaipiflbigpniaa
open Go.RowKit
set_option linter.unusedVariables false
set_option linter.unusedSimpArgs false

theorem ticks_1 : ((List.range 15).all fun d => tickB (d + 1)) = true := by kernel_rfl
end Go.Proofs.Ytaipiflbigpniaa
