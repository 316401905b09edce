/-
  Means of 27 to 30 ticks, number by number.
-/
import Derived.Test.YtaipiflbigpniaaLdFo
namespace Go.Proofs.Ytaipiflbigpniaa
open Go.RowKit
set_option linter.unusedVariables false
set_option linter.unusedSimpArgs false

theorem ticks_4 : ((List.range 4).all fun d => tickB (d + 27)) = true := by kernel_rfl
end Go.Proofs.Ytaipiflbigpniaa
