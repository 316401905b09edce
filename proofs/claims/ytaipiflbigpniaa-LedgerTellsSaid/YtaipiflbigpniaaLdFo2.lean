/-
  Means of 16 to 21 ticks, number by number.
-/
import Derived.Test.YtaipiflbigpniaaLdFo
namespace Go.Proofs.Ytaipiflbigpniaa
open Go.RowKit
set_option linter.unusedVariables false
set_option linter.unusedSimpArgs false

theorem ticks_2 : ((List.range 6).all fun d => tickB (d + 16)) = true := by kernel_rfl
end Go.Proofs.Ytaipiflbigpniaa
