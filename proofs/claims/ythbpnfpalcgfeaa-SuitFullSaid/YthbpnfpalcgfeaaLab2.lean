/-
  The contracts of labels.Drop, triremeref05.Drop.
-/
import Derived.Test.YthbpnfpalcgfeaaMA
import Derived.Test.YthbpnfpalcgfeaaLab1
namespace Go.Proofs.Ythbpnfpalcgfeaa
namespace Lb
set_option linter.unusedSimpArgs false
open Go.RowKit
set_option linter.unusedVariables false

theorem filt_yes {α : Type} {P : α → Bool} {xs : List α} {k : Nat} {x : α} (h : xs[k]? = some x) (hp : P x = true) : (xs.take (k + 1)).filter P = (xs.take k).filter P ++ [x] := by
  rw [take_at h, List.filter_append]; simp [hp]
theorem filt_no {α : Type} {P : α → Bool} {xs : List α} {k : Nat} {x : α} (h : xs[k]? = some x) (hp : P x = false) : (xs.take (k + 1)).filter P = (xs.take k).filter P := by
  rw [take_at h, List.filter_append]; simp [hp]
/-- Labels without one. -/
def otherB (key : ByteArray) (x : Lab) : Bool := !strB x.key key
def dropL (l : List Lab) (key : ByteArray) : List Lab := l.filter (otherB key)
theorem other_no {key : ByteArray} {x : Lab} (h : otherB key x = false) : (x.key.toList == key.toList) = true := by
  rw [strB_list]; unfold otherB at h; simpa using h
theorem other_yes {key : ByteArray} {x : Lab} (h : otherB key x = true) : (x.key.toList == key.toList) = false := by
  rw [strB_list]; unfold otherB at h; simpa using h

end Lb
end Go.Proofs.Ythbpnfpalcgfeaa
