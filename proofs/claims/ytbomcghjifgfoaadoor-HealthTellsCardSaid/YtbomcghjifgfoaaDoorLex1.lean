/-
  The contracts of lex.inWords, strings.HasPrefix at U+FFFD, lex.valid.
-/
import Derived.Test.YtbomcghjifgfoaaDoorLexP
namespace Go.Proofs.YtbomcghjifgfoaaDoor
open Go.RowKit
set_option linter.unusedVariables false

set_option maxRecDepth 100000 in
theorem hasprefix0 (s : ByteArray) (w : World) :
    Calls Tryd.prog 66 #[.string s, .string ⟨#[239, 191, 189]⟩] w fun e w' => e = .returned (.bool (preF s)) ∧ Below w.heap.size w w' := by
  by_cases h1 : 3 ≤ s.size
  · have h2 : ((s.extract 0 3).toList == [239, 191, 189]) = preF s := by
      unfold preF
      have e : fffd.toList = [239, 191, 189] := by rw [ByteArray.toList_eq]; rfl
      rw [← e]
      by_cases h : s.extract 0 3 = fffd
      · rw [h]; simp [h1]
      · rw [decide_eq_false (fun x => h x.2), beq_eq_false_iff_ne]
        intro x
        rw [ByteArray.toList_eq, ByteArray.toList_eq] at x
        exact h (ByteArray.ext (Array.toList_inj.mp x))
    go_enter Tryd.func66, Tryd.ntmps66
    go_wp2
    go_ret
    exact ⟨rfl, by (repeat' (first | with_reducible exact Below.refl _ _ | with_reducible assumption | with_reducible refine Below.drew ?_ | with_reducible refine below_drewN' ?_ _ | with_reducible refine Below.alloc ?_ ?_ _ | with_reducible refine Below.setCell ?_ ?_ _ | with_reducible refine below_step (by assumption) ?_ ?_ | omega | (simp; done) | (simp; omega)))⟩
  · have h2 : preF s = false := decide_eq_false fun h => h1 h.1
    rw [h2]
    go_enter Tryd.func66, Tryd.ntmps66
    go_wp2
    go_ret
    exact ⟨rfl, by (repeat' (first | with_reducible exact Below.refl _ _ | with_reducible assumption | with_reducible refine Below.drew ?_ | with_reducible refine below_drewN' ?_ _ | with_reducible refine Below.alloc ?_ ?_ _ | with_reducible refine Below.setCell ?_ ?_ _ | with_reducible refine below_step (by assumption) ?_ ?_ | omega | (simp; done) | (simp; omega)))⟩

end Go.Proofs.YtbomcghjifgfoaaDoor
