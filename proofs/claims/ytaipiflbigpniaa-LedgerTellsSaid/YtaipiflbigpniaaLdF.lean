/-
  The ledger: plain facts on costs and means.
-/
import Derived.Test.YtaipiflbigpniaaLd6
import Derived.Laws.FloatArith
import Derived.Laws.Cover2
namespace Go.Proofs.Ytaipiflbigpniaa
open Go.RowKit
set_option linter.unusedVariables false
set_option linter.unusedSimpArgs false

theorem costA_min {x : Ac} (h : okA x) : costA x = min (x.pr * x.su) 1125899906842624 := by
  obtain ⟨o1, o2, o3, o4⟩ := h
  unfold costA
  by_cases hp : 0 < x.pr
  · have ht : (1125899906842624 : Int).tdiv x.pr = 1125899906842624 / x.pr := Int.tdiv_eq_ediv_of_nonneg (by decide)
    by_cases hq : (1125899906842624 : Int).tdiv x.pr < x.su
    · rw [if_pos ⟨hp, hq⟩]
      rw [ht] at hq
      have h1 : 1125899906842624 < x.su * x.pr := Int.lt_mul_of_ediv_lt hp hq
      rw [Int.mul_comm] at h1
      omega
    · rw [if_neg (fun e => hq e.2)]
      rw [ht] at hq
      have h1 := Int.mul_le_of_le_ediv hp (show x.su ≤ 1125899906842624 / x.pr by omega)
      rw [Int.mul_comm] at h1
      omega
  · have : x.pr = 0 := by omega
    rw [if_neg (fun e => hp e.1), this, Int.zero_mul]
    decide
theorem mean_all : ∀ m : Fin 21, ∀ c : Fin 61, 0 < m.val → floatBits .quo .f64 (floatOfInt .f64 ((m.val * c.val : Nat) : Int)) (floatOfInt .f64 (m.val : Int)) = floatBits .quo .f64 (floatOfInt .f64 (c.val : Int)) (floatOfInt .f64 1) ∧ (floatBits .quo .f64 (floatOfInt .f64 (c.val : Int)) (floatOfInt .f64 1)).map (fun r => FloatKind.f64.format.order r r == some .eq) = some true := by decide +kernel
end Go.Proofs.Ytaipiflbigpniaa
