/-
  A peak is no less than a mean, as floats.
-/
import Derived.Test.YtaipiflbigpniaaLdFo1
import Derived.Test.YtaipiflbigpniaaLdFo2
import Derived.Test.YtaipiflbigpniaaLdFo3
import Derived.Test.YtaipiflbigpniaaLdFo4
namespace Go.Proofs.Ytaipiflbigpniaa
open Go.RowKit
set_option linter.unusedVariables false
set_option linter.unusedSimpArgs false

theorem tick_all {m : Nat} (h : 0 < m) (h2 : m ≤ 30) : tickB m = true := by
  have e1 := ticks_1
  have e2 := ticks_2
  have e3 := ticks_3
  have e4 := ticks_4
  rw [List.all_eq_true] at e1 e2 e3 e4
  by_cases a1 : m < 16
  · have := e1 (m - 1) (List.mem_range.2 (by omega))
    rwa [show m - 1 + 1 = m by omega] at this
  · by_cases a2 : m < 22
    · have := e2 (m - 16) (List.mem_range.2 (by omega))
      rwa [show m - 16 + 16 = m by omega] at this
    · by_cases a3 : m < 27
      · have := e3 (m - 22) (List.mem_range.2 (by omega))
        rwa [show m - 22 + 22 = m by omega] at this
      · have := e4 (m - 27) (List.mem_range.2 (by omega))
        rwa [show m - 27 + 27 = m by omega] at this
theorem mean_le {s m p : Nat} (hm : 0 < m) (hm2 : m ≤ 30) (hp : p ≤ 60) (hs : s ≤ m * p) : ∃ r, meanF s m = some r ∧ geB (floatOfInt .f64 (p : Int)) r = true ∧ FloatKind.f64.format.order r r = some .eq := by
  have h1 := tick_all hm hm2
  unfold tickB at h1
  rw [List.all_eq_true] at h1
  have hs2 : s < 60 * m + 1 := by
    have := Nat.mul_le_mul_left m hp
    rw [Nat.mul_comm 60 m]
    omega
  have h2 := h1 s (List.mem_range.2 hs2)
  (try dsimp only at h2)
  cases hr : meanF s m with
  | none => rw [hr] at h2; cases h2
  | some r =>
    rw [hr] at h2
    simp only [Bool.and_eq_true, decide_eq_true_eq] at h2
    obtain ⟨n1, n2⟩ := h2
    have hn := num_lt n1
    have hq : (s + (m - 1)) / m ≤ p := by
      refine Nat.le_of_lt_succ ((Nat.div_lt_iff_lt_mul hm).2 ?_)
      rw [Nat.succ_mul, Nat.mul_comm p m]
      omega
    have a1 := peak_num ⟨p, by omega⟩
    have a2 := peak_num ⟨(s + (m - 1)) / m, by omega⟩
    have a3 := peak_asc ⟨p, by omega⟩ ⟨(s + (m - 1)) / m, by omega⟩ hq
    have a4 := fl_ok ⟨p, by omega⟩
    (try dsimp only at a1 a2 a3 a4)
    rw [← a4]
    exact ⟨r, rfl, geB_trans a1 a2 hn a3 n2, num_self hn⟩
end Go.Proofs.Ytaipiflbigpniaa
