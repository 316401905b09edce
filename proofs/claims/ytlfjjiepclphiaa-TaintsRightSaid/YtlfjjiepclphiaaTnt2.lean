/-
  The contract of triremeref06.Bears.
-/
import Derived.Test.YtlfjjiepclphiaaTnt1
namespace Go.Proofs.Ytlfjjiepclphiaa
open Go.RowKit
set_option linter.unusedVariables false

set_option maxRecDepth 100000 in
set_option maxHeartbeats 1000000 in
theorem refbears_any (t : Tol) (x : Tnt) (w : World) :
    Calls Try.prog 19 #[.agg #[.string t.key, .string t.val, .bool t.any, .int .i64 t.eff], .agg #[.string x.key, .string x.val, .int .i64 x.eff]] w fun e w' => e = .returned (.bool (bearsB t x)) ∧ Below w.heap.size w w' := by
  obtain ⟨tk, tv, ta, te⟩ := t
  obtain ⟨xk, xv, xe⟩ := x
  have e1 := strB_list tk xk
  have e2 := strB_list tv xv
  by_cases g1 : te = 0 ∨ te = xe
  · by_cases g2 : tk = emp ∨ tk = xk
    · by_cases g3 : ta = true ∨ tv = xv
      · have Hr := Lib.hid (show bearsB ⟨tk, tv, ta, te⟩ ⟨xk, xv, xe⟩ = true from decide_eq_true ⟨g1, g2, g3⟩)
        (by_cases h1 : te = 0) <;> (by_cases h2 : te = xe) <;> (by_cases h3 : tk = emp) <;> (by_cases h4 : tk = xk) <;> (by_cases h5 : tv = xv) <;> cases ta <;> (first | (exfalso; simp_all; done) | skip)
        all_goals
          first | (have k1 : (te == 0) = true := by rw [h1]; rfl) | (have k1 : (te == 0) = false := by simpa using h1)
          first | (have k2 : (te == xe) = true := by rw [h2]; simp) | (have k2 : (te == xe) = false := by simpa using h2)
          first | (have k4 : (tk.toList == xk.toList) = true := by rw [h4]; simp) | (have k4 : (tk.toList == xk.toList) = false := by rw [e1]; exact decide_eq_false h4)
          first | (have k5 : (tv.toList == xv.toList) = true := by rw [h5]; simp) | (have k5 : (tv.toList == xv.toList) = false := by rw [e2]; exact decide_eq_false h5)
          clear e1 e2
          first | (have hh := emp_yes h3; obtain ⟨q1, q2, q3⟩ := hh) | (have hh := emp_no h3; obtain ⟨q1, q2, q3⟩ := hh)
          (try clear g1); (try clear g2); (try clear g3)
          clear h1 h2 h3 h4 h5
          go_enter Try.func19, Try.ntmps19
          go_wp2
          go_ret
          exact ⟨by rw [Hr.out]; rfl, by (repeat' (first | with_reducible exact Below.refl _ _ | with_reducible assumption | with_reducible refine Below.drew ?_ | with_reducible refine below_drewN' ?_ _ | with_reducible refine Below.alloc ?_ ?_ _ | with_reducible refine Below.setCell ?_ ?_ _ | with_reducible refine below_step (by assumption) ?_ ?_ | omega | (simp; done) | (simp; omega)))⟩
      · have Hr := Lib.hid (show bearsB ⟨tk, tv, ta, te⟩ ⟨xk, xv, xe⟩ = false from decide_eq_false fun h => g3 h.2.2)
        (by_cases h1 : te = 0) <;> (by_cases h2 : te = xe) <;> (by_cases h3 : tk = emp) <;> (by_cases h4 : tk = xk) <;> (by_cases h5 : tv = xv) <;> cases ta <;> (first | (exfalso; simp_all; done) | skip)
        all_goals
          first | (have k1 : (te == 0) = true := by rw [h1]; rfl) | (have k1 : (te == 0) = false := by simpa using h1)
          first | (have k2 : (te == xe) = true := by rw [h2]; simp) | (have k2 : (te == xe) = false := by simpa using h2)
          first | (have k4 : (tk.toList == xk.toList) = true := by rw [h4]; simp) | (have k4 : (tk.toList == xk.toList) = false := by rw [e1]; exact decide_eq_false h4)
          first | (have k5 : (tv.toList == xv.toList) = true := by rw [h5]; simp) | (have k5 : (tv.toList == xv.toList) = false := by rw [e2]; exact decide_eq_false h5)
          clear e1 e2
          first | (have hh := emp_yes h3; obtain ⟨q1, q2, q3⟩ := hh) | (have hh := emp_no h3; obtain ⟨q1, q2, q3⟩ := hh)
          (try clear g1); (try clear g2); (try clear g3)
          clear h1 h2 h3 h4 h5
          go_enter Try.func19, Try.ntmps19
          go_wp2
          go_ret
          exact ⟨by rw [Hr.out]; rfl, by (repeat' (first | with_reducible exact Below.refl _ _ | with_reducible assumption | with_reducible refine Below.drew ?_ | with_reducible refine below_drewN' ?_ _ | with_reducible refine Below.alloc ?_ ?_ _ | with_reducible refine Below.setCell ?_ ?_ _ | with_reducible refine below_step (by assumption) ?_ ?_ | omega | (simp; done) | (simp; omega)))⟩
    · have Hr := Lib.hid (show bearsB ⟨tk, tv, ta, te⟩ ⟨xk, xv, xe⟩ = false from decide_eq_false fun h => g2 h.2.1)
      (by_cases h1 : te = 0) <;> (by_cases h2 : te = xe) <;> (by_cases h3 : tk = emp) <;> (by_cases h4 : tk = xk) <;> (by_cases h5 : tv = xv) <;> cases ta <;> (first | (exfalso; simp_all; done) | skip)
      all_goals
        first | (have k1 : (te == 0) = true := by rw [h1]; rfl) | (have k1 : (te == 0) = false := by simpa using h1)
        first | (have k2 : (te == xe) = true := by rw [h2]; simp) | (have k2 : (te == xe) = false := by simpa using h2)
        first | (have k4 : (tk.toList == xk.toList) = true := by rw [h4]; simp) | (have k4 : (tk.toList == xk.toList) = false := by rw [e1]; exact decide_eq_false h4)
        first | (have k5 : (tv.toList == xv.toList) = true := by rw [h5]; simp) | (have k5 : (tv.toList == xv.toList) = false := by rw [e2]; exact decide_eq_false h5)
        clear e1 e2
        first | (have hh := emp_yes h3; obtain ⟨q1, q2, q3⟩ := hh) | (have hh := emp_no h3; obtain ⟨q1, q2, q3⟩ := hh)
        (try clear g1); (try clear g2); (try clear g3)
        clear h1 h2 h3 h4 h5
        go_enter Try.func19, Try.ntmps19
        go_wp2
        go_ret
        exact ⟨by rw [Hr.out]; rfl, by (repeat' (first | with_reducible exact Below.refl _ _ | with_reducible assumption | with_reducible refine Below.drew ?_ | with_reducible refine below_drewN' ?_ _ | with_reducible refine Below.alloc ?_ ?_ _ | with_reducible refine Below.setCell ?_ ?_ _ | with_reducible refine below_step (by assumption) ?_ ?_ | omega | (simp; done) | (simp; omega)))⟩
  · have Hr := Lib.hid (show bearsB ⟨tk, tv, ta, te⟩ ⟨xk, xv, xe⟩ = false from decide_eq_false fun h => g1 h.1)
    (by_cases h1 : te = 0) <;> (by_cases h2 : te = xe) <;> (by_cases h3 : tk = emp) <;> (by_cases h4 : tk = xk) <;> (by_cases h5 : tv = xv) <;> cases ta <;> (first | (exfalso; simp_all; done) | skip)
    all_goals
      first | (have k1 : (te == 0) = true := by rw [h1]; rfl) | (have k1 : (te == 0) = false := by simpa using h1)
      first | (have k2 : (te == xe) = true := by rw [h2]; simp) | (have k2 : (te == xe) = false := by simpa using h2)
      first | (have k4 : (tk.toList == xk.toList) = true := by rw [h4]; simp) | (have k4 : (tk.toList == xk.toList) = false := by rw [e1]; exact decide_eq_false h4)
      first | (have k5 : (tv.toList == xv.toList) = true := by rw [h5]; simp) | (have k5 : (tv.toList == xv.toList) = false := by rw [e2]; exact decide_eq_false h5)
      clear e1 e2
      first | (have hh := emp_yes h3; obtain ⟨q1, q2, q3⟩ := hh) | (have hh := emp_no h3; obtain ⟨q1, q2, q3⟩ := hh)
      (try clear g1); (try clear g2); (try clear g3)
      clear h1 h2 h3 h4 h5
      go_enter Try.func19, Try.ntmps19
      go_wp2
      go_ret
      exact ⟨by rw [Hr.out]; rfl, by (repeat' (first | with_reducible exact Below.refl _ _ | with_reducible assumption | with_reducible refine Below.drew ?_ | with_reducible refine below_drewN' ?_ _ | with_reducible refine Below.alloc ?_ ?_ _ | with_reducible refine Below.setCell ?_ ?_ _ | with_reducible refine below_step (by assumption) ?_ ?_ | omega | (simp; done) | (simp; omega)))⟩
end Go.Proofs.Ytlfjjiepclphiaa
