/-
  ResShare: the share of more is no less, of more that is there no greater; of all it is 1000, if there is any.
  For every three values of api.Res, without a condition.
-/
import Derived.Test.YtfaeebbanphbgaaHeld
import Derived.Test.YtfaeebbanphbgaaResLaw0
import Derived.Test.YtfaeebbanphbgaaRes9
namespace Go.Proofs.Ytfaeebbanphbgaa
open Go.ChangeShapes Go.WideShapes Go.ChangeAt Go.RowKit
set_option linter.unusedVariables false
namespace resShare

theorem part_bd (a b : Int) (ha : 0 ≤ a) : 0 ≤ partF a b ∧ partF a b ≤ 1000000 := by
  unfold partF
  by_cases h : 0 < b
  · rw [if_pos h]
    have := Int.ediv_nonneg (show 0 ≤ 1000 * a by omega) (show 0 ≤ b by omega)
    split <;> omega
  · rw [if_neg h]; split <;> omega

theorem part_mono (a c b : Int) (hc : 0 ≤ c) : partF a b ≤ partF (a + c) b := by
  unfold partF
  by_cases h : 0 < b
  · rw [if_pos h, if_pos h]
    have h1 : 1000 * a / b ≤ 1000 * (a + c) / b := Int.ediv_le_ediv h (by omega)
    split <;> split <;> omega
  · rw [if_neg h, if_neg h]; split <;> split <;> omega

theorem part_anti (a b c : Int) (ha : 0 ≤ a) (hb : 0 < b) (hc : 0 ≤ c) : partF a (b + c) ≤ partF a b := by
  unfold partF
  rw [if_pos hb, if_pos (show 0 < b + c by omega)]
  have h1 : 1000 * a / (b + c) ≤ 1000 * a / b := by
    rw [Int.le_ediv_iff_mul_le hb]
    have h2 := Int.ediv_mul_le (1000 * a) (show b + c ≠ 0 by omega)
    have h3 := Int.mul_nonneg (Int.ediv_nonneg (show 0 ≤ 1000 * a by omega) (show 0 ≤ b + c by omega)) hc
    rw [Int.mul_add] at h2
    omega
  split <;> split <;> omega

theorem part_self (b : Int) (hb : 0 ≤ b) : partF b b = if 0 < b then 1000 else 0 := by
  unfold partF
  by_cases h : 0 < b
  · rw [if_pos h, if_pos h, Int.mul_ediv_cancel _ (show b ≠ 0 by omega)]; decide
  · rw [if_neg h, if_neg h, if_neg h]
theorem share_eq (a0 a1 a2 a3 a4 b0 b1 b2 b3 b4 : Int) (ha : rtB a0 a1 a2 a3 a4 = true) (hb : rtB b0 b1 b2 b3 b4 = true) : shareF a0 a1 a2 a3 a4 b0 b1 b2 b3 b4 = max (partF a0 b0) (partF a1 b1) := if_pos ⟨ha, hb⟩
theorem addE_rt (a0 a1 a2 a3 a4 b0 b1 b2 b3 b4 : Int) (h : addE a0 a1 a2 a3 a4 b0 b1 b2 b3 b4 = 0) : rtB (a0 + b0) (a1 + b1) (a2 + b2) (a3 + b3) (a4 + b4) = true := by
  unfold addE at h
  split at h
  · rename_i h1
    split at h
    · have := (rtB_iff _ _ _ _ _).1 h1.1
      have := (rtB_iff _ _ _ _ _).1 h1.2
      exact (rtB_iff _ _ _ _ _).2 (by omega)
    · cases h
  · cases h
theorem share_mono (a0 a1 a2 a3 a4 b0 b1 b2 b3 b4 c0 c1 c2 c3 c4 : Int) (ha : rtB a0 a1 a2 a3 a4 = true) (hb : rtB b0 b1 b2 b3 b4 = true) (hc : rtB c0 c1 c2 c3 c4 = true) (h : addE a0 a1 a2 a3 a4 c0 c1 c2 c3 c4 = 0) :
    shareF a0 a1 a2 a3 a4 b0 b1 b2 b3 b4 ≤ shareF (a0 + c0) (a1 + c1) (a2 + c2) (a3 + c3) (a4 + c4) b0 b1 b2 b3 b4 := by
  rw [share_eq _ _ _ _ _ _ _ _ _ _ ha hb, share_eq _ _ _ _ _ _ _ _ _ _ (addE_rt _ _ _ _ _ _ _ _ _ _ h) hb]
  have := (rtB_iff _ _ _ _ _).1 hc
  have := part_mono a0 c0 b0 (by omega)
  have := part_mono a1 c1 b1 (by omega)
  omega
theorem share_anti (a0 a1 a2 a3 a4 b0 b1 b2 b3 b4 c0 c1 c2 c3 c4 : Int) (ha : rtB a0 a1 a2 a3 a4 = true) (hb : rtB b0 b1 b2 b3 b4 = true) (hc : rtB c0 c1 c2 c3 c4 = true) (h : addE b0 b1 b2 b3 b4 c0 c1 c2 c3 c4 = 0) (h0 : 0 < b0) (h1 : 0 < b1) :
    shareF a0 a1 a2 a3 a4 (b0 + c0) (b1 + c1) (b2 + c2) (b3 + c3) (b4 + c4) ≤ shareF a0 a1 a2 a3 a4 b0 b1 b2 b3 b4 := by
  rw [share_eq _ _ _ _ _ _ _ _ _ _ ha hb, share_eq _ _ _ _ _ _ _ _ _ _ ha (addE_rt _ _ _ _ _ _ _ _ _ _ h)]
  have := (rtB_iff _ _ _ _ _).1 hc
  have := (rtB_iff _ _ _ _ _).1 ha
  have := part_anti a0 b0 c0 (by omega) h0 (by omega)
  have := part_anti a1 b1 c1 (by omega) h1 (by omega)
  omega
theorem share_bd (a0 a1 a2 a3 a4 b0 b1 b2 b3 b4 : Int) (ha : rtB a0 a1 a2 a3 a4 = true) (hb : rtB b0 b1 b2 b3 b4 = true) : 0 ≤ shareF a0 a1 a2 a3 a4 b0 b1 b2 b3 b4 ∧ shareF a0 a1 a2 a3 a4 b0 b1 b2 b3 b4 ≤ 1000000 := by
  rw [share_eq _ _ _ _ _ _ _ _ _ _ ha hb]
  have := (rtB_iff _ _ _ _ _).1 ha
  have := part_bd a0 b0 (by omega)
  have := part_bd a1 b1 (by omega)
  omega
theorem share_self (b0 b1 b2 b3 b4 : Int) (hb : rtB b0 b1 b2 b3 b4 = true) : shareF b0 b1 b2 b3 b4 b0 b1 b2 b3 b4 = if 0 < b0 ∨ 0 < b1 then 1000 else 0 := by
  rw [share_eq _ _ _ _ _ _ _ _ _ _ hb hb]
  have := (rtB_iff _ _ _ _ _).1 hb
  rw [part_self b0 (by omega), part_self b1 (by omega)]
  split <;> split <;> split <;> omega

set_option maxRecDepth 100000 in
set_option maxHeartbeats 1000000 in
theorem walk_no (a0 a1 a2 a3 a4 b0 b1 b2 b3 b4 c0 c1 c2 c3 c4 : Int) (w : World) (h : rtB a0 a1 a2 a3 a4 = false ∨ rtB b0 b1 b2 b3 b4 = false ∨ rtB c0 c1 c2 c3 c4 = false) :
    Calls Try.prog 7 #[.agg #[.int .i64 a0, .int .i64 a1, .int .i64 a2, .int .i64 a3, .int .i64 a4], .agg #[.int .i64 b0, .int .i64 b1, .int .i64 b2, .int .i64 b3, .int .i64 b4], .agg #[.int .i64 c0, .int .i64 c1, .int .i64 c2, .int .i64 c3, .int .i64 c4]] w fun e w' => e = .returned (.bool true) ∧ Below w.heap.size w w' := by
  cases ha : rtB a0 a1 a2 a3 a4
  · clear h
    go_enter Try.func7, Try.ntmps7
    go_wp2_with (first | (go_at_call 16; refine (right_any _ _ _ _ _ _).mono ?_; rintro e w1 ⟨rfl, hb1⟩; obtain ⟨hc1, hf1⟩ := bcell hb1; have hz1 := hb1.size; (try simp at hz1); (try have hza : w.heap.size < w1.heap.size := by omega); (try have hzb : w.heap.size + 1 < w1.heap.size := by omega); (try have hzc : w.heap.size + 1 + 1 < w1.heap.size := by omega); (try have hzd : w.heap.size + 1 + 1 + 1 < w1.heap.size := by omega)) | (go_at_call 18; refine (known_any _).mono ?_; rintro e w1 ⟨rfl, hb1⟩; obtain ⟨hc1, hf1⟩ := bcell hb1; have hz1 := hb1.size; (try simp at hz1); (try have hza : w.heap.size < w1.heap.size := by omega); (try have hzb : w.heap.size + 1 < w1.heap.size := by omega); (try have hzc : w.heap.size + 1 + 1 < w1.heap.size := by omega); (try have hzd : w.heap.size + 1 + 1 + 1 < w1.heap.size := by omega)))
    go_ret
    exact ⟨rfl, by (repeat' (first | with_reducible exact Below.refl _ _ | with_reducible assumption | with_reducible refine Below.drew ?_ | with_reducible refine below_drewN' ?_ _ | with_reducible refine Below.alloc ?_ ?_ _ | with_reducible refine Below.setCell ?_ ?_ _ | with_reducible refine below_step (by assumption) ?_ ?_ | omega | (simp; done) | (simp; omega)))⟩
  cases hb : rtB b0 b1 b2 b3 b4
  · clear h
    go_enter Try.func7, Try.ntmps7
    go_wp2_with (first | (go_at_call 16; refine (right_any _ _ _ _ _ _).mono ?_; rintro e w1 ⟨rfl, hb1⟩; obtain ⟨hc1, hf1⟩ := bcell hb1; have hz1 := hb1.size; (try simp at hz1); (try have hza : w.heap.size < w1.heap.size := by omega); (try have hzb : w.heap.size + 1 < w1.heap.size := by omega); (try have hzc : w.heap.size + 1 + 1 < w1.heap.size := by omega); (try have hzd : w.heap.size + 1 + 1 + 1 < w1.heap.size := by omega)) | (go_at_call 18; refine (known_any _).mono ?_; rintro e w1 ⟨rfl, hb1⟩; obtain ⟨hc1, hf1⟩ := bcell hb1; have hz1 := hb1.size; (try simp at hz1); (try have hza : w.heap.size < w1.heap.size := by omega); (try have hzb : w.heap.size + 1 < w1.heap.size := by omega); (try have hzc : w.heap.size + 1 + 1 < w1.heap.size := by omega); (try have hzd : w.heap.size + 1 + 1 + 1 < w1.heap.size := by omega)))
    go_ret
    exact ⟨rfl, by (repeat' (first | with_reducible exact Below.refl _ _ | with_reducible assumption | with_reducible refine Below.drew ?_ | with_reducible refine below_drewN' ?_ _ | with_reducible refine Below.alloc ?_ ?_ _ | with_reducible refine Below.setCell ?_ ?_ _ | with_reducible refine below_step (by assumption) ?_ ?_ | omega | (simp; done) | (simp; omega)))⟩
  have hc : rtB c0 c1 c2 c3 c4 = false := by simpa [ha, hb] using h
  clear h
  go_enter Try.func7, Try.ntmps7
  go_wp2_with (first | (go_at_call 16; refine (right_any _ _ _ _ _ _).mono ?_; rintro e w1 ⟨rfl, hb1⟩; obtain ⟨hc1, hf1⟩ := bcell hb1; have hz1 := hb1.size; (try simp at hz1); (try have hza : w.heap.size < w1.heap.size := by omega); (try have hzb : w.heap.size + 1 < w1.heap.size := by omega); (try have hzc : w.heap.size + 1 + 1 < w1.heap.size := by omega); (try have hzd : w.heap.size + 1 + 1 + 1 < w1.heap.size := by omega)) | (go_at_call 18; refine (known_any _).mono ?_; rintro e w1 ⟨rfl, hb1⟩; obtain ⟨hc1, hf1⟩ := bcell hb1; have hz1 := hb1.size; (try simp at hz1); (try have hza : w.heap.size < w1.heap.size := by omega); (try have hzb : w.heap.size + 1 < w1.heap.size := by omega); (try have hzc : w.heap.size + 1 + 1 < w1.heap.size := by omega); (try have hzd : w.heap.size + 1 + 1 + 1 < w1.heap.size := by omega)))
  go_ret
  exact ⟨rfl, by (repeat' (first | with_reducible exact Below.refl _ _ | with_reducible assumption | with_reducible refine Below.drew ?_ | with_reducible refine below_drewN' ?_ _ | with_reducible refine Below.alloc ?_ ?_ _ | with_reducible refine Below.setCell ?_ ?_ _ | with_reducible refine below_step (by assumption) ?_ ?_ | omega | (simp; done) | (simp; omega)))⟩

set_option maxRecDepth 100000 in
set_option maxHeartbeats 2000000 in
theorem walk0000 (a0 a1 a2 a3 a4 b0 b1 b2 b3 b4 c0 c1 c2 c3 c4 : Int) (w : World) (ha : rtB a0 a1 a2 a3 a4 = true) (hb : rtB b0 b1 b2 b3 b4 = true) (hc : rtB c0 c1 c2 c3 c4 = true) (e : (addE a0 a1 a2 a3 a4 c0 c1 c2 c3 c4 == 0) = false) (f : (addE b0 b1 b2 b3 b4 c0 c1 c2 c3 c4 == 0) = false) (z0 : b0 = 0) (z1 : b1 = 0) :
    Calls Try.prog 7 #[.agg #[.int .i64 a0, .int .i64 a1, .int .i64 a2, .int .i64 a3, .int .i64 a4], .agg #[.int .i64 b0, .int .i64 b1, .int .i64 b2, .int .i64 b3, .int .i64 b4], .agg #[.int .i64 c0, .int .i64 c1, .int .i64 c2, .int .i64 c3, .int .i64 c4]] w fun e w' => e = .returned (.bool true) ∧ Below w.heap.size w w' := by
  have hs0 := sel_0
  obtain ⟨s1, s2⟩ := share_bd a0 a1 a2 a3 a4 b0 b1 b2 b3 b4 ha hb
  have s3 : shareF b0 b1 b2 b3 b4 b0 b1 b2 b3 b4 = 0 := by
    rw [share_self b0 b1 b2 b3 b4 hb]; exact if_neg (by omega)
  subst z0
  subst z1
  go_enter Try.func7, Try.ntmps7
  go_wp2_with fail
  (go_at_call 16; refine (right_any _ _ _ _ _ _).mono ?_; rintro e w1 ⟨rfl, hb1⟩)
  obtain ⟨hc1, hf1⟩ := bcell hb1
  have hz1 := hb1.size
  (try simp at hz1)
  have z1_0 : w.heap.size < w1.heap.size := (by omega); have y1_0 : w.heap.size ≤ w1.heap.size := (by omega); have z1_1 : w.heap.size + 1 < w1.heap.size := (by omega); have y1_1 : w.heap.size + 1 ≤ w1.heap.size := (by omega); have z1_2 : w.heap.size + 1 + 1 < w1.heap.size := (by omega); have y1_2 : w.heap.size + 1 + 1 ≤ w1.heap.size := (by omega)
  go_wp2_with fail
  (go_at_call 16; refine (right_any _ _ _ _ _ _).mono ?_; rintro e w2 ⟨rfl, hb2⟩)
  obtain ⟨hc2, hf2⟩ := bcell hb2
  have hz2 := hb2.size
  (try simp at hz2)
  have z2_0 : w.heap.size < w2.heap.size := (by omega); have y2_0 : w.heap.size ≤ w2.heap.size := (by omega); have z2_1 : w.heap.size + 1 < w2.heap.size := (by omega); have y2_1 : w.heap.size + 1 ≤ w2.heap.size := (by omega); have z2_2 : w.heap.size + 1 + 1 < w2.heap.size := (by omega); have y2_2 : w.heap.size + 1 + 1 ≤ w2.heap.size := (by omega)
  go_wp2_with fail
  (go_at_call 16; refine (right_any _ _ _ _ _ _).mono ?_; rintro e w3 ⟨rfl, hb3⟩)
  obtain ⟨hc3, hf3⟩ := bcell hb3
  have hz3 := hb3.size
  (try simp at hz3)
  have z3_0 : w.heap.size < w3.heap.size := (by omega); have y3_0 : w.heap.size ≤ w3.heap.size := (by omega); have z3_1 : w.heap.size + 1 < w3.heap.size := (by omega); have y3_1 : w.heap.size + 1 ≤ w3.heap.size := (by omega); have z3_2 : w.heap.size + 1 + 1 < w3.heap.size := (by omega); have y3_2 : w.heap.size + 1 + 1 ≤ w3.heap.size := (by omega)
  go_wp2_with fail
  (go_at_call 10; refine (add_any _ _ _ _ _ _ _ _ _ _ _).mono ?_; rintro e w4 ⟨rfl, hb4⟩)
  obtain ⟨hc4, hf4⟩ := bcell hb4
  have hz4 := hb4.size
  (try simp at hz4)
  have z4_0 : w.heap.size < w4.heap.size := (by omega); have y4_0 : w.heap.size ≤ w4.heap.size := (by omega); have z4_1 : w.heap.size + 1 < w4.heap.size := (by omega); have y4_1 : w.heap.size + 1 ≤ w4.heap.size := (by omega); have z4_2 : w.heap.size + 1 + 1 < w4.heap.size := (by omega); have y4_2 : w.heap.size + 1 + 1 ≤ w4.heap.size := (by omega)
  go_wp2_with fail
  (go_at_call 10; refine (add_any _ _ _ _ _ _ _ _ _ _ _).mono ?_; rintro e w5 ⟨rfl, hb5⟩)
  obtain ⟨hc5, hf5⟩ := bcell hb5
  have hz5 := hb5.size
  (try simp at hz5)
  have z5_0 : w.heap.size < w5.heap.size := (by omega); have y5_0 : w.heap.size ≤ w5.heap.size := (by omega); have z5_1 : w.heap.size + 1 < w5.heap.size := (by omega); have y5_1 : w.heap.size + 1 ≤ w5.heap.size := (by omega); have z5_2 : w.heap.size + 1 + 1 < w5.heap.size := (by omega); have y5_2 : w.heap.size + 1 + 1 ≤ w5.heap.size := (by omega); have z5_3 : w4.heap.size < w5.heap.size := (by omega); have y5_3 : w4.heap.size ≤ w5.heap.size := (by omega)
  go_wp2_with (first | (go_at_call 25; refine (share_any _ _ _ _ _ _ _ _ _ _ _).mono ?_; rintro e w9 ⟨rfl, hb9⟩; obtain ⟨hc9, hf9⟩ := bcell hb9; have hz9 := hb9.size; (try simp at hz9); have z9_0 : w.heap.size < w9.heap.size := (by omega); have y9_0 : w.heap.size ≤ w9.heap.size := (by omega); have z9_1 : w.heap.size + 1 < w9.heap.size := (by omega); have y9_1 : w.heap.size + 1 ≤ w9.heap.size := (by omega); have z9_2 : w.heap.size + 1 + 1 < w9.heap.size := (by omega); have y9_2 : w.heap.size + 1 + 1 ≤ w9.heap.size := (by omega); have z9_3 : w4.heap.size < w9.heap.size := (by omega); have y9_3 : w4.heap.size ≤ w9.heap.size := (by omega); have z9_4 : w5.heap.size < w9.heap.size := (by omega); have y9_4 : w5.heap.size ≤ w9.heap.size := (by omega)) | (go_at_call 18; refine (known_any _).mono ?_; rintro e w9 ⟨rfl, hb9⟩; obtain ⟨hc9, hf9⟩ := bcell hb9; have hz9 := hb9.size; (try simp at hz9); skip))
  go_ret
  exact ⟨rfl, by (repeat' (first | with_reducible exact Below.refl _ _ | with_reducible assumption | with_reducible refine Below.drew ?_ | with_reducible refine below_drewN' ?_ _ | with_reducible refine Below.alloc ?_ ?_ _ | with_reducible refine Below.setCell ?_ ?_ _ | with_reducible refine below_step (by assumption) ?_ ?_ | omega | (simp; done) | (simp; omega)))⟩

set_option maxRecDepth 100000 in
set_option maxHeartbeats 2000000 in
theorem walk0001 (a0 a1 a2 a3 a4 b0 b1 b2 b3 b4 c0 c1 c2 c3 c4 : Int) (w : World) (ha : rtB a0 a1 a2 a3 a4 = true) (hb : rtB b0 b1 b2 b3 b4 = true) (hc : rtB c0 c1 c2 c3 c4 = true) (e : (addE a0 a1 a2 a3 a4 c0 c1 c2 c3 c4 == 0) = false) (f : (addE b0 b1 b2 b3 b4 c0 c1 c2 c3 c4 == 0) = false) (z0 : b0 = 0) (z1 : 0 < b1) :
    Calls Try.prog 7 #[.agg #[.int .i64 a0, .int .i64 a1, .int .i64 a2, .int .i64 a3, .int .i64 a4], .agg #[.int .i64 b0, .int .i64 b1, .int .i64 b2, .int .i64 b3, .int .i64 b4], .agg #[.int .i64 c0, .int .i64 c1, .int .i64 c2, .int .i64 c3, .int .i64 c4]] w fun e w' => e = .returned (.bool true) ∧ Below w.heap.size w w' := by
  have hs0 := sel_0
  obtain ⟨s1, s2⟩ := share_bd a0 a1 a2 a3 a4 b0 b1 b2 b3 b4 ha hb
  have s3 : shareF b0 b1 b2 b3 b4 b0 b1 b2 b3 b4 = 1000 := by
    rw [share_self b0 b1 b2 b3 b4 hb]; exact if_pos (by omega)
  subst z0
  go_enter Try.func7, Try.ntmps7
  go_wp2_with fail
  (go_at_call 16; refine (right_any _ _ _ _ _ _).mono ?_; rintro e w1 ⟨rfl, hb1⟩)
  obtain ⟨hc1, hf1⟩ := bcell hb1
  have hz1 := hb1.size
  (try simp at hz1)
  have z1_0 : w.heap.size < w1.heap.size := (by omega); have y1_0 : w.heap.size ≤ w1.heap.size := (by omega); have z1_1 : w.heap.size + 1 < w1.heap.size := (by omega); have y1_1 : w.heap.size + 1 ≤ w1.heap.size := (by omega); have z1_2 : w.heap.size + 1 + 1 < w1.heap.size := (by omega); have y1_2 : w.heap.size + 1 + 1 ≤ w1.heap.size := (by omega)
  go_wp2_with fail
  (go_at_call 16; refine (right_any _ _ _ _ _ _).mono ?_; rintro e w2 ⟨rfl, hb2⟩)
  obtain ⟨hc2, hf2⟩ := bcell hb2
  have hz2 := hb2.size
  (try simp at hz2)
  have z2_0 : w.heap.size < w2.heap.size := (by omega); have y2_0 : w.heap.size ≤ w2.heap.size := (by omega); have z2_1 : w.heap.size + 1 < w2.heap.size := (by omega); have y2_1 : w.heap.size + 1 ≤ w2.heap.size := (by omega); have z2_2 : w.heap.size + 1 + 1 < w2.heap.size := (by omega); have y2_2 : w.heap.size + 1 + 1 ≤ w2.heap.size := (by omega)
  go_wp2_with fail
  (go_at_call 16; refine (right_any _ _ _ _ _ _).mono ?_; rintro e w3 ⟨rfl, hb3⟩)
  obtain ⟨hc3, hf3⟩ := bcell hb3
  have hz3 := hb3.size
  (try simp at hz3)
  have z3_0 : w.heap.size < w3.heap.size := (by omega); have y3_0 : w.heap.size ≤ w3.heap.size := (by omega); have z3_1 : w.heap.size + 1 < w3.heap.size := (by omega); have y3_1 : w.heap.size + 1 ≤ w3.heap.size := (by omega); have z3_2 : w.heap.size + 1 + 1 < w3.heap.size := (by omega); have y3_2 : w.heap.size + 1 + 1 ≤ w3.heap.size := (by omega)
  go_wp2_with fail
  (go_at_call 10; refine (add_any _ _ _ _ _ _ _ _ _ _ _).mono ?_; rintro e w4 ⟨rfl, hb4⟩)
  obtain ⟨hc4, hf4⟩ := bcell hb4
  have hz4 := hb4.size
  (try simp at hz4)
  have z4_0 : w.heap.size < w4.heap.size := (by omega); have y4_0 : w.heap.size ≤ w4.heap.size := (by omega); have z4_1 : w.heap.size + 1 < w4.heap.size := (by omega); have y4_1 : w.heap.size + 1 ≤ w4.heap.size := (by omega); have z4_2 : w.heap.size + 1 + 1 < w4.heap.size := (by omega); have y4_2 : w.heap.size + 1 + 1 ≤ w4.heap.size := (by omega)
  go_wp2_with fail
  (go_at_call 10; refine (add_any _ _ _ _ _ _ _ _ _ _ _).mono ?_; rintro e w5 ⟨rfl, hb5⟩)
  obtain ⟨hc5, hf5⟩ := bcell hb5
  have hz5 := hb5.size
  (try simp at hz5)
  have z5_0 : w.heap.size < w5.heap.size := (by omega); have y5_0 : w.heap.size ≤ w5.heap.size := (by omega); have z5_1 : w.heap.size + 1 < w5.heap.size := (by omega); have y5_1 : w.heap.size + 1 ≤ w5.heap.size := (by omega); have z5_2 : w.heap.size + 1 + 1 < w5.heap.size := (by omega); have y5_2 : w.heap.size + 1 + 1 ≤ w5.heap.size := (by omega); have z5_3 : w4.heap.size < w5.heap.size := (by omega); have y5_3 : w4.heap.size ≤ w5.heap.size := (by omega)
  go_wp2_with (first | (go_at_call 25; refine (share_any _ _ _ _ _ _ _ _ _ _ _).mono ?_; rintro e w9 ⟨rfl, hb9⟩; obtain ⟨hc9, hf9⟩ := bcell hb9; have hz9 := hb9.size; (try simp at hz9); have z9_0 : w.heap.size < w9.heap.size := (by omega); have y9_0 : w.heap.size ≤ w9.heap.size := (by omega); have z9_1 : w.heap.size + 1 < w9.heap.size := (by omega); have y9_1 : w.heap.size + 1 ≤ w9.heap.size := (by omega); have z9_2 : w.heap.size + 1 + 1 < w9.heap.size := (by omega); have y9_2 : w.heap.size + 1 + 1 ≤ w9.heap.size := (by omega); have z9_3 : w4.heap.size < w9.heap.size := (by omega); have y9_3 : w4.heap.size ≤ w9.heap.size := (by omega); have z9_4 : w5.heap.size < w9.heap.size := (by omega); have y9_4 : w5.heap.size ≤ w9.heap.size := (by omega)) | (go_at_call 18; refine (known_any _).mono ?_; rintro e w9 ⟨rfl, hb9⟩; obtain ⟨hc9, hf9⟩ := bcell hb9; have hz9 := hb9.size; (try simp at hz9); skip))
  go_ret
  exact ⟨rfl, by (repeat' (first | with_reducible exact Below.refl _ _ | with_reducible assumption | with_reducible refine Below.drew ?_ | with_reducible refine below_drewN' ?_ _ | with_reducible refine Below.alloc ?_ ?_ _ | with_reducible refine Below.setCell ?_ ?_ _ | with_reducible refine below_step (by assumption) ?_ ?_ | omega | (simp; done) | (simp; omega)))⟩

set_option maxRecDepth 100000 in
set_option maxHeartbeats 2000000 in
theorem walk0010 (a0 a1 a2 a3 a4 b0 b1 b2 b3 b4 c0 c1 c2 c3 c4 : Int) (w : World) (ha : rtB a0 a1 a2 a3 a4 = true) (hb : rtB b0 b1 b2 b3 b4 = true) (hc : rtB c0 c1 c2 c3 c4 = true) (e : (addE a0 a1 a2 a3 a4 c0 c1 c2 c3 c4 == 0) = false) (f : (addE b0 b1 b2 b3 b4 c0 c1 c2 c3 c4 == 0) = false) (z0 : 0 < b0) (z1 : b1 = 0) :
    Calls Try.prog 7 #[.agg #[.int .i64 a0, .int .i64 a1, .int .i64 a2, .int .i64 a3, .int .i64 a4], .agg #[.int .i64 b0, .int .i64 b1, .int .i64 b2, .int .i64 b3, .int .i64 b4], .agg #[.int .i64 c0, .int .i64 c1, .int .i64 c2, .int .i64 c3, .int .i64 c4]] w fun e w' => e = .returned (.bool true) ∧ Below w.heap.size w w' := by
  have hs0 := sel_0
  obtain ⟨s1, s2⟩ := share_bd a0 a1 a2 a3 a4 b0 b1 b2 b3 b4 ha hb
  have s3 : shareF b0 b1 b2 b3 b4 b0 b1 b2 b3 b4 = 1000 := by
    rw [share_self b0 b1 b2 b3 b4 hb]; exact if_pos (by omega)
  subst z1
  go_enter Try.func7, Try.ntmps7
  go_wp2_with fail
  (go_at_call 16; refine (right_any _ _ _ _ _ _).mono ?_; rintro e w1 ⟨rfl, hb1⟩)
  obtain ⟨hc1, hf1⟩ := bcell hb1
  have hz1 := hb1.size
  (try simp at hz1)
  have z1_0 : w.heap.size < w1.heap.size := (by omega); have y1_0 : w.heap.size ≤ w1.heap.size := (by omega); have z1_1 : w.heap.size + 1 < w1.heap.size := (by omega); have y1_1 : w.heap.size + 1 ≤ w1.heap.size := (by omega); have z1_2 : w.heap.size + 1 + 1 < w1.heap.size := (by omega); have y1_2 : w.heap.size + 1 + 1 ≤ w1.heap.size := (by omega)
  go_wp2_with fail
  (go_at_call 16; refine (right_any _ _ _ _ _ _).mono ?_; rintro e w2 ⟨rfl, hb2⟩)
  obtain ⟨hc2, hf2⟩ := bcell hb2
  have hz2 := hb2.size
  (try simp at hz2)
  have z2_0 : w.heap.size < w2.heap.size := (by omega); have y2_0 : w.heap.size ≤ w2.heap.size := (by omega); have z2_1 : w.heap.size + 1 < w2.heap.size := (by omega); have y2_1 : w.heap.size + 1 ≤ w2.heap.size := (by omega); have z2_2 : w.heap.size + 1 + 1 < w2.heap.size := (by omega); have y2_2 : w.heap.size + 1 + 1 ≤ w2.heap.size := (by omega)
  go_wp2_with fail
  (go_at_call 16; refine (right_any _ _ _ _ _ _).mono ?_; rintro e w3 ⟨rfl, hb3⟩)
  obtain ⟨hc3, hf3⟩ := bcell hb3
  have hz3 := hb3.size
  (try simp at hz3)
  have z3_0 : w.heap.size < w3.heap.size := (by omega); have y3_0 : w.heap.size ≤ w3.heap.size := (by omega); have z3_1 : w.heap.size + 1 < w3.heap.size := (by omega); have y3_1 : w.heap.size + 1 ≤ w3.heap.size := (by omega); have z3_2 : w.heap.size + 1 + 1 < w3.heap.size := (by omega); have y3_2 : w.heap.size + 1 + 1 ≤ w3.heap.size := (by omega)
  go_wp2_with fail
  (go_at_call 10; refine (add_any _ _ _ _ _ _ _ _ _ _ _).mono ?_; rintro e w4 ⟨rfl, hb4⟩)
  obtain ⟨hc4, hf4⟩ := bcell hb4
  have hz4 := hb4.size
  (try simp at hz4)
  have z4_0 : w.heap.size < w4.heap.size := (by omega); have y4_0 : w.heap.size ≤ w4.heap.size := (by omega); have z4_1 : w.heap.size + 1 < w4.heap.size := (by omega); have y4_1 : w.heap.size + 1 ≤ w4.heap.size := (by omega); have z4_2 : w.heap.size + 1 + 1 < w4.heap.size := (by omega); have y4_2 : w.heap.size + 1 + 1 ≤ w4.heap.size := (by omega)
  go_wp2_with fail
  (go_at_call 10; refine (add_any _ _ _ _ _ _ _ _ _ _ _).mono ?_; rintro e w5 ⟨rfl, hb5⟩)
  obtain ⟨hc5, hf5⟩ := bcell hb5
  have hz5 := hb5.size
  (try simp at hz5)
  have z5_0 : w.heap.size < w5.heap.size := (by omega); have y5_0 : w.heap.size ≤ w5.heap.size := (by omega); have z5_1 : w.heap.size + 1 < w5.heap.size := (by omega); have y5_1 : w.heap.size + 1 ≤ w5.heap.size := (by omega); have z5_2 : w.heap.size + 1 + 1 < w5.heap.size := (by omega); have y5_2 : w.heap.size + 1 + 1 ≤ w5.heap.size := (by omega); have z5_3 : w4.heap.size < w5.heap.size := (by omega); have y5_3 : w4.heap.size ≤ w5.heap.size := (by omega)
  go_wp2_with (first | (go_at_call 25; refine (share_any _ _ _ _ _ _ _ _ _ _ _).mono ?_; rintro e w9 ⟨rfl, hb9⟩; obtain ⟨hc9, hf9⟩ := bcell hb9; have hz9 := hb9.size; (try simp at hz9); have z9_0 : w.heap.size < w9.heap.size := (by omega); have y9_0 : w.heap.size ≤ w9.heap.size := (by omega); have z9_1 : w.heap.size + 1 < w9.heap.size := (by omega); have y9_1 : w.heap.size + 1 ≤ w9.heap.size := (by omega); have z9_2 : w.heap.size + 1 + 1 < w9.heap.size := (by omega); have y9_2 : w.heap.size + 1 + 1 ≤ w9.heap.size := (by omega); have z9_3 : w4.heap.size < w9.heap.size := (by omega); have y9_3 : w4.heap.size ≤ w9.heap.size := (by omega); have z9_4 : w5.heap.size < w9.heap.size := (by omega); have y9_4 : w5.heap.size ≤ w9.heap.size := (by omega)) | (go_at_call 18; refine (known_any _).mono ?_; rintro e w9 ⟨rfl, hb9⟩; obtain ⟨hc9, hf9⟩ := bcell hb9; have hz9 := hb9.size; (try simp at hz9); skip))
  go_ret
  exact ⟨rfl, by (repeat' (first | with_reducible exact Below.refl _ _ | with_reducible assumption | with_reducible refine Below.drew ?_ | with_reducible refine below_drewN' ?_ _ | with_reducible refine Below.alloc ?_ ?_ _ | with_reducible refine Below.setCell ?_ ?_ _ | with_reducible refine below_step (by assumption) ?_ ?_ | omega | (simp; done) | (simp; omega)))⟩

set_option maxRecDepth 100000 in
set_option maxHeartbeats 2000000 in
theorem walk0011 (a0 a1 a2 a3 a4 b0 b1 b2 b3 b4 c0 c1 c2 c3 c4 : Int) (w : World) (ha : rtB a0 a1 a2 a3 a4 = true) (hb : rtB b0 b1 b2 b3 b4 = true) (hc : rtB c0 c1 c2 c3 c4 = true) (e : (addE a0 a1 a2 a3 a4 c0 c1 c2 c3 c4 == 0) = false) (f : (addE b0 b1 b2 b3 b4 c0 c1 c2 c3 c4 == 0) = false) (z0 : 0 < b0) (z1 : 0 < b1) :
    Calls Try.prog 7 #[.agg #[.int .i64 a0, .int .i64 a1, .int .i64 a2, .int .i64 a3, .int .i64 a4], .agg #[.int .i64 b0, .int .i64 b1, .int .i64 b2, .int .i64 b3, .int .i64 b4], .agg #[.int .i64 c0, .int .i64 c1, .int .i64 c2, .int .i64 c3, .int .i64 c4]] w fun e w' => e = .returned (.bool true) ∧ Below w.heap.size w w' := by
  have hs0 := sel_0
  obtain ⟨s1, s2⟩ := share_bd a0 a1 a2 a3 a4 b0 b1 b2 b3 b4 ha hb
  have s3 : shareF b0 b1 b2 b3 b4 b0 b1 b2 b3 b4 = 1000 := by
    rw [share_self b0 b1 b2 b3 b4 hb]; exact if_pos (by omega)
  go_enter Try.func7, Try.ntmps7
  go_wp2_with fail
  (go_at_call 16; refine (right_any _ _ _ _ _ _).mono ?_; rintro e w1 ⟨rfl, hb1⟩)
  obtain ⟨hc1, hf1⟩ := bcell hb1
  have hz1 := hb1.size
  (try simp at hz1)
  have z1_0 : w.heap.size < w1.heap.size := (by omega); have y1_0 : w.heap.size ≤ w1.heap.size := (by omega); have z1_1 : w.heap.size + 1 < w1.heap.size := (by omega); have y1_1 : w.heap.size + 1 ≤ w1.heap.size := (by omega); have z1_2 : w.heap.size + 1 + 1 < w1.heap.size := (by omega); have y1_2 : w.heap.size + 1 + 1 ≤ w1.heap.size := (by omega)
  go_wp2_with fail
  (go_at_call 16; refine (right_any _ _ _ _ _ _).mono ?_; rintro e w2 ⟨rfl, hb2⟩)
  obtain ⟨hc2, hf2⟩ := bcell hb2
  have hz2 := hb2.size
  (try simp at hz2)
  have z2_0 : w.heap.size < w2.heap.size := (by omega); have y2_0 : w.heap.size ≤ w2.heap.size := (by omega); have z2_1 : w.heap.size + 1 < w2.heap.size := (by omega); have y2_1 : w.heap.size + 1 ≤ w2.heap.size := (by omega); have z2_2 : w.heap.size + 1 + 1 < w2.heap.size := (by omega); have y2_2 : w.heap.size + 1 + 1 ≤ w2.heap.size := (by omega)
  go_wp2_with fail
  (go_at_call 16; refine (right_any _ _ _ _ _ _).mono ?_; rintro e w3 ⟨rfl, hb3⟩)
  obtain ⟨hc3, hf3⟩ := bcell hb3
  have hz3 := hb3.size
  (try simp at hz3)
  have z3_0 : w.heap.size < w3.heap.size := (by omega); have y3_0 : w.heap.size ≤ w3.heap.size := (by omega); have z3_1 : w.heap.size + 1 < w3.heap.size := (by omega); have y3_1 : w.heap.size + 1 ≤ w3.heap.size := (by omega); have z3_2 : w.heap.size + 1 + 1 < w3.heap.size := (by omega); have y3_2 : w.heap.size + 1 + 1 ≤ w3.heap.size := (by omega)
  go_wp2_with fail
  (go_at_call 10; refine (add_any _ _ _ _ _ _ _ _ _ _ _).mono ?_; rintro e w4 ⟨rfl, hb4⟩)
  obtain ⟨hc4, hf4⟩ := bcell hb4
  have hz4 := hb4.size
  (try simp at hz4)
  have z4_0 : w.heap.size < w4.heap.size := (by omega); have y4_0 : w.heap.size ≤ w4.heap.size := (by omega); have z4_1 : w.heap.size + 1 < w4.heap.size := (by omega); have y4_1 : w.heap.size + 1 ≤ w4.heap.size := (by omega); have z4_2 : w.heap.size + 1 + 1 < w4.heap.size := (by omega); have y4_2 : w.heap.size + 1 + 1 ≤ w4.heap.size := (by omega)
  go_wp2_with fail
  (go_at_call 10; refine (add_any _ _ _ _ _ _ _ _ _ _ _).mono ?_; rintro e w5 ⟨rfl, hb5⟩)
  obtain ⟨hc5, hf5⟩ := bcell hb5
  have hz5 := hb5.size
  (try simp at hz5)
  have z5_0 : w.heap.size < w5.heap.size := (by omega); have y5_0 : w.heap.size ≤ w5.heap.size := (by omega); have z5_1 : w.heap.size + 1 < w5.heap.size := (by omega); have y5_1 : w.heap.size + 1 ≤ w5.heap.size := (by omega); have z5_2 : w.heap.size + 1 + 1 < w5.heap.size := (by omega); have y5_2 : w.heap.size + 1 + 1 ≤ w5.heap.size := (by omega); have z5_3 : w4.heap.size < w5.heap.size := (by omega); have y5_3 : w4.heap.size ≤ w5.heap.size := (by omega)
  go_wp2_with (first | (go_at_call 25; refine (share_any _ _ _ _ _ _ _ _ _ _ _).mono ?_; rintro e w9 ⟨rfl, hb9⟩; obtain ⟨hc9, hf9⟩ := bcell hb9; have hz9 := hb9.size; (try simp at hz9); have z9_0 : w.heap.size < w9.heap.size := (by omega); have y9_0 : w.heap.size ≤ w9.heap.size := (by omega); have z9_1 : w.heap.size + 1 < w9.heap.size := (by omega); have y9_1 : w.heap.size + 1 ≤ w9.heap.size := (by omega); have z9_2 : w.heap.size + 1 + 1 < w9.heap.size := (by omega); have y9_2 : w.heap.size + 1 + 1 ≤ w9.heap.size := (by omega); have z9_3 : w4.heap.size < w9.heap.size := (by omega); have y9_3 : w4.heap.size ≤ w9.heap.size := (by omega); have z9_4 : w5.heap.size < w9.heap.size := (by omega); have y9_4 : w5.heap.size ≤ w9.heap.size := (by omega)) | (go_at_call 18; refine (known_any _).mono ?_; rintro e w9 ⟨rfl, hb9⟩; obtain ⟨hc9, hf9⟩ := bcell hb9; have hz9 := hb9.size; (try simp at hz9); skip))
  go_ret
  exact ⟨rfl, by (repeat' (first | with_reducible exact Below.refl _ _ | with_reducible assumption | with_reducible refine Below.drew ?_ | with_reducible refine below_drewN' ?_ _ | with_reducible refine Below.alloc ?_ ?_ _ | with_reducible refine Below.setCell ?_ ?_ _ | with_reducible refine below_step (by assumption) ?_ ?_ | omega | (simp; done) | (simp; omega)))⟩

set_option maxRecDepth 100000 in
set_option maxHeartbeats 2000000 in
theorem walk0100 (a0 a1 a2 a3 a4 b0 b1 b2 b3 b4 c0 c1 c2 c3 c4 : Int) (w : World) (ha : rtB a0 a1 a2 a3 a4 = true) (hb : rtB b0 b1 b2 b3 b4 = true) (hc : rtB c0 c1 c2 c3 c4 = true) (e : (addE a0 a1 a2 a3 a4 c0 c1 c2 c3 c4 == 0) = false) (f : addE b0 b1 b2 b3 b4 c0 c1 c2 c3 c4 = 0) (z0 : b0 = 0) (z1 : b1 = 0) :
    Calls Try.prog 7 #[.agg #[.int .i64 a0, .int .i64 a1, .int .i64 a2, .int .i64 a3, .int .i64 a4], .agg #[.int .i64 b0, .int .i64 b1, .int .i64 b2, .int .i64 b3, .int .i64 b4], .agg #[.int .i64 c0, .int .i64 c1, .int .i64 c2, .int .i64 c3, .int .i64 c4]] w fun e w' => e = .returned (.bool true) ∧ Below w.heap.size w w' := by
  have hs0 := sel_0
  obtain ⟨s1, s2⟩ := share_bd a0 a1 a2 a3 a4 b0 b1 b2 b3 b4 ha hb
  have s3 : shareF b0 b1 b2 b3 b4 b0 b1 b2 b3 b4 = 0 := by
    rw [share_self b0 b1 b2 b3 b4 hb]; exact if_neg (by omega)
  subst z0
  subst z1
  go_enter Try.func7, Try.ntmps7
  go_wp2_with fail
  (go_at_call 16; refine (right_any _ _ _ _ _ _).mono ?_; rintro e w1 ⟨rfl, hb1⟩)
  obtain ⟨hc1, hf1⟩ := bcell hb1
  have hz1 := hb1.size
  (try simp at hz1)
  have z1_0 : w.heap.size < w1.heap.size := (by omega); have y1_0 : w.heap.size ≤ w1.heap.size := (by omega); have z1_1 : w.heap.size + 1 < w1.heap.size := (by omega); have y1_1 : w.heap.size + 1 ≤ w1.heap.size := (by omega); have z1_2 : w.heap.size + 1 + 1 < w1.heap.size := (by omega); have y1_2 : w.heap.size + 1 + 1 ≤ w1.heap.size := (by omega)
  go_wp2_with fail
  (go_at_call 16; refine (right_any _ _ _ _ _ _).mono ?_; rintro e w2 ⟨rfl, hb2⟩)
  obtain ⟨hc2, hf2⟩ := bcell hb2
  have hz2 := hb2.size
  (try simp at hz2)
  have z2_0 : w.heap.size < w2.heap.size := (by omega); have y2_0 : w.heap.size ≤ w2.heap.size := (by omega); have z2_1 : w.heap.size + 1 < w2.heap.size := (by omega); have y2_1 : w.heap.size + 1 ≤ w2.heap.size := (by omega); have z2_2 : w.heap.size + 1 + 1 < w2.heap.size := (by omega); have y2_2 : w.heap.size + 1 + 1 ≤ w2.heap.size := (by omega)
  go_wp2_with fail
  (go_at_call 16; refine (right_any _ _ _ _ _ _).mono ?_; rintro e w3 ⟨rfl, hb3⟩)
  obtain ⟨hc3, hf3⟩ := bcell hb3
  have hz3 := hb3.size
  (try simp at hz3)
  have z3_0 : w.heap.size < w3.heap.size := (by omega); have y3_0 : w.heap.size ≤ w3.heap.size := (by omega); have z3_1 : w.heap.size + 1 < w3.heap.size := (by omega); have y3_1 : w.heap.size + 1 ≤ w3.heap.size := (by omega); have z3_2 : w.heap.size + 1 + 1 < w3.heap.size := (by omega); have y3_2 : w.heap.size + 1 + 1 ≤ w3.heap.size := (by omega)
  go_wp2_with fail
  (go_at_call 10; refine (add_any _ _ _ _ _ _ _ _ _ _ _).mono ?_; rintro e w4 ⟨rfl, hb4⟩)
  obtain ⟨hc4, hf4⟩ := bcell hb4
  have hz4 := hb4.size
  (try simp at hz4)
  have z4_0 : w.heap.size < w4.heap.size := (by omega); have y4_0 : w.heap.size ≤ w4.heap.size := (by omega); have z4_1 : w.heap.size + 1 < w4.heap.size := (by omega); have y4_1 : w.heap.size + 1 ≤ w4.heap.size := (by omega); have z4_2 : w.heap.size + 1 + 1 < w4.heap.size := (by omega); have y4_2 : w.heap.size + 1 + 1 ≤ w4.heap.size := (by omega)
  go_wp2_with fail
  (go_at_call 10; refine (add_any _ _ _ _ _ _ _ _ _ _ _).mono ?_; rintro e w5 ⟨rfl, hb5⟩)
  obtain ⟨hc5, hf5⟩ := bcell hb5
  have hz5 := hb5.size
  (try simp at hz5)
  have z5_0 : w.heap.size < w5.heap.size := (by omega); have y5_0 : w.heap.size ≤ w5.heap.size := (by omega); have z5_1 : w.heap.size + 1 < w5.heap.size := (by omega); have y5_1 : w.heap.size + 1 ≤ w5.heap.size := (by omega); have z5_2 : w.heap.size + 1 + 1 < w5.heap.size := (by omega); have y5_2 : w.heap.size + 1 + 1 ≤ w5.heap.size := (by omega); have z5_3 : w4.heap.size < w5.heap.size := (by omega); have y5_3 : w4.heap.size ≤ w5.heap.size := (by omega)
  go_wp2_with (first | (go_at_call 25; refine (share_any _ _ _ _ _ _ _ _ _ _ _).mono ?_; rintro e w9 ⟨rfl, hb9⟩; obtain ⟨hc9, hf9⟩ := bcell hb9; have hz9 := hb9.size; (try simp at hz9); have z9_0 : w.heap.size < w9.heap.size := (by omega); have y9_0 : w.heap.size ≤ w9.heap.size := (by omega); have z9_1 : w.heap.size + 1 < w9.heap.size := (by omega); have y9_1 : w.heap.size + 1 ≤ w9.heap.size := (by omega); have z9_2 : w.heap.size + 1 + 1 < w9.heap.size := (by omega); have y9_2 : w.heap.size + 1 + 1 ≤ w9.heap.size := (by omega); have z9_3 : w4.heap.size < w9.heap.size := (by omega); have y9_3 : w4.heap.size ≤ w9.heap.size := (by omega); have z9_4 : w5.heap.size < w9.heap.size := (by omega); have y9_4 : w5.heap.size ≤ w9.heap.size := (by omega)) | (go_at_call 18; refine (known_any _).mono ?_; rintro e w9 ⟨rfl, hb9⟩; obtain ⟨hc9, hf9⟩ := bcell hb9; have hz9 := hb9.size; (try simp at hz9); skip))
  go_ret
  exact ⟨rfl, by (repeat' (first | with_reducible exact Below.refl _ _ | with_reducible assumption | with_reducible refine Below.drew ?_ | with_reducible refine below_drewN' ?_ _ | with_reducible refine Below.alloc ?_ ?_ _ | with_reducible refine Below.setCell ?_ ?_ _ | with_reducible refine below_step (by assumption) ?_ ?_ | omega | (simp; done) | (simp; omega)))⟩

set_option maxRecDepth 100000 in
set_option maxHeartbeats 2000000 in
theorem walk0101 (a0 a1 a2 a3 a4 b0 b1 b2 b3 b4 c0 c1 c2 c3 c4 : Int) (w : World) (ha : rtB a0 a1 a2 a3 a4 = true) (hb : rtB b0 b1 b2 b3 b4 = true) (hc : rtB c0 c1 c2 c3 c4 = true) (e : (addE a0 a1 a2 a3 a4 c0 c1 c2 c3 c4 == 0) = false) (f : addE b0 b1 b2 b3 b4 c0 c1 c2 c3 c4 = 0) (z0 : b0 = 0) (z1 : 0 < b1) :
    Calls Try.prog 7 #[.agg #[.int .i64 a0, .int .i64 a1, .int .i64 a2, .int .i64 a3, .int .i64 a4], .agg #[.int .i64 b0, .int .i64 b1, .int .i64 b2, .int .i64 b3, .int .i64 b4], .agg #[.int .i64 c0, .int .i64 c1, .int .i64 c2, .int .i64 c3, .int .i64 c4]] w fun e w' => e = .returned (.bool true) ∧ Below w.heap.size w w' := by
  have hs0 := sel_0
  obtain ⟨s1, s2⟩ := share_bd a0 a1 a2 a3 a4 b0 b1 b2 b3 b4 ha hb
  have s3 : shareF b0 b1 b2 b3 b4 b0 b1 b2 b3 b4 = 1000 := by
    rw [share_self b0 b1 b2 b3 b4 hb]; exact if_pos (by omega)
  subst z0
  go_enter Try.func7, Try.ntmps7
  go_wp2_with fail
  (go_at_call 16; refine (right_any _ _ _ _ _ _).mono ?_; rintro e w1 ⟨rfl, hb1⟩)
  obtain ⟨hc1, hf1⟩ := bcell hb1
  have hz1 := hb1.size
  (try simp at hz1)
  have z1_0 : w.heap.size < w1.heap.size := (by omega); have y1_0 : w.heap.size ≤ w1.heap.size := (by omega); have z1_1 : w.heap.size + 1 < w1.heap.size := (by omega); have y1_1 : w.heap.size + 1 ≤ w1.heap.size := (by omega); have z1_2 : w.heap.size + 1 + 1 < w1.heap.size := (by omega); have y1_2 : w.heap.size + 1 + 1 ≤ w1.heap.size := (by omega)
  go_wp2_with fail
  (go_at_call 16; refine (right_any _ _ _ _ _ _).mono ?_; rintro e w2 ⟨rfl, hb2⟩)
  obtain ⟨hc2, hf2⟩ := bcell hb2
  have hz2 := hb2.size
  (try simp at hz2)
  have z2_0 : w.heap.size < w2.heap.size := (by omega); have y2_0 : w.heap.size ≤ w2.heap.size := (by omega); have z2_1 : w.heap.size + 1 < w2.heap.size := (by omega); have y2_1 : w.heap.size + 1 ≤ w2.heap.size := (by omega); have z2_2 : w.heap.size + 1 + 1 < w2.heap.size := (by omega); have y2_2 : w.heap.size + 1 + 1 ≤ w2.heap.size := (by omega)
  go_wp2_with fail
  (go_at_call 16; refine (right_any _ _ _ _ _ _).mono ?_; rintro e w3 ⟨rfl, hb3⟩)
  obtain ⟨hc3, hf3⟩ := bcell hb3
  have hz3 := hb3.size
  (try simp at hz3)
  have z3_0 : w.heap.size < w3.heap.size := (by omega); have y3_0 : w.heap.size ≤ w3.heap.size := (by omega); have z3_1 : w.heap.size + 1 < w3.heap.size := (by omega); have y3_1 : w.heap.size + 1 ≤ w3.heap.size := (by omega); have z3_2 : w.heap.size + 1 + 1 < w3.heap.size := (by omega); have y3_2 : w.heap.size + 1 + 1 ≤ w3.heap.size := (by omega)
  go_wp2_with fail
  (go_at_call 10; refine (add_any _ _ _ _ _ _ _ _ _ _ _).mono ?_; rintro e w4 ⟨rfl, hb4⟩)
  obtain ⟨hc4, hf4⟩ := bcell hb4
  have hz4 := hb4.size
  (try simp at hz4)
  have z4_0 : w.heap.size < w4.heap.size := (by omega); have y4_0 : w.heap.size ≤ w4.heap.size := (by omega); have z4_1 : w.heap.size + 1 < w4.heap.size := (by omega); have y4_1 : w.heap.size + 1 ≤ w4.heap.size := (by omega); have z4_2 : w.heap.size + 1 + 1 < w4.heap.size := (by omega); have y4_2 : w.heap.size + 1 + 1 ≤ w4.heap.size := (by omega)
  go_wp2_with fail
  (go_at_call 10; refine (add_any _ _ _ _ _ _ _ _ _ _ _).mono ?_; rintro e w5 ⟨rfl, hb5⟩)
  obtain ⟨hc5, hf5⟩ := bcell hb5
  have hz5 := hb5.size
  (try simp at hz5)
  have z5_0 : w.heap.size < w5.heap.size := (by omega); have y5_0 : w.heap.size ≤ w5.heap.size := (by omega); have z5_1 : w.heap.size + 1 < w5.heap.size := (by omega); have y5_1 : w.heap.size + 1 ≤ w5.heap.size := (by omega); have z5_2 : w.heap.size + 1 + 1 < w5.heap.size := (by omega); have y5_2 : w.heap.size + 1 + 1 ≤ w5.heap.size := (by omega); have z5_3 : w4.heap.size < w5.heap.size := (by omega); have y5_3 : w4.heap.size ≤ w5.heap.size := (by omega)
  go_wp2_with (first | (go_at_call 25; refine (share_any _ _ _ _ _ _ _ _ _ _ _).mono ?_; rintro e w9 ⟨rfl, hb9⟩; obtain ⟨hc9, hf9⟩ := bcell hb9; have hz9 := hb9.size; (try simp at hz9); have z9_0 : w.heap.size < w9.heap.size := (by omega); have y9_0 : w.heap.size ≤ w9.heap.size := (by omega); have z9_1 : w.heap.size + 1 < w9.heap.size := (by omega); have y9_1 : w.heap.size + 1 ≤ w9.heap.size := (by omega); have z9_2 : w.heap.size + 1 + 1 < w9.heap.size := (by omega); have y9_2 : w.heap.size + 1 + 1 ≤ w9.heap.size := (by omega); have z9_3 : w4.heap.size < w9.heap.size := (by omega); have y9_3 : w4.heap.size ≤ w9.heap.size := (by omega); have z9_4 : w5.heap.size < w9.heap.size := (by omega); have y9_4 : w5.heap.size ≤ w9.heap.size := (by omega)) | (go_at_call 18; refine (known_any _).mono ?_; rintro e w9 ⟨rfl, hb9⟩; obtain ⟨hc9, hf9⟩ := bcell hb9; have hz9 := hb9.size; (try simp at hz9); skip))
  go_ret
  exact ⟨rfl, by (repeat' (first | with_reducible exact Below.refl _ _ | with_reducible assumption | with_reducible refine Below.drew ?_ | with_reducible refine below_drewN' ?_ _ | with_reducible refine Below.alloc ?_ ?_ _ | with_reducible refine Below.setCell ?_ ?_ _ | with_reducible refine below_step (by assumption) ?_ ?_ | omega | (simp; done) | (simp; omega)))⟩

set_option maxRecDepth 100000 in
set_option maxHeartbeats 2000000 in
theorem walk0110 (a0 a1 a2 a3 a4 b0 b1 b2 b3 b4 c0 c1 c2 c3 c4 : Int) (w : World) (ha : rtB a0 a1 a2 a3 a4 = true) (hb : rtB b0 b1 b2 b3 b4 = true) (hc : rtB c0 c1 c2 c3 c4 = true) (e : (addE a0 a1 a2 a3 a4 c0 c1 c2 c3 c4 == 0) = false) (f : addE b0 b1 b2 b3 b4 c0 c1 c2 c3 c4 = 0) (z0 : 0 < b0) (z1 : b1 = 0) :
    Calls Try.prog 7 #[.agg #[.int .i64 a0, .int .i64 a1, .int .i64 a2, .int .i64 a3, .int .i64 a4], .agg #[.int .i64 b0, .int .i64 b1, .int .i64 b2, .int .i64 b3, .int .i64 b4], .agg #[.int .i64 c0, .int .i64 c1, .int .i64 c2, .int .i64 c3, .int .i64 c4]] w fun e w' => e = .returned (.bool true) ∧ Below w.heap.size w w' := by
  have hs0 := sel_0
  obtain ⟨s1, s2⟩ := share_bd a0 a1 a2 a3 a4 b0 b1 b2 b3 b4 ha hb
  have s3 : shareF b0 b1 b2 b3 b4 b0 b1 b2 b3 b4 = 1000 := by
    rw [share_self b0 b1 b2 b3 b4 hb]; exact if_pos (by omega)
  subst z1
  go_enter Try.func7, Try.ntmps7
  go_wp2_with fail
  (go_at_call 16; refine (right_any _ _ _ _ _ _).mono ?_; rintro e w1 ⟨rfl, hb1⟩)
  obtain ⟨hc1, hf1⟩ := bcell hb1
  have hz1 := hb1.size
  (try simp at hz1)
  have z1_0 : w.heap.size < w1.heap.size := (by omega); have y1_0 : w.heap.size ≤ w1.heap.size := (by omega); have z1_1 : w.heap.size + 1 < w1.heap.size := (by omega); have y1_1 : w.heap.size + 1 ≤ w1.heap.size := (by omega); have z1_2 : w.heap.size + 1 + 1 < w1.heap.size := (by omega); have y1_2 : w.heap.size + 1 + 1 ≤ w1.heap.size := (by omega)
  go_wp2_with fail
  (go_at_call 16; refine (right_any _ _ _ _ _ _).mono ?_; rintro e w2 ⟨rfl, hb2⟩)
  obtain ⟨hc2, hf2⟩ := bcell hb2
  have hz2 := hb2.size
  (try simp at hz2)
  have z2_0 : w.heap.size < w2.heap.size := (by omega); have y2_0 : w.heap.size ≤ w2.heap.size := (by omega); have z2_1 : w.heap.size + 1 < w2.heap.size := (by omega); have y2_1 : w.heap.size + 1 ≤ w2.heap.size := (by omega); have z2_2 : w.heap.size + 1 + 1 < w2.heap.size := (by omega); have y2_2 : w.heap.size + 1 + 1 ≤ w2.heap.size := (by omega)
  go_wp2_with fail
  (go_at_call 16; refine (right_any _ _ _ _ _ _).mono ?_; rintro e w3 ⟨rfl, hb3⟩)
  obtain ⟨hc3, hf3⟩ := bcell hb3
  have hz3 := hb3.size
  (try simp at hz3)
  have z3_0 : w.heap.size < w3.heap.size := (by omega); have y3_0 : w.heap.size ≤ w3.heap.size := (by omega); have z3_1 : w.heap.size + 1 < w3.heap.size := (by omega); have y3_1 : w.heap.size + 1 ≤ w3.heap.size := (by omega); have z3_2 : w.heap.size + 1 + 1 < w3.heap.size := (by omega); have y3_2 : w.heap.size + 1 + 1 ≤ w3.heap.size := (by omega)
  go_wp2_with fail
  (go_at_call 10; refine (add_any _ _ _ _ _ _ _ _ _ _ _).mono ?_; rintro e w4 ⟨rfl, hb4⟩)
  obtain ⟨hc4, hf4⟩ := bcell hb4
  have hz4 := hb4.size
  (try simp at hz4)
  have z4_0 : w.heap.size < w4.heap.size := (by omega); have y4_0 : w.heap.size ≤ w4.heap.size := (by omega); have z4_1 : w.heap.size + 1 < w4.heap.size := (by omega); have y4_1 : w.heap.size + 1 ≤ w4.heap.size := (by omega); have z4_2 : w.heap.size + 1 + 1 < w4.heap.size := (by omega); have y4_2 : w.heap.size + 1 + 1 ≤ w4.heap.size := (by omega)
  go_wp2_with fail
  (go_at_call 10; refine (add_any _ _ _ _ _ _ _ _ _ _ _).mono ?_; rintro e w5 ⟨rfl, hb5⟩)
  obtain ⟨hc5, hf5⟩ := bcell hb5
  have hz5 := hb5.size
  (try simp at hz5)
  have z5_0 : w.heap.size < w5.heap.size := (by omega); have y5_0 : w.heap.size ≤ w5.heap.size := (by omega); have z5_1 : w.heap.size + 1 < w5.heap.size := (by omega); have y5_1 : w.heap.size + 1 ≤ w5.heap.size := (by omega); have z5_2 : w.heap.size + 1 + 1 < w5.heap.size := (by omega); have y5_2 : w.heap.size + 1 + 1 ≤ w5.heap.size := (by omega); have z5_3 : w4.heap.size < w5.heap.size := (by omega); have y5_3 : w4.heap.size ≤ w5.heap.size := (by omega)
  go_wp2_with (first | (go_at_call 25; refine (share_any _ _ _ _ _ _ _ _ _ _ _).mono ?_; rintro e w9 ⟨rfl, hb9⟩; obtain ⟨hc9, hf9⟩ := bcell hb9; have hz9 := hb9.size; (try simp at hz9); have z9_0 : w.heap.size < w9.heap.size := (by omega); have y9_0 : w.heap.size ≤ w9.heap.size := (by omega); have z9_1 : w.heap.size + 1 < w9.heap.size := (by omega); have y9_1 : w.heap.size + 1 ≤ w9.heap.size := (by omega); have z9_2 : w.heap.size + 1 + 1 < w9.heap.size := (by omega); have y9_2 : w.heap.size + 1 + 1 ≤ w9.heap.size := (by omega); have z9_3 : w4.heap.size < w9.heap.size := (by omega); have y9_3 : w4.heap.size ≤ w9.heap.size := (by omega); have z9_4 : w5.heap.size < w9.heap.size := (by omega); have y9_4 : w5.heap.size ≤ w9.heap.size := (by omega)) | (go_at_call 18; refine (known_any _).mono ?_; rintro e w9 ⟨rfl, hb9⟩; obtain ⟨hc9, hf9⟩ := bcell hb9; have hz9 := hb9.size; (try simp at hz9); skip))
  go_ret
  exact ⟨rfl, by (repeat' (first | with_reducible exact Below.refl _ _ | with_reducible assumption | with_reducible refine Below.drew ?_ | with_reducible refine below_drewN' ?_ _ | with_reducible refine Below.alloc ?_ ?_ _ | with_reducible refine Below.setCell ?_ ?_ _ | with_reducible refine below_step (by assumption) ?_ ?_ | omega | (simp; done) | (simp; omega)))⟩

set_option maxRecDepth 100000 in
set_option maxHeartbeats 2000000 in
theorem walk0111 (a0 a1 a2 a3 a4 b0 b1 b2 b3 b4 c0 c1 c2 c3 c4 : Int) (w : World) (ha : rtB a0 a1 a2 a3 a4 = true) (hb : rtB b0 b1 b2 b3 b4 = true) (hc : rtB c0 c1 c2 c3 c4 = true) (e : (addE a0 a1 a2 a3 a4 c0 c1 c2 c3 c4 == 0) = false) (f : addE b0 b1 b2 b3 b4 c0 c1 c2 c3 c4 = 0) (z0 : 0 < b0) (z1 : 0 < b1) :
    Calls Try.prog 7 #[.agg #[.int .i64 a0, .int .i64 a1, .int .i64 a2, .int .i64 a3, .int .i64 a4], .agg #[.int .i64 b0, .int .i64 b1, .int .i64 b2, .int .i64 b3, .int .i64 b4], .agg #[.int .i64 c0, .int .i64 c1, .int .i64 c2, .int .i64 c3, .int .i64 c4]] w fun e w' => e = .returned (.bool true) ∧ Below w.heap.size w w' := by
  have hs0 := sel_0
  obtain ⟨s1, s2⟩ := share_bd a0 a1 a2 a3 a4 b0 b1 b2 b3 b4 ha hb
  have s3 : shareF b0 b1 b2 b3 b4 b0 b1 b2 b3 b4 = 1000 := by
    rw [share_self b0 b1 b2 b3 b4 hb]; exact if_pos (by omega)
  have s5 := share_anti a0 a1 a2 a3 a4 b0 b1 b2 b3 b4 c0 c1 c2 c3 c4 ha hb hc f z0 z1
  go_enter Try.func7, Try.ntmps7
  go_wp2_with fail
  (go_at_call 16; refine (right_any _ _ _ _ _ _).mono ?_; rintro e w1 ⟨rfl, hb1⟩)
  obtain ⟨hc1, hf1⟩ := bcell hb1
  have hz1 := hb1.size
  (try simp at hz1)
  have z1_0 : w.heap.size < w1.heap.size := (by omega); have y1_0 : w.heap.size ≤ w1.heap.size := (by omega); have z1_1 : w.heap.size + 1 < w1.heap.size := (by omega); have y1_1 : w.heap.size + 1 ≤ w1.heap.size := (by omega); have z1_2 : w.heap.size + 1 + 1 < w1.heap.size := (by omega); have y1_2 : w.heap.size + 1 + 1 ≤ w1.heap.size := (by omega)
  go_wp2_with fail
  (go_at_call 16; refine (right_any _ _ _ _ _ _).mono ?_; rintro e w2 ⟨rfl, hb2⟩)
  obtain ⟨hc2, hf2⟩ := bcell hb2
  have hz2 := hb2.size
  (try simp at hz2)
  have z2_0 : w.heap.size < w2.heap.size := (by omega); have y2_0 : w.heap.size ≤ w2.heap.size := (by omega); have z2_1 : w.heap.size + 1 < w2.heap.size := (by omega); have y2_1 : w.heap.size + 1 ≤ w2.heap.size := (by omega); have z2_2 : w.heap.size + 1 + 1 < w2.heap.size := (by omega); have y2_2 : w.heap.size + 1 + 1 ≤ w2.heap.size := (by omega)
  go_wp2_with fail
  (go_at_call 16; refine (right_any _ _ _ _ _ _).mono ?_; rintro e w3 ⟨rfl, hb3⟩)
  obtain ⟨hc3, hf3⟩ := bcell hb3
  have hz3 := hb3.size
  (try simp at hz3)
  have z3_0 : w.heap.size < w3.heap.size := (by omega); have y3_0 : w.heap.size ≤ w3.heap.size := (by omega); have z3_1 : w.heap.size + 1 < w3.heap.size := (by omega); have y3_1 : w.heap.size + 1 ≤ w3.heap.size := (by omega); have z3_2 : w.heap.size + 1 + 1 < w3.heap.size := (by omega); have y3_2 : w.heap.size + 1 + 1 ≤ w3.heap.size := (by omega)
  go_wp2_with fail
  (go_at_call 10; refine (add_any _ _ _ _ _ _ _ _ _ _ _).mono ?_; rintro e w4 ⟨rfl, hb4⟩)
  obtain ⟨hc4, hf4⟩ := bcell hb4
  have hz4 := hb4.size
  (try simp at hz4)
  have z4_0 : w.heap.size < w4.heap.size := (by omega); have y4_0 : w.heap.size ≤ w4.heap.size := (by omega); have z4_1 : w.heap.size + 1 < w4.heap.size := (by omega); have y4_1 : w.heap.size + 1 ≤ w4.heap.size := (by omega); have z4_2 : w.heap.size + 1 + 1 < w4.heap.size := (by omega); have y4_2 : w.heap.size + 1 + 1 ≤ w4.heap.size := (by omega)
  go_wp2_with fail
  (go_at_call 10; refine (add_any _ _ _ _ _ _ _ _ _ _ _).mono ?_; rintro e w5 ⟨rfl, hb5⟩)
  obtain ⟨hc5, hf5⟩ := bcell hb5
  have hz5 := hb5.size
  (try simp at hz5)
  have z5_0 : w.heap.size < w5.heap.size := (by omega); have y5_0 : w.heap.size ≤ w5.heap.size := (by omega); have z5_1 : w.heap.size + 1 < w5.heap.size := (by omega); have y5_1 : w.heap.size + 1 ≤ w5.heap.size := (by omega); have z5_2 : w.heap.size + 1 + 1 < w5.heap.size := (by omega); have y5_2 : w.heap.size + 1 + 1 ≤ w5.heap.size := (by omega); have z5_3 : w4.heap.size < w5.heap.size := (by omega); have y5_3 : w4.heap.size ≤ w5.heap.size := (by omega)
  go_wp2_with (first | (go_at_call 25; refine (share_any _ _ _ _ _ _ _ _ _ _ _).mono ?_; rintro e w9 ⟨rfl, hb9⟩; obtain ⟨hc9, hf9⟩ := bcell hb9; have hz9 := hb9.size; (try simp at hz9); have z9_0 : w.heap.size < w9.heap.size := (by omega); have y9_0 : w.heap.size ≤ w9.heap.size := (by omega); have z9_1 : w.heap.size + 1 < w9.heap.size := (by omega); have y9_1 : w.heap.size + 1 ≤ w9.heap.size := (by omega); have z9_2 : w.heap.size + 1 + 1 < w9.heap.size := (by omega); have y9_2 : w.heap.size + 1 + 1 ≤ w9.heap.size := (by omega); have z9_3 : w4.heap.size < w9.heap.size := (by omega); have y9_3 : w4.heap.size ≤ w9.heap.size := (by omega); have z9_4 : w5.heap.size < w9.heap.size := (by omega); have y9_4 : w5.heap.size ≤ w9.heap.size := (by omega)) | (go_at_call 18; refine (known_any _).mono ?_; rintro e w9 ⟨rfl, hb9⟩; obtain ⟨hc9, hf9⟩ := bcell hb9; have hz9 := hb9.size; (try simp at hz9); skip))
  go_ret
  exact ⟨rfl, by (repeat' (first | with_reducible exact Below.refl _ _ | with_reducible assumption | with_reducible refine Below.drew ?_ | with_reducible refine below_drewN' ?_ _ | with_reducible refine Below.alloc ?_ ?_ _ | with_reducible refine Below.setCell ?_ ?_ _ | with_reducible refine below_step (by assumption) ?_ ?_ | omega | (simp; done) | (simp; omega)))⟩

set_option maxRecDepth 100000 in
set_option maxHeartbeats 2000000 in
theorem walk1000 (a0 a1 a2 a3 a4 b0 b1 b2 b3 b4 c0 c1 c2 c3 c4 : Int) (w : World) (ha : rtB a0 a1 a2 a3 a4 = true) (hb : rtB b0 b1 b2 b3 b4 = true) (hc : rtB c0 c1 c2 c3 c4 = true) (e : addE a0 a1 a2 a3 a4 c0 c1 c2 c3 c4 = 0) (f : (addE b0 b1 b2 b3 b4 c0 c1 c2 c3 c4 == 0) = false) (z0 : b0 = 0) (z1 : b1 = 0) :
    Calls Try.prog 7 #[.agg #[.int .i64 a0, .int .i64 a1, .int .i64 a2, .int .i64 a3, .int .i64 a4], .agg #[.int .i64 b0, .int .i64 b1, .int .i64 b2, .int .i64 b3, .int .i64 b4], .agg #[.int .i64 c0, .int .i64 c1, .int .i64 c2, .int .i64 c3, .int .i64 c4]] w fun e w' => e = .returned (.bool true) ∧ Below w.heap.size w w' := by
  have hs0 := sel_0
  obtain ⟨s1, s2⟩ := share_bd a0 a1 a2 a3 a4 b0 b1 b2 b3 b4 ha hb
  have s3 : shareF b0 b1 b2 b3 b4 b0 b1 b2 b3 b4 = 0 := by
    rw [share_self b0 b1 b2 b3 b4 hb]; exact if_neg (by omega)
  have s4 := share_mono a0 a1 a2 a3 a4 b0 b1 b2 b3 b4 c0 c1 c2 c3 c4 ha hb hc e
  subst z0
  subst z1
  go_enter Try.func7, Try.ntmps7
  go_wp2_with fail
  (go_at_call 16; refine (right_any _ _ _ _ _ _).mono ?_; rintro e w1 ⟨rfl, hb1⟩)
  obtain ⟨hc1, hf1⟩ := bcell hb1
  have hz1 := hb1.size
  (try simp at hz1)
  have z1_0 : w.heap.size < w1.heap.size := (by omega); have y1_0 : w.heap.size ≤ w1.heap.size := (by omega); have z1_1 : w.heap.size + 1 < w1.heap.size := (by omega); have y1_1 : w.heap.size + 1 ≤ w1.heap.size := (by omega); have z1_2 : w.heap.size + 1 + 1 < w1.heap.size := (by omega); have y1_2 : w.heap.size + 1 + 1 ≤ w1.heap.size := (by omega)
  go_wp2_with fail
  (go_at_call 16; refine (right_any _ _ _ _ _ _).mono ?_; rintro e w2 ⟨rfl, hb2⟩)
  obtain ⟨hc2, hf2⟩ := bcell hb2
  have hz2 := hb2.size
  (try simp at hz2)
  have z2_0 : w.heap.size < w2.heap.size := (by omega); have y2_0 : w.heap.size ≤ w2.heap.size := (by omega); have z2_1 : w.heap.size + 1 < w2.heap.size := (by omega); have y2_1 : w.heap.size + 1 ≤ w2.heap.size := (by omega); have z2_2 : w.heap.size + 1 + 1 < w2.heap.size := (by omega); have y2_2 : w.heap.size + 1 + 1 ≤ w2.heap.size := (by omega)
  go_wp2_with fail
  (go_at_call 16; refine (right_any _ _ _ _ _ _).mono ?_; rintro e w3 ⟨rfl, hb3⟩)
  obtain ⟨hc3, hf3⟩ := bcell hb3
  have hz3 := hb3.size
  (try simp at hz3)
  have z3_0 : w.heap.size < w3.heap.size := (by omega); have y3_0 : w.heap.size ≤ w3.heap.size := (by omega); have z3_1 : w.heap.size + 1 < w3.heap.size := (by omega); have y3_1 : w.heap.size + 1 ≤ w3.heap.size := (by omega); have z3_2 : w.heap.size + 1 + 1 < w3.heap.size := (by omega); have y3_2 : w.heap.size + 1 + 1 ≤ w3.heap.size := (by omega)
  go_wp2_with fail
  (go_at_call 10; refine (add_any _ _ _ _ _ _ _ _ _ _ _).mono ?_; rintro e w4 ⟨rfl, hb4⟩)
  obtain ⟨hc4, hf4⟩ := bcell hb4
  have hz4 := hb4.size
  (try simp at hz4)
  have z4_0 : w.heap.size < w4.heap.size := (by omega); have y4_0 : w.heap.size ≤ w4.heap.size := (by omega); have z4_1 : w.heap.size + 1 < w4.heap.size := (by omega); have y4_1 : w.heap.size + 1 ≤ w4.heap.size := (by omega); have z4_2 : w.heap.size + 1 + 1 < w4.heap.size := (by omega); have y4_2 : w.heap.size + 1 + 1 ≤ w4.heap.size := (by omega)
  go_wp2_with fail
  (go_at_call 10; refine (add_any _ _ _ _ _ _ _ _ _ _ _).mono ?_; rintro e w5 ⟨rfl, hb5⟩)
  obtain ⟨hc5, hf5⟩ := bcell hb5
  have hz5 := hb5.size
  (try simp at hz5)
  have z5_0 : w.heap.size < w5.heap.size := (by omega); have y5_0 : w.heap.size ≤ w5.heap.size := (by omega); have z5_1 : w.heap.size + 1 < w5.heap.size := (by omega); have y5_1 : w.heap.size + 1 ≤ w5.heap.size := (by omega); have z5_2 : w.heap.size + 1 + 1 < w5.heap.size := (by omega); have y5_2 : w.heap.size + 1 + 1 ≤ w5.heap.size := (by omega); have z5_3 : w4.heap.size < w5.heap.size := (by omega); have y5_3 : w4.heap.size ≤ w5.heap.size := (by omega)
  go_wp2_with (first | (go_at_call 25; refine (share_any _ _ _ _ _ _ _ _ _ _ _).mono ?_; rintro e w9 ⟨rfl, hb9⟩; obtain ⟨hc9, hf9⟩ := bcell hb9; have hz9 := hb9.size; (try simp at hz9); have z9_0 : w.heap.size < w9.heap.size := (by omega); have y9_0 : w.heap.size ≤ w9.heap.size := (by omega); have z9_1 : w.heap.size + 1 < w9.heap.size := (by omega); have y9_1 : w.heap.size + 1 ≤ w9.heap.size := (by omega); have z9_2 : w.heap.size + 1 + 1 < w9.heap.size := (by omega); have y9_2 : w.heap.size + 1 + 1 ≤ w9.heap.size := (by omega); have z9_3 : w4.heap.size < w9.heap.size := (by omega); have y9_3 : w4.heap.size ≤ w9.heap.size := (by omega); have z9_4 : w5.heap.size < w9.heap.size := (by omega); have y9_4 : w5.heap.size ≤ w9.heap.size := (by omega)) | (go_at_call 18; refine (known_any _).mono ?_; rintro e w9 ⟨rfl, hb9⟩; obtain ⟨hc9, hf9⟩ := bcell hb9; have hz9 := hb9.size; (try simp at hz9); skip))
  go_ret
  exact ⟨rfl, by (repeat' (first | with_reducible exact Below.refl _ _ | with_reducible assumption | with_reducible refine Below.drew ?_ | with_reducible refine below_drewN' ?_ _ | with_reducible refine Below.alloc ?_ ?_ _ | with_reducible refine Below.setCell ?_ ?_ _ | with_reducible refine below_step (by assumption) ?_ ?_ | omega | (simp; done) | (simp; omega)))⟩

set_option maxRecDepth 100000 in
set_option maxHeartbeats 2000000 in
theorem walk1001 (a0 a1 a2 a3 a4 b0 b1 b2 b3 b4 c0 c1 c2 c3 c4 : Int) (w : World) (ha : rtB a0 a1 a2 a3 a4 = true) (hb : rtB b0 b1 b2 b3 b4 = true) (hc : rtB c0 c1 c2 c3 c4 = true) (e : addE a0 a1 a2 a3 a4 c0 c1 c2 c3 c4 = 0) (f : (addE b0 b1 b2 b3 b4 c0 c1 c2 c3 c4 == 0) = false) (z0 : b0 = 0) (z1 : 0 < b1) :
    Calls Try.prog 7 #[.agg #[.int .i64 a0, .int .i64 a1, .int .i64 a2, .int .i64 a3, .int .i64 a4], .agg #[.int .i64 b0, .int .i64 b1, .int .i64 b2, .int .i64 b3, .int .i64 b4], .agg #[.int .i64 c0, .int .i64 c1, .int .i64 c2, .int .i64 c3, .int .i64 c4]] w fun e w' => e = .returned (.bool true) ∧ Below w.heap.size w w' := by
  have hs0 := sel_0
  obtain ⟨s1, s2⟩ := share_bd a0 a1 a2 a3 a4 b0 b1 b2 b3 b4 ha hb
  have s3 : shareF b0 b1 b2 b3 b4 b0 b1 b2 b3 b4 = 1000 := by
    rw [share_self b0 b1 b2 b3 b4 hb]; exact if_pos (by omega)
  have s4 := share_mono a0 a1 a2 a3 a4 b0 b1 b2 b3 b4 c0 c1 c2 c3 c4 ha hb hc e
  subst z0
  go_enter Try.func7, Try.ntmps7
  go_wp2_with fail
  (go_at_call 16; refine (right_any _ _ _ _ _ _).mono ?_; rintro e w1 ⟨rfl, hb1⟩)
  obtain ⟨hc1, hf1⟩ := bcell hb1
  have hz1 := hb1.size
  (try simp at hz1)
  have z1_0 : w.heap.size < w1.heap.size := (by omega); have y1_0 : w.heap.size ≤ w1.heap.size := (by omega); have z1_1 : w.heap.size + 1 < w1.heap.size := (by omega); have y1_1 : w.heap.size + 1 ≤ w1.heap.size := (by omega); have z1_2 : w.heap.size + 1 + 1 < w1.heap.size := (by omega); have y1_2 : w.heap.size + 1 + 1 ≤ w1.heap.size := (by omega)
  go_wp2_with fail
  (go_at_call 16; refine (right_any _ _ _ _ _ _).mono ?_; rintro e w2 ⟨rfl, hb2⟩)
  obtain ⟨hc2, hf2⟩ := bcell hb2
  have hz2 := hb2.size
  (try simp at hz2)
  have z2_0 : w.heap.size < w2.heap.size := (by omega); have y2_0 : w.heap.size ≤ w2.heap.size := (by omega); have z2_1 : w.heap.size + 1 < w2.heap.size := (by omega); have y2_1 : w.heap.size + 1 ≤ w2.heap.size := (by omega); have z2_2 : w.heap.size + 1 + 1 < w2.heap.size := (by omega); have y2_2 : w.heap.size + 1 + 1 ≤ w2.heap.size := (by omega)
  go_wp2_with fail
  (go_at_call 16; refine (right_any _ _ _ _ _ _).mono ?_; rintro e w3 ⟨rfl, hb3⟩)
  obtain ⟨hc3, hf3⟩ := bcell hb3
  have hz3 := hb3.size
  (try simp at hz3)
  have z3_0 : w.heap.size < w3.heap.size := (by omega); have y3_0 : w.heap.size ≤ w3.heap.size := (by omega); have z3_1 : w.heap.size + 1 < w3.heap.size := (by omega); have y3_1 : w.heap.size + 1 ≤ w3.heap.size := (by omega); have z3_2 : w.heap.size + 1 + 1 < w3.heap.size := (by omega); have y3_2 : w.heap.size + 1 + 1 ≤ w3.heap.size := (by omega)
  go_wp2_with fail
  (go_at_call 10; refine (add_any _ _ _ _ _ _ _ _ _ _ _).mono ?_; rintro e w4 ⟨rfl, hb4⟩)
  obtain ⟨hc4, hf4⟩ := bcell hb4
  have hz4 := hb4.size
  (try simp at hz4)
  have z4_0 : w.heap.size < w4.heap.size := (by omega); have y4_0 : w.heap.size ≤ w4.heap.size := (by omega); have z4_1 : w.heap.size + 1 < w4.heap.size := (by omega); have y4_1 : w.heap.size + 1 ≤ w4.heap.size := (by omega); have z4_2 : w.heap.size + 1 + 1 < w4.heap.size := (by omega); have y4_2 : w.heap.size + 1 + 1 ≤ w4.heap.size := (by omega)
  go_wp2_with fail
  (go_at_call 10; refine (add_any _ _ _ _ _ _ _ _ _ _ _).mono ?_; rintro e w5 ⟨rfl, hb5⟩)
  obtain ⟨hc5, hf5⟩ := bcell hb5
  have hz5 := hb5.size
  (try simp at hz5)
  have z5_0 : w.heap.size < w5.heap.size := (by omega); have y5_0 : w.heap.size ≤ w5.heap.size := (by omega); have z5_1 : w.heap.size + 1 < w5.heap.size := (by omega); have y5_1 : w.heap.size + 1 ≤ w5.heap.size := (by omega); have z5_2 : w.heap.size + 1 + 1 < w5.heap.size := (by omega); have y5_2 : w.heap.size + 1 + 1 ≤ w5.heap.size := (by omega); have z5_3 : w4.heap.size < w5.heap.size := (by omega); have y5_3 : w4.heap.size ≤ w5.heap.size := (by omega)
  go_wp2_with (first | (go_at_call 25; refine (share_any _ _ _ _ _ _ _ _ _ _ _).mono ?_; rintro e w9 ⟨rfl, hb9⟩; obtain ⟨hc9, hf9⟩ := bcell hb9; have hz9 := hb9.size; (try simp at hz9); have z9_0 : w.heap.size < w9.heap.size := (by omega); have y9_0 : w.heap.size ≤ w9.heap.size := (by omega); have z9_1 : w.heap.size + 1 < w9.heap.size := (by omega); have y9_1 : w.heap.size + 1 ≤ w9.heap.size := (by omega); have z9_2 : w.heap.size + 1 + 1 < w9.heap.size := (by omega); have y9_2 : w.heap.size + 1 + 1 ≤ w9.heap.size := (by omega); have z9_3 : w4.heap.size < w9.heap.size := (by omega); have y9_3 : w4.heap.size ≤ w9.heap.size := (by omega); have z9_4 : w5.heap.size < w9.heap.size := (by omega); have y9_4 : w5.heap.size ≤ w9.heap.size := (by omega)) | (go_at_call 18; refine (known_any _).mono ?_; rintro e w9 ⟨rfl, hb9⟩; obtain ⟨hc9, hf9⟩ := bcell hb9; have hz9 := hb9.size; (try simp at hz9); skip))
  go_ret
  exact ⟨rfl, by (repeat' (first | with_reducible exact Below.refl _ _ | with_reducible assumption | with_reducible refine Below.drew ?_ | with_reducible refine below_drewN' ?_ _ | with_reducible refine Below.alloc ?_ ?_ _ | with_reducible refine Below.setCell ?_ ?_ _ | with_reducible refine below_step (by assumption) ?_ ?_ | omega | (simp; done) | (simp; omega)))⟩

set_option maxRecDepth 100000 in
set_option maxHeartbeats 2000000 in
theorem walk1010 (a0 a1 a2 a3 a4 b0 b1 b2 b3 b4 c0 c1 c2 c3 c4 : Int) (w : World) (ha : rtB a0 a1 a2 a3 a4 = true) (hb : rtB b0 b1 b2 b3 b4 = true) (hc : rtB c0 c1 c2 c3 c4 = true) (e : addE a0 a1 a2 a3 a4 c0 c1 c2 c3 c4 = 0) (f : (addE b0 b1 b2 b3 b4 c0 c1 c2 c3 c4 == 0) = false) (z0 : 0 < b0) (z1 : b1 = 0) :
    Calls Try.prog 7 #[.agg #[.int .i64 a0, .int .i64 a1, .int .i64 a2, .int .i64 a3, .int .i64 a4], .agg #[.int .i64 b0, .int .i64 b1, .int .i64 b2, .int .i64 b3, .int .i64 b4], .agg #[.int .i64 c0, .int .i64 c1, .int .i64 c2, .int .i64 c3, .int .i64 c4]] w fun e w' => e = .returned (.bool true) ∧ Below w.heap.size w w' := by
  have hs0 := sel_0
  obtain ⟨s1, s2⟩ := share_bd a0 a1 a2 a3 a4 b0 b1 b2 b3 b4 ha hb
  have s3 : shareF b0 b1 b2 b3 b4 b0 b1 b2 b3 b4 = 1000 := by
    rw [share_self b0 b1 b2 b3 b4 hb]; exact if_pos (by omega)
  have s4 := share_mono a0 a1 a2 a3 a4 b0 b1 b2 b3 b4 c0 c1 c2 c3 c4 ha hb hc e
  subst z1
  go_enter Try.func7, Try.ntmps7
  go_wp2_with fail
  (go_at_call 16; refine (right_any _ _ _ _ _ _).mono ?_; rintro e w1 ⟨rfl, hb1⟩)
  obtain ⟨hc1, hf1⟩ := bcell hb1
  have hz1 := hb1.size
  (try simp at hz1)
  have z1_0 : w.heap.size < w1.heap.size := (by omega); have y1_0 : w.heap.size ≤ w1.heap.size := (by omega); have z1_1 : w.heap.size + 1 < w1.heap.size := (by omega); have y1_1 : w.heap.size + 1 ≤ w1.heap.size := (by omega); have z1_2 : w.heap.size + 1 + 1 < w1.heap.size := (by omega); have y1_2 : w.heap.size + 1 + 1 ≤ w1.heap.size := (by omega)
  go_wp2_with fail
  (go_at_call 16; refine (right_any _ _ _ _ _ _).mono ?_; rintro e w2 ⟨rfl, hb2⟩)
  obtain ⟨hc2, hf2⟩ := bcell hb2
  have hz2 := hb2.size
  (try simp at hz2)
  have z2_0 : w.heap.size < w2.heap.size := (by omega); have y2_0 : w.heap.size ≤ w2.heap.size := (by omega); have z2_1 : w.heap.size + 1 < w2.heap.size := (by omega); have y2_1 : w.heap.size + 1 ≤ w2.heap.size := (by omega); have z2_2 : w.heap.size + 1 + 1 < w2.heap.size := (by omega); have y2_2 : w.heap.size + 1 + 1 ≤ w2.heap.size := (by omega)
  go_wp2_with fail
  (go_at_call 16; refine (right_any _ _ _ _ _ _).mono ?_; rintro e w3 ⟨rfl, hb3⟩)
  obtain ⟨hc3, hf3⟩ := bcell hb3
  have hz3 := hb3.size
  (try simp at hz3)
  have z3_0 : w.heap.size < w3.heap.size := (by omega); have y3_0 : w.heap.size ≤ w3.heap.size := (by omega); have z3_1 : w.heap.size + 1 < w3.heap.size := (by omega); have y3_1 : w.heap.size + 1 ≤ w3.heap.size := (by omega); have z3_2 : w.heap.size + 1 + 1 < w3.heap.size := (by omega); have y3_2 : w.heap.size + 1 + 1 ≤ w3.heap.size := (by omega)
  go_wp2_with fail
  (go_at_call 10; refine (add_any _ _ _ _ _ _ _ _ _ _ _).mono ?_; rintro e w4 ⟨rfl, hb4⟩)
  obtain ⟨hc4, hf4⟩ := bcell hb4
  have hz4 := hb4.size
  (try simp at hz4)
  have z4_0 : w.heap.size < w4.heap.size := (by omega); have y4_0 : w.heap.size ≤ w4.heap.size := (by omega); have z4_1 : w.heap.size + 1 < w4.heap.size := (by omega); have y4_1 : w.heap.size + 1 ≤ w4.heap.size := (by omega); have z4_2 : w.heap.size + 1 + 1 < w4.heap.size := (by omega); have y4_2 : w.heap.size + 1 + 1 ≤ w4.heap.size := (by omega)
  go_wp2_with fail
  (go_at_call 10; refine (add_any _ _ _ _ _ _ _ _ _ _ _).mono ?_; rintro e w5 ⟨rfl, hb5⟩)
  obtain ⟨hc5, hf5⟩ := bcell hb5
  have hz5 := hb5.size
  (try simp at hz5)
  have z5_0 : w.heap.size < w5.heap.size := (by omega); have y5_0 : w.heap.size ≤ w5.heap.size := (by omega); have z5_1 : w.heap.size + 1 < w5.heap.size := (by omega); have y5_1 : w.heap.size + 1 ≤ w5.heap.size := (by omega); have z5_2 : w.heap.size + 1 + 1 < w5.heap.size := (by omega); have y5_2 : w.heap.size + 1 + 1 ≤ w5.heap.size := (by omega); have z5_3 : w4.heap.size < w5.heap.size := (by omega); have y5_3 : w4.heap.size ≤ w5.heap.size := (by omega)
  go_wp2_with (first | (go_at_call 25; refine (share_any _ _ _ _ _ _ _ _ _ _ _).mono ?_; rintro e w9 ⟨rfl, hb9⟩; obtain ⟨hc9, hf9⟩ := bcell hb9; have hz9 := hb9.size; (try simp at hz9); have z9_0 : w.heap.size < w9.heap.size := (by omega); have y9_0 : w.heap.size ≤ w9.heap.size := (by omega); have z9_1 : w.heap.size + 1 < w9.heap.size := (by omega); have y9_1 : w.heap.size + 1 ≤ w9.heap.size := (by omega); have z9_2 : w.heap.size + 1 + 1 < w9.heap.size := (by omega); have y9_2 : w.heap.size + 1 + 1 ≤ w9.heap.size := (by omega); have z9_3 : w4.heap.size < w9.heap.size := (by omega); have y9_3 : w4.heap.size ≤ w9.heap.size := (by omega); have z9_4 : w5.heap.size < w9.heap.size := (by omega); have y9_4 : w5.heap.size ≤ w9.heap.size := (by omega)) | (go_at_call 18; refine (known_any _).mono ?_; rintro e w9 ⟨rfl, hb9⟩; obtain ⟨hc9, hf9⟩ := bcell hb9; have hz9 := hb9.size; (try simp at hz9); skip))
  go_ret
  exact ⟨rfl, by (repeat' (first | with_reducible exact Below.refl _ _ | with_reducible assumption | with_reducible refine Below.drew ?_ | with_reducible refine below_drewN' ?_ _ | with_reducible refine Below.alloc ?_ ?_ _ | with_reducible refine Below.setCell ?_ ?_ _ | with_reducible refine below_step (by assumption) ?_ ?_ | omega | (simp; done) | (simp; omega)))⟩

set_option maxRecDepth 100000 in
set_option maxHeartbeats 2000000 in
theorem walk1011 (a0 a1 a2 a3 a4 b0 b1 b2 b3 b4 c0 c1 c2 c3 c4 : Int) (w : World) (ha : rtB a0 a1 a2 a3 a4 = true) (hb : rtB b0 b1 b2 b3 b4 = true) (hc : rtB c0 c1 c2 c3 c4 = true) (e : addE a0 a1 a2 a3 a4 c0 c1 c2 c3 c4 = 0) (f : (addE b0 b1 b2 b3 b4 c0 c1 c2 c3 c4 == 0) = false) (z0 : 0 < b0) (z1 : 0 < b1) :
    Calls Try.prog 7 #[.agg #[.int .i64 a0, .int .i64 a1, .int .i64 a2, .int .i64 a3, .int .i64 a4], .agg #[.int .i64 b0, .int .i64 b1, .int .i64 b2, .int .i64 b3, .int .i64 b4], .agg #[.int .i64 c0, .int .i64 c1, .int .i64 c2, .int .i64 c3, .int .i64 c4]] w fun e w' => e = .returned (.bool true) ∧ Below w.heap.size w w' := by
  have hs0 := sel_0
  obtain ⟨s1, s2⟩ := share_bd a0 a1 a2 a3 a4 b0 b1 b2 b3 b4 ha hb
  have s3 : shareF b0 b1 b2 b3 b4 b0 b1 b2 b3 b4 = 1000 := by
    rw [share_self b0 b1 b2 b3 b4 hb]; exact if_pos (by omega)
  have s4 := share_mono a0 a1 a2 a3 a4 b0 b1 b2 b3 b4 c0 c1 c2 c3 c4 ha hb hc e
  go_enter Try.func7, Try.ntmps7
  go_wp2_with fail
  (go_at_call 16; refine (right_any _ _ _ _ _ _).mono ?_; rintro e w1 ⟨rfl, hb1⟩)
  obtain ⟨hc1, hf1⟩ := bcell hb1
  have hz1 := hb1.size
  (try simp at hz1)
  have z1_0 : w.heap.size < w1.heap.size := (by omega); have y1_0 : w.heap.size ≤ w1.heap.size := (by omega); have z1_1 : w.heap.size + 1 < w1.heap.size := (by omega); have y1_1 : w.heap.size + 1 ≤ w1.heap.size := (by omega); have z1_2 : w.heap.size + 1 + 1 < w1.heap.size := (by omega); have y1_2 : w.heap.size + 1 + 1 ≤ w1.heap.size := (by omega)
  go_wp2_with fail
  (go_at_call 16; refine (right_any _ _ _ _ _ _).mono ?_; rintro e w2 ⟨rfl, hb2⟩)
  obtain ⟨hc2, hf2⟩ := bcell hb2
  have hz2 := hb2.size
  (try simp at hz2)
  have z2_0 : w.heap.size < w2.heap.size := (by omega); have y2_0 : w.heap.size ≤ w2.heap.size := (by omega); have z2_1 : w.heap.size + 1 < w2.heap.size := (by omega); have y2_1 : w.heap.size + 1 ≤ w2.heap.size := (by omega); have z2_2 : w.heap.size + 1 + 1 < w2.heap.size := (by omega); have y2_2 : w.heap.size + 1 + 1 ≤ w2.heap.size := (by omega)
  go_wp2_with fail
  (go_at_call 16; refine (right_any _ _ _ _ _ _).mono ?_; rintro e w3 ⟨rfl, hb3⟩)
  obtain ⟨hc3, hf3⟩ := bcell hb3
  have hz3 := hb3.size
  (try simp at hz3)
  have z3_0 : w.heap.size < w3.heap.size := (by omega); have y3_0 : w.heap.size ≤ w3.heap.size := (by omega); have z3_1 : w.heap.size + 1 < w3.heap.size := (by omega); have y3_1 : w.heap.size + 1 ≤ w3.heap.size := (by omega); have z3_2 : w.heap.size + 1 + 1 < w3.heap.size := (by omega); have y3_2 : w.heap.size + 1 + 1 ≤ w3.heap.size := (by omega)
  go_wp2_with fail
  (go_at_call 10; refine (add_any _ _ _ _ _ _ _ _ _ _ _).mono ?_; rintro e w4 ⟨rfl, hb4⟩)
  obtain ⟨hc4, hf4⟩ := bcell hb4
  have hz4 := hb4.size
  (try simp at hz4)
  have z4_0 : w.heap.size < w4.heap.size := (by omega); have y4_0 : w.heap.size ≤ w4.heap.size := (by omega); have z4_1 : w.heap.size + 1 < w4.heap.size := (by omega); have y4_1 : w.heap.size + 1 ≤ w4.heap.size := (by omega); have z4_2 : w.heap.size + 1 + 1 < w4.heap.size := (by omega); have y4_2 : w.heap.size + 1 + 1 ≤ w4.heap.size := (by omega)
  go_wp2_with fail
  (go_at_call 10; refine (add_any _ _ _ _ _ _ _ _ _ _ _).mono ?_; rintro e w5 ⟨rfl, hb5⟩)
  obtain ⟨hc5, hf5⟩ := bcell hb5
  have hz5 := hb5.size
  (try simp at hz5)
  have z5_0 : w.heap.size < w5.heap.size := (by omega); have y5_0 : w.heap.size ≤ w5.heap.size := (by omega); have z5_1 : w.heap.size + 1 < w5.heap.size := (by omega); have y5_1 : w.heap.size + 1 ≤ w5.heap.size := (by omega); have z5_2 : w.heap.size + 1 + 1 < w5.heap.size := (by omega); have y5_2 : w.heap.size + 1 + 1 ≤ w5.heap.size := (by omega); have z5_3 : w4.heap.size < w5.heap.size := (by omega); have y5_3 : w4.heap.size ≤ w5.heap.size := (by omega)
  go_wp2_with (first | (go_at_call 25; refine (share_any _ _ _ _ _ _ _ _ _ _ _).mono ?_; rintro e w9 ⟨rfl, hb9⟩; obtain ⟨hc9, hf9⟩ := bcell hb9; have hz9 := hb9.size; (try simp at hz9); have z9_0 : w.heap.size < w9.heap.size := (by omega); have y9_0 : w.heap.size ≤ w9.heap.size := (by omega); have z9_1 : w.heap.size + 1 < w9.heap.size := (by omega); have y9_1 : w.heap.size + 1 ≤ w9.heap.size := (by omega); have z9_2 : w.heap.size + 1 + 1 < w9.heap.size := (by omega); have y9_2 : w.heap.size + 1 + 1 ≤ w9.heap.size := (by omega); have z9_3 : w4.heap.size < w9.heap.size := (by omega); have y9_3 : w4.heap.size ≤ w9.heap.size := (by omega); have z9_4 : w5.heap.size < w9.heap.size := (by omega); have y9_4 : w5.heap.size ≤ w9.heap.size := (by omega)) | (go_at_call 18; refine (known_any _).mono ?_; rintro e w9 ⟨rfl, hb9⟩; obtain ⟨hc9, hf9⟩ := bcell hb9; have hz9 := hb9.size; (try simp at hz9); skip))
  go_ret
  exact ⟨rfl, by (repeat' (first | with_reducible exact Below.refl _ _ | with_reducible assumption | with_reducible refine Below.drew ?_ | with_reducible refine below_drewN' ?_ _ | with_reducible refine Below.alloc ?_ ?_ _ | with_reducible refine Below.setCell ?_ ?_ _ | with_reducible refine below_step (by assumption) ?_ ?_ | omega | (simp; done) | (simp; omega)))⟩

set_option maxRecDepth 100000 in
set_option maxHeartbeats 2000000 in
theorem walk1100 (a0 a1 a2 a3 a4 b0 b1 b2 b3 b4 c0 c1 c2 c3 c4 : Int) (w : World) (ha : rtB a0 a1 a2 a3 a4 = true) (hb : rtB b0 b1 b2 b3 b4 = true) (hc : rtB c0 c1 c2 c3 c4 = true) (e : addE a0 a1 a2 a3 a4 c0 c1 c2 c3 c4 = 0) (f : addE b0 b1 b2 b3 b4 c0 c1 c2 c3 c4 = 0) (z0 : b0 = 0) (z1 : b1 = 0) :
    Calls Try.prog 7 #[.agg #[.int .i64 a0, .int .i64 a1, .int .i64 a2, .int .i64 a3, .int .i64 a4], .agg #[.int .i64 b0, .int .i64 b1, .int .i64 b2, .int .i64 b3, .int .i64 b4], .agg #[.int .i64 c0, .int .i64 c1, .int .i64 c2, .int .i64 c3, .int .i64 c4]] w fun e w' => e = .returned (.bool true) ∧ Below w.heap.size w w' := by
  have hs0 := sel_0
  obtain ⟨s1, s2⟩ := share_bd a0 a1 a2 a3 a4 b0 b1 b2 b3 b4 ha hb
  have s3 : shareF b0 b1 b2 b3 b4 b0 b1 b2 b3 b4 = 0 := by
    rw [share_self b0 b1 b2 b3 b4 hb]; exact if_neg (by omega)
  have s4 := share_mono a0 a1 a2 a3 a4 b0 b1 b2 b3 b4 c0 c1 c2 c3 c4 ha hb hc e
  subst z0
  subst z1
  go_enter Try.func7, Try.ntmps7
  go_wp2_with fail
  (go_at_call 16; refine (right_any _ _ _ _ _ _).mono ?_; rintro e w1 ⟨rfl, hb1⟩)
  obtain ⟨hc1, hf1⟩ := bcell hb1
  have hz1 := hb1.size
  (try simp at hz1)
  have z1_0 : w.heap.size < w1.heap.size := (by omega); have y1_0 : w.heap.size ≤ w1.heap.size := (by omega); have z1_1 : w.heap.size + 1 < w1.heap.size := (by omega); have y1_1 : w.heap.size + 1 ≤ w1.heap.size := (by omega); have z1_2 : w.heap.size + 1 + 1 < w1.heap.size := (by omega); have y1_2 : w.heap.size + 1 + 1 ≤ w1.heap.size := (by omega)
  go_wp2_with fail
  (go_at_call 16; refine (right_any _ _ _ _ _ _).mono ?_; rintro e w2 ⟨rfl, hb2⟩)
  obtain ⟨hc2, hf2⟩ := bcell hb2
  have hz2 := hb2.size
  (try simp at hz2)
  have z2_0 : w.heap.size < w2.heap.size := (by omega); have y2_0 : w.heap.size ≤ w2.heap.size := (by omega); have z2_1 : w.heap.size + 1 < w2.heap.size := (by omega); have y2_1 : w.heap.size + 1 ≤ w2.heap.size := (by omega); have z2_2 : w.heap.size + 1 + 1 < w2.heap.size := (by omega); have y2_2 : w.heap.size + 1 + 1 ≤ w2.heap.size := (by omega)
  go_wp2_with fail
  (go_at_call 16; refine (right_any _ _ _ _ _ _).mono ?_; rintro e w3 ⟨rfl, hb3⟩)
  obtain ⟨hc3, hf3⟩ := bcell hb3
  have hz3 := hb3.size
  (try simp at hz3)
  have z3_0 : w.heap.size < w3.heap.size := (by omega); have y3_0 : w.heap.size ≤ w3.heap.size := (by omega); have z3_1 : w.heap.size + 1 < w3.heap.size := (by omega); have y3_1 : w.heap.size + 1 ≤ w3.heap.size := (by omega); have z3_2 : w.heap.size + 1 + 1 < w3.heap.size := (by omega); have y3_2 : w.heap.size + 1 + 1 ≤ w3.heap.size := (by omega)
  go_wp2_with fail
  (go_at_call 10; refine (add_any _ _ _ _ _ _ _ _ _ _ _).mono ?_; rintro e w4 ⟨rfl, hb4⟩)
  obtain ⟨hc4, hf4⟩ := bcell hb4
  have hz4 := hb4.size
  (try simp at hz4)
  have z4_0 : w.heap.size < w4.heap.size := (by omega); have y4_0 : w.heap.size ≤ w4.heap.size := (by omega); have z4_1 : w.heap.size + 1 < w4.heap.size := (by omega); have y4_1 : w.heap.size + 1 ≤ w4.heap.size := (by omega); have z4_2 : w.heap.size + 1 + 1 < w4.heap.size := (by omega); have y4_2 : w.heap.size + 1 + 1 ≤ w4.heap.size := (by omega)
  go_wp2_with fail
  (go_at_call 10; refine (add_any _ _ _ _ _ _ _ _ _ _ _).mono ?_; rintro e w5 ⟨rfl, hb5⟩)
  obtain ⟨hc5, hf5⟩ := bcell hb5
  have hz5 := hb5.size
  (try simp at hz5)
  have z5_0 : w.heap.size < w5.heap.size := (by omega); have y5_0 : w.heap.size ≤ w5.heap.size := (by omega); have z5_1 : w.heap.size + 1 < w5.heap.size := (by omega); have y5_1 : w.heap.size + 1 ≤ w5.heap.size := (by omega); have z5_2 : w.heap.size + 1 + 1 < w5.heap.size := (by omega); have y5_2 : w.heap.size + 1 + 1 ≤ w5.heap.size := (by omega); have z5_3 : w4.heap.size < w5.heap.size := (by omega); have y5_3 : w4.heap.size ≤ w5.heap.size := (by omega)
  go_wp2_with (first | (go_at_call 25; refine (share_any _ _ _ _ _ _ _ _ _ _ _).mono ?_; rintro e w9 ⟨rfl, hb9⟩; obtain ⟨hc9, hf9⟩ := bcell hb9; have hz9 := hb9.size; (try simp at hz9); have z9_0 : w.heap.size < w9.heap.size := (by omega); have y9_0 : w.heap.size ≤ w9.heap.size := (by omega); have z9_1 : w.heap.size + 1 < w9.heap.size := (by omega); have y9_1 : w.heap.size + 1 ≤ w9.heap.size := (by omega); have z9_2 : w.heap.size + 1 + 1 < w9.heap.size := (by omega); have y9_2 : w.heap.size + 1 + 1 ≤ w9.heap.size := (by omega); have z9_3 : w4.heap.size < w9.heap.size := (by omega); have y9_3 : w4.heap.size ≤ w9.heap.size := (by omega); have z9_4 : w5.heap.size < w9.heap.size := (by omega); have y9_4 : w5.heap.size ≤ w9.heap.size := (by omega)) | (go_at_call 18; refine (known_any _).mono ?_; rintro e w9 ⟨rfl, hb9⟩; obtain ⟨hc9, hf9⟩ := bcell hb9; have hz9 := hb9.size; (try simp at hz9); skip))
  go_ret
  exact ⟨rfl, by (repeat' (first | with_reducible exact Below.refl _ _ | with_reducible assumption | with_reducible refine Below.drew ?_ | with_reducible refine below_drewN' ?_ _ | with_reducible refine Below.alloc ?_ ?_ _ | with_reducible refine Below.setCell ?_ ?_ _ | with_reducible refine below_step (by assumption) ?_ ?_ | omega | (simp; done) | (simp; omega)))⟩

set_option maxRecDepth 100000 in
set_option maxHeartbeats 2000000 in
theorem walk1101 (a0 a1 a2 a3 a4 b0 b1 b2 b3 b4 c0 c1 c2 c3 c4 : Int) (w : World) (ha : rtB a0 a1 a2 a3 a4 = true) (hb : rtB b0 b1 b2 b3 b4 = true) (hc : rtB c0 c1 c2 c3 c4 = true) (e : addE a0 a1 a2 a3 a4 c0 c1 c2 c3 c4 = 0) (f : addE b0 b1 b2 b3 b4 c0 c1 c2 c3 c4 = 0) (z0 : b0 = 0) (z1 : 0 < b1) :
    Calls Try.prog 7 #[.agg #[.int .i64 a0, .int .i64 a1, .int .i64 a2, .int .i64 a3, .int .i64 a4], .agg #[.int .i64 b0, .int .i64 b1, .int .i64 b2, .int .i64 b3, .int .i64 b4], .agg #[.int .i64 c0, .int .i64 c1, .int .i64 c2, .int .i64 c3, .int .i64 c4]] w fun e w' => e = .returned (.bool true) ∧ Below w.heap.size w w' := by
  have hs0 := sel_0
  obtain ⟨s1, s2⟩ := share_bd a0 a1 a2 a3 a4 b0 b1 b2 b3 b4 ha hb
  have s3 : shareF b0 b1 b2 b3 b4 b0 b1 b2 b3 b4 = 1000 := by
    rw [share_self b0 b1 b2 b3 b4 hb]; exact if_pos (by omega)
  have s4 := share_mono a0 a1 a2 a3 a4 b0 b1 b2 b3 b4 c0 c1 c2 c3 c4 ha hb hc e
  subst z0
  go_enter Try.func7, Try.ntmps7
  go_wp2_with fail
  (go_at_call 16; refine (right_any _ _ _ _ _ _).mono ?_; rintro e w1 ⟨rfl, hb1⟩)
  obtain ⟨hc1, hf1⟩ := bcell hb1
  have hz1 := hb1.size
  (try simp at hz1)
  have z1_0 : w.heap.size < w1.heap.size := (by omega); have y1_0 : w.heap.size ≤ w1.heap.size := (by omega); have z1_1 : w.heap.size + 1 < w1.heap.size := (by omega); have y1_1 : w.heap.size + 1 ≤ w1.heap.size := (by omega); have z1_2 : w.heap.size + 1 + 1 < w1.heap.size := (by omega); have y1_2 : w.heap.size + 1 + 1 ≤ w1.heap.size := (by omega)
  go_wp2_with fail
  (go_at_call 16; refine (right_any _ _ _ _ _ _).mono ?_; rintro e w2 ⟨rfl, hb2⟩)
  obtain ⟨hc2, hf2⟩ := bcell hb2
  have hz2 := hb2.size
  (try simp at hz2)
  have z2_0 : w.heap.size < w2.heap.size := (by omega); have y2_0 : w.heap.size ≤ w2.heap.size := (by omega); have z2_1 : w.heap.size + 1 < w2.heap.size := (by omega); have y2_1 : w.heap.size + 1 ≤ w2.heap.size := (by omega); have z2_2 : w.heap.size + 1 + 1 < w2.heap.size := (by omega); have y2_2 : w.heap.size + 1 + 1 ≤ w2.heap.size := (by omega)
  go_wp2_with fail
  (go_at_call 16; refine (right_any _ _ _ _ _ _).mono ?_; rintro e w3 ⟨rfl, hb3⟩)
  obtain ⟨hc3, hf3⟩ := bcell hb3
  have hz3 := hb3.size
  (try simp at hz3)
  have z3_0 : w.heap.size < w3.heap.size := (by omega); have y3_0 : w.heap.size ≤ w3.heap.size := (by omega); have z3_1 : w.heap.size + 1 < w3.heap.size := (by omega); have y3_1 : w.heap.size + 1 ≤ w3.heap.size := (by omega); have z3_2 : w.heap.size + 1 + 1 < w3.heap.size := (by omega); have y3_2 : w.heap.size + 1 + 1 ≤ w3.heap.size := (by omega)
  go_wp2_with fail
  (go_at_call 10; refine (add_any _ _ _ _ _ _ _ _ _ _ _).mono ?_; rintro e w4 ⟨rfl, hb4⟩)
  obtain ⟨hc4, hf4⟩ := bcell hb4
  have hz4 := hb4.size
  (try simp at hz4)
  have z4_0 : w.heap.size < w4.heap.size := (by omega); have y4_0 : w.heap.size ≤ w4.heap.size := (by omega); have z4_1 : w.heap.size + 1 < w4.heap.size := (by omega); have y4_1 : w.heap.size + 1 ≤ w4.heap.size := (by omega); have z4_2 : w.heap.size + 1 + 1 < w4.heap.size := (by omega); have y4_2 : w.heap.size + 1 + 1 ≤ w4.heap.size := (by omega)
  go_wp2_with fail
  (go_at_call 10; refine (add_any _ _ _ _ _ _ _ _ _ _ _).mono ?_; rintro e w5 ⟨rfl, hb5⟩)
  obtain ⟨hc5, hf5⟩ := bcell hb5
  have hz5 := hb5.size
  (try simp at hz5)
  have z5_0 : w.heap.size < w5.heap.size := (by omega); have y5_0 : w.heap.size ≤ w5.heap.size := (by omega); have z5_1 : w.heap.size + 1 < w5.heap.size := (by omega); have y5_1 : w.heap.size + 1 ≤ w5.heap.size := (by omega); have z5_2 : w.heap.size + 1 + 1 < w5.heap.size := (by omega); have y5_2 : w.heap.size + 1 + 1 ≤ w5.heap.size := (by omega); have z5_3 : w4.heap.size < w5.heap.size := (by omega); have y5_3 : w4.heap.size ≤ w5.heap.size := (by omega)
  go_wp2_with (first | (go_at_call 25; refine (share_any _ _ _ _ _ _ _ _ _ _ _).mono ?_; rintro e w9 ⟨rfl, hb9⟩; obtain ⟨hc9, hf9⟩ := bcell hb9; have hz9 := hb9.size; (try simp at hz9); have z9_0 : w.heap.size < w9.heap.size := (by omega); have y9_0 : w.heap.size ≤ w9.heap.size := (by omega); have z9_1 : w.heap.size + 1 < w9.heap.size := (by omega); have y9_1 : w.heap.size + 1 ≤ w9.heap.size := (by omega); have z9_2 : w.heap.size + 1 + 1 < w9.heap.size := (by omega); have y9_2 : w.heap.size + 1 + 1 ≤ w9.heap.size := (by omega); have z9_3 : w4.heap.size < w9.heap.size := (by omega); have y9_3 : w4.heap.size ≤ w9.heap.size := (by omega); have z9_4 : w5.heap.size < w9.heap.size := (by omega); have y9_4 : w5.heap.size ≤ w9.heap.size := (by omega)) | (go_at_call 18; refine (known_any _).mono ?_; rintro e w9 ⟨rfl, hb9⟩; obtain ⟨hc9, hf9⟩ := bcell hb9; have hz9 := hb9.size; (try simp at hz9); skip))
  go_ret
  exact ⟨rfl, by (repeat' (first | with_reducible exact Below.refl _ _ | with_reducible assumption | with_reducible refine Below.drew ?_ | with_reducible refine below_drewN' ?_ _ | with_reducible refine Below.alloc ?_ ?_ _ | with_reducible refine Below.setCell ?_ ?_ _ | with_reducible refine below_step (by assumption) ?_ ?_ | omega | (simp; done) | (simp; omega)))⟩

set_option maxRecDepth 100000 in
set_option maxHeartbeats 2000000 in
theorem walk1110 (a0 a1 a2 a3 a4 b0 b1 b2 b3 b4 c0 c1 c2 c3 c4 : Int) (w : World) (ha : rtB a0 a1 a2 a3 a4 = true) (hb : rtB b0 b1 b2 b3 b4 = true) (hc : rtB c0 c1 c2 c3 c4 = true) (e : addE a0 a1 a2 a3 a4 c0 c1 c2 c3 c4 = 0) (f : addE b0 b1 b2 b3 b4 c0 c1 c2 c3 c4 = 0) (z0 : 0 < b0) (z1 : b1 = 0) :
    Calls Try.prog 7 #[.agg #[.int .i64 a0, .int .i64 a1, .int .i64 a2, .int .i64 a3, .int .i64 a4], .agg #[.int .i64 b0, .int .i64 b1, .int .i64 b2, .int .i64 b3, .int .i64 b4], .agg #[.int .i64 c0, .int .i64 c1, .int .i64 c2, .int .i64 c3, .int .i64 c4]] w fun e w' => e = .returned (.bool true) ∧ Below w.heap.size w w' := by
  have hs0 := sel_0
  obtain ⟨s1, s2⟩ := share_bd a0 a1 a2 a3 a4 b0 b1 b2 b3 b4 ha hb
  have s3 : shareF b0 b1 b2 b3 b4 b0 b1 b2 b3 b4 = 1000 := by
    rw [share_self b0 b1 b2 b3 b4 hb]; exact if_pos (by omega)
  have s4 := share_mono a0 a1 a2 a3 a4 b0 b1 b2 b3 b4 c0 c1 c2 c3 c4 ha hb hc e
  subst z1
  go_enter Try.func7, Try.ntmps7
  go_wp2_with fail
  (go_at_call 16; refine (right_any _ _ _ _ _ _).mono ?_; rintro e w1 ⟨rfl, hb1⟩)
  obtain ⟨hc1, hf1⟩ := bcell hb1
  have hz1 := hb1.size
  (try simp at hz1)
  have z1_0 : w.heap.size < w1.heap.size := (by omega); have y1_0 : w.heap.size ≤ w1.heap.size := (by omega); have z1_1 : w.heap.size + 1 < w1.heap.size := (by omega); have y1_1 : w.heap.size + 1 ≤ w1.heap.size := (by omega); have z1_2 : w.heap.size + 1 + 1 < w1.heap.size := (by omega); have y1_2 : w.heap.size + 1 + 1 ≤ w1.heap.size := (by omega)
  go_wp2_with fail
  (go_at_call 16; refine (right_any _ _ _ _ _ _).mono ?_; rintro e w2 ⟨rfl, hb2⟩)
  obtain ⟨hc2, hf2⟩ := bcell hb2
  have hz2 := hb2.size
  (try simp at hz2)
  have z2_0 : w.heap.size < w2.heap.size := (by omega); have y2_0 : w.heap.size ≤ w2.heap.size := (by omega); have z2_1 : w.heap.size + 1 < w2.heap.size := (by omega); have y2_1 : w.heap.size + 1 ≤ w2.heap.size := (by omega); have z2_2 : w.heap.size + 1 + 1 < w2.heap.size := (by omega); have y2_2 : w.heap.size + 1 + 1 ≤ w2.heap.size := (by omega)
  go_wp2_with fail
  (go_at_call 16; refine (right_any _ _ _ _ _ _).mono ?_; rintro e w3 ⟨rfl, hb3⟩)
  obtain ⟨hc3, hf3⟩ := bcell hb3
  have hz3 := hb3.size
  (try simp at hz3)
  have z3_0 : w.heap.size < w3.heap.size := (by omega); have y3_0 : w.heap.size ≤ w3.heap.size := (by omega); have z3_1 : w.heap.size + 1 < w3.heap.size := (by omega); have y3_1 : w.heap.size + 1 ≤ w3.heap.size := (by omega); have z3_2 : w.heap.size + 1 + 1 < w3.heap.size := (by omega); have y3_2 : w.heap.size + 1 + 1 ≤ w3.heap.size := (by omega)
  go_wp2_with fail
  (go_at_call 10; refine (add_any _ _ _ _ _ _ _ _ _ _ _).mono ?_; rintro e w4 ⟨rfl, hb4⟩)
  obtain ⟨hc4, hf4⟩ := bcell hb4
  have hz4 := hb4.size
  (try simp at hz4)
  have z4_0 : w.heap.size < w4.heap.size := (by omega); have y4_0 : w.heap.size ≤ w4.heap.size := (by omega); have z4_1 : w.heap.size + 1 < w4.heap.size := (by omega); have y4_1 : w.heap.size + 1 ≤ w4.heap.size := (by omega); have z4_2 : w.heap.size + 1 + 1 < w4.heap.size := (by omega); have y4_2 : w.heap.size + 1 + 1 ≤ w4.heap.size := (by omega)
  go_wp2_with fail
  (go_at_call 10; refine (add_any _ _ _ _ _ _ _ _ _ _ _).mono ?_; rintro e w5 ⟨rfl, hb5⟩)
  obtain ⟨hc5, hf5⟩ := bcell hb5
  have hz5 := hb5.size
  (try simp at hz5)
  have z5_0 : w.heap.size < w5.heap.size := (by omega); have y5_0 : w.heap.size ≤ w5.heap.size := (by omega); have z5_1 : w.heap.size + 1 < w5.heap.size := (by omega); have y5_1 : w.heap.size + 1 ≤ w5.heap.size := (by omega); have z5_2 : w.heap.size + 1 + 1 < w5.heap.size := (by omega); have y5_2 : w.heap.size + 1 + 1 ≤ w5.heap.size := (by omega); have z5_3 : w4.heap.size < w5.heap.size := (by omega); have y5_3 : w4.heap.size ≤ w5.heap.size := (by omega)
  go_wp2_with (first | (go_at_call 25; refine (share_any _ _ _ _ _ _ _ _ _ _ _).mono ?_; rintro e w9 ⟨rfl, hb9⟩; obtain ⟨hc9, hf9⟩ := bcell hb9; have hz9 := hb9.size; (try simp at hz9); have z9_0 : w.heap.size < w9.heap.size := (by omega); have y9_0 : w.heap.size ≤ w9.heap.size := (by omega); have z9_1 : w.heap.size + 1 < w9.heap.size := (by omega); have y9_1 : w.heap.size + 1 ≤ w9.heap.size := (by omega); have z9_2 : w.heap.size + 1 + 1 < w9.heap.size := (by omega); have y9_2 : w.heap.size + 1 + 1 ≤ w9.heap.size := (by omega); have z9_3 : w4.heap.size < w9.heap.size := (by omega); have y9_3 : w4.heap.size ≤ w9.heap.size := (by omega); have z9_4 : w5.heap.size < w9.heap.size := (by omega); have y9_4 : w5.heap.size ≤ w9.heap.size := (by omega)) | (go_at_call 18; refine (known_any _).mono ?_; rintro e w9 ⟨rfl, hb9⟩; obtain ⟨hc9, hf9⟩ := bcell hb9; have hz9 := hb9.size; (try simp at hz9); skip))
  go_ret
  exact ⟨rfl, by (repeat' (first | with_reducible exact Below.refl _ _ | with_reducible assumption | with_reducible refine Below.drew ?_ | with_reducible refine below_drewN' ?_ _ | with_reducible refine Below.alloc ?_ ?_ _ | with_reducible refine Below.setCell ?_ ?_ _ | with_reducible refine below_step (by assumption) ?_ ?_ | omega | (simp; done) | (simp; omega)))⟩

set_option maxRecDepth 100000 in
set_option maxHeartbeats 2000000 in
theorem walk1111 (a0 a1 a2 a3 a4 b0 b1 b2 b3 b4 c0 c1 c2 c3 c4 : Int) (w : World) (ha : rtB a0 a1 a2 a3 a4 = true) (hb : rtB b0 b1 b2 b3 b4 = true) (hc : rtB c0 c1 c2 c3 c4 = true) (e : addE a0 a1 a2 a3 a4 c0 c1 c2 c3 c4 = 0) (f : addE b0 b1 b2 b3 b4 c0 c1 c2 c3 c4 = 0) (z0 : 0 < b0) (z1 : 0 < b1) :
    Calls Try.prog 7 #[.agg #[.int .i64 a0, .int .i64 a1, .int .i64 a2, .int .i64 a3, .int .i64 a4], .agg #[.int .i64 b0, .int .i64 b1, .int .i64 b2, .int .i64 b3, .int .i64 b4], .agg #[.int .i64 c0, .int .i64 c1, .int .i64 c2, .int .i64 c3, .int .i64 c4]] w fun e w' => e = .returned (.bool true) ∧ Below w.heap.size w w' := by
  have hs0 := sel_0
  obtain ⟨s1, s2⟩ := share_bd a0 a1 a2 a3 a4 b0 b1 b2 b3 b4 ha hb
  have s3 : shareF b0 b1 b2 b3 b4 b0 b1 b2 b3 b4 = 1000 := by
    rw [share_self b0 b1 b2 b3 b4 hb]; exact if_pos (by omega)
  have s4 := share_mono a0 a1 a2 a3 a4 b0 b1 b2 b3 b4 c0 c1 c2 c3 c4 ha hb hc e
  have s5 := share_anti a0 a1 a2 a3 a4 b0 b1 b2 b3 b4 c0 c1 c2 c3 c4 ha hb hc f z0 z1
  go_enter Try.func7, Try.ntmps7
  go_wp2_with fail
  (go_at_call 16; refine (right_any _ _ _ _ _ _).mono ?_; rintro e w1 ⟨rfl, hb1⟩)
  obtain ⟨hc1, hf1⟩ := bcell hb1
  have hz1 := hb1.size
  (try simp at hz1)
  have z1_0 : w.heap.size < w1.heap.size := (by omega); have y1_0 : w.heap.size ≤ w1.heap.size := (by omega); have z1_1 : w.heap.size + 1 < w1.heap.size := (by omega); have y1_1 : w.heap.size + 1 ≤ w1.heap.size := (by omega); have z1_2 : w.heap.size + 1 + 1 < w1.heap.size := (by omega); have y1_2 : w.heap.size + 1 + 1 ≤ w1.heap.size := (by omega)
  go_wp2_with fail
  (go_at_call 16; refine (right_any _ _ _ _ _ _).mono ?_; rintro e w2 ⟨rfl, hb2⟩)
  obtain ⟨hc2, hf2⟩ := bcell hb2
  have hz2 := hb2.size
  (try simp at hz2)
  have z2_0 : w.heap.size < w2.heap.size := (by omega); have y2_0 : w.heap.size ≤ w2.heap.size := (by omega); have z2_1 : w.heap.size + 1 < w2.heap.size := (by omega); have y2_1 : w.heap.size + 1 ≤ w2.heap.size := (by omega); have z2_2 : w.heap.size + 1 + 1 < w2.heap.size := (by omega); have y2_2 : w.heap.size + 1 + 1 ≤ w2.heap.size := (by omega)
  go_wp2_with fail
  (go_at_call 16; refine (right_any _ _ _ _ _ _).mono ?_; rintro e w3 ⟨rfl, hb3⟩)
  obtain ⟨hc3, hf3⟩ := bcell hb3
  have hz3 := hb3.size
  (try simp at hz3)
  have z3_0 : w.heap.size < w3.heap.size := (by omega); have y3_0 : w.heap.size ≤ w3.heap.size := (by omega); have z3_1 : w.heap.size + 1 < w3.heap.size := (by omega); have y3_1 : w.heap.size + 1 ≤ w3.heap.size := (by omega); have z3_2 : w.heap.size + 1 + 1 < w3.heap.size := (by omega); have y3_2 : w.heap.size + 1 + 1 ≤ w3.heap.size := (by omega)
  go_wp2_with fail
  (go_at_call 10; refine (add_any _ _ _ _ _ _ _ _ _ _ _).mono ?_; rintro e w4 ⟨rfl, hb4⟩)
  obtain ⟨hc4, hf4⟩ := bcell hb4
  have hz4 := hb4.size
  (try simp at hz4)
  have z4_0 : w.heap.size < w4.heap.size := (by omega); have y4_0 : w.heap.size ≤ w4.heap.size := (by omega); have z4_1 : w.heap.size + 1 < w4.heap.size := (by omega); have y4_1 : w.heap.size + 1 ≤ w4.heap.size := (by omega); have z4_2 : w.heap.size + 1 + 1 < w4.heap.size := (by omega); have y4_2 : w.heap.size + 1 + 1 ≤ w4.heap.size := (by omega)
  go_wp2_with fail
  (go_at_call 10; refine (add_any _ _ _ _ _ _ _ _ _ _ _).mono ?_; rintro e w5 ⟨rfl, hb5⟩)
  obtain ⟨hc5, hf5⟩ := bcell hb5
  have hz5 := hb5.size
  (try simp at hz5)
  have z5_0 : w.heap.size < w5.heap.size := (by omega); have y5_0 : w.heap.size ≤ w5.heap.size := (by omega); have z5_1 : w.heap.size + 1 < w5.heap.size := (by omega); have y5_1 : w.heap.size + 1 ≤ w5.heap.size := (by omega); have z5_2 : w.heap.size + 1 + 1 < w5.heap.size := (by omega); have y5_2 : w.heap.size + 1 + 1 ≤ w5.heap.size := (by omega); have z5_3 : w4.heap.size < w5.heap.size := (by omega); have y5_3 : w4.heap.size ≤ w5.heap.size := (by omega)
  go_wp2_with (first | (go_at_call 25; refine (share_any _ _ _ _ _ _ _ _ _ _ _).mono ?_; rintro e w9 ⟨rfl, hb9⟩; obtain ⟨hc9, hf9⟩ := bcell hb9; have hz9 := hb9.size; (try simp at hz9); have z9_0 : w.heap.size < w9.heap.size := (by omega); have y9_0 : w.heap.size ≤ w9.heap.size := (by omega); have z9_1 : w.heap.size + 1 < w9.heap.size := (by omega); have y9_1 : w.heap.size + 1 ≤ w9.heap.size := (by omega); have z9_2 : w.heap.size + 1 + 1 < w9.heap.size := (by omega); have y9_2 : w.heap.size + 1 + 1 ≤ w9.heap.size := (by omega); have z9_3 : w4.heap.size < w9.heap.size := (by omega); have y9_3 : w4.heap.size ≤ w9.heap.size := (by omega); have z9_4 : w5.heap.size < w9.heap.size := (by omega); have y9_4 : w5.heap.size ≤ w9.heap.size := (by omega)) | (go_at_call 18; refine (known_any _).mono ?_; rintro e w9 ⟨rfl, hb9⟩; obtain ⟨hc9, hf9⟩ := bcell hb9; have hz9 := hb9.size; (try simp at hz9); skip))
  go_ret
  exact ⟨rfl, by (repeat' (first | with_reducible exact Below.refl _ _ | with_reducible assumption | with_reducible refine Below.drew ?_ | with_reducible refine below_drewN' ?_ _ | with_reducible refine Below.alloc ?_ ?_ _ | with_reducible refine Below.setCell ?_ ?_ _ | with_reducible refine below_step (by assumption) ?_ ?_ | omega | (simp; done) | (simp; omega)))⟩

theorem walk (a0 a1 a2 a3 a4 b0 b1 b2 b3 b4 c0 c1 c2 c3 c4 : Int) (w : World) :
    Calls Try.prog 7 #[.agg #[.int .i64 a0, .int .i64 a1, .int .i64 a2, .int .i64 a3, .int .i64 a4], .agg #[.int .i64 b0, .int .i64 b1, .int .i64 b2, .int .i64 b3, .int .i64 b4], .agg #[.int .i64 c0, .int .i64 c1, .int .i64 c2, .int .i64 c3, .int .i64 c4]] w fun e w' => e = .returned (.bool true) ∧ Below w.heap.size w w' := by
  cases ha : rtB a0 a1 a2 a3 a4
  · exact walk_no a0 a1 a2 a3 a4 b0 b1 b2 b3 b4 c0 c1 c2 c3 c4 w (.inl ha)
  cases hb : rtB b0 b1 b2 b3 b4
  · exact walk_no a0 a1 a2 a3 a4 b0 b1 b2 b3 b4 c0 c1 c2 c3 c4 w (.inr (.inl hb))
  cases hc : rtB c0 c1 c2 c3 c4
  · exact walk_no a0 a1 a2 a3 a4 b0 b1 b2 b3 b4 c0 c1 c2 c3 c4 w (.inr (.inr hc))
  have b0' : b0 = 0 ∨ 0 < b0 := by have := (rtB_iff _ _ _ _ _).1 hb; omega
  have b1' : b1 = 0 ∨ 0 < b1 := by have := (rtB_iff _ _ _ _ _).1 hb; omega
  by_cases e : addE a0 a1 a2 a3 a4 c0 c1 c2 c3 c4 = 0
  all_goals by_cases f : addE b0 b1 b2 b3 b4 c0 c1 c2 c3 c4 = 0
  all_goals rcases b0' with z0 | z0
  all_goals rcases b1' with z1 | z1
  · exact walk1100 a0 a1 a2 a3 a4 b0 b1 b2 b3 b4 c0 c1 c2 c3 c4 w ha hb hc e f z0 z1
  · exact walk1101 a0 a1 a2 a3 a4 b0 b1 b2 b3 b4 c0 c1 c2 c3 c4 w ha hb hc e f z0 z1
  · exact walk1110 a0 a1 a2 a3 a4 b0 b1 b2 b3 b4 c0 c1 c2 c3 c4 w ha hb hc e f z0 z1
  · exact walk1111 a0 a1 a2 a3 a4 b0 b1 b2 b3 b4 c0 c1 c2 c3 c4 w ha hb hc e f z0 z1
  · exact walk1000 a0 a1 a2 a3 a4 b0 b1 b2 b3 b4 c0 c1 c2 c3 c4 w ha hb hc e (beq_eq_false_iff_ne.2 f) z0 z1
  · exact walk1001 a0 a1 a2 a3 a4 b0 b1 b2 b3 b4 c0 c1 c2 c3 c4 w ha hb hc e (beq_eq_false_iff_ne.2 f) z0 z1
  · exact walk1010 a0 a1 a2 a3 a4 b0 b1 b2 b3 b4 c0 c1 c2 c3 c4 w ha hb hc e (beq_eq_false_iff_ne.2 f) z0 z1
  · exact walk1011 a0 a1 a2 a3 a4 b0 b1 b2 b3 b4 c0 c1 c2 c3 c4 w ha hb hc e (beq_eq_false_iff_ne.2 f) z0 z1
  · exact walk0100 a0 a1 a2 a3 a4 b0 b1 b2 b3 b4 c0 c1 c2 c3 c4 w ha hb hc (beq_eq_false_iff_ne.2 e) f z0 z1
  · exact walk0101 a0 a1 a2 a3 a4 b0 b1 b2 b3 b4 c0 c1 c2 c3 c4 w ha hb hc (beq_eq_false_iff_ne.2 e) f z0 z1
  · exact walk0110 a0 a1 a2 a3 a4 b0 b1 b2 b3 b4 c0 c1 c2 c3 c4 w ha hb hc (beq_eq_false_iff_ne.2 e) f z0 z1
  · exact walk0111 a0 a1 a2 a3 a4 b0 b1 b2 b3 b4 c0 c1 c2 c3 c4 w ha hb hc (beq_eq_false_iff_ne.2 e) f z0 z1
  · exact walk0000 a0 a1 a2 a3 a4 b0 b1 b2 b3 b4 c0 c1 c2 c3 c4 w ha hb hc (beq_eq_false_iff_ne.2 e) (beq_eq_false_iff_ne.2 f) z0 z1
  · exact walk0001 a0 a1 a2 a3 a4 b0 b1 b2 b3 b4 c0 c1 c2 c3 c4 w ha hb hc (beq_eq_false_iff_ne.2 e) (beq_eq_false_iff_ne.2 f) z0 z1
  · exact walk0010 a0 a1 a2 a3 a4 b0 b1 b2 b3 b4 c0 c1 c2 c3 c4 w ha hb hc (beq_eq_false_iff_ne.2 e) (beq_eq_false_iff_ne.2 f) z0 z1
  · exact walk0011 a0 a1 a2 a3 a4 b0 b1 b2 b3 b4 c0 c1 c2 c3 c4 w ha hb hc (beq_eq_false_iff_ne.2 e) (beq_eq_false_iff_ne.2 f) z0 z1

set_option maxRecDepth 100000 in
theorem lifted (os : Os) (started : os.Started) (H : Type) (enc : TypeId × Value → H) :
    ReturnsInHanded {} Try.checked os 7 .any (Rows.resShareSpec.pre6 enc Try.prog Try.f7 Rows.resShareRow.domain false) (Rows.resShareSpec.post enc Try.prog Try.f7 false true false false) := by
  refine returnsInHanded_of_change (C := Try.checked) Try.own started (by kernel_rfl) Try.func7
    (ChangeSpec.witness6 (enc := enc) (C := Try.checked) false ⟨#[], #[.agg #[.int .i64 0, .int .i64 0, .int .i64 0, .int .i64 0, .int .i64 0], .agg #[.int .i64 0, .int .i64 0, .int .i64 0, .int .i64 0, .int .i64 0], .agg #[.int .i64 0, .int .i64 0, .int .i64 0, .int .i64 0, .int .i64 0]], []⟩ 8 (by kernel_rfl) (by kernel_rfl) (by kernel_rfl) (by kernel_rfl)) ?_
  intro W base args ds gs before hval hW _ _
  have hW' := hW
  obtain ⟨p, q, hA, hV, rfl, hfz, hnd⟩ := hW
  rw [Try.params7] at hA hval
  obtain ⟨v0, v1, v2, d0, d1, d2, p0, p1, p2, rfl, rfl, rfl, h0, h1, h2⟩ := trodAll_three hA
  obtain ⟨a0, a1, a2, a3, a4, rfl⟩ := open_res (hval 0 23 v0 rfl rfl) h0
  obtain ⟨b0, b1, b2, b3, b4, rfl⟩ := open_res (hval 1 23 v1 rfl rfl) h1
  obtain ⟨c0, c1, c2, c3, c4, rfl⟩ := open_res (hval 2 23 v2 rfl rfl) h2
  refine (walk a0 a1 a2 a3 a4 b0 b1 b2 b3 b4 c0 c1 c2 c3 c4 W).mono fun e W' ⟨he, hb⟩ => ?_
  exact ⟨_, he, law_post Try.laidOut hW' rfl (by kernel_rfl) (by kernel_rfl) Try.underlying4 rfl rfl rfl hb⟩

theorem over : Rows.resShareRow.holds Try.pinned (OpenSpec.ofChange Rows.resShareSpec) :=
  OpenClaim.holds_of_wide 7 Try.f7 rfl rfl rfl rfl rfl rfl rfl ⟨rfl, rfl, rfl, rfl, rfl⟩ rfl rfl rfl rfl rfl (by kernel_rfl) Try.func7 (by kernel_rfl)
    (of_decide_eq_true (by kernel_rfl)) (by unfold Func.isWrapper; first | (rw [if_pos (by decide +kernel)]; kernel_rfl) | (rw [if_neg (by decide +kernel)]; exact ⟨rfl, rfl⟩))
    (fun os started H enc _ => lifted os started H enc)

/-- The statement. -/
theorem proved : Rows.ResShareSaid := over
end resShare
end Go.Proofs.Ytfaeebbanphbgaa
