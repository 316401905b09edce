/-
  ResBack: the difference of a sum and one of its parts is the other one; a difference is there just if it fits.
  For every two values of api.Res, without a condition.
-/
import Derived.Test.YtfaeebbanphbgaaResLaw0
namespace Go.Proofs.Ytfaeebbanphbgaa
open Go.ChangeShapes Go.WideShapes Go.ChangeAt Go.RowKit

namespace resBack
theorem add_zero (a0 a1 a2 a3 a4 b0 b1 b2 b3 b4 : Int) (h : addE a0 a1 a2 a3 a4 b0 b1 b2 b3 b4 = 0) : rtB a0 a1 a2 a3 a4 = true ∧ rtB b0 b1 b2 b3 b4 = true ∧ rtB (a0 + b0) (a1 + b1) (a2 + b2) (a3 + b3) (a4 + b4) = true := by
  unfold addE at h
  split at h
  · rename_i h1
    split at h
    · refine ⟨h1.1, h1.2, (rtB_iff _ _ _ _ _).2 ?_⟩
      have := (rtB_iff _ _ _ _ _).1 h1.1
      have := (rtB_iff _ _ _ _ _).1 h1.2
      omega
    · cases h
  · cases h
theorem sub_zero (a0 a1 a2 a3 a4 b0 b1 b2 b3 b4 : Int) : subE a0 a1 a2 a3 a4 b0 b1 b2 b3 b4 = 0 ↔ rtB a0 a1 a2 a3 a4 = true ∧ rtB b0 b1 b2 b3 b4 = true ∧ b0 ≤ a0 ∧ b1 ≤ a1 ∧ b2 ≤ a2 ∧ b3 ≤ a3 ∧ b4 ≤ a4 := by
  unfold subE
  split
  · rename_i h1
    split
    · rename_i h2; exact ⟨fun _ => ⟨h1.1, h1.2, h2⟩, fun _ => rfl⟩
    · rename_i h2; exact ⟨(fun h => nomatch h), fun h => (h2 h.2.2).elim⟩
  · rename_i h1; exact ⟨(fun h => nomatch h), fun h => (h1 ⟨h.1, h.2.1⟩).elim⟩
theorem fits_iff (a0 a1 a2 a3 a4 b0 b1 b2 b3 b4 : Int) : fitsB a0 a1 a2 a3 a4 b0 b1 b2 b3 b4 = true ↔ subE b0 b1 b2 b3 b4 a0 a1 a2 a3 a4 = 0 := by simp [fitsB]

set_option maxRecDepth 100000 in
set_option maxHeartbeats 2000000 in
theorem walk (a0 a1 a2 a3 a4 b0 b1 b2 b3 b4 : Int) (w : World) :
    Calls Try.prog 5 #[.agg #[.int .i64 a0, .int .i64 a1, .int .i64 a2, .int .i64 a3, .int .i64 a4], .agg #[.int .i64 b0, .int .i64 b1, .int .i64 b2, .int .i64 b3, .int .i64 b4]] w fun e w' => e = .returned (.bool true) ∧ Below w.heap.size w w' := by
  have hs0 := sel_0
  by_cases f : subE a0 a1 a2 a3 a4 b0 b1 b2 b3 b4 = 0
  · obtain ⟨ra, rb, rl⟩ := (sub_zero _ _ _ _ _ _ _ _ _ _).1 f
    have s4 : fitsB b0 b1 b2 b3 b4 a0 a1 a2 a3 a4 = true := (fits_iff _ _ _ _ _ _ _ _ _ _).2 f
    have s5 : addE (a0 - b0) (a1 - b1) (a2 - b2) (a3 - b3) (a4 - b4) b0 b1 b2 b3 b4 = 0 := by
      have := (rtB_iff _ _ _ _ _).1 ra
      have := (rtB_iff _ _ _ _ _).1 rb
      exact (if_pos ⟨(rtB_iff _ _ _ _ _).2 (by omega), rb⟩ : addE _ _ _ _ _ _ _ _ _ _ = _).trans (if_pos (by omega))
    clear ra rb rl
    by_cases e : addE a0 a1 a2 a3 a4 b0 b1 b2 b3 b4 = 0
    · obtain ⟨ra, rb, rc⟩ := add_zero a0 a1 a2 a3 a4 b0 b1 b2 b3 b4 e
      have s1 : subE (a0 + b0) (a1 + b1) (a2 + b2) (a3 + b3) (a4 + b4) b0 b1 b2 b3 b4 = 0 := (sub_zero _ _ _ _ _ _ _ _ _ _).2 ⟨rc, rb, by have := (rtB_iff _ _ _ _ _).1 ra; omega⟩
      have s2 : fitsB a0 a1 a2 a3 a4 (a0 + b0) (a1 + b1) (a2 + b2) (a3 + b3) (a4 + b4) = true := (fits_iff _ _ _ _ _ _ _ _ _ _).2 ((sub_zero _ _ _ _ _ _ _ _ _ _).2 ⟨rc, ra, by have := (rtB_iff _ _ _ _ _).1 rb; omega⟩)
      have s3 : fitsB b0 b1 b2 b3 b4 (a0 + b0) (a1 + b1) (a2 + b2) (a3 + b3) (a4 + b4) = true := (fits_iff _ _ _ _ _ _ _ _ _ _).2 s1
      clear ra rb rc
      go_enter Try.func5, Try.ntmps5
      go_wp2_with fail
      (go_at_call 10; refine (add_any _ _ _ _ _ _ _ _ _ _ _).mono ?_; rintro e w1 ⟨rfl, hb1⟩)
      obtain ⟨hc1, hf1⟩ := bcell hb1
      have hz1 := hb1.size
      (try simp at hz1)
      have z1_0 : w.heap.size < w1.heap.size := (by omega); have y1_0 : w.heap.size ≤ w1.heap.size := (by omega); have z1_1 : w.heap.size + 1 < w1.heap.size := (by omega); have y1_1 : w.heap.size + 1 ≤ w1.heap.size := (by omega)
      go_wp2_with fail
      (go_at_call 12; refine (sub_any _ _ _ _ _ _ _ _ _ _ _).mono ?_; rintro e w2 ⟨rfl, hb2⟩)
      obtain ⟨hc2, hf2⟩ := bcell hb2
      have hz2 := hb2.size
      (try simp at hz2)
      have z2_0 : w.heap.size < w2.heap.size := (by omega); have y2_0 : w.heap.size ≤ w2.heap.size := (by omega); have z2_1 : w.heap.size + 1 < w2.heap.size := (by omega); have y2_1 : w.heap.size + 1 ≤ w2.heap.size := (by omega); have z2_2 : w1.heap.size < w2.heap.size := (by omega); have y2_2 : w1.heap.size ≤ w2.heap.size := (by omega)
      go_wp2_with fail
      (go_at_call 19; refine (fits_any _ _ _ _ _ _ _ _ _ _ _).mono ?_; rintro e w3 ⟨rfl, hb3⟩)
      obtain ⟨hc3, hf3⟩ := bcell hb3
      have hz3 := hb3.size
      (try simp at hz3)
      have z3_0 : w.heap.size < w3.heap.size := (by omega); have y3_0 : w.heap.size ≤ w3.heap.size := (by omega); have z3_1 : w.heap.size + 1 < w3.heap.size := (by omega); have y3_1 : w.heap.size + 1 ≤ w3.heap.size := (by omega); have z3_2 : w1.heap.size < w3.heap.size := (by omega); have y3_2 : w1.heap.size ≤ w3.heap.size := (by omega)
      go_wp2_with fail
      (go_at_call 19; refine (fits_any _ _ _ _ _ _ _ _ _ _ _).mono ?_; rintro e w4 ⟨rfl, hb4⟩)
      obtain ⟨hc4, hf4⟩ := bcell hb4
      have hz4 := hb4.size
      (try simp at hz4)
      have z4_0 : w.heap.size < w4.heap.size := (by omega); have y4_0 : w.heap.size ≤ w4.heap.size := (by omega); have z4_1 : w.heap.size + 1 < w4.heap.size := (by omega); have y4_1 : w.heap.size + 1 ≤ w4.heap.size := (by omega); have z4_2 : w1.heap.size < w4.heap.size := (by omega); have y4_2 : w1.heap.size ≤ w4.heap.size := (by omega)
      go_wp2_with fail
      (go_at_call 12; refine (sub_any _ _ _ _ _ _ _ _ _ _ _).mono ?_; rintro e w5 ⟨rfl, hb5⟩)
      obtain ⟨hc5, hf5⟩ := bcell hb5
      have hz5 := hb5.size
      (try simp at hz5)
      have z5_0 : w.heap.size < w5.heap.size := (by omega); have y5_0 : w.heap.size ≤ w5.heap.size := (by omega); have z5_1 : w.heap.size + 1 < w5.heap.size := (by omega); have y5_1 : w.heap.size + 1 ≤ w5.heap.size := (by omega)
      go_wp2_with fail
      (go_at_call 19; refine (fits_any _ _ _ _ _ _ _ _ _ _ _).mono ?_; rintro e w6 ⟨rfl, hb6⟩)
      obtain ⟨hc6, hf6⟩ := bcell hb6
      have hz6 := hb6.size
      (try simp at hz6)
      have z6_0 : w.heap.size < w6.heap.size := (by omega); have y6_0 : w.heap.size ≤ w6.heap.size := (by omega); have z6_1 : w.heap.size + 1 < w6.heap.size := (by omega); have y6_1 : w.heap.size + 1 ≤ w6.heap.size := (by omega); have z6_2 : w5.heap.size < w6.heap.size := (by omega); have y6_2 : w5.heap.size ≤ w6.heap.size := (by omega)
      go_wp2_with fail
      (go_at_call 10; refine (add_any _ _ _ _ _ _ _ _ _ _ _).mono ?_; rintro e w7 ⟨rfl, hb7⟩)
      obtain ⟨hc7, hf7⟩ := bcell hb7
      have hz7 := hb7.size
      (try simp at hz7)
      have z7_0 : w.heap.size < w7.heap.size := (by omega); have y7_0 : w.heap.size ≤ w7.heap.size := (by omega); have z7_1 : w.heap.size + 1 < w7.heap.size := (by omega); have y7_1 : w.heap.size + 1 ≤ w7.heap.size := (by omega); have z7_2 : w5.heap.size < w7.heap.size := (by omega); have y7_2 : w5.heap.size ≤ w7.heap.size := (by omega)
      go_wp2_with fail
      (go_at_call 18; refine (known_any _).mono ?_; rintro e w8 ⟨rfl, hb8⟩)
      obtain ⟨hc8, hf8⟩ := bcell hb8
      have hz8 := hb8.size
      (try simp at hz8)
      go_wp2
      go_ret
      exact ⟨rfl, by (repeat' (first | with_reducible exact Below.refl _ _ | with_reducible assumption | with_reducible refine Below.drew ?_ | with_reducible refine below_drewN' ?_ _ | with_reducible refine Below.alloc ?_ ?_ _ | with_reducible refine Below.setCell ?_ ?_ _ | with_reducible refine below_step (by assumption) ?_ ?_ | omega | (simp; done) | (simp; omega)))⟩
    · have e' : (addE a0 a1 a2 a3 a4 b0 b1 b2 b3 b4 == 0) = false := beq_eq_false_iff_ne.2 e
      clear e
      go_enter Try.func5, Try.ntmps5
      go_wp2_with fail
      (go_at_call 10; refine (add_any _ _ _ _ _ _ _ _ _ _ _).mono ?_; rintro e w1 ⟨rfl, hb1⟩)
      obtain ⟨hc1, hf1⟩ := bcell hb1
      have hz1 := hb1.size
      (try simp at hz1)
      have z1_0 : w.heap.size < w1.heap.size := (by omega); have y1_0 : w.heap.size ≤ w1.heap.size := (by omega); have z1_1 : w.heap.size + 1 < w1.heap.size := (by omega); have y1_1 : w.heap.size + 1 ≤ w1.heap.size := (by omega)
      go_wp2_with fail
      (go_at_call 12; refine (sub_any _ _ _ _ _ _ _ _ _ _ _).mono ?_; rintro e w2 ⟨rfl, hb2⟩)
      obtain ⟨hc2, hf2⟩ := bcell hb2
      have hz2 := hb2.size
      (try simp at hz2)
      have z2_0 : w.heap.size < w2.heap.size := (by omega); have y2_0 : w.heap.size ≤ w2.heap.size := (by omega); have z2_1 : w.heap.size + 1 < w2.heap.size := (by omega); have y2_1 : w.heap.size + 1 ≤ w2.heap.size := (by omega)
      go_wp2_with fail
      (go_at_call 19; refine (fits_any _ _ _ _ _ _ _ _ _ _ _).mono ?_; rintro e w3 ⟨rfl, hb3⟩)
      obtain ⟨hc3, hf3⟩ := bcell hb3
      have hz3 := hb3.size
      (try simp at hz3)
      have z3_0 : w.heap.size < w3.heap.size := (by omega); have y3_0 : w.heap.size ≤ w3.heap.size := (by omega); have z3_1 : w.heap.size + 1 < w3.heap.size := (by omega); have y3_1 : w.heap.size + 1 ≤ w3.heap.size := (by omega); have z3_2 : w2.heap.size < w3.heap.size := (by omega); have y3_2 : w2.heap.size ≤ w3.heap.size := (by omega)
      go_wp2_with fail
      (go_at_call 10; refine (add_any _ _ _ _ _ _ _ _ _ _ _).mono ?_; rintro e w4 ⟨rfl, hb4⟩)
      obtain ⟨hc4, hf4⟩ := bcell hb4
      have hz4 := hb4.size
      (try simp at hz4)
      have z4_0 : w.heap.size < w4.heap.size := (by omega); have y4_0 : w.heap.size ≤ w4.heap.size := (by omega); have z4_1 : w.heap.size + 1 < w4.heap.size := (by omega); have y4_1 : w.heap.size + 1 ≤ w4.heap.size := (by omega); have z4_2 : w2.heap.size < w4.heap.size := (by omega); have y4_2 : w2.heap.size ≤ w4.heap.size := (by omega)
      go_wp2_with fail
      (go_at_call 18; refine (known_any _).mono ?_; rintro e w5 ⟨rfl, hb5⟩)
      obtain ⟨hc5, hf5⟩ := bcell hb5
      have hz5 := hb5.size
      (try simp at hz5)
      go_wp2
      go_ret
      exact ⟨rfl, by (repeat' (first | with_reducible exact Below.refl _ _ | with_reducible assumption | with_reducible refine Below.drew ?_ | with_reducible refine below_drewN' ?_ _ | with_reducible refine Below.alloc ?_ ?_ _ | with_reducible refine Below.setCell ?_ ?_ _ | with_reducible refine below_step (by assumption) ?_ ?_ | omega | (simp; done) | (simp; omega)))⟩
  · have f' : (subE a0 a1 a2 a3 a4 b0 b1 b2 b3 b4 == 0) = false := beq_eq_false_iff_ne.2 f
    have s4 : fitsB b0 b1 b2 b3 b4 a0 a1 a2 a3 a4 = false := by simp [fitsB, f]
    clear f
    by_cases e : addE a0 a1 a2 a3 a4 b0 b1 b2 b3 b4 = 0
    · obtain ⟨ra, rb, rc⟩ := add_zero a0 a1 a2 a3 a4 b0 b1 b2 b3 b4 e
      have s1 : subE (a0 + b0) (a1 + b1) (a2 + b2) (a3 + b3) (a4 + b4) b0 b1 b2 b3 b4 = 0 := (sub_zero _ _ _ _ _ _ _ _ _ _).2 ⟨rc, rb, by have := (rtB_iff _ _ _ _ _).1 ra; omega⟩
      have s2 : fitsB a0 a1 a2 a3 a4 (a0 + b0) (a1 + b1) (a2 + b2) (a3 + b3) (a4 + b4) = true := (fits_iff _ _ _ _ _ _ _ _ _ _).2 ((sub_zero _ _ _ _ _ _ _ _ _ _).2 ⟨rc, ra, by have := (rtB_iff _ _ _ _ _).1 rb; omega⟩)
      have s3 : fitsB b0 b1 b2 b3 b4 (a0 + b0) (a1 + b1) (a2 + b2) (a3 + b3) (a4 + b4) = true := (fits_iff _ _ _ _ _ _ _ _ _ _).2 s1
      clear ra rb rc
      go_enter Try.func5, Try.ntmps5
      go_wp2_with fail
      (go_at_call 10; refine (add_any _ _ _ _ _ _ _ _ _ _ _).mono ?_; rintro e w1 ⟨rfl, hb1⟩)
      obtain ⟨hc1, hf1⟩ := bcell hb1
      have hz1 := hb1.size
      (try simp at hz1)
      have z1_0 : w.heap.size < w1.heap.size := (by omega); have y1_0 : w.heap.size ≤ w1.heap.size := (by omega); have z1_1 : w.heap.size + 1 < w1.heap.size := (by omega); have y1_1 : w.heap.size + 1 ≤ w1.heap.size := (by omega)
      go_wp2_with fail
      (go_at_call 12; refine (sub_any _ _ _ _ _ _ _ _ _ _ _).mono ?_; rintro e w2 ⟨rfl, hb2⟩)
      obtain ⟨hc2, hf2⟩ := bcell hb2
      have hz2 := hb2.size
      (try simp at hz2)
      have z2_0 : w.heap.size < w2.heap.size := (by omega); have y2_0 : w.heap.size ≤ w2.heap.size := (by omega); have z2_1 : w.heap.size + 1 < w2.heap.size := (by omega); have y2_1 : w.heap.size + 1 ≤ w2.heap.size := (by omega); have z2_2 : w1.heap.size < w2.heap.size := (by omega); have y2_2 : w1.heap.size ≤ w2.heap.size := (by omega)
      go_wp2_with fail
      (go_at_call 19; refine (fits_any _ _ _ _ _ _ _ _ _ _ _).mono ?_; rintro e w3 ⟨rfl, hb3⟩)
      obtain ⟨hc3, hf3⟩ := bcell hb3
      have hz3 := hb3.size
      (try simp at hz3)
      have z3_0 : w.heap.size < w3.heap.size := (by omega); have y3_0 : w.heap.size ≤ w3.heap.size := (by omega); have z3_1 : w.heap.size + 1 < w3.heap.size := (by omega); have y3_1 : w.heap.size + 1 ≤ w3.heap.size := (by omega); have z3_2 : w1.heap.size < w3.heap.size := (by omega); have y3_2 : w1.heap.size ≤ w3.heap.size := (by omega)
      go_wp2_with fail
      (go_at_call 19; refine (fits_any _ _ _ _ _ _ _ _ _ _ _).mono ?_; rintro e w4 ⟨rfl, hb4⟩)
      obtain ⟨hc4, hf4⟩ := bcell hb4
      have hz4 := hb4.size
      (try simp at hz4)
      have z4_0 : w.heap.size < w4.heap.size := (by omega); have y4_0 : w.heap.size ≤ w4.heap.size := (by omega); have z4_1 : w.heap.size + 1 < w4.heap.size := (by omega); have y4_1 : w.heap.size + 1 ≤ w4.heap.size := (by omega); have z4_2 : w1.heap.size < w4.heap.size := (by omega); have y4_2 : w1.heap.size ≤ w4.heap.size := (by omega)
      go_wp2_with fail
      (go_at_call 12; refine (sub_any _ _ _ _ _ _ _ _ _ _ _).mono ?_; rintro e w5 ⟨rfl, hb5⟩)
      obtain ⟨hc5, hf5⟩ := bcell hb5
      have hz5 := hb5.size
      (try simp at hz5)
      have z5_0 : w.heap.size < w5.heap.size := (by omega); have y5_0 : w.heap.size ≤ w5.heap.size := (by omega); have z5_1 : w.heap.size + 1 < w5.heap.size := (by omega); have y5_1 : w.heap.size + 1 ≤ w5.heap.size := (by omega)
      go_wp2_with fail
      (go_at_call 19; refine (fits_any _ _ _ _ _ _ _ _ _ _ _).mono ?_; rintro e w6 ⟨rfl, hb6⟩)
      obtain ⟨hc6, hf6⟩ := bcell hb6
      have hz6 := hb6.size
      (try simp at hz6)
      have z6_0 : w.heap.size < w6.heap.size := (by omega); have y6_0 : w.heap.size ≤ w6.heap.size := (by omega); have z6_1 : w.heap.size + 1 < w6.heap.size := (by omega); have y6_1 : w.heap.size + 1 ≤ w6.heap.size := (by omega); have z6_2 : w5.heap.size < w6.heap.size := (by omega); have y6_2 : w5.heap.size ≤ w6.heap.size := (by omega)
      go_wp2_with fail
      (go_at_call 18; refine (known_any _).mono ?_; rintro e w7 ⟨rfl, hb7⟩)
      obtain ⟨hc7, hf7⟩ := bcell hb7
      have hz7 := hb7.size
      (try simp at hz7)
      go_wp2
      go_ret
      exact ⟨rfl, by (repeat' (first | with_reducible exact Below.refl _ _ | with_reducible assumption | with_reducible refine Below.drew ?_ | with_reducible refine below_drewN' ?_ _ | with_reducible refine Below.alloc ?_ ?_ _ | with_reducible refine Below.setCell ?_ ?_ _ | with_reducible refine below_step (by assumption) ?_ ?_ | omega | (simp; done) | (simp; omega)))⟩
    · have e' : (addE a0 a1 a2 a3 a4 b0 b1 b2 b3 b4 == 0) = false := beq_eq_false_iff_ne.2 e
      clear e
      go_enter Try.func5, Try.ntmps5
      go_wp2_with fail
      (go_at_call 10; refine (add_any _ _ _ _ _ _ _ _ _ _ _).mono ?_; rintro e w1 ⟨rfl, hb1⟩)
      obtain ⟨hc1, hf1⟩ := bcell hb1
      have hz1 := hb1.size
      (try simp at hz1)
      have z1_0 : w.heap.size < w1.heap.size := (by omega); have y1_0 : w.heap.size ≤ w1.heap.size := (by omega); have z1_1 : w.heap.size + 1 < w1.heap.size := (by omega); have y1_1 : w.heap.size + 1 ≤ w1.heap.size := (by omega)
      go_wp2_with fail
      (go_at_call 12; refine (sub_any _ _ _ _ _ _ _ _ _ _ _).mono ?_; rintro e w2 ⟨rfl, hb2⟩)
      obtain ⟨hc2, hf2⟩ := bcell hb2
      have hz2 := hb2.size
      (try simp at hz2)
      have z2_0 : w.heap.size < w2.heap.size := (by omega); have y2_0 : w.heap.size ≤ w2.heap.size := (by omega); have z2_1 : w.heap.size + 1 < w2.heap.size := (by omega); have y2_1 : w.heap.size + 1 ≤ w2.heap.size := (by omega)
      go_wp2_with fail
      (go_at_call 19; refine (fits_any _ _ _ _ _ _ _ _ _ _ _).mono ?_; rintro e w3 ⟨rfl, hb3⟩)
      obtain ⟨hc3, hf3⟩ := bcell hb3
      have hz3 := hb3.size
      (try simp at hz3)
      have z3_0 : w.heap.size < w3.heap.size := (by omega); have y3_0 : w.heap.size ≤ w3.heap.size := (by omega); have z3_1 : w.heap.size + 1 < w3.heap.size := (by omega); have y3_1 : w.heap.size + 1 ≤ w3.heap.size := (by omega); have z3_2 : w2.heap.size < w3.heap.size := (by omega); have y3_2 : w2.heap.size ≤ w3.heap.size := (by omega)
      go_wp2_with fail
      (go_at_call 18; refine (known_any _).mono ?_; rintro e w4 ⟨rfl, hb4⟩)
      obtain ⟨hc4, hf4⟩ := bcell hb4
      have hz4 := hb4.size
      (try simp at hz4)
      go_wp2
      go_ret
      exact ⟨rfl, by (repeat' (first | with_reducible exact Below.refl _ _ | with_reducible assumption | with_reducible refine Below.drew ?_ | with_reducible refine below_drewN' ?_ _ | with_reducible refine Below.alloc ?_ ?_ _ | with_reducible refine Below.setCell ?_ ?_ _ | with_reducible refine below_step (by assumption) ?_ ?_ | omega | (simp; done) | (simp; omega)))⟩

set_option maxRecDepth 100000 in
theorem lifted (os : Os) (started : os.Started) (H : Type) (enc : TypeId × Value → H) :
    ReturnsInHanded {} Try.checked os 5 .any (Rows.resBackSpec.pre6 enc Try.prog Try.f5 Rows.resBackRow.domain false) (Rows.resBackSpec.post enc Try.prog Try.f5 false true false false) := by
  refine returnsInHanded_of_change (C := Try.checked) Try.own started (by kernel_rfl) Try.func5
    (ChangeSpec.witness6 (enc := enc) (C := Try.checked) false ⟨#[], #[.agg #[.int .i64 0, .int .i64 0, .int .i64 0, .int .i64 0, .int .i64 0], .agg #[.int .i64 0, .int .i64 0, .int .i64 0, .int .i64 0, .int .i64 0]], []⟩ 8 (by kernel_rfl) (by kernel_rfl) (by kernel_rfl) (by kernel_rfl)) ?_
  intro W base args ds gs before hval hW _ _
  have hW' := hW
  obtain ⟨p, q, hA, hV, rfl, hfz, hnd⟩ := hW
  rw [Try.params5] at hA hval
  obtain ⟨v0, v1, d0, d1, p0, p1, hargs, rfl, rfl, h0, h1⟩ := trodAll_two hA
  obtain rfl : args = #[v0, v1] := by cases args; simp_all
  obtain ⟨a0, a1, a2, a3, a4, rfl⟩ := open_res (hval 0 23 v0 rfl rfl) h0
  obtain ⟨b0, b1, b2, b3, b4, rfl⟩ := open_res (hval 1 23 v1 rfl rfl) h1
  refine (walk a0 a1 a2 a3 a4 b0 b1 b2 b3 b4 W).mono fun e W' ⟨he, hb⟩ => ?_
  exact ⟨_, he, law_post Try.laidOut hW' rfl (by kernel_rfl) (by kernel_rfl) Try.underlying4 rfl rfl rfl hb⟩

theorem over : Rows.resBackRow.holds Try.pinned (OpenSpec.ofChange Rows.resBackSpec) :=
  OpenClaim.holds_of_wide 5 Try.f5 rfl rfl rfl rfl rfl rfl rfl ⟨rfl, rfl, rfl, rfl, rfl⟩ rfl rfl rfl rfl rfl (by kernel_rfl) Try.func5 (by kernel_rfl)
    (of_decide_eq_true (by kernel_rfl)) (by unfold Func.isWrapper; first | (rw [if_pos (by decide +kernel)]; kernel_rfl) | (rw [if_neg (by decide +kernel)]; exact ⟨rfl, rfl⟩))
    (fun os started H enc _ => lifted os started H enc)

/-- The statement. -/
theorem proved : Rows.ResBackSaid := over
end resBack
end Go.Proofs.Ytfaeebbanphbgaa
