/-
  The contract of triremelaw04.known, and how a law's row is closed.
-/
import Derived.Test.YtfaeebbanphbgaaRes3
import Derived.Test.YtfaeebbanphbgaaRes5
import Derived.Test.YtfaeebbanphbgaaRes6
import Derived.Test.YtfaeebbanphbgaaRes7
namespace Go.Proofs.Ytfaeebbanphbgaa
open Go.RowKit

set_option maxRecDepth 100000 in
set_option maxHeartbeats 4000000 in
theorem known_any (w : World) :
    Calls Try.prog 18 #[] w fun e w' => e = .returned (.bool true) ∧ Below w.heap.size w w' := by
  have k1 : addE 1 0 0 0 0 2 3 0 0 0 = 0 := by decide
  have k2 : subE 0 0 0 0 0 0 1 0 0 0 = 11 := by decide
  have k3 : addE 1125899906842624 0 0 0 0 1 0 0 0 0 = 10 := by decide
  have k4 : timesE (-1) 0 0 0 0 2 = 1 := by rw [show timesE (-1) 0 0 0 0 2 = _ from if_neg (by decide)]
  have k5 : timesE 0 0 0 0 4 3 = 0 := by
    rw [show timesE 0 0 0 0 4 3 = _ from if_pos (by decide)]
    exact if_pos (by unfold tok; decide)
  have k6 : howF 300 0 0 0 0 1000 0 0 0 0 = 3 := by decide
  have k7 : shareF 250 0 0 0 0 1000 10 0 0 0 = 250 := by decide
  have k8 : fitsB 1 0 0 0 0 1 0 0 0 0 = true := by decide
  have k9 : fitsB 2 0 0 0 0 1 0 0 0 0 = false := by decide
  have k10 : rtB 3 3 0 0 0 = true := by decide
  have hs0 := sel_0
  go_enter Try.func18, Try.ntmps18
  go_wp2_with fail
  (go_at_call 10; refine (add_any _ _ _ _ _ _ _ _ _ _ _).mono ?_; rintro e w1 ⟨rfl, hb1⟩)
  obtain ⟨hc1, hf1⟩ := bcell hb1
  have hz1 := hb1.size
  (try simp at hz1)
  go_wp2_with fail
  (go_at_call 12; refine (sub_any _ _ _ _ _ _ _ _ _ _ _).mono ?_; rintro e w2 ⟨rfl, hb2⟩)
  obtain ⟨hc2, hf2⟩ := bcell hb2
  have hz2 := hb2.size
  (try simp at hz2)
  have z2_0 : w1.heap.size < w2.heap.size := (by omega); have y2_0 : w1.heap.size ≤ w2.heap.size := (by omega)
  go_wp2_with fail
  (go_at_call 10; refine (add_any _ _ _ _ _ _ _ _ _ _ _).mono ?_; rintro e w3 ⟨rfl, hb3⟩)
  obtain ⟨hc3, hf3⟩ := bcell hb3
  have hz3 := hb3.size
  (try simp at hz3)
  have z3_0 : w1.heap.size < w3.heap.size := (by omega); have y3_0 : w1.heap.size ≤ w3.heap.size := (by omega)
  go_wp2_with fail
  (go_at_call 14; refine (times_any _ _ _ _ _ _ _).mono ?_; rintro e w4 ⟨rfl, hb4⟩)
  obtain ⟨hc4, hf4⟩ := bcell hb4
  have hz4 := hb4.size
  (try simp at hz4)
  have z4_0 : w1.heap.size < w4.heap.size := (by omega); have y4_0 : w1.heap.size ≤ w4.heap.size := (by omega)
  go_wp2_with fail
  (go_at_call 14; refine (times_any _ _ _ _ _ _ _).mono ?_; rintro e w5 ⟨rfl, hb5⟩)
  obtain ⟨hc5, hf5⟩ := bcell hb5
  have hz5 := hb5.size
  (try simp at hz5)
  have z5_0 : w1.heap.size < w5.heap.size := (by omega); have y5_0 : w1.heap.size ≤ w5.heap.size := (by omega)
  go_wp2_with fail
  (go_at_call 23; refine (how_any _ _ _ _ _ _ _ _ _ _ _).mono ?_; rintro e w6 ⟨rfl, hb6⟩)
  obtain ⟨hc6, hf6⟩ := bcell hb6
  have hz6 := hb6.size
  (try simp at hz6)
  have z6_0 : w1.heap.size < w6.heap.size := (by omega); have y6_0 : w1.heap.size ≤ w6.heap.size := (by omega); have z6_1 : w5.heap.size < w6.heap.size := (by omega); have y6_1 : w5.heap.size ≤ w6.heap.size := (by omega)
  go_wp2_with fail
  (go_at_call 25; refine (share_any _ _ _ _ _ _ _ _ _ _ _).mono ?_; rintro e w7 ⟨rfl, hb7⟩)
  obtain ⟨hc7, hf7⟩ := bcell hb7
  have hz7 := hb7.size
  (try simp at hz7)
  have z7_0 : w1.heap.size < w7.heap.size := (by omega); have y7_0 : w1.heap.size ≤ w7.heap.size := (by omega); have z7_1 : w5.heap.size < w7.heap.size := (by omega); have y7_1 : w5.heap.size ≤ w7.heap.size := (by omega)
  go_wp2_with fail
  (go_at_call 19; refine (fits_any _ _ _ _ _ _ _ _ _ _ _).mono ?_; rintro e w8 ⟨rfl, hb8⟩)
  obtain ⟨hc8, hf8⟩ := bcell hb8
  have hz8 := hb8.size
  (try simp at hz8)
  have z8_0 : w1.heap.size < w8.heap.size := (by omega); have y8_0 : w1.heap.size ≤ w8.heap.size := (by omega); have z8_1 : w5.heap.size < w8.heap.size := (by omega); have y8_1 : w5.heap.size ≤ w8.heap.size := (by omega)
  go_wp2_with fail
  (go_at_call 19; refine (fits_any _ _ _ _ _ _ _ _ _ _ _).mono ?_; rintro e w9 ⟨rfl, hb9⟩)
  obtain ⟨hc9, hf9⟩ := bcell hb9
  have hz9 := hb9.size
  (try simp at hz9)
  have z9_0 : w1.heap.size < w9.heap.size := (by omega); have y9_0 : w1.heap.size ≤ w9.heap.size := (by omega); have z9_1 : w5.heap.size < w9.heap.size := (by omega); have y9_1 : w5.heap.size ≤ w9.heap.size := (by omega)
  go_wp2_with fail
  (go_at_call 16; refine (right_any _ _ _ _ _ _).mono ?_; rintro e w10 ⟨rfl, hb10⟩)
  obtain ⟨hc10, hf10⟩ := bcell hb10
  have hz10 := hb10.size
  (try simp at hz10)
  go_wp2
  go_ret
  exact ⟨rfl, by (repeat' (first | with_reducible exact Below.refl _ _ | with_reducible assumption | with_reducible refine Below.drew ?_ | with_reducible refine below_drewN' ?_ _ | with_reducible refine Below.alloc ?_ ?_ _ | with_reducible refine Below.setCell ?_ ?_ _ | with_reducible refine below_step (by assumption) ?_ ?_ | omega | (simp; done) | (simp; omega)))⟩
end Go.Proofs.Ytfaeebbanphbgaa
