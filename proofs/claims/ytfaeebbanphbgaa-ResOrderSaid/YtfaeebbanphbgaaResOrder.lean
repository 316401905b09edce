/-
  ResOrder: what fits what fits fits; the lesser ones fit both; what fits both fits them.
  For every three values of api.Res, without a condition.
-/
import Derived.Test.YtfaeebbanphbgaaHeld
import Derived.Test.YtfaeebbanphbgaaResLaw0
import Derived.Test.YtfaeebbanphbgaaRes9
namespace Go.Proofs.Ytfaeebbanphbgaa
open Go.ChangeShapes Go.WideShapes Go.ChangeAt Go.RowKit
namespace resOrder
theorem fits_iff (a0 a1 a2 a3 a4 b0 b1 b2 b3 b4 : Int) : fitsB a0 a1 a2 a3 a4 b0 b1 b2 b3 b4 = true ↔ rtB a0 a1 a2 a3 a4 = true ∧ rtB b0 b1 b2 b3 b4 = true ∧ a0 ≤ b0 ∧ a1 ≤ b1 ∧ a2 ≤ b2 ∧ a3 ≤ b3 ∧ a4 ≤ b4 := by
  simp only [fitsB, decide_eq_true_eq]
  unfold subE
  split
  · rename_i h1
    split
    · rename_i h2; exact ⟨fun _ => ⟨h1.2, h1.1, h2⟩, fun _ => rfl⟩
    · rename_i h2; exact ⟨(fun h => nomatch h), fun h => (h2 h.2.2).elim⟩
  · rename_i h1; exact ⟨(fun h => nomatch h), fun h => (h1 ⟨h.2.1, h.1⟩).elim⟩

set_option maxRecDepth 100000 in
set_option maxHeartbeats 1000000 in
theorem walk_no (a0 a1 a2 a3 a4 b0 b1 b2 b3 b4 c0 c1 c2 c3 c4 : Int) (w : World) (h : rtB a0 a1 a2 a3 a4 = false ∨ rtB b0 b1 b2 b3 b4 = false ∨ rtB c0 c1 c2 c3 c4 = false) :
    Calls Try.prog 9 #[.agg #[.int .i64 a0, .int .i64 a1, .int .i64 a2, .int .i64 a3, .int .i64 a4], .agg #[.int .i64 b0, .int .i64 b1, .int .i64 b2, .int .i64 b3, .int .i64 b4], .agg #[.int .i64 c0, .int .i64 c1, .int .i64 c2, .int .i64 c3, .int .i64 c4]] w fun e w' => e = .returned (.bool true) ∧ Below w.heap.size w w' := by
  cases ha : rtB a0 a1 a2 a3 a4
  · clear h
    go_enter Try.func9, Try.ntmps9
    go_wp2_with (first | (go_at_call 16; refine (right_any _ _ _ _ _ _).mono ?_; rintro e w1 ⟨rfl, hb1⟩; obtain ⟨hc1, hf1⟩ := bcell hb1; have hz1 := hb1.size; (try simp at hz1); (try have hza : w.heap.size < w1.heap.size := by omega); (try have hzb : w.heap.size + 1 < w1.heap.size := by omega); (try have hzc : w.heap.size + 1 + 1 < w1.heap.size := by omega); (try have hzd : w.heap.size + 1 + 1 + 1 < w1.heap.size := by omega)) | (go_at_call 18; refine (known_any _).mono ?_; rintro e w1 ⟨rfl, hb1⟩; obtain ⟨hc1, hf1⟩ := bcell hb1; have hz1 := hb1.size; (try simp at hz1); (try have hza : w.heap.size < w1.heap.size := by omega); (try have hzb : w.heap.size + 1 < w1.heap.size := by omega); (try have hzc : w.heap.size + 1 + 1 < w1.heap.size := by omega); (try have hzd : w.heap.size + 1 + 1 + 1 < w1.heap.size := by omega)))
    go_ret
    exact ⟨rfl, by (repeat' (first | with_reducible exact Below.refl _ _ | with_reducible assumption | with_reducible refine Below.drew ?_ | with_reducible refine below_drewN' ?_ _ | with_reducible refine Below.alloc ?_ ?_ _ | with_reducible refine Below.setCell ?_ ?_ _ | with_reducible refine below_step (by assumption) ?_ ?_ | omega | (simp; done) | (simp; omega)))⟩
  cases hb : rtB b0 b1 b2 b3 b4
  · clear h
    go_enter Try.func9, Try.ntmps9
    go_wp2_with (first | (go_at_call 16; refine (right_any _ _ _ _ _ _).mono ?_; rintro e w1 ⟨rfl, hb1⟩; obtain ⟨hc1, hf1⟩ := bcell hb1; have hz1 := hb1.size; (try simp at hz1); (try have hza : w.heap.size < w1.heap.size := by omega); (try have hzb : w.heap.size + 1 < w1.heap.size := by omega); (try have hzc : w.heap.size + 1 + 1 < w1.heap.size := by omega); (try have hzd : w.heap.size + 1 + 1 + 1 < w1.heap.size := by omega)) | (go_at_call 18; refine (known_any _).mono ?_; rintro e w1 ⟨rfl, hb1⟩; obtain ⟨hc1, hf1⟩ := bcell hb1; have hz1 := hb1.size; (try simp at hz1); (try have hza : w.heap.size < w1.heap.size := by omega); (try have hzb : w.heap.size + 1 < w1.heap.size := by omega); (try have hzc : w.heap.size + 1 + 1 < w1.heap.size := by omega); (try have hzd : w.heap.size + 1 + 1 + 1 < w1.heap.size := by omega)))
    go_ret
    exact ⟨rfl, by (repeat' (first | with_reducible exact Below.refl _ _ | with_reducible assumption | with_reducible refine Below.drew ?_ | with_reducible refine below_drewN' ?_ _ | with_reducible refine Below.alloc ?_ ?_ _ | with_reducible refine Below.setCell ?_ ?_ _ | with_reducible refine below_step (by assumption) ?_ ?_ | omega | (simp; done) | (simp; omega)))⟩
  have hc : rtB c0 c1 c2 c3 c4 = false := by simpa [ha, hb] using h
  clear h
  go_enter Try.func9, Try.ntmps9
  go_wp2_with (first | (go_at_call 16; refine (right_any _ _ _ _ _ _).mono ?_; rintro e w1 ⟨rfl, hb1⟩; obtain ⟨hc1, hf1⟩ := bcell hb1; have hz1 := hb1.size; (try simp at hz1); (try have hza : w.heap.size < w1.heap.size := by omega); (try have hzb : w.heap.size + 1 < w1.heap.size := by omega); (try have hzc : w.heap.size + 1 + 1 < w1.heap.size := by omega); (try have hzd : w.heap.size + 1 + 1 + 1 < w1.heap.size := by omega)) | (go_at_call 18; refine (known_any _).mono ?_; rintro e w1 ⟨rfl, hb1⟩; obtain ⟨hc1, hf1⟩ := bcell hb1; have hz1 := hb1.size; (try simp at hz1); (try have hza : w.heap.size < w1.heap.size := by omega); (try have hzb : w.heap.size + 1 < w1.heap.size := by omega); (try have hzc : w.heap.size + 1 + 1 < w1.heap.size := by omega); (try have hzd : w.heap.size + 1 + 1 + 1 < w1.heap.size := by omega)))
  go_ret
  exact ⟨rfl, by (repeat' (first | with_reducible exact Below.refl _ _ | with_reducible assumption | with_reducible refine Below.drew ?_ | with_reducible refine below_drewN' ?_ _ | with_reducible refine Below.alloc ?_ ?_ _ | with_reducible refine Below.setCell ?_ ?_ _ | with_reducible refine below_step (by assumption) ?_ ?_ | omega | (simp; done) | (simp; omega)))⟩

set_option maxRecDepth 100000 in
set_option maxHeartbeats 8000000 in
theorem walk_yes (a0 a1 a2 a3 a4 b0 b1 b2 b3 b4 c0 c1 c2 c3 c4 : Int) (w : World) (ha : rtB a0 a1 a2 a3 a4 = true) (hb : rtB b0 b1 b2 b3 b4 = true) (hc : rtB c0 c1 c2 c3 c4 = true) :
    Calls Try.prog 9 #[.agg #[.int .i64 a0, .int .i64 a1, .int .i64 a2, .int .i64 a3, .int .i64 a4], .agg #[.int .i64 b0, .int .i64 b1, .int .i64 b2, .int .i64 b3, .int .i64 b4], .agg #[.int .i64 c0, .int .i64 c1, .int .i64 c2, .int .i64 c3, .int .i64 c4]] w fun e w' => e = .returned (.bool true) ∧ Below w.heap.size w w' := by
  have hle : ∀ x y, leastC a0 a1 a2 a3 a4 b0 b1 b2 b3 b4 x y = minI x y := by simp [leastC, ha, hb]
  have bA := (rtB_iff _ _ _ _ _).1 ha
  have bB := (rtB_iff _ _ _ _ _).1 hb
  have m0 := minI_le a0 b0
  have m1 := minI_le a1 b1
  have m2 := minI_le a2 b2
  have m3 := minI_le a3 b3
  have m4 := minI_le a4 b4
  have hm : rtB (minI a0 b0) (minI a1 b1) (minI a2 b2) (minI a3 b3) (minI a4 b4) = true := (rtB_iff _ _ _ _ _).2 (by omega)
  have f1 : fitsB (minI a0 b0) (minI a1 b1) (minI a2 b2) (minI a3 b3) (minI a4 b4) a0 a1 a2 a3 a4 = true := (fits_iff _ _ _ _ _ _ _ _ _ _).2 ⟨hm, ha, by omega⟩
  have f2 : fitsB (minI a0 b0) (minI a1 b1) (minI a2 b2) (minI a3 b3) (minI a4 b4) b0 b1 b2 b3 b4 = true := (fits_iff _ _ _ _ _ _ _ _ _ _).2 ⟨hm, hb, by omega⟩
  have f3 : fitsB a0 a1 a2 a3 a4 a0 a1 a2 a3 a4 = true := (fits_iff _ _ _ _ _ _ _ _ _ _).2 ⟨ha, ha, by omega⟩
  have k1 : fitsB a0 a1 a2 a3 a4 b0 b1 b2 b3 b4 = true → fitsB b0 b1 b2 b3 b4 c0 c1 c2 c3 c4 = true → fitsB a0 a1 a2 a3 a4 c0 c1 c2 c3 c4 = true := fun h1 h2 => by
    obtain ⟨_, _, h1⟩ := (fits_iff _ _ _ _ _ _ _ _ _ _).1 h1
    obtain ⟨_, _, h2⟩ := (fits_iff _ _ _ _ _ _ _ _ _ _).1 h2
    exact (fits_iff _ _ _ _ _ _ _ _ _ _).2 ⟨ha, hc, by omega⟩
  have k2 : fitsB c0 c1 c2 c3 c4 a0 a1 a2 a3 a4 = true → fitsB c0 c1 c2 c3 c4 b0 b1 b2 b3 b4 = true → fitsB c0 c1 c2 c3 c4 (minI a0 b0) (minI a1 b1) (minI a2 b2) (minI a3 b3) (minI a4 b4) = true := fun h1 h2 => by
    obtain ⟨_, _, h1⟩ := (fits_iff _ _ _ _ _ _ _ _ _ _).1 h1
    obtain ⟨_, _, h2⟩ := (fits_iff _ _ _ _ _ _ _ _ _ _).1 h2
    exact (fits_iff _ _ _ _ _ _ _ _ _ _).2 ⟨hc, hm, by omega⟩
  have k3 : fitsB a0 a1 a2 a3 a4 b0 b1 b2 b3 b4 = true → fitsB b0 b1 b2 b3 b4 a0 a1 a2 a3 a4 = true → a0 = b0 ∧ a1 = b1 ∧ a2 = b2 ∧ a3 = b3 ∧ a4 = b4 := fun h1 h2 => by
    obtain ⟨_, _, h1⟩ := (fits_iff _ _ _ _ _ _ _ _ _ _).1 h1
    obtain ⟨_, _, h2⟩ := (fits_iff _ _ _ _ _ _ _ _ _ _).1 h2
    omega
  have K1 := Lib.hid k1
  have K2 := Lib.hid k2
  have K3 := Lib.hid k3
  clear k1 k2 k3 bA bB m0 m1 m2 m3 m4 hm
  cases hA : fitsB a0 a1 a2 a3 a4 b0 b1 b2 b3 b4
  · clear K1 K3
    cases hD : fitsB c0 c1 c2 c3 c4 a0 a1 a2 a3 a4
    · clear K2
      go_enter Try.func9, Try.ntmps9
      go_wp2_with fail
      (go_at_call 16; refine (right_any _ _ _ _ _ _).mono ?_; rintro e w1 ⟨rfl, hb1⟩)
      obtain ⟨hc1, hf1⟩ := bcell hb1
      have hz1 := hb1.size
      (try simp at hz1)
      have z1_0 : w.heap.size < w1.heap.size := (by omega); have y1_0 : w.heap.size ≤ w1.heap.size := (by omega); have z1_1 : w.heap.size + 1 < w1.heap.size := (by omega); have y1_1 : w.heap.size + 1 ≤ w1.heap.size := (by omega); have z1_2 : w.heap.size + 1 + 1 < w1.heap.size := (by omega); have y1_2 : w.heap.size + 1 + 1 ≤ w1.heap.size := (by omega)
      go_wp2_with fail
      (go_at_call 16; refine (right_any _ _ _ _ _ _).mono ?_; rintro e w2 ⟨rfl, hb2⟩)
      obtain ⟨hc2, hf2⟩ := bcell hb2
      have hz2 := hb2.size
      (try simp at hz2)
      have z2_0 : w.heap.size < w2.heap.size := (by omega); have y2_0 : w.heap.size ≤ w2.heap.size := (by omega); have z2_1 : w.heap.size + 1 < w2.heap.size := (by omega); have y2_1 : w.heap.size + 1 ≤ w2.heap.size := (by omega); have z2_2 : w.heap.size + 1 + 1 < w2.heap.size := (by omega); have y2_2 : w.heap.size + 1 + 1 ≤ w2.heap.size := (by omega)
      go_wp2_with fail
      (go_at_call 16; refine (right_any _ _ _ _ _ _).mono ?_; rintro e w3 ⟨rfl, hb3⟩)
      obtain ⟨hc3, hf3⟩ := bcell hb3
      have hz3 := hb3.size
      (try simp at hz3)
      have z3_0 : w.heap.size < w3.heap.size := (by omega); have y3_0 : w.heap.size ≤ w3.heap.size := (by omega); have z3_1 : w.heap.size + 1 < w3.heap.size := (by omega); have y3_1 : w.heap.size + 1 ≤ w3.heap.size := (by omega); have z3_2 : w.heap.size + 1 + 1 < w3.heap.size := (by omega); have y3_2 : w.heap.size + 1 + 1 ≤ w3.heap.size := (by omega)
      go_wp2_with fail
      (go_at_call 21; refine (least_any _ _ _ _ _ _ _ _ _ _ _).mono ?_; rintro e w4 ⟨rfl, hb4⟩)
      obtain ⟨hc4, hf4⟩ := bcell hb4
      have hz4 := hb4.size
      (try simp at hz4)
      have z4_0 : w.heap.size < w4.heap.size := (by omega); have y4_0 : w.heap.size ≤ w4.heap.size := (by omega); have z4_1 : w.heap.size + 1 < w4.heap.size := (by omega); have y4_1 : w.heap.size + 1 ≤ w4.heap.size := (by omega); have z4_2 : w.heap.size + 1 + 1 < w4.heap.size := (by omega); have y4_2 : w.heap.size + 1 + 1 ≤ w4.heap.size := (by omega)
      go_wp2_with (first | (go_at_call 19; refine (fits_any _ _ _ _ _ _ _ _ _ _ _).mono ?_; rintro e w9 ⟨rfl, hb9⟩; obtain ⟨hc9, hf9⟩ := bcell hb9; have hz9 := hb9.size; (try simp at hz9); have z9_0 : w.heap.size < w9.heap.size := (by omega); have y9_0 : w.heap.size ≤ w9.heap.size := (by omega); have z9_1 : w.heap.size + 1 < w9.heap.size := (by omega); have y9_1 : w.heap.size + 1 ≤ w9.heap.size := (by omega); have z9_2 : w.heap.size + 1 + 1 < w9.heap.size := (by omega); have y9_2 : w.heap.size + 1 + 1 ≤ w9.heap.size := (by omega); have z9_3 : w4.heap.size < w9.heap.size := (by omega); have y9_3 : w4.heap.size ≤ w9.heap.size := (by omega)) | (go_at_call 18; refine (known_any _).mono ?_; rintro e w9 ⟨rfl, hb9⟩; obtain ⟨hc9, hf9⟩ := bcell hb9; have hz9 := hb9.size; (try simp at hz9); skip))
      go_ret
      exact ⟨rfl, by (repeat' (first | with_reducible exact Below.refl _ _ | with_reducible assumption | with_reducible refine Below.drew ?_ | with_reducible refine below_drewN' ?_ _ | with_reducible refine Below.alloc ?_ ?_ _ | with_reducible refine Below.setCell ?_ ?_ _ | with_reducible refine below_step (by assumption) ?_ ?_ | omega | (simp; done) | (simp; omega)))⟩
    cases hE : fitsB c0 c1 c2 c3 c4 b0 b1 b2 b3 b4
    · clear K2
      go_enter Try.func9, Try.ntmps9
      go_wp2_with fail
      (go_at_call 16; refine (right_any _ _ _ _ _ _).mono ?_; rintro e w1 ⟨rfl, hb1⟩)
      obtain ⟨hc1, hf1⟩ := bcell hb1
      have hz1 := hb1.size
      (try simp at hz1)
      have z1_0 : w.heap.size < w1.heap.size := (by omega); have y1_0 : w.heap.size ≤ w1.heap.size := (by omega); have z1_1 : w.heap.size + 1 < w1.heap.size := (by omega); have y1_1 : w.heap.size + 1 ≤ w1.heap.size := (by omega); have z1_2 : w.heap.size + 1 + 1 < w1.heap.size := (by omega); have y1_2 : w.heap.size + 1 + 1 ≤ w1.heap.size := (by omega)
      go_wp2_with fail
      (go_at_call 16; refine (right_any _ _ _ _ _ _).mono ?_; rintro e w2 ⟨rfl, hb2⟩)
      obtain ⟨hc2, hf2⟩ := bcell hb2
      have hz2 := hb2.size
      (try simp at hz2)
      have z2_0 : w.heap.size < w2.heap.size := (by omega); have y2_0 : w.heap.size ≤ w2.heap.size := (by omega); have z2_1 : w.heap.size + 1 < w2.heap.size := (by omega); have y2_1 : w.heap.size + 1 ≤ w2.heap.size := (by omega); have z2_2 : w.heap.size + 1 + 1 < w2.heap.size := (by omega); have y2_2 : w.heap.size + 1 + 1 ≤ w2.heap.size := (by omega)
      go_wp2_with fail
      (go_at_call 16; refine (right_any _ _ _ _ _ _).mono ?_; rintro e w3 ⟨rfl, hb3⟩)
      obtain ⟨hc3, hf3⟩ := bcell hb3
      have hz3 := hb3.size
      (try simp at hz3)
      have z3_0 : w.heap.size < w3.heap.size := (by omega); have y3_0 : w.heap.size ≤ w3.heap.size := (by omega); have z3_1 : w.heap.size + 1 < w3.heap.size := (by omega); have y3_1 : w.heap.size + 1 ≤ w3.heap.size := (by omega); have z3_2 : w.heap.size + 1 + 1 < w3.heap.size := (by omega); have y3_2 : w.heap.size + 1 + 1 ≤ w3.heap.size := (by omega)
      go_wp2_with fail
      (go_at_call 21; refine (least_any _ _ _ _ _ _ _ _ _ _ _).mono ?_; rintro e w4 ⟨rfl, hb4⟩)
      obtain ⟨hc4, hf4⟩ := bcell hb4
      have hz4 := hb4.size
      (try simp at hz4)
      have z4_0 : w.heap.size < w4.heap.size := (by omega); have y4_0 : w.heap.size ≤ w4.heap.size := (by omega); have z4_1 : w.heap.size + 1 < w4.heap.size := (by omega); have y4_1 : w.heap.size + 1 ≤ w4.heap.size := (by omega); have z4_2 : w.heap.size + 1 + 1 < w4.heap.size := (by omega); have y4_2 : w.heap.size + 1 + 1 ≤ w4.heap.size := (by omega)
      go_wp2_with (first | (go_at_call 19; refine (fits_any _ _ _ _ _ _ _ _ _ _ _).mono ?_; rintro e w9 ⟨rfl, hb9⟩; obtain ⟨hc9, hf9⟩ := bcell hb9; have hz9 := hb9.size; (try simp at hz9); have z9_0 : w.heap.size < w9.heap.size := (by omega); have y9_0 : w.heap.size ≤ w9.heap.size := (by omega); have z9_1 : w.heap.size + 1 < w9.heap.size := (by omega); have y9_1 : w.heap.size + 1 ≤ w9.heap.size := (by omega); have z9_2 : w.heap.size + 1 + 1 < w9.heap.size := (by omega); have y9_2 : w.heap.size + 1 + 1 ≤ w9.heap.size := (by omega); have z9_3 : w4.heap.size < w9.heap.size := (by omega); have y9_3 : w4.heap.size ≤ w9.heap.size := (by omega)) | (go_at_call 18; refine (known_any _).mono ?_; rintro e w9 ⟨rfl, hb9⟩; obtain ⟨hc9, hf9⟩ := bcell hb9; have hz9 := hb9.size; (try simp at hz9); skip))
      go_ret
      exact ⟨rfl, by (repeat' (first | with_reducible exact Below.refl _ _ | with_reducible assumption | with_reducible refine Below.drew ?_ | with_reducible refine below_drewN' ?_ _ | with_reducible refine Below.alloc ?_ ?_ _ | with_reducible refine Below.setCell ?_ ?_ _ | with_reducible refine below_step (by assumption) ?_ ?_ | omega | (simp; done) | (simp; omega)))⟩
    · have hF := K2.out hD hE
      clear K2
      go_enter Try.func9, Try.ntmps9
      go_wp2_with fail
      (go_at_call 16; refine (right_any _ _ _ _ _ _).mono ?_; rintro e w1 ⟨rfl, hb1⟩)
      obtain ⟨hc1, hf1⟩ := bcell hb1
      have hz1 := hb1.size
      (try simp at hz1)
      have z1_0 : w.heap.size < w1.heap.size := (by omega); have y1_0 : w.heap.size ≤ w1.heap.size := (by omega); have z1_1 : w.heap.size + 1 < w1.heap.size := (by omega); have y1_1 : w.heap.size + 1 ≤ w1.heap.size := (by omega); have z1_2 : w.heap.size + 1 + 1 < w1.heap.size := (by omega); have y1_2 : w.heap.size + 1 + 1 ≤ w1.heap.size := (by omega)
      go_wp2_with fail
      (go_at_call 16; refine (right_any _ _ _ _ _ _).mono ?_; rintro e w2 ⟨rfl, hb2⟩)
      obtain ⟨hc2, hf2⟩ := bcell hb2
      have hz2 := hb2.size
      (try simp at hz2)
      have z2_0 : w.heap.size < w2.heap.size := (by omega); have y2_0 : w.heap.size ≤ w2.heap.size := (by omega); have z2_1 : w.heap.size + 1 < w2.heap.size := (by omega); have y2_1 : w.heap.size + 1 ≤ w2.heap.size := (by omega); have z2_2 : w.heap.size + 1 + 1 < w2.heap.size := (by omega); have y2_2 : w.heap.size + 1 + 1 ≤ w2.heap.size := (by omega)
      go_wp2_with fail
      (go_at_call 16; refine (right_any _ _ _ _ _ _).mono ?_; rintro e w3 ⟨rfl, hb3⟩)
      obtain ⟨hc3, hf3⟩ := bcell hb3
      have hz3 := hb3.size
      (try simp at hz3)
      have z3_0 : w.heap.size < w3.heap.size := (by omega); have y3_0 : w.heap.size ≤ w3.heap.size := (by omega); have z3_1 : w.heap.size + 1 < w3.heap.size := (by omega); have y3_1 : w.heap.size + 1 ≤ w3.heap.size := (by omega); have z3_2 : w.heap.size + 1 + 1 < w3.heap.size := (by omega); have y3_2 : w.heap.size + 1 + 1 ≤ w3.heap.size := (by omega)
      go_wp2_with fail
      (go_at_call 21; refine (least_any _ _ _ _ _ _ _ _ _ _ _).mono ?_; rintro e w4 ⟨rfl, hb4⟩)
      obtain ⟨hc4, hf4⟩ := bcell hb4
      have hz4 := hb4.size
      (try simp at hz4)
      have z4_0 : w.heap.size < w4.heap.size := (by omega); have y4_0 : w.heap.size ≤ w4.heap.size := (by omega); have z4_1 : w.heap.size + 1 < w4.heap.size := (by omega); have y4_1 : w.heap.size + 1 ≤ w4.heap.size := (by omega); have z4_2 : w.heap.size + 1 + 1 < w4.heap.size := (by omega); have y4_2 : w.heap.size + 1 + 1 ≤ w4.heap.size := (by omega)
      go_wp2_with (first | (go_at_call 19; refine (fits_any _ _ _ _ _ _ _ _ _ _ _).mono ?_; rintro e w9 ⟨rfl, hb9⟩; obtain ⟨hc9, hf9⟩ := bcell hb9; have hz9 := hb9.size; (try simp at hz9); have z9_0 : w.heap.size < w9.heap.size := (by omega); have y9_0 : w.heap.size ≤ w9.heap.size := (by omega); have z9_1 : w.heap.size + 1 < w9.heap.size := (by omega); have y9_1 : w.heap.size + 1 ≤ w9.heap.size := (by omega); have z9_2 : w.heap.size + 1 + 1 < w9.heap.size := (by omega); have y9_2 : w.heap.size + 1 + 1 ≤ w9.heap.size := (by omega); have z9_3 : w4.heap.size < w9.heap.size := (by omega); have y9_3 : w4.heap.size ≤ w9.heap.size := (by omega)) | (go_at_call 18; refine (known_any _).mono ?_; rintro e w9 ⟨rfl, hb9⟩; obtain ⟨hc9, hf9⟩ := bcell hb9; have hz9 := hb9.size; (try simp at hz9); skip))
      go_ret
      exact ⟨rfl, by (repeat' (first | with_reducible exact Below.refl _ _ | with_reducible assumption | with_reducible refine Below.drew ?_ | with_reducible refine below_drewN' ?_ _ | with_reducible refine Below.alloc ?_ ?_ _ | with_reducible refine Below.setCell ?_ ?_ _ | with_reducible refine below_step (by assumption) ?_ ?_ | omega | (simp; done) | (simp; omega)))⟩
  cases hB : fitsB b0 b1 b2 b3 b4 c0 c1 c2 c3 c4
  · clear K1
    cases hG : fitsB b0 b1 b2 b3 b4 a0 a1 a2 a3 a4
    · clear K3
      cases hD : fitsB c0 c1 c2 c3 c4 a0 a1 a2 a3 a4
      · clear K2
        go_enter Try.func9, Try.ntmps9
        go_wp2_with fail
        (go_at_call 16; refine (right_any _ _ _ _ _ _).mono ?_; rintro e w1 ⟨rfl, hb1⟩)
        obtain ⟨hc1, hf1⟩ := bcell hb1
        have hz1 := hb1.size
        (try simp at hz1)
        have z1_0 : w.heap.size < w1.heap.size := (by omega); have y1_0 : w.heap.size ≤ w1.heap.size := (by omega); have z1_1 : w.heap.size + 1 < w1.heap.size := (by omega); have y1_1 : w.heap.size + 1 ≤ w1.heap.size := (by omega); have z1_2 : w.heap.size + 1 + 1 < w1.heap.size := (by omega); have y1_2 : w.heap.size + 1 + 1 ≤ w1.heap.size := (by omega)
        go_wp2_with fail
        (go_at_call 16; refine (right_any _ _ _ _ _ _).mono ?_; rintro e w2 ⟨rfl, hb2⟩)
        obtain ⟨hc2, hf2⟩ := bcell hb2
        have hz2 := hb2.size
        (try simp at hz2)
        have z2_0 : w.heap.size < w2.heap.size := (by omega); have y2_0 : w.heap.size ≤ w2.heap.size := (by omega); have z2_1 : w.heap.size + 1 < w2.heap.size := (by omega); have y2_1 : w.heap.size + 1 ≤ w2.heap.size := (by omega); have z2_2 : w.heap.size + 1 + 1 < w2.heap.size := (by omega); have y2_2 : w.heap.size + 1 + 1 ≤ w2.heap.size := (by omega)
        go_wp2_with fail
        (go_at_call 16; refine (right_any _ _ _ _ _ _).mono ?_; rintro e w3 ⟨rfl, hb3⟩)
        obtain ⟨hc3, hf3⟩ := bcell hb3
        have hz3 := hb3.size
        (try simp at hz3)
        have z3_0 : w.heap.size < w3.heap.size := (by omega); have y3_0 : w.heap.size ≤ w3.heap.size := (by omega); have z3_1 : w.heap.size + 1 < w3.heap.size := (by omega); have y3_1 : w.heap.size + 1 ≤ w3.heap.size := (by omega); have z3_2 : w.heap.size + 1 + 1 < w3.heap.size := (by omega); have y3_2 : w.heap.size + 1 + 1 ≤ w3.heap.size := (by omega)
        go_wp2_with fail
        (go_at_call 21; refine (least_any _ _ _ _ _ _ _ _ _ _ _).mono ?_; rintro e w4 ⟨rfl, hb4⟩)
        obtain ⟨hc4, hf4⟩ := bcell hb4
        have hz4 := hb4.size
        (try simp at hz4)
        have z4_0 : w.heap.size < w4.heap.size := (by omega); have y4_0 : w.heap.size ≤ w4.heap.size := (by omega); have z4_1 : w.heap.size + 1 < w4.heap.size := (by omega); have y4_1 : w.heap.size + 1 ≤ w4.heap.size := (by omega); have z4_2 : w.heap.size + 1 + 1 < w4.heap.size := (by omega); have y4_2 : w.heap.size + 1 + 1 ≤ w4.heap.size := (by omega)
        go_wp2_with (first | (go_at_call 19; refine (fits_any _ _ _ _ _ _ _ _ _ _ _).mono ?_; rintro e w9 ⟨rfl, hb9⟩; obtain ⟨hc9, hf9⟩ := bcell hb9; have hz9 := hb9.size; (try simp at hz9); have z9_0 : w.heap.size < w9.heap.size := (by omega); have y9_0 : w.heap.size ≤ w9.heap.size := (by omega); have z9_1 : w.heap.size + 1 < w9.heap.size := (by omega); have y9_1 : w.heap.size + 1 ≤ w9.heap.size := (by omega); have z9_2 : w.heap.size + 1 + 1 < w9.heap.size := (by omega); have y9_2 : w.heap.size + 1 + 1 ≤ w9.heap.size := (by omega); have z9_3 : w4.heap.size < w9.heap.size := (by omega); have y9_3 : w4.heap.size ≤ w9.heap.size := (by omega)) | (go_at_call 18; refine (known_any _).mono ?_; rintro e w9 ⟨rfl, hb9⟩; obtain ⟨hc9, hf9⟩ := bcell hb9; have hz9 := hb9.size; (try simp at hz9); skip))
        go_ret
        exact ⟨rfl, by (repeat' (first | with_reducible exact Below.refl _ _ | with_reducible assumption | with_reducible refine Below.drew ?_ | with_reducible refine below_drewN' ?_ _ | with_reducible refine Below.alloc ?_ ?_ _ | with_reducible refine Below.setCell ?_ ?_ _ | with_reducible refine below_step (by assumption) ?_ ?_ | omega | (simp; done) | (simp; omega)))⟩
      cases hE : fitsB c0 c1 c2 c3 c4 b0 b1 b2 b3 b4
      · clear K2
        go_enter Try.func9, Try.ntmps9
        go_wp2_with fail
        (go_at_call 16; refine (right_any _ _ _ _ _ _).mono ?_; rintro e w1 ⟨rfl, hb1⟩)
        obtain ⟨hc1, hf1⟩ := bcell hb1
        have hz1 := hb1.size
        (try simp at hz1)
        have z1_0 : w.heap.size < w1.heap.size := (by omega); have y1_0 : w.heap.size ≤ w1.heap.size := (by omega); have z1_1 : w.heap.size + 1 < w1.heap.size := (by omega); have y1_1 : w.heap.size + 1 ≤ w1.heap.size := (by omega); have z1_2 : w.heap.size + 1 + 1 < w1.heap.size := (by omega); have y1_2 : w.heap.size + 1 + 1 ≤ w1.heap.size := (by omega)
        go_wp2_with fail
        (go_at_call 16; refine (right_any _ _ _ _ _ _).mono ?_; rintro e w2 ⟨rfl, hb2⟩)
        obtain ⟨hc2, hf2⟩ := bcell hb2
        have hz2 := hb2.size
        (try simp at hz2)
        have z2_0 : w.heap.size < w2.heap.size := (by omega); have y2_0 : w.heap.size ≤ w2.heap.size := (by omega); have z2_1 : w.heap.size + 1 < w2.heap.size := (by omega); have y2_1 : w.heap.size + 1 ≤ w2.heap.size := (by omega); have z2_2 : w.heap.size + 1 + 1 < w2.heap.size := (by omega); have y2_2 : w.heap.size + 1 + 1 ≤ w2.heap.size := (by omega)
        go_wp2_with fail
        (go_at_call 16; refine (right_any _ _ _ _ _ _).mono ?_; rintro e w3 ⟨rfl, hb3⟩)
        obtain ⟨hc3, hf3⟩ := bcell hb3
        have hz3 := hb3.size
        (try simp at hz3)
        have z3_0 : w.heap.size < w3.heap.size := (by omega); have y3_0 : w.heap.size ≤ w3.heap.size := (by omega); have z3_1 : w.heap.size + 1 < w3.heap.size := (by omega); have y3_1 : w.heap.size + 1 ≤ w3.heap.size := (by omega); have z3_2 : w.heap.size + 1 + 1 < w3.heap.size := (by omega); have y3_2 : w.heap.size + 1 + 1 ≤ w3.heap.size := (by omega)
        go_wp2_with fail
        (go_at_call 21; refine (least_any _ _ _ _ _ _ _ _ _ _ _).mono ?_; rintro e w4 ⟨rfl, hb4⟩)
        obtain ⟨hc4, hf4⟩ := bcell hb4
        have hz4 := hb4.size
        (try simp at hz4)
        have z4_0 : w.heap.size < w4.heap.size := (by omega); have y4_0 : w.heap.size ≤ w4.heap.size := (by omega); have z4_1 : w.heap.size + 1 < w4.heap.size := (by omega); have y4_1 : w.heap.size + 1 ≤ w4.heap.size := (by omega); have z4_2 : w.heap.size + 1 + 1 < w4.heap.size := (by omega); have y4_2 : w.heap.size + 1 + 1 ≤ w4.heap.size := (by omega)
        go_wp2_with (first | (go_at_call 19; refine (fits_any _ _ _ _ _ _ _ _ _ _ _).mono ?_; rintro e w9 ⟨rfl, hb9⟩; obtain ⟨hc9, hf9⟩ := bcell hb9; have hz9 := hb9.size; (try simp at hz9); have z9_0 : w.heap.size < w9.heap.size := (by omega); have y9_0 : w.heap.size ≤ w9.heap.size := (by omega); have z9_1 : w.heap.size + 1 < w9.heap.size := (by omega); have y9_1 : w.heap.size + 1 ≤ w9.heap.size := (by omega); have z9_2 : w.heap.size + 1 + 1 < w9.heap.size := (by omega); have y9_2 : w.heap.size + 1 + 1 ≤ w9.heap.size := (by omega); have z9_3 : w4.heap.size < w9.heap.size := (by omega); have y9_3 : w4.heap.size ≤ w9.heap.size := (by omega)) | (go_at_call 18; refine (known_any _).mono ?_; rintro e w9 ⟨rfl, hb9⟩; obtain ⟨hc9, hf9⟩ := bcell hb9; have hz9 := hb9.size; (try simp at hz9); skip))
        go_ret
        exact ⟨rfl, by (repeat' (first | with_reducible exact Below.refl _ _ | with_reducible assumption | with_reducible refine Below.drew ?_ | with_reducible refine below_drewN' ?_ _ | with_reducible refine Below.alloc ?_ ?_ _ | with_reducible refine Below.setCell ?_ ?_ _ | with_reducible refine below_step (by assumption) ?_ ?_ | omega | (simp; done) | (simp; omega)))⟩
      · have hF := K2.out hD hE
        clear K2
        go_enter Try.func9, Try.ntmps9
        go_wp2_with fail
        (go_at_call 16; refine (right_any _ _ _ _ _ _).mono ?_; rintro e w1 ⟨rfl, hb1⟩)
        obtain ⟨hc1, hf1⟩ := bcell hb1
        have hz1 := hb1.size
        (try simp at hz1)
        have z1_0 : w.heap.size < w1.heap.size := (by omega); have y1_0 : w.heap.size ≤ w1.heap.size := (by omega); have z1_1 : w.heap.size + 1 < w1.heap.size := (by omega); have y1_1 : w.heap.size + 1 ≤ w1.heap.size := (by omega); have z1_2 : w.heap.size + 1 + 1 < w1.heap.size := (by omega); have y1_2 : w.heap.size + 1 + 1 ≤ w1.heap.size := (by omega)
        go_wp2_with fail
        (go_at_call 16; refine (right_any _ _ _ _ _ _).mono ?_; rintro e w2 ⟨rfl, hb2⟩)
        obtain ⟨hc2, hf2⟩ := bcell hb2
        have hz2 := hb2.size
        (try simp at hz2)
        have z2_0 : w.heap.size < w2.heap.size := (by omega); have y2_0 : w.heap.size ≤ w2.heap.size := (by omega); have z2_1 : w.heap.size + 1 < w2.heap.size := (by omega); have y2_1 : w.heap.size + 1 ≤ w2.heap.size := (by omega); have z2_2 : w.heap.size + 1 + 1 < w2.heap.size := (by omega); have y2_2 : w.heap.size + 1 + 1 ≤ w2.heap.size := (by omega)
        go_wp2_with fail
        (go_at_call 16; refine (right_any _ _ _ _ _ _).mono ?_; rintro e w3 ⟨rfl, hb3⟩)
        obtain ⟨hc3, hf3⟩ := bcell hb3
        have hz3 := hb3.size
        (try simp at hz3)
        have z3_0 : w.heap.size < w3.heap.size := (by omega); have y3_0 : w.heap.size ≤ w3.heap.size := (by omega); have z3_1 : w.heap.size + 1 < w3.heap.size := (by omega); have y3_1 : w.heap.size + 1 ≤ w3.heap.size := (by omega); have z3_2 : w.heap.size + 1 + 1 < w3.heap.size := (by omega); have y3_2 : w.heap.size + 1 + 1 ≤ w3.heap.size := (by omega)
        go_wp2_with fail
        (go_at_call 21; refine (least_any _ _ _ _ _ _ _ _ _ _ _).mono ?_; rintro e w4 ⟨rfl, hb4⟩)
        obtain ⟨hc4, hf4⟩ := bcell hb4
        have hz4 := hb4.size
        (try simp at hz4)
        have z4_0 : w.heap.size < w4.heap.size := (by omega); have y4_0 : w.heap.size ≤ w4.heap.size := (by omega); have z4_1 : w.heap.size + 1 < w4.heap.size := (by omega); have y4_1 : w.heap.size + 1 ≤ w4.heap.size := (by omega); have z4_2 : w.heap.size + 1 + 1 < w4.heap.size := (by omega); have y4_2 : w.heap.size + 1 + 1 ≤ w4.heap.size := (by omega)
        go_wp2_with (first | (go_at_call 19; refine (fits_any _ _ _ _ _ _ _ _ _ _ _).mono ?_; rintro e w9 ⟨rfl, hb9⟩; obtain ⟨hc9, hf9⟩ := bcell hb9; have hz9 := hb9.size; (try simp at hz9); have z9_0 : w.heap.size < w9.heap.size := (by omega); have y9_0 : w.heap.size ≤ w9.heap.size := (by omega); have z9_1 : w.heap.size + 1 < w9.heap.size := (by omega); have y9_1 : w.heap.size + 1 ≤ w9.heap.size := (by omega); have z9_2 : w.heap.size + 1 + 1 < w9.heap.size := (by omega); have y9_2 : w.heap.size + 1 + 1 ≤ w9.heap.size := (by omega); have z9_3 : w4.heap.size < w9.heap.size := (by omega); have y9_3 : w4.heap.size ≤ w9.heap.size := (by omega)) | (go_at_call 18; refine (known_any _).mono ?_; rintro e w9 ⟨rfl, hb9⟩; obtain ⟨hc9, hf9⟩ := bcell hb9; have hz9 := hb9.size; (try simp at hz9); skip))
        go_ret
        exact ⟨rfl, by (repeat' (first | with_reducible exact Below.refl _ _ | with_reducible assumption | with_reducible refine Below.drew ?_ | with_reducible refine below_drewN' ?_ _ | with_reducible refine Below.alloc ?_ ?_ _ | with_reducible refine Below.setCell ?_ ?_ _ | with_reducible refine below_step (by assumption) ?_ ?_ | omega | (simp; done) | (simp; omega)))⟩
    · obtain ⟨e0, e1, e2, e3, e4⟩ := K3.out hA hG
      subst e0 e1 e2 e3 e4
      clear K3
      cases hD : fitsB c0 c1 c2 c3 c4 a0 a1 a2 a3 a4
      · clear K2
        go_enter Try.func9, Try.ntmps9
        go_wp2_with fail
        (go_at_call 16; refine (right_any _ _ _ _ _ _).mono ?_; rintro e w1 ⟨rfl, hb1⟩)
        obtain ⟨hc1, hf1⟩ := bcell hb1
        have hz1 := hb1.size
        (try simp at hz1)
        have z1_0 : w.heap.size < w1.heap.size := (by omega); have y1_0 : w.heap.size ≤ w1.heap.size := (by omega); have z1_1 : w.heap.size + 1 < w1.heap.size := (by omega); have y1_1 : w.heap.size + 1 ≤ w1.heap.size := (by omega); have z1_2 : w.heap.size + 1 + 1 < w1.heap.size := (by omega); have y1_2 : w.heap.size + 1 + 1 ≤ w1.heap.size := (by omega)
        go_wp2_with fail
        (go_at_call 16; refine (right_any _ _ _ _ _ _).mono ?_; rintro e w2 ⟨rfl, hb2⟩)
        obtain ⟨hc2, hf2⟩ := bcell hb2
        have hz2 := hb2.size
        (try simp at hz2)
        have z2_0 : w.heap.size < w2.heap.size := (by omega); have y2_0 : w.heap.size ≤ w2.heap.size := (by omega); have z2_1 : w.heap.size + 1 < w2.heap.size := (by omega); have y2_1 : w.heap.size + 1 ≤ w2.heap.size := (by omega); have z2_2 : w.heap.size + 1 + 1 < w2.heap.size := (by omega); have y2_2 : w.heap.size + 1 + 1 ≤ w2.heap.size := (by omega)
        go_wp2_with fail
        (go_at_call 16; refine (right_any _ _ _ _ _ _).mono ?_; rintro e w3 ⟨rfl, hb3⟩)
        obtain ⟨hc3, hf3⟩ := bcell hb3
        have hz3 := hb3.size
        (try simp at hz3)
        have z3_0 : w.heap.size < w3.heap.size := (by omega); have y3_0 : w.heap.size ≤ w3.heap.size := (by omega); have z3_1 : w.heap.size + 1 < w3.heap.size := (by omega); have y3_1 : w.heap.size + 1 ≤ w3.heap.size := (by omega); have z3_2 : w.heap.size + 1 + 1 < w3.heap.size := (by omega); have y3_2 : w.heap.size + 1 + 1 ≤ w3.heap.size := (by omega)
        go_wp2_with fail
        (go_at_call 21; refine (least_any _ _ _ _ _ _ _ _ _ _ _).mono ?_; rintro e w4 ⟨rfl, hb4⟩)
        obtain ⟨hc4, hf4⟩ := bcell hb4
        have hz4 := hb4.size
        (try simp at hz4)
        have z4_0 : w.heap.size < w4.heap.size := (by omega); have y4_0 : w.heap.size ≤ w4.heap.size := (by omega); have z4_1 : w.heap.size + 1 < w4.heap.size := (by omega); have y4_1 : w.heap.size + 1 ≤ w4.heap.size := (by omega); have z4_2 : w.heap.size + 1 + 1 < w4.heap.size := (by omega); have y4_2 : w.heap.size + 1 + 1 ≤ w4.heap.size := (by omega)
        go_wp2_with (first | (go_at_call 19; refine (fits_any _ _ _ _ _ _ _ _ _ _ _).mono ?_; rintro e w9 ⟨rfl, hb9⟩; obtain ⟨hc9, hf9⟩ := bcell hb9; have hz9 := hb9.size; (try simp at hz9); have z9_0 : w.heap.size < w9.heap.size := (by omega); have y9_0 : w.heap.size ≤ w9.heap.size := (by omega); have z9_1 : w.heap.size + 1 < w9.heap.size := (by omega); have y9_1 : w.heap.size + 1 ≤ w9.heap.size := (by omega); have z9_2 : w.heap.size + 1 + 1 < w9.heap.size := (by omega); have y9_2 : w.heap.size + 1 + 1 ≤ w9.heap.size := (by omega); have z9_3 : w4.heap.size < w9.heap.size := (by omega); have y9_3 : w4.heap.size ≤ w9.heap.size := (by omega)) | (go_at_call 18; refine (known_any _).mono ?_; rintro e w9 ⟨rfl, hb9⟩; obtain ⟨hc9, hf9⟩ := bcell hb9; have hz9 := hb9.size; (try simp at hz9); skip))
        go_ret
        exact ⟨rfl, by (repeat' (first | with_reducible exact Below.refl _ _ | with_reducible assumption | with_reducible refine Below.drew ?_ | with_reducible refine below_drewN' ?_ _ | with_reducible refine Below.alloc ?_ ?_ _ | with_reducible refine Below.setCell ?_ ?_ _ | with_reducible refine below_step (by assumption) ?_ ?_ | omega | (simp; done) | (simp; omega)))⟩
      · have hF := K2.out hD hD
        clear K2
        go_enter Try.func9, Try.ntmps9
        go_wp2_with fail
        (go_at_call 16; refine (right_any _ _ _ _ _ _).mono ?_; rintro e w1 ⟨rfl, hb1⟩)
        obtain ⟨hc1, hf1⟩ := bcell hb1
        have hz1 := hb1.size
        (try simp at hz1)
        have z1_0 : w.heap.size < w1.heap.size := (by omega); have y1_0 : w.heap.size ≤ w1.heap.size := (by omega); have z1_1 : w.heap.size + 1 < w1.heap.size := (by omega); have y1_1 : w.heap.size + 1 ≤ w1.heap.size := (by omega); have z1_2 : w.heap.size + 1 + 1 < w1.heap.size := (by omega); have y1_2 : w.heap.size + 1 + 1 ≤ w1.heap.size := (by omega)
        go_wp2_with fail
        (go_at_call 16; refine (right_any _ _ _ _ _ _).mono ?_; rintro e w2 ⟨rfl, hb2⟩)
        obtain ⟨hc2, hf2⟩ := bcell hb2
        have hz2 := hb2.size
        (try simp at hz2)
        have z2_0 : w.heap.size < w2.heap.size := (by omega); have y2_0 : w.heap.size ≤ w2.heap.size := (by omega); have z2_1 : w.heap.size + 1 < w2.heap.size := (by omega); have y2_1 : w.heap.size + 1 ≤ w2.heap.size := (by omega); have z2_2 : w.heap.size + 1 + 1 < w2.heap.size := (by omega); have y2_2 : w.heap.size + 1 + 1 ≤ w2.heap.size := (by omega)
        go_wp2_with fail
        (go_at_call 16; refine (right_any _ _ _ _ _ _).mono ?_; rintro e w3 ⟨rfl, hb3⟩)
        obtain ⟨hc3, hf3⟩ := bcell hb3
        have hz3 := hb3.size
        (try simp at hz3)
        have z3_0 : w.heap.size < w3.heap.size := (by omega); have y3_0 : w.heap.size ≤ w3.heap.size := (by omega); have z3_1 : w.heap.size + 1 < w3.heap.size := (by omega); have y3_1 : w.heap.size + 1 ≤ w3.heap.size := (by omega); have z3_2 : w.heap.size + 1 + 1 < w3.heap.size := (by omega); have y3_2 : w.heap.size + 1 + 1 ≤ w3.heap.size := (by omega)
        go_wp2_with fail
        (go_at_call 21; refine (least_any _ _ _ _ _ _ _ _ _ _ _).mono ?_; rintro e w4 ⟨rfl, hb4⟩)
        obtain ⟨hc4, hf4⟩ := bcell hb4
        have hz4 := hb4.size
        (try simp at hz4)
        have z4_0 : w.heap.size < w4.heap.size := (by omega); have y4_0 : w.heap.size ≤ w4.heap.size := (by omega); have z4_1 : w.heap.size + 1 < w4.heap.size := (by omega); have y4_1 : w.heap.size + 1 ≤ w4.heap.size := (by omega); have z4_2 : w.heap.size + 1 + 1 < w4.heap.size := (by omega); have y4_2 : w.heap.size + 1 + 1 ≤ w4.heap.size := (by omega)
        go_wp2_with (first | (go_at_call 19; refine (fits_any _ _ _ _ _ _ _ _ _ _ _).mono ?_; rintro e w9 ⟨rfl, hb9⟩; obtain ⟨hc9, hf9⟩ := bcell hb9; have hz9 := hb9.size; (try simp at hz9); have z9_0 : w.heap.size < w9.heap.size := (by omega); have y9_0 : w.heap.size ≤ w9.heap.size := (by omega); have z9_1 : w.heap.size + 1 < w9.heap.size := (by omega); have y9_1 : w.heap.size + 1 ≤ w9.heap.size := (by omega); have z9_2 : w.heap.size + 1 + 1 < w9.heap.size := (by omega); have y9_2 : w.heap.size + 1 + 1 ≤ w9.heap.size := (by omega); have z9_3 : w4.heap.size < w9.heap.size := (by omega); have y9_3 : w4.heap.size ≤ w9.heap.size := (by omega)) | (go_at_call 18; refine (known_any _).mono ?_; rintro e w9 ⟨rfl, hb9⟩; obtain ⟨hc9, hf9⟩ := bcell hb9; have hz9 := hb9.size; (try simp at hz9); skip))
        go_ret
        exact ⟨rfl, by (repeat' (first | with_reducible exact Below.refl _ _ | with_reducible assumption | with_reducible refine Below.drew ?_ | with_reducible refine below_drewN' ?_ _ | with_reducible refine Below.alloc ?_ ?_ _ | with_reducible refine Below.setCell ?_ ?_ _ | with_reducible refine below_step (by assumption) ?_ ?_ | omega | (simp; done) | (simp; omega)))⟩
  · have hC := K1.out hA hB
    clear K1
    cases hG : fitsB b0 b1 b2 b3 b4 a0 a1 a2 a3 a4
    · clear K3
      cases hD : fitsB c0 c1 c2 c3 c4 a0 a1 a2 a3 a4
      · clear K2
        go_enter Try.func9, Try.ntmps9
        go_wp2_with fail
        (go_at_call 16; refine (right_any _ _ _ _ _ _).mono ?_; rintro e w1 ⟨rfl, hb1⟩)
        obtain ⟨hc1, hf1⟩ := bcell hb1
        have hz1 := hb1.size
        (try simp at hz1)
        have z1_0 : w.heap.size < w1.heap.size := (by omega); have y1_0 : w.heap.size ≤ w1.heap.size := (by omega); have z1_1 : w.heap.size + 1 < w1.heap.size := (by omega); have y1_1 : w.heap.size + 1 ≤ w1.heap.size := (by omega); have z1_2 : w.heap.size + 1 + 1 < w1.heap.size := (by omega); have y1_2 : w.heap.size + 1 + 1 ≤ w1.heap.size := (by omega)
        go_wp2_with fail
        (go_at_call 16; refine (right_any _ _ _ _ _ _).mono ?_; rintro e w2 ⟨rfl, hb2⟩)
        obtain ⟨hc2, hf2⟩ := bcell hb2
        have hz2 := hb2.size
        (try simp at hz2)
        have z2_0 : w.heap.size < w2.heap.size := (by omega); have y2_0 : w.heap.size ≤ w2.heap.size := (by omega); have z2_1 : w.heap.size + 1 < w2.heap.size := (by omega); have y2_1 : w.heap.size + 1 ≤ w2.heap.size := (by omega); have z2_2 : w.heap.size + 1 + 1 < w2.heap.size := (by omega); have y2_2 : w.heap.size + 1 + 1 ≤ w2.heap.size := (by omega)
        go_wp2_with fail
        (go_at_call 16; refine (right_any _ _ _ _ _ _).mono ?_; rintro e w3 ⟨rfl, hb3⟩)
        obtain ⟨hc3, hf3⟩ := bcell hb3
        have hz3 := hb3.size
        (try simp at hz3)
        have z3_0 : w.heap.size < w3.heap.size := (by omega); have y3_0 : w.heap.size ≤ w3.heap.size := (by omega); have z3_1 : w.heap.size + 1 < w3.heap.size := (by omega); have y3_1 : w.heap.size + 1 ≤ w3.heap.size := (by omega); have z3_2 : w.heap.size + 1 + 1 < w3.heap.size := (by omega); have y3_2 : w.heap.size + 1 + 1 ≤ w3.heap.size := (by omega)
        go_wp2_with fail
        (go_at_call 21; refine (least_any _ _ _ _ _ _ _ _ _ _ _).mono ?_; rintro e w4 ⟨rfl, hb4⟩)
        obtain ⟨hc4, hf4⟩ := bcell hb4
        have hz4 := hb4.size
        (try simp at hz4)
        have z4_0 : w.heap.size < w4.heap.size := (by omega); have y4_0 : w.heap.size ≤ w4.heap.size := (by omega); have z4_1 : w.heap.size + 1 < w4.heap.size := (by omega); have y4_1 : w.heap.size + 1 ≤ w4.heap.size := (by omega); have z4_2 : w.heap.size + 1 + 1 < w4.heap.size := (by omega); have y4_2 : w.heap.size + 1 + 1 ≤ w4.heap.size := (by omega)
        go_wp2_with (first | (go_at_call 19; refine (fits_any _ _ _ _ _ _ _ _ _ _ _).mono ?_; rintro e w9 ⟨rfl, hb9⟩; obtain ⟨hc9, hf9⟩ := bcell hb9; have hz9 := hb9.size; (try simp at hz9); have z9_0 : w.heap.size < w9.heap.size := (by omega); have y9_0 : w.heap.size ≤ w9.heap.size := (by omega); have z9_1 : w.heap.size + 1 < w9.heap.size := (by omega); have y9_1 : w.heap.size + 1 ≤ w9.heap.size := (by omega); have z9_2 : w.heap.size + 1 + 1 < w9.heap.size := (by omega); have y9_2 : w.heap.size + 1 + 1 ≤ w9.heap.size := (by omega); have z9_3 : w4.heap.size < w9.heap.size := (by omega); have y9_3 : w4.heap.size ≤ w9.heap.size := (by omega)) | (go_at_call 18; refine (known_any _).mono ?_; rintro e w9 ⟨rfl, hb9⟩; obtain ⟨hc9, hf9⟩ := bcell hb9; have hz9 := hb9.size; (try simp at hz9); skip))
        go_ret
        exact ⟨rfl, by (repeat' (first | with_reducible exact Below.refl _ _ | with_reducible assumption | with_reducible refine Below.drew ?_ | with_reducible refine below_drewN' ?_ _ | with_reducible refine Below.alloc ?_ ?_ _ | with_reducible refine Below.setCell ?_ ?_ _ | with_reducible refine below_step (by assumption) ?_ ?_ | omega | (simp; done) | (simp; omega)))⟩
      cases hE : fitsB c0 c1 c2 c3 c4 b0 b1 b2 b3 b4
      · clear K2
        go_enter Try.func9, Try.ntmps9
        go_wp2_with fail
        (go_at_call 16; refine (right_any _ _ _ _ _ _).mono ?_; rintro e w1 ⟨rfl, hb1⟩)
        obtain ⟨hc1, hf1⟩ := bcell hb1
        have hz1 := hb1.size
        (try simp at hz1)
        have z1_0 : w.heap.size < w1.heap.size := (by omega); have y1_0 : w.heap.size ≤ w1.heap.size := (by omega); have z1_1 : w.heap.size + 1 < w1.heap.size := (by omega); have y1_1 : w.heap.size + 1 ≤ w1.heap.size := (by omega); have z1_2 : w.heap.size + 1 + 1 < w1.heap.size := (by omega); have y1_2 : w.heap.size + 1 + 1 ≤ w1.heap.size := (by omega)
        go_wp2_with fail
        (go_at_call 16; refine (right_any _ _ _ _ _ _).mono ?_; rintro e w2 ⟨rfl, hb2⟩)
        obtain ⟨hc2, hf2⟩ := bcell hb2
        have hz2 := hb2.size
        (try simp at hz2)
        have z2_0 : w.heap.size < w2.heap.size := (by omega); have y2_0 : w.heap.size ≤ w2.heap.size := (by omega); have z2_1 : w.heap.size + 1 < w2.heap.size := (by omega); have y2_1 : w.heap.size + 1 ≤ w2.heap.size := (by omega); have z2_2 : w.heap.size + 1 + 1 < w2.heap.size := (by omega); have y2_2 : w.heap.size + 1 + 1 ≤ w2.heap.size := (by omega)
        go_wp2_with fail
        (go_at_call 16; refine (right_any _ _ _ _ _ _).mono ?_; rintro e w3 ⟨rfl, hb3⟩)
        obtain ⟨hc3, hf3⟩ := bcell hb3
        have hz3 := hb3.size
        (try simp at hz3)
        have z3_0 : w.heap.size < w3.heap.size := (by omega); have y3_0 : w.heap.size ≤ w3.heap.size := (by omega); have z3_1 : w.heap.size + 1 < w3.heap.size := (by omega); have y3_1 : w.heap.size + 1 ≤ w3.heap.size := (by omega); have z3_2 : w.heap.size + 1 + 1 < w3.heap.size := (by omega); have y3_2 : w.heap.size + 1 + 1 ≤ w3.heap.size := (by omega)
        go_wp2_with fail
        (go_at_call 21; refine (least_any _ _ _ _ _ _ _ _ _ _ _).mono ?_; rintro e w4 ⟨rfl, hb4⟩)
        obtain ⟨hc4, hf4⟩ := bcell hb4
        have hz4 := hb4.size
        (try simp at hz4)
        have z4_0 : w.heap.size < w4.heap.size := (by omega); have y4_0 : w.heap.size ≤ w4.heap.size := (by omega); have z4_1 : w.heap.size + 1 < w4.heap.size := (by omega); have y4_1 : w.heap.size + 1 ≤ w4.heap.size := (by omega); have z4_2 : w.heap.size + 1 + 1 < w4.heap.size := (by omega); have y4_2 : w.heap.size + 1 + 1 ≤ w4.heap.size := (by omega)
        go_wp2_with (first | (go_at_call 19; refine (fits_any _ _ _ _ _ _ _ _ _ _ _).mono ?_; rintro e w9 ⟨rfl, hb9⟩; obtain ⟨hc9, hf9⟩ := bcell hb9; have hz9 := hb9.size; (try simp at hz9); have z9_0 : w.heap.size < w9.heap.size := (by omega); have y9_0 : w.heap.size ≤ w9.heap.size := (by omega); have z9_1 : w.heap.size + 1 < w9.heap.size := (by omega); have y9_1 : w.heap.size + 1 ≤ w9.heap.size := (by omega); have z9_2 : w.heap.size + 1 + 1 < w9.heap.size := (by omega); have y9_2 : w.heap.size + 1 + 1 ≤ w9.heap.size := (by omega); have z9_3 : w4.heap.size < w9.heap.size := (by omega); have y9_3 : w4.heap.size ≤ w9.heap.size := (by omega)) | (go_at_call 18; refine (known_any _).mono ?_; rintro e w9 ⟨rfl, hb9⟩; obtain ⟨hc9, hf9⟩ := bcell hb9; have hz9 := hb9.size; (try simp at hz9); skip))
        go_ret
        exact ⟨rfl, by (repeat' (first | with_reducible exact Below.refl _ _ | with_reducible assumption | with_reducible refine Below.drew ?_ | with_reducible refine below_drewN' ?_ _ | with_reducible refine Below.alloc ?_ ?_ _ | with_reducible refine Below.setCell ?_ ?_ _ | with_reducible refine below_step (by assumption) ?_ ?_ | omega | (simp; done) | (simp; omega)))⟩
      · have hF := K2.out hD hE
        clear K2
        go_enter Try.func9, Try.ntmps9
        go_wp2_with fail
        (go_at_call 16; refine (right_any _ _ _ _ _ _).mono ?_; rintro e w1 ⟨rfl, hb1⟩)
        obtain ⟨hc1, hf1⟩ := bcell hb1
        have hz1 := hb1.size
        (try simp at hz1)
        have z1_0 : w.heap.size < w1.heap.size := (by omega); have y1_0 : w.heap.size ≤ w1.heap.size := (by omega); have z1_1 : w.heap.size + 1 < w1.heap.size := (by omega); have y1_1 : w.heap.size + 1 ≤ w1.heap.size := (by omega); have z1_2 : w.heap.size + 1 + 1 < w1.heap.size := (by omega); have y1_2 : w.heap.size + 1 + 1 ≤ w1.heap.size := (by omega)
        go_wp2_with fail
        (go_at_call 16; refine (right_any _ _ _ _ _ _).mono ?_; rintro e w2 ⟨rfl, hb2⟩)
        obtain ⟨hc2, hf2⟩ := bcell hb2
        have hz2 := hb2.size
        (try simp at hz2)
        have z2_0 : w.heap.size < w2.heap.size := (by omega); have y2_0 : w.heap.size ≤ w2.heap.size := (by omega); have z2_1 : w.heap.size + 1 < w2.heap.size := (by omega); have y2_1 : w.heap.size + 1 ≤ w2.heap.size := (by omega); have z2_2 : w.heap.size + 1 + 1 < w2.heap.size := (by omega); have y2_2 : w.heap.size + 1 + 1 ≤ w2.heap.size := (by omega)
        go_wp2_with fail
        (go_at_call 16; refine (right_any _ _ _ _ _ _).mono ?_; rintro e w3 ⟨rfl, hb3⟩)
        obtain ⟨hc3, hf3⟩ := bcell hb3
        have hz3 := hb3.size
        (try simp at hz3)
        have z3_0 : w.heap.size < w3.heap.size := (by omega); have y3_0 : w.heap.size ≤ w3.heap.size := (by omega); have z3_1 : w.heap.size + 1 < w3.heap.size := (by omega); have y3_1 : w.heap.size + 1 ≤ w3.heap.size := (by omega); have z3_2 : w.heap.size + 1 + 1 < w3.heap.size := (by omega); have y3_2 : w.heap.size + 1 + 1 ≤ w3.heap.size := (by omega)
        go_wp2_with fail
        (go_at_call 21; refine (least_any _ _ _ _ _ _ _ _ _ _ _).mono ?_; rintro e w4 ⟨rfl, hb4⟩)
        obtain ⟨hc4, hf4⟩ := bcell hb4
        have hz4 := hb4.size
        (try simp at hz4)
        have z4_0 : w.heap.size < w4.heap.size := (by omega); have y4_0 : w.heap.size ≤ w4.heap.size := (by omega); have z4_1 : w.heap.size + 1 < w4.heap.size := (by omega); have y4_1 : w.heap.size + 1 ≤ w4.heap.size := (by omega); have z4_2 : w.heap.size + 1 + 1 < w4.heap.size := (by omega); have y4_2 : w.heap.size + 1 + 1 ≤ w4.heap.size := (by omega)
        go_wp2_with (first | (go_at_call 19; refine (fits_any _ _ _ _ _ _ _ _ _ _ _).mono ?_; rintro e w9 ⟨rfl, hb9⟩; obtain ⟨hc9, hf9⟩ := bcell hb9; have hz9 := hb9.size; (try simp at hz9); have z9_0 : w.heap.size < w9.heap.size := (by omega); have y9_0 : w.heap.size ≤ w9.heap.size := (by omega); have z9_1 : w.heap.size + 1 < w9.heap.size := (by omega); have y9_1 : w.heap.size + 1 ≤ w9.heap.size := (by omega); have z9_2 : w.heap.size + 1 + 1 < w9.heap.size := (by omega); have y9_2 : w.heap.size + 1 + 1 ≤ w9.heap.size := (by omega); have z9_3 : w4.heap.size < w9.heap.size := (by omega); have y9_3 : w4.heap.size ≤ w9.heap.size := (by omega)) | (go_at_call 18; refine (known_any _).mono ?_; rintro e w9 ⟨rfl, hb9⟩; obtain ⟨hc9, hf9⟩ := bcell hb9; have hz9 := hb9.size; (try simp at hz9); skip))
        go_ret
        exact ⟨rfl, by (repeat' (first | with_reducible exact Below.refl _ _ | with_reducible assumption | with_reducible refine Below.drew ?_ | with_reducible refine below_drewN' ?_ _ | with_reducible refine Below.alloc ?_ ?_ _ | with_reducible refine Below.setCell ?_ ?_ _ | with_reducible refine below_step (by assumption) ?_ ?_ | omega | (simp; done) | (simp; omega)))⟩
    · obtain ⟨e0, e1, e2, e3, e4⟩ := K3.out hA hG
      subst e0 e1 e2 e3 e4
      clear K3
      cases hD : fitsB c0 c1 c2 c3 c4 a0 a1 a2 a3 a4
      · clear K2
        go_enter Try.func9, Try.ntmps9
        go_wp2_with fail
        (go_at_call 16; refine (right_any _ _ _ _ _ _).mono ?_; rintro e w1 ⟨rfl, hb1⟩)
        obtain ⟨hc1, hf1⟩ := bcell hb1
        have hz1 := hb1.size
        (try simp at hz1)
        have z1_0 : w.heap.size < w1.heap.size := (by omega); have y1_0 : w.heap.size ≤ w1.heap.size := (by omega); have z1_1 : w.heap.size + 1 < w1.heap.size := (by omega); have y1_1 : w.heap.size + 1 ≤ w1.heap.size := (by omega); have z1_2 : w.heap.size + 1 + 1 < w1.heap.size := (by omega); have y1_2 : w.heap.size + 1 + 1 ≤ w1.heap.size := (by omega)
        go_wp2_with fail
        (go_at_call 16; refine (right_any _ _ _ _ _ _).mono ?_; rintro e w2 ⟨rfl, hb2⟩)
        obtain ⟨hc2, hf2⟩ := bcell hb2
        have hz2 := hb2.size
        (try simp at hz2)
        have z2_0 : w.heap.size < w2.heap.size := (by omega); have y2_0 : w.heap.size ≤ w2.heap.size := (by omega); have z2_1 : w.heap.size + 1 < w2.heap.size := (by omega); have y2_1 : w.heap.size + 1 ≤ w2.heap.size := (by omega); have z2_2 : w.heap.size + 1 + 1 < w2.heap.size := (by omega); have y2_2 : w.heap.size + 1 + 1 ≤ w2.heap.size := (by omega)
        go_wp2_with fail
        (go_at_call 16; refine (right_any _ _ _ _ _ _).mono ?_; rintro e w3 ⟨rfl, hb3⟩)
        obtain ⟨hc3, hf3⟩ := bcell hb3
        have hz3 := hb3.size
        (try simp at hz3)
        have z3_0 : w.heap.size < w3.heap.size := (by omega); have y3_0 : w.heap.size ≤ w3.heap.size := (by omega); have z3_1 : w.heap.size + 1 < w3.heap.size := (by omega); have y3_1 : w.heap.size + 1 ≤ w3.heap.size := (by omega); have z3_2 : w.heap.size + 1 + 1 < w3.heap.size := (by omega); have y3_2 : w.heap.size + 1 + 1 ≤ w3.heap.size := (by omega)
        go_wp2_with fail
        (go_at_call 21; refine (least_any _ _ _ _ _ _ _ _ _ _ _).mono ?_; rintro e w4 ⟨rfl, hb4⟩)
        obtain ⟨hc4, hf4⟩ := bcell hb4
        have hz4 := hb4.size
        (try simp at hz4)
        have z4_0 : w.heap.size < w4.heap.size := (by omega); have y4_0 : w.heap.size ≤ w4.heap.size := (by omega); have z4_1 : w.heap.size + 1 < w4.heap.size := (by omega); have y4_1 : w.heap.size + 1 ≤ w4.heap.size := (by omega); have z4_2 : w.heap.size + 1 + 1 < w4.heap.size := (by omega); have y4_2 : w.heap.size + 1 + 1 ≤ w4.heap.size := (by omega)
        go_wp2_with (first | (go_at_call 19; refine (fits_any _ _ _ _ _ _ _ _ _ _ _).mono ?_; rintro e w9 ⟨rfl, hb9⟩; obtain ⟨hc9, hf9⟩ := bcell hb9; have hz9 := hb9.size; (try simp at hz9); have z9_0 : w.heap.size < w9.heap.size := (by omega); have y9_0 : w.heap.size ≤ w9.heap.size := (by omega); have z9_1 : w.heap.size + 1 < w9.heap.size := (by omega); have y9_1 : w.heap.size + 1 ≤ w9.heap.size := (by omega); have z9_2 : w.heap.size + 1 + 1 < w9.heap.size := (by omega); have y9_2 : w.heap.size + 1 + 1 ≤ w9.heap.size := (by omega); have z9_3 : w4.heap.size < w9.heap.size := (by omega); have y9_3 : w4.heap.size ≤ w9.heap.size := (by omega)) | (go_at_call 18; refine (known_any _).mono ?_; rintro e w9 ⟨rfl, hb9⟩; obtain ⟨hc9, hf9⟩ := bcell hb9; have hz9 := hb9.size; (try simp at hz9); skip))
        go_ret
        exact ⟨rfl, by (repeat' (first | with_reducible exact Below.refl _ _ | with_reducible assumption | with_reducible refine Below.drew ?_ | with_reducible refine below_drewN' ?_ _ | with_reducible refine Below.alloc ?_ ?_ _ | with_reducible refine Below.setCell ?_ ?_ _ | with_reducible refine below_step (by assumption) ?_ ?_ | omega | (simp; done) | (simp; omega)))⟩
      · have hF := K2.out hD hD
        clear K2
        go_enter Try.func9, Try.ntmps9
        go_wp2_with fail
        (go_at_call 16; refine (right_any _ _ _ _ _ _).mono ?_; rintro e w1 ⟨rfl, hb1⟩)
        obtain ⟨hc1, hf1⟩ := bcell hb1
        have hz1 := hb1.size
        (try simp at hz1)
        have z1_0 : w.heap.size < w1.heap.size := (by omega); have y1_0 : w.heap.size ≤ w1.heap.size := (by omega); have z1_1 : w.heap.size + 1 < w1.heap.size := (by omega); have y1_1 : w.heap.size + 1 ≤ w1.heap.size := (by omega); have z1_2 : w.heap.size + 1 + 1 < w1.heap.size := (by omega); have y1_2 : w.heap.size + 1 + 1 ≤ w1.heap.size := (by omega)
        go_wp2_with fail
        (go_at_call 16; refine (right_any _ _ _ _ _ _).mono ?_; rintro e w2 ⟨rfl, hb2⟩)
        obtain ⟨hc2, hf2⟩ := bcell hb2
        have hz2 := hb2.size
        (try simp at hz2)
        have z2_0 : w.heap.size < w2.heap.size := (by omega); have y2_0 : w.heap.size ≤ w2.heap.size := (by omega); have z2_1 : w.heap.size + 1 < w2.heap.size := (by omega); have y2_1 : w.heap.size + 1 ≤ w2.heap.size := (by omega); have z2_2 : w.heap.size + 1 + 1 < w2.heap.size := (by omega); have y2_2 : w.heap.size + 1 + 1 ≤ w2.heap.size := (by omega)
        go_wp2_with fail
        (go_at_call 16; refine (right_any _ _ _ _ _ _).mono ?_; rintro e w3 ⟨rfl, hb3⟩)
        obtain ⟨hc3, hf3⟩ := bcell hb3
        have hz3 := hb3.size
        (try simp at hz3)
        have z3_0 : w.heap.size < w3.heap.size := (by omega); have y3_0 : w.heap.size ≤ w3.heap.size := (by omega); have z3_1 : w.heap.size + 1 < w3.heap.size := (by omega); have y3_1 : w.heap.size + 1 ≤ w3.heap.size := (by omega); have z3_2 : w.heap.size + 1 + 1 < w3.heap.size := (by omega); have y3_2 : w.heap.size + 1 + 1 ≤ w3.heap.size := (by omega)
        go_wp2_with fail
        (go_at_call 21; refine (least_any _ _ _ _ _ _ _ _ _ _ _).mono ?_; rintro e w4 ⟨rfl, hb4⟩)
        obtain ⟨hc4, hf4⟩ := bcell hb4
        have hz4 := hb4.size
        (try simp at hz4)
        have z4_0 : w.heap.size < w4.heap.size := (by omega); have y4_0 : w.heap.size ≤ w4.heap.size := (by omega); have z4_1 : w.heap.size + 1 < w4.heap.size := (by omega); have y4_1 : w.heap.size + 1 ≤ w4.heap.size := (by omega); have z4_2 : w.heap.size + 1 + 1 < w4.heap.size := (by omega); have y4_2 : w.heap.size + 1 + 1 ≤ w4.heap.size := (by omega)
        go_wp2_with (first | (go_at_call 19; refine (fits_any _ _ _ _ _ _ _ _ _ _ _).mono ?_; rintro e w9 ⟨rfl, hb9⟩; obtain ⟨hc9, hf9⟩ := bcell hb9; have hz9 := hb9.size; (try simp at hz9); have z9_0 : w.heap.size < w9.heap.size := (by omega); have y9_0 : w.heap.size ≤ w9.heap.size := (by omega); have z9_1 : w.heap.size + 1 < w9.heap.size := (by omega); have y9_1 : w.heap.size + 1 ≤ w9.heap.size := (by omega); have z9_2 : w.heap.size + 1 + 1 < w9.heap.size := (by omega); have y9_2 : w.heap.size + 1 + 1 ≤ w9.heap.size := (by omega); have z9_3 : w4.heap.size < w9.heap.size := (by omega); have y9_3 : w4.heap.size ≤ w9.heap.size := (by omega)) | (go_at_call 18; refine (known_any _).mono ?_; rintro e w9 ⟨rfl, hb9⟩; obtain ⟨hc9, hf9⟩ := bcell hb9; have hz9 := hb9.size; (try simp at hz9); skip))
        go_ret
        exact ⟨rfl, by (repeat' (first | with_reducible exact Below.refl _ _ | with_reducible assumption | with_reducible refine Below.drew ?_ | with_reducible refine below_drewN' ?_ _ | with_reducible refine Below.alloc ?_ ?_ _ | with_reducible refine Below.setCell ?_ ?_ _ | with_reducible refine below_step (by assumption) ?_ ?_ | omega | (simp; done) | (simp; omega)))⟩

theorem walk (a0 a1 a2 a3 a4 b0 b1 b2 b3 b4 c0 c1 c2 c3 c4 : Int) (w : World) :
    Calls Try.prog 9 #[.agg #[.int .i64 a0, .int .i64 a1, .int .i64 a2, .int .i64 a3, .int .i64 a4], .agg #[.int .i64 b0, .int .i64 b1, .int .i64 b2, .int .i64 b3, .int .i64 b4], .agg #[.int .i64 c0, .int .i64 c1, .int .i64 c2, .int .i64 c3, .int .i64 c4]] w fun e w' => e = .returned (.bool true) ∧ Below w.heap.size w w' := by
  cases ha : rtB a0 a1 a2 a3 a4
  · exact walk_no a0 a1 a2 a3 a4 b0 b1 b2 b3 b4 c0 c1 c2 c3 c4 w (.inl ha)
  cases hb : rtB b0 b1 b2 b3 b4
  · exact walk_no a0 a1 a2 a3 a4 b0 b1 b2 b3 b4 c0 c1 c2 c3 c4 w (.inr (.inl hb))
  cases hc : rtB c0 c1 c2 c3 c4
  · exact walk_no a0 a1 a2 a3 a4 b0 b1 b2 b3 b4 c0 c1 c2 c3 c4 w (.inr (.inr hc))
  exact walk_yes a0 a1 a2 a3 a4 b0 b1 b2 b3 b4 c0 c1 c2 c3 c4 w ha hb hc

set_option maxRecDepth 100000 in
theorem lifted (os : Os) (started : os.Started) (H : Type) (enc : TypeId × Value → H) :
    ReturnsInHanded {} Try.checked os 9 .any (Rows.resOrderSpec.pre6 enc Try.prog Try.f9 Rows.resOrderRow.domain false) (Rows.resOrderSpec.post enc Try.prog Try.f9 false true false false) := by
  refine returnsInHanded_of_change (C := Try.checked) Try.own started (by kernel_rfl) Try.func9
    (ChangeSpec.witness6 (enc := enc) (C := Try.checked) false ⟨#[], #[.agg #[.int .i64 0, .int .i64 0, .int .i64 0, .int .i64 0, .int .i64 0], .agg #[.int .i64 0, .int .i64 0, .int .i64 0, .int .i64 0, .int .i64 0], .agg #[.int .i64 0, .int .i64 0, .int .i64 0, .int .i64 0, .int .i64 0]], []⟩ 8 (by kernel_rfl) (by kernel_rfl) (by kernel_rfl) (by kernel_rfl)) ?_
  intro W base args ds gs before hval hW _ _
  have hW' := hW
  obtain ⟨p, q, hA, hV, rfl, hfz, hnd⟩ := hW
  rw [Try.params9] at hA hval
  obtain ⟨v0, v1, v2, d0, d1, d2, p0, p1, p2, rfl, rfl, rfl, h0, h1, h2⟩ := trodAll_three hA
  obtain ⟨a0, a1, a2, a3, a4, rfl⟩ := open_res (hval 0 23 v0 rfl rfl) h0
  obtain ⟨b0, b1, b2, b3, b4, rfl⟩ := open_res (hval 1 23 v1 rfl rfl) h1
  obtain ⟨c0, c1, c2, c3, c4, rfl⟩ := open_res (hval 2 23 v2 rfl rfl) h2
  refine (walk a0 a1 a2 a3 a4 b0 b1 b2 b3 b4 c0 c1 c2 c3 c4 W).mono fun e W' ⟨he, hb⟩ => ?_
  exact ⟨_, he, law_post Try.laidOut hW' rfl (by kernel_rfl) (by kernel_rfl) Try.underlying4 rfl rfl rfl hb⟩

theorem over : Rows.resOrderRow.holds Try.pinned (OpenSpec.ofChange Rows.resOrderSpec) :=
  OpenClaim.holds_of_wide 9 Try.f9 rfl rfl rfl rfl rfl rfl rfl ⟨rfl, rfl, rfl, rfl, rfl⟩ rfl rfl rfl rfl rfl (by kernel_rfl) Try.func9 (by kernel_rfl)
    (of_decide_eq_true (by kernel_rfl)) (by unfold Func.isWrapper; first | (rw [if_pos (by decide +kernel)]; kernel_rfl) | (rw [if_neg (by decide +kernel)]; exact ⟨rfl, rfl⟩))
    (fun os started H enc _ => lifted os started H enc)

/-- The statement. -/
theorem proved : Rows.ResOrderSaid := over
end resOrder
end Go.Proofs.Ytfaeebbanphbgaa
