/-
  ResSums: the sum, the difference, and the product of any resources are as the document says, or what is wrong.
  For every two values of api.Res and every int, without a condition.
-/
import Derived.Test.YtfaeebbanphbgaaHeld
import Derived.Test.YtfaeebbanphbgaaResLaw0
import Derived.Test.YtfaeebbanphbgaaRes9
namespace Go.Proofs.Ytfaeebbanphbgaa
open Go.ChangeShapes Go.WideShapes Go.ChangeAt Go.RowKit
namespace resSums
set_option maxRecDepth 100000 in
set_option maxHeartbeats 2000000 in
theorem walk (a0 a1 a2 a3 a4 b0 b1 b2 b3 b4 n : Int) (w : World) :
    Calls Try.prog 3 #[.agg #[.int .i64 a0, .int .i64 a1, .int .i64 a2, .int .i64 a3, .int .i64 a4], .agg #[.int .i64 b0, .int .i64 b1, .int .i64 b2, .int .i64 b3, .int .i64 b4], .int .i64 n] w fun e w' => e = .returned (.bool true) ∧ Below w.heap.size w w' := by
  go_enter Try.func3, Try.ntmps3
  go_wp2_with fail
  (go_at_call 10; refine (add_any _ _ _ _ _ _ _ _ _ _ _).mono ?_; rintro e w1 ⟨rfl, hb1⟩)
  obtain ⟨hc1, hf1⟩ := bcell hb1
  have hz1 := hb1.size
  (try simp at hz1)
  have z1_0 : w.heap.size < w1.heap.size := (by omega); have y1_0 : w.heap.size ≤ w1.heap.size := (by omega); have z1_1 : w.heap.size + 1 < w1.heap.size := (by omega); have y1_1 : w.heap.size + 1 ≤ w1.heap.size := (by omega)
  go_wp2_with fail
  (go_at_call 11; refine (refadd_any _ _ _ _ _ _ _ _ _ _ _).mono ?_; rintro e w2 ⟨rfl, hb2⟩)
  obtain ⟨hc2, hf2⟩ := bcell hb2
  have hz2 := hb2.size
  (try simp at hz2)
  have z2_0 : w.heap.size < w2.heap.size := (by omega); have y2_0 : w.heap.size ≤ w2.heap.size := (by omega); have z2_1 : w.heap.size + 1 < w2.heap.size := (by omega); have y2_1 : w.heap.size + 1 ≤ w2.heap.size := (by omega); have z2_2 : w1.heap.size < w2.heap.size := (by omega); have y2_2 : w1.heap.size ≤ w2.heap.size := (by omega)
  go_wp2_with fail
  (go_at_call 12; refine (sub_any _ _ _ _ _ _ _ _ _ _ _).mono ?_; rintro e w3 ⟨rfl, hb3⟩)
  obtain ⟨hc3, hf3⟩ := bcell hb3
  have hz3 := hb3.size
  (try simp at hz3)
  have z3_0 : w.heap.size < w3.heap.size := (by omega); have y3_0 : w.heap.size ≤ w3.heap.size := (by omega); have z3_1 : w.heap.size + 1 < w3.heap.size := (by omega); have y3_1 : w.heap.size + 1 ≤ w3.heap.size := (by omega); have z3_2 : w1.heap.size < w3.heap.size := (by omega); have y3_2 : w1.heap.size ≤ w3.heap.size := (by omega); have z3_3 : w2.heap.size < w3.heap.size := (by omega); have y3_3 : w2.heap.size ≤ w3.heap.size := (by omega)
  go_wp2_with fail
  (go_at_call 13; refine (refsub_any _ _ _ _ _ _ _ _ _ _ _).mono ?_; rintro e w4 ⟨rfl, hb4⟩)
  obtain ⟨hc4, hf4⟩ := bcell hb4
  have hz4 := hb4.size
  (try simp at hz4)
  have z4_0 : w.heap.size < w4.heap.size := (by omega); have y4_0 : w.heap.size ≤ w4.heap.size := (by omega); have z4_1 : w.heap.size + 1 < w4.heap.size := (by omega); have y4_1 : w.heap.size + 1 ≤ w4.heap.size := (by omega); have z4_2 : w1.heap.size < w4.heap.size := (by omega); have y4_2 : w1.heap.size ≤ w4.heap.size := (by omega); have z4_3 : w2.heap.size < w4.heap.size := (by omega); have y4_3 : w2.heap.size ≤ w4.heap.size := (by omega); have z4_4 : w3.heap.size < w4.heap.size := (by omega); have y4_4 : w3.heap.size ≤ w4.heap.size := (by omega)
  go_wp2_with fail
  (go_at_call 14; refine (times_any _ _ _ _ _ _ _).mono ?_; rintro e w5 ⟨rfl, hb5⟩)
  obtain ⟨hc5, hf5⟩ := bcell hb5
  have hz5 := hb5.size
  (try simp at hz5)
  have z5_0 : w.heap.size < w5.heap.size := (by omega); have y5_0 : w.heap.size ≤ w5.heap.size := (by omega); have z5_1 : w.heap.size + 1 < w5.heap.size := (by omega); have y5_1 : w.heap.size + 1 ≤ w5.heap.size := (by omega); have z5_2 : w1.heap.size < w5.heap.size := (by omega); have y5_2 : w1.heap.size ≤ w5.heap.size := (by omega); have z5_3 : w2.heap.size < w5.heap.size := (by omega); have y5_3 : w2.heap.size ≤ w5.heap.size := (by omega); have z5_4 : w3.heap.size < w5.heap.size := (by omega); have y5_4 : w3.heap.size ≤ w5.heap.size := (by omega); have z5_5 : w4.heap.size < w5.heap.size := (by omega); have y5_5 : w4.heap.size ≤ w5.heap.size := (by omega)
  go_wp2_with fail
  (go_at_call 15; refine (reftimes_any _ _ _ _ _ _ _).mono ?_; rintro e w6 ⟨rfl, hb6⟩)
  obtain ⟨hc6, hf6⟩ := bcell hb6
  have hz6 := hb6.size
  (try simp at hz6)
  have z6_0 : w.heap.size < w6.heap.size := (by omega); have y6_0 : w.heap.size ≤ w6.heap.size := (by omega); have z6_1 : w.heap.size + 1 < w6.heap.size := (by omega); have y6_1 : w.heap.size + 1 ≤ w6.heap.size := (by omega); have z6_2 : w1.heap.size < w6.heap.size := (by omega); have y6_2 : w1.heap.size ≤ w6.heap.size := (by omega); have z6_3 : w2.heap.size < w6.heap.size := (by omega); have y6_3 : w2.heap.size ≤ w6.heap.size := (by omega); have z6_4 : w3.heap.size < w6.heap.size := (by omega); have y6_4 : w3.heap.size ≤ w6.heap.size := (by omega); have z6_5 : w4.heap.size < w6.heap.size := (by omega); have y6_5 : w4.heap.size ≤ w6.heap.size := (by omega); have z6_6 : w5.heap.size < w6.heap.size := (by omega); have y6_6 : w5.heap.size ≤ w6.heap.size := (by omega)
  go_wp2_with fail
  have hcH := held_cell
  refine region_below (by kernel_rfl) (by kernel_rfl) ?_
  repeat
    (refine wpQuiet_step (fun K hK => ?_)
     go_simp
     first
       | (refine hK _ ?_; clear hK K)
       | (apply Exists.intro
          refine ⟨fun n => ?_, hK _ ?_⟩
          (first | (go_at_call 16; exact held_calls (right_any _ _ _ _ _ _)) | (go_at_call 17; exact held_calls (refright_any _ _ _ _ _ _)) | (go_at_call 18; exact held_calls (known_any _)))
          clear hK K))
  refine wpQuiet_nil ?_
  intro _ hw2
  clear hcH
  obtain ⟨⟨w7, hb7⟩, rfl⟩ := hw2
  (try dsimp only)
  obtain ⟨hc7, hf7⟩ := bcell hb7
  have hz7 := hb7.size
  (try simp at hz7)
  go_wp2
  go_ret
  exact ⟨rfl, by (repeat' (first | with_reducible exact Below.refl _ _ | with_reducible assumption | with_reducible refine Below.drew ?_ | with_reducible refine below_drewN' ?_ _ | with_reducible refine Below.alloc ?_ ?_ _ | with_reducible refine Below.setCell ?_ ?_ _ | with_reducible refine below_step (by assumption) ?_ ?_ | omega | (simp; done) | (simp; omega)))⟩

set_option maxRecDepth 100000 in
theorem lifted (os : Os) (started : os.Started) (H : Type) (enc : TypeId × Value → H) :
    ReturnsInHanded {} Try.checked os 3 .any (Rows.resSumsSpec.pre6 enc Try.prog Try.f3 Rows.resSumsRow.domain false) (Rows.resSumsSpec.post enc Try.prog Try.f3 false true false false) := by
  refine returnsInHanded_of_change (C := Try.checked) Try.own started (by kernel_rfl) Try.func3
    (ChangeSpec.witness6 (enc := enc) (C := Try.checked) false ⟨#[], #[.agg #[.int .i64 0, .int .i64 0, .int .i64 0, .int .i64 0, .int .i64 0], .agg #[.int .i64 0, .int .i64 0, .int .i64 0, .int .i64 0, .int .i64 0], .int .i64 0], []⟩ 8 (by kernel_rfl) (by kernel_rfl) (by kernel_rfl) (by kernel_rfl)) ?_
  intro W base args ds gs before hval hW _ _
  have hW' := hW
  obtain ⟨p, q, hA, hV, rfl, hfz, hnd⟩ := hW
  rw [Try.params3] at hA hval
  obtain ⟨v0, v1, v2, d0, d1, d2, p0, p1, p2, rfl, rfl, rfl, h0, h1, h2⟩ := trodAll_three hA
  obtain ⟨a0, a1, a2, a3, a4, rfl⟩ := open_res (hval 0 23 v0 rfl rfl) h0
  obtain ⟨b0, b1, b2, b3, b4, rfl⟩ := open_res (hval 1 23 v1 rfl rfl) h1
  obtain ⟨n, rfl, _, _, wn⟩ := open_int Try.underlying3 (hval 2 3 v2 rfl rfl) h2
  refine (walk a0 a1 a2 a3 a4 b0 b1 b2 b3 b4 n W).mono fun e W' ⟨he, hb⟩ => ?_
  exact ⟨_, he, law_post Try.laidOut hW' rfl (by kernel_rfl) (by kernel_rfl) Try.underlying4 rfl rfl rfl hb⟩

theorem over : Rows.resSumsRow.holds Try.pinned (OpenSpec.ofChange Rows.resSumsSpec) :=
  OpenClaim.holds_of_wide 3 Try.f3 rfl rfl rfl rfl rfl rfl rfl ⟨rfl, rfl, rfl, rfl, rfl⟩ rfl rfl rfl rfl rfl (by kernel_rfl) Try.func3 (by kernel_rfl)
    (of_decide_eq_true (by kernel_rfl)) (by unfold Func.isWrapper; first | (rw [if_pos (by decide +kernel)]; kernel_rfl) | (rw [if_neg (by decide +kernel)]; exact ⟨rfl, rfl⟩))
    (fun os started H enc _ => lifted os started H enc)

/-- The statement. -/
theorem proved : Rows.ResSumsSaid := over
end resSums
end Go.Proofs.Ytfaeebbanphbgaa
