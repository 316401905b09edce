/-
  ResAssoc: three amounts have one sum, in whatever order they are added.
  For every three values of api.Res, without a condition.
-/
import Derived.Test.YtfaeebbanphbgaaHeld
import Derived.Test.YtfaeebbanphbgaaResLaw0
import Derived.Test.YtfaeebbanphbgaaRes9
namespace Go.Proofs.Ytfaeebbanphbgaa
open Go.ChangeShapes Go.WideShapes Go.ChangeAt Go.RowKit
namespace resAssoc
theorem add_iff (a0 a1 a2 a3 a4 b0 b1 b2 b3 b4 : Int) : addE a0 a1 a2 a3 a4 b0 b1 b2 b3 b4 = 0 ↔ rtB a0 a1 a2 a3 a4 = true ∧ rtB b0 b1 b2 b3 b4 = true ∧ rtB (a0 + b0) (a1 + b1) (a2 + b2) (a3 + b3) (a4 + b4) = true := by
  unfold addE
  constructor
  · intro h
    split at h
    · rename_i h1
      split at h
      · refine ⟨h1.1, h1.2, (rtB_iff _ _ _ _ _).2 ?_⟩
        have := (rtB_iff _ _ _ _ _).1 h1.1
        have := (rtB_iff _ _ _ _ _).1 h1.2
        omega
      · cases h
    · cases h
  · intro ⟨h1, h2, h3⟩
    rw [if_pos ⟨h1, h2⟩]
    exact if_pos (by have := (rtB_iff _ _ _ _ _).1 h3; omega)
theorem add_comm (a0 a1 a2 a3 a4 b0 b1 b2 b3 b4 : Int) : addE b0 b1 b2 b3 b4 a0 a1 a2 a3 a4 = addE a0 a1 a2 a3 a4 b0 b1 b2 b3 b4 := by
  unfold addE
  simp only [Int.add_comm a0, Int.add_comm a1, Int.add_comm a2, Int.add_comm a3, Int.add_comm a4, and_comm (a := rtB b0 b1 b2 b3 b4 = true)]
theorem add_assoc (a0 a1 a2 a3 a4 b0 b1 b2 b3 b4 c0 c1 c2 c3 c4 : Int) (h1 : addE a0 a1 a2 a3 a4 b0 b1 b2 b3 b4 = 0) (h2 : addE b0 b1 b2 b3 b4 c0 c1 c2 c3 c4 = 0) :
    addE a0 a1 a2 a3 a4 (b0 + c0) (b1 + c1) (b2 + c2) (b3 + c3) (b4 + c4) = addE (a0 + b0) (a1 + b1) (a2 + b2) (a3 + b3) (a4 + b4) c0 c1 c2 c3 c4 := by
  obtain ⟨ha, hb, hab⟩ := (add_iff _ _ _ _ _ _ _ _ _ _).1 h1
  obtain ⟨_, hc, hbc⟩ := (add_iff _ _ _ _ _ _ _ _ _ _).1 h2
  rw [show addE a0 a1 a2 a3 a4 (b0 + c0) (b1 + c1) (b2 + c2) (b3 + c3) (b4 + c4) = _ from if_pos ⟨ha, hbc⟩, show addE (a0 + b0) (a1 + b1) (a2 + b2) (a3 + b3) (a4 + b4) c0 c1 c2 c3 c4 = _ from if_pos ⟨hab, hc⟩]
  simp only [Int.add_assoc]

set_option maxRecDepth 100000 in
set_option maxHeartbeats 2000000 in
theorem walk (a0 a1 a2 a3 a4 b0 b1 b2 b3 b4 c0 c1 c2 c3 c4 : Int) (w : World) :
    Calls Try.prog 8 #[.agg #[.int .i64 a0, .int .i64 a1, .int .i64 a2, .int .i64 a3, .int .i64 a4], .agg #[.int .i64 b0, .int .i64 b1, .int .i64 b2, .int .i64 b3, .int .i64 b4], .agg #[.int .i64 c0, .int .i64 c1, .int .i64 c2, .int .i64 c3, .int .i64 c4]] w fun e w' => e = .returned (.bool true) ∧ Below w.heap.size w w' := by
  have hs0 := sel_0
  have hcm := add_comm a0 a1 a2 a3 a4 b0 b1 b2 b3 b4
  have x0 := Int.add_comm b0 a0
  have x1 := Int.add_comm b1 a1
  have x2 := Int.add_comm b2 a2
  have x3 := Int.add_comm b3 a3
  have x4 := Int.add_comm b4 a4
  have y0 := Int.add_assoc a0 b0 c0
  have y1 := Int.add_assoc a1 b1 c1
  have y2 := Int.add_assoc a2 b2 c2
  have y3 := Int.add_assoc a3 b3 c3
  have y4 := Int.add_assoc a4 b4 c4
  by_cases h1 : addE a0 a1 a2 a3 a4 b0 b1 b2 b3 b4 = 0
  · by_cases h2 : addE b0 b1 b2 b3 b4 c0 c1 c2 c3 c4 = 0
    · have h3 := add_assoc a0 a1 a2 a3 a4 b0 b1 b2 b3 b4 c0 c1 c2 c3 c4 h1 h2
      go_enter Try.func8, Try.ntmps8
      go_wp2_with fail
      (go_at_call 10; refine (add_any _ _ _ _ _ _ _ _ _ _ _).mono ?_; rintro e w1 ⟨rfl, hb1⟩)
      obtain ⟨hc1, hf1⟩ := bcell hb1
      have hz1 := hb1.size
      (try simp at hz1)
      have z1_0 : w.heap.size < w1.heap.size := (by omega); have y1_0 : w.heap.size ≤ w1.heap.size := (by omega); have z1_1 : w.heap.size + 1 < w1.heap.size := (by omega); have y1_1 : w.heap.size + 1 ≤ w1.heap.size := (by omega); have z1_2 : w.heap.size + 1 + 1 < w1.heap.size := (by omega); have y1_2 : w.heap.size + 1 + 1 ≤ w1.heap.size := (by omega)
      go_wp2_with fail
      (go_at_call 10; refine (add_any _ _ _ _ _ _ _ _ _ _ _).mono ?_; rintro e w2 ⟨rfl, hb2⟩)
      obtain ⟨hc2, hf2⟩ := bcell hb2
      have hz2 := hb2.size
      (try simp at hz2)
      have z2_0 : w.heap.size < w2.heap.size := (by omega); have y2_0 : w.heap.size ≤ w2.heap.size := (by omega); have z2_1 : w.heap.size + 1 < w2.heap.size := (by omega); have y2_1 : w.heap.size + 1 ≤ w2.heap.size := (by omega); have z2_2 : w.heap.size + 1 + 1 < w2.heap.size := (by omega); have y2_2 : w.heap.size + 1 + 1 ≤ w2.heap.size := (by omega); have z2_3 : w1.heap.size < w2.heap.size := (by omega); have y2_3 : w1.heap.size ≤ w2.heap.size := (by omega)
      go_wp2_with fail
      (go_at_call 10; refine (add_any _ _ _ _ _ _ _ _ _ _ _).mono ?_; rintro e w3 ⟨rfl, hb3⟩)
      obtain ⟨hc3, hf3⟩ := bcell hb3
      have hz3 := hb3.size
      (try simp at hz3)
      have z3_0 : w.heap.size < w3.heap.size := (by omega); have y3_0 : w.heap.size ≤ w3.heap.size := (by omega); have z3_1 : w.heap.size + 1 < w3.heap.size := (by omega); have y3_1 : w.heap.size + 1 ≤ w3.heap.size := (by omega); have z3_2 : w.heap.size + 1 + 1 < w3.heap.size := (by omega); have y3_2 : w.heap.size + 1 + 1 ≤ w3.heap.size := (by omega); have z3_3 : w1.heap.size < w3.heap.size := (by omega); have y3_3 : w1.heap.size ≤ w3.heap.size := (by omega); have z3_4 : w2.heap.size < w3.heap.size := (by omega); have y3_4 : w2.heap.size ≤ w3.heap.size := (by omega)
      go_wp2_with fail
      (go_at_call 10; refine (add_any _ _ _ _ _ _ _ _ _ _ _).mono ?_; rintro e w4 ⟨rfl, hb4⟩)
      obtain ⟨hc4, hf4⟩ := bcell hb4
      have hz4 := hb4.size
      (try simp at hz4)
      have z4_0 : w.heap.size < w4.heap.size := (by omega); have y4_0 : w.heap.size ≤ w4.heap.size := (by omega); have z4_1 : w.heap.size + 1 < w4.heap.size := (by omega); have y4_1 : w.heap.size + 1 ≤ w4.heap.size := (by omega); have z4_2 : w.heap.size + 1 + 1 < w4.heap.size := (by omega); have y4_2 : w.heap.size + 1 + 1 ≤ w4.heap.size := (by omega); have z4_3 : w1.heap.size < w4.heap.size := (by omega); have y4_3 : w1.heap.size ≤ w4.heap.size := (by omega); have z4_4 : w2.heap.size < w4.heap.size := (by omega); have y4_4 : w2.heap.size ≤ w4.heap.size := (by omega)
      go_wp2_with fail
      (go_at_call 10; refine (add_any _ _ _ _ _ _ _ _ _ _ _).mono ?_; rintro e w5 ⟨rfl, hb5⟩)
      obtain ⟨hc5, hf5⟩ := bcell hb5
      have hz5 := hb5.size
      (try simp at hz5)
      have z5_0 : w.heap.size < w5.heap.size := (by omega); have y5_0 : w.heap.size ≤ w5.heap.size := (by omega); have z5_1 : w.heap.size + 1 < w5.heap.size := (by omega); have y5_1 : w.heap.size + 1 ≤ w5.heap.size := (by omega); have z5_2 : w.heap.size + 1 + 1 < w5.heap.size := (by omega); have y5_2 : w.heap.size + 1 + 1 ≤ w5.heap.size := (by omega); have z5_3 : w4.heap.size < w5.heap.size := (by omega); have y5_3 : w4.heap.size ≤ w5.heap.size := (by omega)
      go_wp2_with fail
      (go_at_call 18; refine (known_any _).mono ?_; rintro e w6 ⟨rfl, hb6⟩)
      obtain ⟨hc6, hf6⟩ := bcell hb6
      have hz6 := hb6.size
      (try simp at hz6)
      go_wp2
      go_ret
      exact ⟨rfl, by (repeat' (first | with_reducible exact Below.refl _ _ | with_reducible assumption | with_reducible refine Below.drew ?_ | with_reducible refine below_drewN' ?_ _ | with_reducible refine Below.alloc ?_ ?_ _ | with_reducible refine Below.setCell ?_ ?_ _ | with_reducible refine below_step (by assumption) ?_ ?_ | omega | (simp; done) | (simp; omega)))⟩
    · have h2' : (addE b0 b1 b2 b3 b4 c0 c1 c2 c3 c4 != 0) = true := bne_iff_ne.2 h2
      clear h2
      go_enter Try.func8, Try.ntmps8
      go_wp2_with fail
      (go_at_call 10; refine (add_any _ _ _ _ _ _ _ _ _ _ _).mono ?_; rintro e w1 ⟨rfl, hb1⟩)
      obtain ⟨hc1, hf1⟩ := bcell hb1
      have hz1 := hb1.size
      (try simp at hz1)
      have z1_0 : w.heap.size < w1.heap.size := (by omega); have y1_0 : w.heap.size ≤ w1.heap.size := (by omega); have z1_1 : w.heap.size + 1 < w1.heap.size := (by omega); have y1_1 : w.heap.size + 1 ≤ w1.heap.size := (by omega); have z1_2 : w.heap.size + 1 + 1 < w1.heap.size := (by omega); have y1_2 : w.heap.size + 1 + 1 ≤ w1.heap.size := (by omega)
      go_wp2_with fail
      (go_at_call 10; refine (add_any _ _ _ _ _ _ _ _ _ _ _).mono ?_; rintro e w2 ⟨rfl, hb2⟩)
      obtain ⟨hc2, hf2⟩ := bcell hb2
      have hz2 := hb2.size
      (try simp at hz2)
      have z2_0 : w.heap.size < w2.heap.size := (by omega); have y2_0 : w.heap.size ≤ w2.heap.size := (by omega); have z2_1 : w.heap.size + 1 < w2.heap.size := (by omega); have y2_1 : w.heap.size + 1 ≤ w2.heap.size := (by omega); have z2_2 : w.heap.size + 1 + 1 < w2.heap.size := (by omega); have y2_2 : w.heap.size + 1 + 1 ≤ w2.heap.size := (by omega); have z2_3 : w1.heap.size < w2.heap.size := (by omega); have y2_3 : w1.heap.size ≤ w2.heap.size := (by omega)
      go_wp2_with fail
      (go_at_call 10; refine (add_any _ _ _ _ _ _ _ _ _ _ _).mono ?_; rintro e w3 ⟨rfl, hb3⟩)
      obtain ⟨hc3, hf3⟩ := bcell hb3
      have hz3 := hb3.size
      (try simp at hz3)
      have z3_0 : w.heap.size < w3.heap.size := (by omega); have y3_0 : w.heap.size ≤ w3.heap.size := (by omega); have z3_1 : w.heap.size + 1 < w3.heap.size := (by omega); have y3_1 : w.heap.size + 1 ≤ w3.heap.size := (by omega); have z3_2 : w.heap.size + 1 + 1 < w3.heap.size := (by omega); have y3_2 : w.heap.size + 1 + 1 ≤ w3.heap.size := (by omega); have z3_3 : w1.heap.size < w3.heap.size := (by omega); have y3_3 : w1.heap.size ≤ w3.heap.size := (by omega); have z3_4 : w2.heap.size < w3.heap.size := (by omega); have y3_4 : w2.heap.size ≤ w3.heap.size := (by omega)
      go_wp2_with fail
      (go_at_call 18; refine (known_any _).mono ?_; rintro e w6 ⟨rfl, hb6⟩)
      obtain ⟨hc6, hf6⟩ := bcell hb6
      have hz6 := hb6.size
      (try simp at hz6)
      go_wp2
      go_ret
      exact ⟨rfl, by (repeat' (first | with_reducible exact Below.refl _ _ | with_reducible assumption | with_reducible refine Below.drew ?_ | with_reducible refine below_drewN' ?_ _ | with_reducible refine Below.alloc ?_ ?_ _ | with_reducible refine Below.setCell ?_ ?_ _ | with_reducible refine below_step (by assumption) ?_ ?_ | omega | (simp; done) | (simp; omega)))⟩
  · have h1' : (addE a0 a1 a2 a3 a4 b0 b1 b2 b3 b4 != 0) = true := bne_iff_ne.2 h1
    clear h1
    go_enter Try.func8, Try.ntmps8
    go_wp2_with fail
    (go_at_call 10; refine (add_any _ _ _ _ _ _ _ _ _ _ _).mono ?_; rintro e w1 ⟨rfl, hb1⟩)
    obtain ⟨hc1, hf1⟩ := bcell hb1
    have hz1 := hb1.size
    (try simp at hz1)
    have z1_0 : w.heap.size < w1.heap.size := (by omega); have y1_0 : w.heap.size ≤ w1.heap.size := (by omega); have z1_1 : w.heap.size + 1 < w1.heap.size := (by omega); have y1_1 : w.heap.size + 1 ≤ w1.heap.size := (by omega); have z1_2 : w.heap.size + 1 + 1 < w1.heap.size := (by omega); have y1_2 : w.heap.size + 1 + 1 ≤ w1.heap.size := (by omega)
    go_wp2_with fail
    (go_at_call 10; refine (add_any _ _ _ _ _ _ _ _ _ _ _).mono ?_; rintro e w2 ⟨rfl, hb2⟩)
    obtain ⟨hc2, hf2⟩ := bcell hb2
    have hz2 := hb2.size
    (try simp at hz2)
    have z2_0 : w.heap.size < w2.heap.size := (by omega); have y2_0 : w.heap.size ≤ w2.heap.size := (by omega); have z2_1 : w.heap.size + 1 < w2.heap.size := (by omega); have y2_1 : w.heap.size + 1 ≤ w2.heap.size := (by omega); have z2_2 : w.heap.size + 1 + 1 < w2.heap.size := (by omega); have y2_2 : w.heap.size + 1 + 1 ≤ w2.heap.size := (by omega); have z2_3 : w1.heap.size < w2.heap.size := (by omega); have y2_3 : w1.heap.size ≤ w2.heap.size := (by omega)
    go_wp2_with fail
    (go_at_call 10; refine (add_any _ _ _ _ _ _ _ _ _ _ _).mono ?_; rintro e w3 ⟨rfl, hb3⟩)
    obtain ⟨hc3, hf3⟩ := bcell hb3
    have hz3 := hb3.size
    (try simp at hz3)
    have z3_0 : w.heap.size < w3.heap.size := (by omega); have y3_0 : w.heap.size ≤ w3.heap.size := (by omega); have z3_1 : w.heap.size + 1 < w3.heap.size := (by omega); have y3_1 : w.heap.size + 1 ≤ w3.heap.size := (by omega); have z3_2 : w.heap.size + 1 + 1 < w3.heap.size := (by omega); have y3_2 : w.heap.size + 1 + 1 ≤ w3.heap.size := (by omega); have z3_3 : w1.heap.size < w3.heap.size := (by omega); have y3_3 : w1.heap.size ≤ w3.heap.size := (by omega); have z3_4 : w2.heap.size < w3.heap.size := (by omega); have y3_4 : w2.heap.size ≤ w3.heap.size := (by omega)
    go_wp2_with fail
    (go_at_call 18; refine (known_any _).mono ?_; rintro e w6 ⟨rfl, hb6⟩)
    obtain ⟨hc6, hf6⟩ := bcell hb6
    have hz6 := hb6.size
    (try simp at hz6)
    go_wp2
    go_ret
    exact ⟨rfl, by (repeat' (first | with_reducible exact Below.refl _ _ | with_reducible assumption | with_reducible refine Below.drew ?_ | with_reducible refine below_drewN' ?_ _ | with_reducible refine Below.alloc ?_ ?_ _ | with_reducible refine Below.setCell ?_ ?_ _ | with_reducible refine below_step (by assumption) ?_ ?_ | omega | (simp; done) | (simp; omega)))⟩

set_option maxRecDepth 100000 in
theorem lifted (os : Os) (started : os.Started) (H : Type) (enc : TypeId × Value → H) :
    ReturnsInHanded {} Try.checked os 8 .any (Rows.resAssocSpec.pre6 enc Try.prog Try.f8 Rows.resAssocRow.domain false) (Rows.resAssocSpec.post enc Try.prog Try.f8 false true false false) := by
  refine returnsInHanded_of_change (C := Try.checked) Try.own started (by kernel_rfl) Try.func8
    (ChangeSpec.witness6 (enc := enc) (C := Try.checked) false ⟨#[], #[.agg #[.int .i64 0, .int .i64 0, .int .i64 0, .int .i64 0, .int .i64 0], .agg #[.int .i64 0, .int .i64 0, .int .i64 0, .int .i64 0, .int .i64 0], .agg #[.int .i64 0, .int .i64 0, .int .i64 0, .int .i64 0, .int .i64 0]], []⟩ 8 (by kernel_rfl) (by kernel_rfl) (by kernel_rfl) (by kernel_rfl)) ?_
  intro W base args ds gs before hval hW _ _
  have hW' := hW
  obtain ⟨p, q, hA, hV, rfl, hfz, hnd⟩ := hW
  rw [Try.params8] at hA hval
  obtain ⟨v0, v1, v2, d0, d1, d2, p0, p1, p2, rfl, rfl, rfl, h0, h1, h2⟩ := trodAll_three hA
  obtain ⟨a0, a1, a2, a3, a4, rfl⟩ := open_res (hval 0 23 v0 rfl rfl) h0
  obtain ⟨b0, b1, b2, b3, b4, rfl⟩ := open_res (hval 1 23 v1 rfl rfl) h1
  obtain ⟨c0, c1, c2, c3, c4, rfl⟩ := open_res (hval 2 23 v2 rfl rfl) h2
  refine (walk a0 a1 a2 a3 a4 b0 b1 b2 b3 b4 c0 c1 c2 c3 c4 W).mono fun e W' ⟨he, hb⟩ => ?_
  exact ⟨_, he, law_post Try.laidOut hW' rfl (by kernel_rfl) (by kernel_rfl) Try.underlying4 rfl rfl rfl hb⟩

theorem over : Rows.resAssocRow.holds Try.pinned (OpenSpec.ofChange Rows.resAssocSpec) :=
  OpenClaim.holds_of_wide 8 Try.f8 rfl rfl rfl rfl rfl rfl rfl ⟨rfl, rfl, rfl, rfl, rfl⟩ rfl rfl rfl rfl rfl (by kernel_rfl) Try.func8 (by kernel_rfl)
    (of_decide_eq_true (by kernel_rfl)) (by unfold Func.isWrapper; first | (rw [if_pos (by decide +kernel)]; kernel_rfl) | (rw [if_neg (by decide +kernel)]; exact ⟨rfl, rfl⟩))
    (fun os started H enc _ => lifted os started H enc)

/-- The statement. -/
theorem proved : Rows.ResAssocSaid := over
end resAssoc
end Go.Proofs.Ytfaeebbanphbgaa
