/-
  ResFits: whether resources are there, the lesser ones, how many times, and how much of them is asked, is as the document says.
  For every two values of api.Res, without a condition.
-/
import Derived.Test.YtfaeebbanphbgaaHeld
import Derived.Test.YtfaeebbanphbgaaResLaw0
import Derived.Test.YtfaeebbanphbgaaRes9
namespace Go.Proofs.Ytfaeebbanphbgaa
open Go.ChangeShapes Go.WideShapes Go.ChangeAt Go.RowKit
namespace resFits

theorem fits_les (a0 a1 a2 a3 a4 b0 b1 b2 b3 b4 : Int) : fitsB a0 a1 a2 a3 a4 b0 b1 b2 b3 b4 = lesB a0 a1 a2 a3 a4 b0 b1 b2 b3 b4 := by
  rw [Bool.eq_iff_iff, lesB_iff]
  simp only [fitsB, decide_eq_true_eq]
  unfold subE
  split
  · rename_i h1
    split
    · rename_i h2; exact ⟨fun _ => ⟨h1.2, h1.1, h2⟩, fun _ => rfl⟩
    · rename_i h2; exact ⟨(fun h => nomatch h), fun h => (h2 h.2.2).elim⟩
  · rename_i h1; exact ⟨(fun h => nomatch h), fun h => (h1 ⟨h.2.1, h.1⟩).elim⟩

set_option maxRecDepth 100000 in
set_option maxHeartbeats 2000000 in
theorem walk (a0 a1 a2 a3 a4 b0 b1 b2 b3 b4 : Int) (w : World) :
    Calls Try.prog 4 #[.agg #[.int .i64 a0, .int .i64 a1, .int .i64 a2, .int .i64 a3, .int .i64 a4], .agg #[.int .i64 b0, .int .i64 b1, .int .i64 b2, .int .i64 b3, .int .i64 b4]] w fun e w' => e = .returned (.bool true) ∧ Below w.heap.size w w' := by
  have hfl := fits_les
  go_enter Try.func4, Try.ntmps4
  go_wp2_with fail
  have hcH := held_cell
  refine region_below (by kernel_rfl) (by kernel_rfl) ?_
  repeat
    (refine wpQuiet_step (fun K hK => ?_)
     go_simp
     first
       | (refine hK _ ?_; clear hK K)
       | (apply Exists.intro
          refine ⟨fun n => ?_, hK _ ?_⟩
          (first | (go_at_call 19; exact held_calls (fits_any _ _ _ _ _ _ _ _ _ _ _)) | (go_at_call 20; exact held_calls (reffits_any _ _ _ _ _ _ _ _ _ _ _)) | (go_at_call 21; exact held_calls (least_any _ _ _ _ _ _ _ _ _ _ _)) | (go_at_call 22; exact held_calls (refleast_any _ _ _ _ _ _ _ _ _ _ _)) | (go_at_call 23; exact held_calls (how_any _ _ _ _ _ _ _ _ _ _ _)) | (go_at_call 24; exact held_calls (refhow_any _ _ _ _ _ _ _ _ _ _ _)) | (go_at_call 25; exact held_calls (share_any _ _ _ _ _ _ _ _ _ _ _)) | (go_at_call 26; exact held_calls (refshare_any _ _ _ _ _ _ _ _ _ _ _)) | (go_at_call 18; exact held_calls (known_any _)))
          clear hK K))
  refine wpQuiet_nil ?_
  intro _ hw2
  clear hcH
  obtain ⟨⟨w1, hb1⟩, rfl⟩ := hw2
  (try dsimp only)
  obtain ⟨hc1, hf1⟩ := bcell hb1
  have hz1 := hb1.size
  (try simp at hz1)
  go_wp2
  go_ret
  exact ⟨rfl, by (repeat' (first | with_reducible exact Below.refl _ _ | with_reducible assumption | with_reducible refine Below.drew ?_ | with_reducible refine below_drewN' ?_ _ | with_reducible refine Below.alloc ?_ ?_ _ | with_reducible refine Below.setCell ?_ ?_ _ | with_reducible refine below_step (by assumption) ?_ ?_ | omega | (simp; done) | (simp; omega)))⟩

set_option maxRecDepth 100000 in
theorem lifted (os : Os) (started : os.Started) (H : Type) (enc : TypeId × Value → H) :
    ReturnsInHanded {} Try.checked os 4 .any (Rows.resFitsSpec.pre6 enc Try.prog Try.f4 Rows.resFitsRow.domain false) (Rows.resFitsSpec.post enc Try.prog Try.f4 false true false false) := by
  refine returnsInHanded_of_change (C := Try.checked) Try.own started (by kernel_rfl) Try.func4
    (ChangeSpec.witness6 (enc := enc) (C := Try.checked) false ⟨#[], #[.agg #[.int .i64 0, .int .i64 0, .int .i64 0, .int .i64 0, .int .i64 0], .agg #[.int .i64 0, .int .i64 0, .int .i64 0, .int .i64 0, .int .i64 0]], []⟩ 8 (by kernel_rfl) (by kernel_rfl) (by kernel_rfl) (by kernel_rfl)) ?_
  intro W base args ds gs before hval hW _ _
  have hW' := hW
  obtain ⟨p, q, hA, hV, rfl, hfz, hnd⟩ := hW
  rw [Try.params4] at hA hval
  obtain ⟨v0, v1, d0, d1, p0, p1, hargs, rfl, rfl, h0, h1⟩ := trodAll_two hA
  obtain rfl : args = #[v0, v1] := by cases args; simp_all
  obtain ⟨a0, a1, a2, a3, a4, rfl⟩ := open_res (hval 0 23 v0 rfl rfl) h0
  obtain ⟨b0, b1, b2, b3, b4, rfl⟩ := open_res (hval 1 23 v1 rfl rfl) h1
  refine (walk a0 a1 a2 a3 a4 b0 b1 b2 b3 b4 W).mono fun e W' ⟨he, hb⟩ => ?_
  exact ⟨_, he, law_post Try.laidOut hW' rfl (by kernel_rfl) (by kernel_rfl) Try.underlying4 rfl rfl rfl hb⟩

theorem over : Rows.resFitsRow.holds Try.pinned (OpenSpec.ofChange Rows.resFitsSpec) :=
  OpenClaim.holds_of_wide 4 Try.f4 rfl rfl rfl rfl rfl rfl rfl ⟨rfl, rfl, rfl, rfl, rfl⟩ rfl rfl rfl rfl rfl (by kernel_rfl) Try.func4 (by kernel_rfl)
    (of_decide_eq_true (by kernel_rfl)) (by unfold Func.isWrapper; first | (rw [if_pos (by decide +kernel)]; kernel_rfl) | (rw [if_neg (by decide +kernel)]; exact ⟨rfl, rfl⟩))
    (fun os started H enc _ => lifted os started H enc)

/-- The statement. -/
theorem proved : Rows.ResFitsSaid := over
end resFits
end Go.Proofs.Ytfaeebbanphbgaa
