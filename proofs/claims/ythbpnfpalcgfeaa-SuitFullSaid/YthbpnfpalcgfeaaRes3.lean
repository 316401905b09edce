/-
  The contracts of res.Sub and res.Fits.
-/
import Derived.Test.YthbpnfpalcgfeaaRes2
namespace Go.Proofs.Ythbpnfpalcgfeaa
namespace Rs
set_option linter.unusedVariables false
set_option linter.unusedSimpArgs false
open Go.RowKit

set_option maxHeartbeats 1000000 in
theorem sub_no (a0 a1 a2 a3 a4 b0 b1 b2 b3 b4 : Int) (w : World) (h : rtB a0 a1 a2 a3 a4 = false ∨ rtB b0 b1 b2 b3 b4 = false) :
    Calls Try.prog 54 #[.agg #[.int .i64 a0, .int .i64 a1, .int .i64 a2, .int .i64 a3, .int .i64 a4], .agg #[.int .i64 b0, .int .i64 b1, .int .i64 b2, .int .i64 b3, .int .i64 b4]] w fun e w' => e = .returned (.tuple #[.agg #[.int .i64 0, .int .i64 0, .int .i64 0, .int .i64 0, .int .i64 0], .int .i64 1]) ∧ Below w.heap.size w w' := by
  cases ha : rtB a0 a1 a2 a3 a4
  · clear h
    go_enter Try.func54, Try.ntmps54
    go_wp2_with (go_at_call 52; refine (right_any _ _ _ _ _ _).mono ?_; rintro e w1 ⟨rfl, hb1⟩; obtain ⟨hc1, hf1⟩ := bcell hb1; have hz1 := hb1.size; (try simp at hz1); (try have hza : w.heap.size < w1.heap.size := by omega); (try have hzb : w.heap.size + 1 < w1.heap.size := by omega); (try have hzc : w.heap.size + 1 + 1 < w1.heap.size := by omega); (try have hzd : w.heap.size + 1 + 1 + 1 < w1.heap.size := by omega))
    refine bodyPost_ret (v := .tuple #[.agg #[.int .i64 0, .int .i64 0, .int .i64 0, .int .i64 0, .int .i64 0], .int .i64 1]) (by simp [results, Try.results54, go_sem, *]) rfl ⟨rfl, ?_⟩; (repeat' (first | with_reducible exact Below.refl _ _ | with_reducible assumption | with_reducible refine Below.drew ?_ | with_reducible refine below_drewN' ?_ _ | with_reducible refine Below.alloc ?_ ?_ _ | with_reducible refine Below.setCell ?_ ?_ _ | with_reducible refine below_step (by assumption) ?_ ?_ | omega | (simp; done) | (simp; omega)))
  · have hb : rtB b0 b1 b2 b3 b4 = false := by simpa [ha] using h
    clear h
    go_enter Try.func54, Try.ntmps54
    go_wp2_with (go_at_call 52; refine (right_any _ _ _ _ _ _).mono ?_; rintro e w1 ⟨rfl, hb1⟩; obtain ⟨hc1, hf1⟩ := bcell hb1; have hz1 := hb1.size; (try simp at hz1); (try have hza : w.heap.size < w1.heap.size := by omega); (try have hzb : w.heap.size + 1 < w1.heap.size := by omega); (try have hzc : w.heap.size + 1 + 1 < w1.heap.size := by omega); (try have hzd : w.heap.size + 1 + 1 + 1 < w1.heap.size := by omega))
    refine bodyPost_ret (v := .tuple #[.agg #[.int .i64 0, .int .i64 0, .int .i64 0, .int .i64 0, .int .i64 0], .int .i64 1]) (by simp [results, Try.results54, go_sem, *]) rfl ⟨rfl, ?_⟩; (repeat' (first | with_reducible exact Below.refl _ _ | with_reducible assumption | with_reducible refine Below.drew ?_ | with_reducible refine below_drewN' ?_ _ | with_reducible refine Below.alloc ?_ ?_ _ | with_reducible refine Below.setCell ?_ ?_ _ | with_reducible refine below_step (by assumption) ?_ ?_ | omega | (simp; done) | (simp; omega)))

set_option maxHeartbeats 1000000 in
theorem sub_yes (a0 a1 a2 a3 a4 b0 b1 b2 b3 b4 : Int) (w : World) (ha : rtB a0 a1 a2 a3 a4 = true) (hb : rtB b0 b1 b2 b3 b4 = true) :
    Calls Try.prog 54 #[.agg #[.int .i64 a0, .int .i64 a1, .int .i64 a2, .int .i64 a3, .int .i64 a4], .agg #[.int .i64 b0, .int .i64 b1, .int .i64 b2, .int .i64 b3, .int .i64 b4]] w fun e w' => e = .returned (.tuple #[.agg #[.int .i64 (sel (subE a0 a1 a2 a3 a4 b0 b1 b2 b3 b4) (a0 - b0)), .int .i64 (sel (subE a0 a1 a2 a3 a4 b0 b1 b2 b3 b4) (a1 - b1)), .int .i64 (sel (subE a0 a1 a2 a3 a4 b0 b1 b2 b3 b4) (a2 - b2)), .int .i64 (sel (subE a0 a1 a2 a3 a4 b0 b1 b2 b3 b4) (a3 - b3)), .int .i64 (sel (subE a0 a1 a2 a3 a4 b0 b1 b2 b3 b4) (a4 - b4))], .int .i64 (subE a0 a1 a2 a3 a4 b0 b1 b2 b3 b4)]) ∧ Below w.heap.size w w' := by
  have He := Lib.hid (show subE a0 a1 a2 a3 a4 b0 b1 b2 b3 b4 = _ from if_pos ⟨ha, hb⟩)
  obtain ⟨⟨al0, au0⟩, ⟨al1, au1⟩, ⟨al2, au2⟩, ⟨al3, au3⟩, ⟨al4, au4⟩⟩ := (rtB_iff _ _ _ _ _).1 ha
  obtain ⟨⟨bl0, bu0⟩, ⟨bl1, bu1⟩, ⟨bl2, bu2⟩, ⟨bl3, bu3⟩, ⟨bl4, bu4⟩⟩ := (rtB_iff _ _ _ _ _).1 hb
  have i0 : ∀ w : World, (Instr.index 99 (.agg #[.int .i64 b0, .int .i64 b1, .int .i64 b2, .int .i64 b3, .int .i64 b4]) (.int .i64 0)).run Try.prog w = .ok (.int .i64 b0) w := fun _ => by kernel_rfl
  have i1 : ∀ w : World, (Instr.index 99 (.agg #[.int .i64 b0, .int .i64 b1, .int .i64 b2, .int .i64 b3, .int .i64 b4]) (.int .i64 1)).run Try.prog w = .ok (.int .i64 b1) w := fun _ => by kernel_rfl
  have i2 : ∀ w : World, (Instr.index 99 (.agg #[.int .i64 b0, .int .i64 b1, .int .i64 b2, .int .i64 b3, .int .i64 b4]) (.int .i64 2)).run Try.prog w = .ok (.int .i64 b2) w := fun _ => by kernel_rfl
  have i3 : ∀ w : World, (Instr.index 99 (.agg #[.int .i64 b0, .int .i64 b1, .int .i64 b2, .int .i64 b3, .int .i64 b4]) (.int .i64 3)).run Try.prog w = .ok (.int .i64 b3) w := fun _ => by kernel_rfl
  have i4 : ∀ w : World, (Instr.index 99 (.agg #[.int .i64 b0, .int .i64 b1, .int .i64 b2, .int .i64 b3, .int .i64 b4]) (.int .i64 4)).run Try.prog w = .ok (.int .i64 b4) w := fun _ => by kernel_rfl
  go_enter Try.func54, Try.ntmps54
  go_wp2_with (first | (go_at_call 52; refine (right_any _ _ _ _ _ _).mono ?_; rintro e w1 ⟨rfl, hb1⟩; obtain ⟨hc1, hf1⟩ := bcell hb1; have hz1 := hb1.size; (try simp at hz1); (try have hza : w.heap.size < w1.heap.size := by omega); (try have hzb : w.heap.size + 1 < w1.heap.size := by omega); (try have hzc : w.heap.size + 1 + 1 < w1.heap.size := by omega); (try have hzd : w.heap.size + 1 + 1 + 1 < w1.heap.size := by omega)) | (go_at_call 83; refine (parts_any _ _ _ _ _ _).mono ?_; rintro e w1 ⟨rfl, hb1⟩; obtain ⟨hc1, hf1⟩ := bcell hb1; have hz1 := hb1.size; (try simp at hz1); (try have hza : w.heap.size < w1.heap.size := by omega); (try have hzb : w.heap.size + 1 < w1.heap.size := by omega); (try have hzc : w.heap.size + 1 + 1 < w1.heap.size := by omega); (try have hzd : w.heap.size + 1 + 1 + 1 < w1.heap.size := by omega)))
  refine wp_loop_rounds 6 ?_
  iterate 6
    all_goals (try rw [rounds_succ])
    all_goals (try go_wp2_with (go_at_call 84; refine (whole_any _ _ _ _ _ _).mono ?_; rintro e w1 ⟨rfl, hb1⟩; obtain ⟨hc1, hf1⟩ := bcell hb1; have hz1 := hb1.size; (try simp at hz1); (try have hza : w.heap.size < w1.heap.size := by omega); (try have hzb : w.heap.size + 1 < w1.heap.size := by omega); (try have hzc : w.heap.size + 1 + 1 < w1.heap.size := by omega); (try have hzd : w.heap.size + 1 + 1 + 1 < w1.heap.size := by omega)))
  all_goals first
    | (have he : subE a0 a1 a2 a3 a4 b0 b1 b2 b3 b4 = 0 := He.out.trans (if_pos (by omega)); refine bodyPost_ret (v := .tuple #[.agg #[.int .i64 (sel (subE a0 a1 a2 a3 a4 b0 b1 b2 b3 b4) (a0 - b0)), .int .i64 (sel (subE a0 a1 a2 a3 a4 b0 b1 b2 b3 b4) (a1 - b1)), .int .i64 (sel (subE a0 a1 a2 a3 a4 b0 b1 b2 b3 b4) (a2 - b2)), .int .i64 (sel (subE a0 a1 a2 a3 a4 b0 b1 b2 b3 b4) (a3 - b3)), .int .i64 (sel (subE a0 a1 a2 a3 a4 b0 b1 b2 b3 b4) (a4 - b4))], .int .i64 (subE a0 a1 a2 a3 a4 b0 b1 b2 b3 b4)]) (by simp [results, Try.results54, go_sem, *, sel]) rfl ⟨rfl, ?_⟩; (repeat' (first | with_reducible exact Below.refl _ _ | with_reducible assumption | with_reducible refine Below.drew ?_ | with_reducible refine below_drewN' ?_ _ | with_reducible refine Below.alloc ?_ ?_ _ | with_reducible refine Below.setCell ?_ ?_ _ | with_reducible refine below_step (by assumption) ?_ ?_ | omega | (simp; done) | (simp; omega))))
    | (have he : subE a0 a1 a2 a3 a4 b0 b1 b2 b3 b4 = 11 := He.out.trans (if_neg (by omega)); refine bodyPost_ret (v := .tuple #[.agg #[.int .i64 (sel (subE a0 a1 a2 a3 a4 b0 b1 b2 b3 b4) (a0 - b0)), .int .i64 (sel (subE a0 a1 a2 a3 a4 b0 b1 b2 b3 b4) (a1 - b1)), .int .i64 (sel (subE a0 a1 a2 a3 a4 b0 b1 b2 b3 b4) (a2 - b2)), .int .i64 (sel (subE a0 a1 a2 a3 a4 b0 b1 b2 b3 b4) (a3 - b3)), .int .i64 (sel (subE a0 a1 a2 a3 a4 b0 b1 b2 b3 b4) (a4 - b4))], .int .i64 (subE a0 a1 a2 a3 a4 b0 b1 b2 b3 b4)]) (by simp [results, Try.results54, go_sem, *, sel]) rfl ⟨rfl, ?_⟩; (repeat' (first | with_reducible exact Below.refl _ _ | with_reducible assumption | with_reducible refine Below.drew ?_ | with_reducible refine below_drewN' ?_ _ | with_reducible refine Below.alloc ?_ ?_ _ | with_reducible refine Below.setCell ?_ ?_ _ | with_reducible refine below_step (by assumption) ?_ ?_ | omega | (simp; done) | (simp; omega))))

theorem sub_any (a0 a1 a2 a3 a4 b0 b1 b2 b3 b4 : Int) (w : World) :
    Calls Try.prog 54 #[.agg #[.int .i64 a0, .int .i64 a1, .int .i64 a2, .int .i64 a3, .int .i64 a4], .agg #[.int .i64 b0, .int .i64 b1, .int .i64 b2, .int .i64 b3, .int .i64 b4]] w fun e w' => e = .returned (.tuple #[.agg #[.int .i64 (sel (subE a0 a1 a2 a3 a4 b0 b1 b2 b3 b4) (a0 - b0)), .int .i64 (sel (subE a0 a1 a2 a3 a4 b0 b1 b2 b3 b4) (a1 - b1)), .int .i64 (sel (subE a0 a1 a2 a3 a4 b0 b1 b2 b3 b4) (a2 - b2)), .int .i64 (sel (subE a0 a1 a2 a3 a4 b0 b1 b2 b3 b4) (a3 - b3)), .int .i64 (sel (subE a0 a1 a2 a3 a4 b0 b1 b2 b3 b4) (a4 - b4))], .int .i64 (subE a0 a1 a2 a3 a4 b0 b1 b2 b3 b4)]) ∧ Below w.heap.size w w' := by
  cases ha : rtB a0 a1 a2 a3 a4
  · have he : subE a0 a1 a2 a3 a4 b0 b1 b2 b3 b4 = 1 := by simp [subE, ha]
    rw [he]; exact sub_no a0 a1 a2 a3 a4 b0 b1 b2 b3 b4 w (Or.inl ha)
  cases hb : rtB b0 b1 b2 b3 b4
  · have he : subE a0 a1 a2 a3 a4 b0 b1 b2 b3 b4 = 1 := by simp [subE, hb]
    rw [he]; exact sub_no a0 a1 a2 a3 a4 b0 b1 b2 b3 b4 w (Or.inr hb)
  · exact sub_yes a0 a1 a2 a3 a4 b0 b1 b2 b3 b4 w ha hb

def fitsB (a0 a1 a2 a3 a4 b0 b1 b2 b3 b4 : Int) : Bool := decide (subE b0 b1 b2 b3 b4 a0 a1 a2 a3 a4 = 0)

set_option maxHeartbeats 400000 in
theorem fits_any (a0 a1 a2 a3 a4 b0 b1 b2 b3 b4 : Int) (w : World) :
    Calls Try.prog 72 #[.agg #[.int .i64 a0, .int .i64 a1, .int .i64 a2, .int .i64 a3, .int .i64 a4], .agg #[.int .i64 b0, .int .i64 b1, .int .i64 b2, .int .i64 b3, .int .i64 b4]] w fun e w' => e = .returned (.bool (fitsB a0 a1 a2 a3 a4 b0 b1 b2 b3 b4)) ∧ Below w.heap.size w w' := by
  go_enter Try.func72, Try.ntmps72
  go_wp2_with (go_at_call 54; refine (sub_any _ _ _ _ _ _ _ _ _ _ _).mono ?_; rintro e w1 ⟨rfl, hb1⟩; obtain ⟨hc1, hf1⟩ := bcell hb1; have hz1 := hb1.size; (try simp at hz1); (try have hza : w.heap.size < w1.heap.size := by omega); (try have hzb : w.heap.size + 1 < w1.heap.size := by omega); (try have hzc : w.heap.size + 1 + 1 < w1.heap.size := by omega); (try have hzd : w.heap.size + 1 + 1 + 1 < w1.heap.size := by omega))
  go_ret
  refine ⟨?_, by (repeat' (first | with_reducible exact Below.refl _ _ | with_reducible assumption | with_reducible refine Below.drew ?_ | with_reducible refine below_drewN' ?_ _ | with_reducible refine Below.alloc ?_ ?_ _ | with_reducible refine Below.setCell ?_ ?_ _ | with_reducible refine below_step (by assumption) ?_ ?_ | omega | (simp; done) | (simp; omega)))⟩
  simp [fitsB]
  rfl
end Rs
end Go.Proofs.Ythbpnfpalcgfeaa
