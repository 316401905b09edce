/-
  The contracts of res.share, triremeref04.part, res.Share, triremeref04.Share, res.Least, triremeref04.Least.
-/
import Derived.Test.YtkmhicoimgpdlaaResNG
import Derived.Deep.QuietTactic
import Derived.Deep.RegionWith
namespace Go.Proofs.Ytkmhicoimgpdlaa
namespace Rs
open Go.RowKit

def partF (a b : Int) : Int := if 0 < b then (if 1000 * a / b ≤ 1000000 then 1000 * a / b else 1000000) else if 0 < a then 1000000 else 0

set_option maxHeartbeats 1000000 in
theorem share1_any (a b : Int) (w : World) (ha : 0 ≤ a) (ha' : a ≤ 1125899906842624) (hb : 0 ≤ b) (hb' : b ≤ 1125899906842624) :
    Calls Try.prog 51 #[.int .i64 a, .int .i64 b] w fun e w' => e = .returned (.int .i64 (partF a b)) ∧ w' = w := by
  by_cases hb0 : 0 < b
  · by_cases hm : 1000 * a / b ≤ 1000000
    · have He := Lib.hid (show partF a b = 1000 * a / b by unfold partF; rw [if_pos hb0, if_pos hm])
      go_enter Try.func51, Try.ntmps51
      go_wp2
      go_ret
      exact ⟨by rw [He.out]; rfl, rfl⟩
    · have He := Lib.hid (show partF a b = 1000000 by unfold partF; rw [if_pos hb0, if_neg hm])
      have hm' : 1000000 < 1000 * a / b := by omega
      go_enter Try.func51, Try.ntmps51
      go_wp2
      go_ret
      exact ⟨by rw [He.out]; rfl, rfl⟩
  · by_cases ha0 : 0 < a
    · have He := Lib.hid (show partF a b = 1000000 by unfold partF; rw [if_neg hb0, if_pos ha0])
      go_enter Try.func51, Try.ntmps51
      go_wp2
      go_ret
      exact ⟨by rw [He.out]; rfl, rfl⟩
    · have He := Lib.hid (show partF a b = 0 by unfold partF; rw [if_neg hb0, if_neg ha0])
      go_enter Try.func51, Try.ntmps51
      go_wp2
      go_ret
      exact ⟨by rw [He.out]; rfl, rfl⟩

set_option maxHeartbeats 1000000 in
theorem part_any (a b : Int) (w : World) (ha : 0 ≤ a) (ha' : a ≤ 1125899906842624) (hb : 0 ≤ b) (hb' : b ≤ 1125899906842624) :
    Calls Try.prog 56 #[.int .i64 a, .int .i64 b] w fun e w' => e = .returned (.int .i64 (partF a b)) ∧ w' = w := by
  by_cases hb0 : 0 < b
  · have hb1 : (b == 0) = false := by rw [beq_eq_false_iff_ne]; omega
    by_cases hm : 1000 * a / b ≤ 1000000
    · have He := Lib.hid (show partF a b = 1000 * a / b by unfold partF; rw [if_pos hb0, if_pos hm])
      go_enter Try.func56, Try.ntmps56
      go_wp2
      go_ret
      exact ⟨by rw [He.out]; rfl, rfl⟩
    · have He := Lib.hid (show partF a b = 1000000 by unfold partF; rw [if_pos hb0, if_neg hm])
      have hm' : 1000000 < 1000 * a / b := by omega
      go_enter Try.func56, Try.ntmps56
      go_wp2
      go_ret
      exact ⟨by rw [He.out]; rfl, rfl⟩
  · have hb1 : (b == 0) = true := by rw [beq_iff_eq]; omega
    by_cases ha0 : 0 < a
    · have ha1 : (a == 0) = false := by rw [beq_eq_false_iff_ne]; omega
      have He := Lib.hid (show partF a b = 1000000 by unfold partF; rw [if_neg hb0, if_pos ha0])
      go_enter Try.func56, Try.ntmps56
      go_wp2
      go_ret
      exact ⟨by rw [He.out]; rfl, rfl⟩
    · have ha1 : (a == 0) = true := by rw [beq_iff_eq]; omega
      have He := Lib.hid (show partF a b = 0 by unfold partF; rw [if_neg hb0, if_neg ha0])
      go_enter Try.func56, Try.ntmps56
      go_wp2
      go_ret
      exact ⟨by rw [He.out]; rfl, rfl⟩

def shareF (a0 a1 a2 a3 a4 b0 b1 b2 b3 b4 : Int) : Int := if rtB a0 a1 a2 a3 a4 = true ∧ rtB b0 b1 b2 b3 b4 = true then max (partF a0 b0) (partF a1 b1) else 0

set_option maxHeartbeats 1000000 in
theorem share_any (a0 a1 a2 a3 a4 b0 b1 b2 b3 b4 : Int) (w : World) :
    Calls Try.prog 29 #[.agg #[.int .i64 a0, .int .i64 a1, .int .i64 a2, .int .i64 a3, .int .i64 a4], .agg #[.int .i64 b0, .int .i64 b1, .int .i64 b2, .int .i64 b3, .int .i64 b4]] w fun e w' => e = .returned (.int .i64 (shareF a0 a1 a2 a3 a4 b0 b1 b2 b3 b4)) ∧ Below w.heap.size w w' := by
  cases ha : rtB a0 a1 a2 a3 a4
  · have he : shareF a0 a1 a2 a3 a4 b0 b1 b2 b3 b4 = 0 := by simp [shareF, ha]
    rw [he]
    go_enter Try.func29, Try.ntmps29
    go_wp2_with (go_at_call 49; refine (right_any _ _ _ _ _ _).mono ?_; rintro e w1 ⟨rfl, hb1⟩; obtain ⟨hc1, hf1⟩ := bcell hb1; have hz1 := hb1.size; (try simp at hz1); (try have hza : w.heap.size < w1.heap.size := by omega); (try have hzb : w.heap.size + 1 < w1.heap.size := by omega); (try have hzc : w.heap.size + 1 + 1 < w1.heap.size := by omega); (try have hzd : w.heap.size + 1 + 1 + 1 < w1.heap.size := by omega))
    go_ret
    exact ⟨rfl, by (repeat' (first | with_reducible exact Below.refl _ _ | with_reducible assumption | with_reducible refine Below.drew ?_ | with_reducible refine below_drewN' ?_ _ | with_reducible refine Below.alloc ?_ ?_ _ | with_reducible refine Below.setCell ?_ ?_ _ | with_reducible refine below_step (by assumption) ?_ ?_ | omega | (simp; done) | (simp; omega)))⟩
  cases hb : rtB b0 b1 b2 b3 b4
  · have he : shareF a0 a1 a2 a3 a4 b0 b1 b2 b3 b4 = 0 := by simp [shareF, hb]
    rw [he]
    go_enter Try.func29, Try.ntmps29
    go_wp2_with (go_at_call 49; refine (right_any _ _ _ _ _ _).mono ?_; rintro e w1 ⟨rfl, hb1⟩; obtain ⟨hc1, hf1⟩ := bcell hb1; have hz1 := hb1.size; (try simp at hz1); (try have hza : w.heap.size < w1.heap.size := by omega); (try have hzb : w.heap.size + 1 < w1.heap.size := by omega); (try have hzc : w.heap.size + 1 + 1 < w1.heap.size := by omega); (try have hzd : w.heap.size + 1 + 1 + 1 < w1.heap.size := by omega))
    go_ret
    exact ⟨rfl, by (repeat' (first | with_reducible exact Below.refl _ _ | with_reducible assumption | with_reducible refine Below.drew ?_ | with_reducible refine below_drewN' ?_ _ | with_reducible refine Below.alloc ?_ ?_ _ | with_reducible refine Below.setCell ?_ ?_ _ | with_reducible refine below_step (by assumption) ?_ ?_ | omega | (simp; done) | (simp; omega)))⟩
  · have He := Lib.hid (show shareF a0 a1 a2 a3 a4 b0 b1 b2 b3 b4 = max (partF a0 b0) (partF a1 b1) from if_pos ⟨ha, hb⟩)
    obtain ⟨⟨al0, au0⟩, ⟨al1, au1⟩, ⟨al2, au2⟩, ⟨al3, au3⟩, ⟨al4, au4⟩⟩ := (rtB_iff _ _ _ _ _).1 ha
    obtain ⟨⟨bl0, bu0⟩, ⟨bl1, bu1⟩, ⟨bl2, bu2⟩, ⟨bl3, bu3⟩, ⟨bl4, bu4⟩⟩ := (rtB_iff _ _ _ _ _).1 hb
    go_enter Try.func29, Try.ntmps29
    go_wp2_with (go_at_call 49; refine (right_any _ _ _ _ _ _).mono ?_; rintro e w1 ⟨rfl, hb1⟩; obtain ⟨hc1, hf1⟩ := bcell hb1; have hz1 := hb1.size; (try simp at hz1); (try have hza : w.heap.size < w1.heap.size := by omega); (try have hzb : w.heap.size + 1 < w1.heap.size := by omega); (try have hzc : w.heap.size + 1 + 1 < w1.heap.size := by omega); (try have hzd : w.heap.size + 1 + 1 + 1 < w1.heap.size := by omega))
    by_cases hm : partF a1 b1 ≤ partF a0 b0
    · go_quiet ((go_at_call 51; exact Calls.quiet_of_same (share1_any _ _ _ (by omega) (by omega) (by omega) (by omega))))
      go_wp2
      go_ret
      exact ⟨by rw [He.out, Int.max_eq_left hm]; rfl, by (repeat' (first | with_reducible exact Below.refl _ _ | with_reducible assumption | with_reducible refine Below.drew ?_ | with_reducible refine below_drewN' ?_ _ | with_reducible refine Below.alloc ?_ ?_ _ | with_reducible refine Below.setCell ?_ ?_ _ | with_reducible refine below_step (by assumption) ?_ ?_ | omega | (simp; done) | (simp; omega)))⟩
    · have hm' : partF a0 b0 < partF a1 b1 := by omega
      clear hm
      go_quiet ((go_at_call 51; exact Calls.quiet_of_same (share1_any _ _ _ (by omega) (by omega) (by omega) (by omega))))
      go_wp2
      go_ret
      exact ⟨by rw [He.out, Int.max_eq_right (by omega)]; rfl, by (repeat' (first | with_reducible exact Below.refl _ _ | with_reducible assumption | with_reducible refine Below.drew ?_ | with_reducible refine below_drewN' ?_ _ | with_reducible refine Below.alloc ?_ ?_ _ | with_reducible refine Below.setCell ?_ ?_ _ | with_reducible refine below_step (by assumption) ?_ ?_ | omega | (simp; done) | (simp; omega)))⟩

set_option maxHeartbeats 1000000 in
theorem refshare_any (a0 a1 a2 a3 a4 b0 b1 b2 b3 b4 : Int) (w : World) :
    Calls Try.prog 40 #[.agg #[.int .i64 a0, .int .i64 a1, .int .i64 a2, .int .i64 a3, .int .i64 a4], .agg #[.int .i64 b0, .int .i64 b1, .int .i64 b2, .int .i64 b3, .int .i64 b4]] w fun e w' => e = .returned (.int .i64 (shareF a0 a1 a2 a3 a4 b0 b1 b2 b3 b4)) ∧ Below w.heap.size w w' := by
  cases ha : rtB a0 a1 a2 a3 a4
  · have he : shareF a0 a1 a2 a3 a4 b0 b1 b2 b3 b4 = 0 := by simp [shareF, ha]
    rw [he]
    go_enter Try.func40, Try.ntmps40
    go_wp2_with (go_at_call 54; refine (refright_any _ _ _ _ _ _).mono ?_; rintro e w1 ⟨rfl, hb1⟩; obtain ⟨hc1, hf1⟩ := bcell hb1; have hz1 := hb1.size; (try simp at hz1); (try have hza : w.heap.size < w1.heap.size := by omega); (try have hzb : w.heap.size + 1 < w1.heap.size := by omega); (try have hzc : w.heap.size + 1 + 1 < w1.heap.size := by omega); (try have hzd : w.heap.size + 1 + 1 + 1 < w1.heap.size := by omega))
    go_ret
    exact ⟨rfl, by (repeat' (first | with_reducible exact Below.refl _ _ | with_reducible assumption | with_reducible refine Below.drew ?_ | with_reducible refine below_drewN' ?_ _ | with_reducible refine Below.alloc ?_ ?_ _ | with_reducible refine Below.setCell ?_ ?_ _ | with_reducible refine below_step (by assumption) ?_ ?_ | omega | (simp; done) | (simp; omega)))⟩
  cases hb : rtB b0 b1 b2 b3 b4
  · have he : shareF a0 a1 a2 a3 a4 b0 b1 b2 b3 b4 = 0 := by simp [shareF, hb]
    rw [he]
    go_enter Try.func40, Try.ntmps40
    go_wp2_with (go_at_call 54; refine (refright_any _ _ _ _ _ _).mono ?_; rintro e w1 ⟨rfl, hb1⟩; obtain ⟨hc1, hf1⟩ := bcell hb1; have hz1 := hb1.size; (try simp at hz1); (try have hza : w.heap.size < w1.heap.size := by omega); (try have hzb : w.heap.size + 1 < w1.heap.size := by omega); (try have hzc : w.heap.size + 1 + 1 < w1.heap.size := by omega); (try have hzd : w.heap.size + 1 + 1 + 1 < w1.heap.size := by omega))
    go_ret
    exact ⟨rfl, by (repeat' (first | with_reducible exact Below.refl _ _ | with_reducible assumption | with_reducible refine Below.drew ?_ | with_reducible refine below_drewN' ?_ _ | with_reducible refine Below.alloc ?_ ?_ _ | with_reducible refine Below.setCell ?_ ?_ _ | with_reducible refine below_step (by assumption) ?_ ?_ | omega | (simp; done) | (simp; omega)))⟩
  · have He := Lib.hid (show shareF a0 a1 a2 a3 a4 b0 b1 b2 b3 b4 = max (partF a0 b0) (partF a1 b1) from if_pos ⟨ha, hb⟩)
    obtain ⟨⟨al0, au0⟩, ⟨al1, au1⟩, ⟨al2, au2⟩, ⟨al3, au3⟩, ⟨al4, au4⟩⟩ := (rtB_iff _ _ _ _ _).1 ha
    obtain ⟨⟨bl0, bu0⟩, ⟨bl1, bu1⟩, ⟨bl2, bu2⟩, ⟨bl3, bu3⟩, ⟨bl4, bu4⟩⟩ := (rtB_iff _ _ _ _ _).1 hb
    go_enter Try.func40, Try.ntmps40
    go_wp2_with (go_at_call 54; refine (refright_any _ _ _ _ _ _).mono ?_; rintro e w1 ⟨rfl, hb1⟩; obtain ⟨hc1, hf1⟩ := bcell hb1; have hz1 := hb1.size; (try simp at hz1); (try have hza : w.heap.size < w1.heap.size := by omega); (try have hzb : w.heap.size + 1 < w1.heap.size := by omega); (try have hzc : w.heap.size + 1 + 1 < w1.heap.size := by omega); (try have hzd : w.heap.size + 1 + 1 + 1 < w1.heap.size := by omega))
    by_cases hm : partF a1 b1 ≤ partF a0 b0
    · go_quiet ((go_at_call 56; exact Calls.quiet_of_same (part_any _ _ _ (by omega) (by omega) (by omega) (by omega))))
      go_wp2
      go_ret
      exact ⟨by rw [He.out, Int.max_eq_left hm]; rfl, by (repeat' (first | with_reducible exact Below.refl _ _ | with_reducible assumption | with_reducible refine Below.drew ?_ | with_reducible refine below_drewN' ?_ _ | with_reducible refine Below.alloc ?_ ?_ _ | with_reducible refine Below.setCell ?_ ?_ _ | with_reducible refine below_step (by assumption) ?_ ?_ | omega | (simp; done) | (simp; omega)))⟩
    · have hm' : partF a0 b0 < partF a1 b1 := by omega
      clear hm
      go_quiet ((go_at_call 56; exact Calls.quiet_of_same (part_any _ _ _ (by omega) (by omega) (by omega) (by omega))))
      go_wp2
      go_ret
      exact ⟨by rw [He.out, Int.max_eq_right (by omega)]; rfl, by (repeat' (first | with_reducible exact Below.refl _ _ | with_reducible assumption | with_reducible refine Below.drew ?_ | with_reducible refine below_drewN' ?_ _ | with_reducible refine Below.alloc ?_ ?_ _ | with_reducible refine Below.setCell ?_ ?_ _ | with_reducible refine below_step (by assumption) ?_ ?_ | omega | (simp; done) | (simp; omega)))⟩
end Rs
end Go.Proofs.Ytkmhicoimgpdlaa
