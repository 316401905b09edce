/-
  The contracts of res.Least, triremeref04.Least, res.How.
-/
import Derived.Test.YtfaeebbanphbgaaRes2
namespace Go.Proofs.Ytfaeebbanphbgaa
open Go.RowKit

def leastC (a0 a1 a2 a3 a4 b0 b1 b2 b3 b4 x y : Int) : Int := if rtB a0 a1 a2 a3 a4 = true ∧ rtB b0 b1 b2 b3 b4 = true then minI x y else 0

set_option maxHeartbeats 1000000 in
theorem least_any (a0 a1 a2 a3 a4 b0 b1 b2 b3 b4 : Int) (w : World) :
    Calls Try.prog 21 #[.agg #[.int .i64 a0, .int .i64 a1, .int .i64 a2, .int .i64 a3, .int .i64 a4], .agg #[.int .i64 b0, .int .i64 b1, .int .i64 b2, .int .i64 b3, .int .i64 b4]] w fun e w' => e = .returned (.agg #[.int .i64 (leastC a0 a1 a2 a3 a4 b0 b1 b2 b3 b4 a0 b0), .int .i64 (leastC a0 a1 a2 a3 a4 b0 b1 b2 b3 b4 a1 b1), .int .i64 (leastC a0 a1 a2 a3 a4 b0 b1 b2 b3 b4 a2 b2), .int .i64 (leastC a0 a1 a2 a3 a4 b0 b1 b2 b3 b4 a3 b3), .int .i64 (leastC a0 a1 a2 a3 a4 b0 b1 b2 b3 b4 a4 b4)]) ∧ Below w.heap.size w w' := by
  cases ha : rtB a0 a1 a2 a3 a4
  · have he : ∀ x y, leastC a0 a1 a2 a3 a4 b0 b1 b2 b3 b4 x y = 0 := by simp [leastC, ha]
    simp only [he]
    go_enter Try.func21, Try.ntmps21
    go_wp2_with (go_at_call 16; refine (right_any _ _ _ _ _ _).mono ?_; rintro e w1 ⟨rfl, hb1⟩; obtain ⟨hc1, hf1⟩ := bcell hb1; have hz1 := hb1.size; (try simp at hz1); (try have hza : w.heap.size < w1.heap.size := by omega); (try have hzb : w.heap.size + 1 < w1.heap.size := by omega); (try have hzc : w.heap.size + 1 + 1 < w1.heap.size := by omega); (try have hzd : w.heap.size + 1 + 1 + 1 < w1.heap.size := by omega))
    refine bodyPost_ret (v := .agg #[.int .i64 0, .int .i64 0, .int .i64 0, .int .i64 0, .int .i64 0]) (by simp [results, Try.results21, go_sem, *]) rfl ⟨rfl, ?_⟩; (repeat' (first | with_reducible exact Below.refl _ _ | with_reducible assumption | with_reducible refine Below.drew ?_ | with_reducible refine below_drewN' ?_ _ | with_reducible refine Below.alloc ?_ ?_ _ | with_reducible refine Below.setCell ?_ ?_ _ | with_reducible refine below_step (by assumption) ?_ ?_ | omega | (simp; done) | (simp; omega)))
  cases hb : rtB b0 b1 b2 b3 b4
  · have he : ∀ x y, leastC a0 a1 a2 a3 a4 b0 b1 b2 b3 b4 x y = 0 := by simp [leastC, hb]
    simp only [he]
    go_enter Try.func21, Try.ntmps21
    go_wp2_with (go_at_call 16; refine (right_any _ _ _ _ _ _).mono ?_; rintro e w1 ⟨rfl, hb1⟩; obtain ⟨hc1, hf1⟩ := bcell hb1; have hz1 := hb1.size; (try simp at hz1); (try have hza : w.heap.size < w1.heap.size := by omega); (try have hzb : w.heap.size + 1 < w1.heap.size := by omega); (try have hzc : w.heap.size + 1 + 1 < w1.heap.size := by omega); (try have hzd : w.heap.size + 1 + 1 + 1 < w1.heap.size := by omega))
    refine bodyPost_ret (v := .agg #[.int .i64 0, .int .i64 0, .int .i64 0, .int .i64 0, .int .i64 0]) (by simp [results, Try.results21, go_sem, *]) rfl ⟨rfl, ?_⟩; (repeat' (first | with_reducible exact Below.refl _ _ | with_reducible assumption | with_reducible refine Below.drew ?_ | with_reducible refine below_drewN' ?_ _ | with_reducible refine Below.alloc ?_ ?_ _ | with_reducible refine Below.setCell ?_ ?_ _ | with_reducible refine below_step (by assumption) ?_ ?_ | omega | (simp; done) | (simp; omega)))
  · have he : ∀ x y, leastC a0 a1 a2 a3 a4 b0 b1 b2 b3 b4 x y = minI x y := by simp [leastC, ha, hb]
    simp only [he]
    clear he
    have hmn := minI_if
    have i0 : ∀ w : World, (Instr.index 35 (.agg #[.int .i64 b0, .int .i64 b1, .int .i64 b2, .int .i64 b3, .int .i64 b4]) (.int .i64 0)).run Try.prog w = .ok (.int .i64 b0) w := fun _ => by kernel_rfl
    have i1 : ∀ w : World, (Instr.index 35 (.agg #[.int .i64 b0, .int .i64 b1, .int .i64 b2, .int .i64 b3, .int .i64 b4]) (.int .i64 1)).run Try.prog w = .ok (.int .i64 b1) w := fun _ => by kernel_rfl
    have i2 : ∀ w : World, (Instr.index 35 (.agg #[.int .i64 b0, .int .i64 b1, .int .i64 b2, .int .i64 b3, .int .i64 b4]) (.int .i64 2)).run Try.prog w = .ok (.int .i64 b2) w := fun _ => by kernel_rfl
    have i3 : ∀ w : World, (Instr.index 35 (.agg #[.int .i64 b0, .int .i64 b1, .int .i64 b2, .int .i64 b3, .int .i64 b4]) (.int .i64 3)).run Try.prog w = .ok (.int .i64 b3) w := fun _ => by kernel_rfl
    have i4 : ∀ w : World, (Instr.index 35 (.agg #[.int .i64 b0, .int .i64 b1, .int .i64 b2, .int .i64 b3, .int .i64 b4]) (.int .i64 4)).run Try.prog w = .ok (.int .i64 b4) w := fun _ => by kernel_rfl
    go_enter Try.func21, Try.ntmps21
    go_wp2_with (first | (go_at_call 16; refine (right_any _ _ _ _ _ _).mono ?_; rintro e w1 ⟨rfl, hb1⟩; obtain ⟨hc1, hf1⟩ := bcell hb1; have hz1 := hb1.size; (try simp at hz1); (try have hza : w.heap.size < w1.heap.size := by omega); (try have hzb : w.heap.size + 1 < w1.heap.size := by omega); (try have hzc : w.heap.size + 1 + 1 < w1.heap.size := by omega); (try have hzd : w.heap.size + 1 + 1 + 1 < w1.heap.size := by omega)) | (go_at_call 27; refine (parts_any _ _ _ _ _ _).mono ?_; rintro e w1 ⟨rfl, hb1⟩; obtain ⟨hc1, hf1⟩ := bcell hb1; have hz1 := hb1.size; (try simp at hz1); (try have hza : w.heap.size < w1.heap.size := by omega); (try have hzb : w.heap.size + 1 < w1.heap.size := by omega); (try have hzc : w.heap.size + 1 + 1 < w1.heap.size := by omega); (try have hzd : w.heap.size + 1 + 1 + 1 < w1.heap.size := by omega)))
    refine wp_loop_rounds 6 ?_
    iterate 6
      all_goals (try rw [rounds_succ])
      all_goals (try go_wp2_with (go_at_call 28; refine (whole_any _ _ _ _ _ _).mono ?_; rintro e w1 ⟨rfl, hb1⟩; obtain ⟨hc1, hf1⟩ := bcell hb1; have hz1 := hb1.size; (try simp at hz1); (try have hza : w.heap.size < w1.heap.size := by omega); (try have hzb : w.heap.size + 1 < w1.heap.size := by omega); (try have hzc : w.heap.size + 1 + 1 < w1.heap.size := by omega); (try have hzd : w.heap.size + 1 + 1 + 1 < w1.heap.size := by omega)))
    refine bodyPost_ret (v := .agg #[.int .i64 (minI a0 b0), .int .i64 (minI a1 b1), .int .i64 (minI a2 b2), .int .i64 (minI a3 b3), .int .i64 (minI a4 b4)]) (by simp [results, Try.results21, go_sem, *]) rfl ⟨rfl, ?_⟩; (repeat' (first | with_reducible exact Below.refl _ _ | with_reducible assumption | with_reducible refine Below.drew ?_ | with_reducible refine below_drewN' ?_ _ | with_reducible refine Below.alloc ?_ ?_ _ | with_reducible refine Below.setCell ?_ ?_ _ | with_reducible refine below_step (by assumption) ?_ ?_ | omega | (simp; done) | (simp; omega)))

set_option maxHeartbeats 1000000 in
theorem refleast_any (a0 a1 a2 a3 a4 b0 b1 b2 b3 b4 : Int) (w : World) :
    Calls Try.prog 22 #[.agg #[.int .i64 a0, .int .i64 a1, .int .i64 a2, .int .i64 a3, .int .i64 a4], .agg #[.int .i64 b0, .int .i64 b1, .int .i64 b2, .int .i64 b3, .int .i64 b4]] w fun e w' => e = .returned (.agg #[.int .i64 (leastC a0 a1 a2 a3 a4 b0 b1 b2 b3 b4 a0 b0), .int .i64 (leastC a0 a1 a2 a3 a4 b0 b1 b2 b3 b4 a1 b1), .int .i64 (leastC a0 a1 a2 a3 a4 b0 b1 b2 b3 b4 a2 b2), .int .i64 (leastC a0 a1 a2 a3 a4 b0 b1 b2 b3 b4 a3 b3), .int .i64 (leastC a0 a1 a2 a3 a4 b0 b1 b2 b3 b4 a4 b4)]) ∧ Below w.heap.size w w' := by
  cases ha : rtB a0 a1 a2 a3 a4
  · have he : ∀ x y, leastC a0 a1 a2 a3 a4 b0 b1 b2 b3 b4 x y = 0 := by simp [leastC, ha]
    simp only [he]
    go_enter Try.func22, Try.ntmps22
    go_wp2_with (go_at_call 17; refine (refright_any _ _ _ _ _ _).mono ?_; rintro e w1 ⟨rfl, hb1⟩; obtain ⟨hc1, hf1⟩ := bcell hb1; have hz1 := hb1.size; (try simp at hz1); (try have hza : w.heap.size < w1.heap.size := by omega); (try have hzb : w.heap.size + 1 < w1.heap.size := by omega); (try have hzc : w.heap.size + 1 + 1 < w1.heap.size := by omega); (try have hzd : w.heap.size + 1 + 1 + 1 < w1.heap.size := by omega))
    refine bodyPost_ret (v := .agg #[.int .i64 0, .int .i64 0, .int .i64 0, .int .i64 0, .int .i64 0]) (by simp [results, Try.results22, go_sem, *]) rfl ⟨rfl, ?_⟩; (repeat' (first | with_reducible exact Below.refl _ _ | with_reducible assumption | with_reducible refine Below.drew ?_ | with_reducible refine below_drewN' ?_ _ | with_reducible refine Below.alloc ?_ ?_ _ | with_reducible refine Below.setCell ?_ ?_ _ | with_reducible refine below_step (by assumption) ?_ ?_ | omega | (simp; done) | (simp; omega)))
  cases hb : rtB b0 b1 b2 b3 b4
  · have he : ∀ x y, leastC a0 a1 a2 a3 a4 b0 b1 b2 b3 b4 x y = 0 := by simp [leastC, hb]
    simp only [he]
    go_enter Try.func22, Try.ntmps22
    go_wp2_with (go_at_call 17; refine (refright_any _ _ _ _ _ _).mono ?_; rintro e w1 ⟨rfl, hb1⟩; obtain ⟨hc1, hf1⟩ := bcell hb1; have hz1 := hb1.size; (try simp at hz1); (try have hza : w.heap.size < w1.heap.size := by omega); (try have hzb : w.heap.size + 1 < w1.heap.size := by omega); (try have hzc : w.heap.size + 1 + 1 < w1.heap.size := by omega); (try have hzd : w.heap.size + 1 + 1 + 1 < w1.heap.size := by omega))
    refine bodyPost_ret (v := .agg #[.int .i64 0, .int .i64 0, .int .i64 0, .int .i64 0, .int .i64 0]) (by simp [results, Try.results22, go_sem, *]) rfl ⟨rfl, ?_⟩; (repeat' (first | with_reducible exact Below.refl _ _ | with_reducible assumption | with_reducible refine Below.drew ?_ | with_reducible refine below_drewN' ?_ _ | with_reducible refine Below.alloc ?_ ?_ _ | with_reducible refine Below.setCell ?_ ?_ _ | with_reducible refine below_step (by assumption) ?_ ?_ | omega | (simp; done) | (simp; omega)))
  · have he : ∀ x y, leastC a0 a1 a2 a3 a4 b0 b1 b2 b3 b4 x y = minI x y := by simp [leastC, ha, hb]
    simp only [he]
    clear he
    have hmn := minI_if
    go_enter Try.func22, Try.ntmps22
    go_wp2_with (go_at_call 17; refine (refright_any _ _ _ _ _ _).mono ?_; rintro e w1 ⟨rfl, hb1⟩; obtain ⟨hc1, hf1⟩ := bcell hb1; have hz1 := hb1.size; (try simp at hz1); (try have hza : w.heap.size < w1.heap.size := by omega); (try have hzb : w.heap.size + 1 < w1.heap.size := by omega); (try have hzc : w.heap.size + 1 + 1 < w1.heap.size := by omega); (try have hzd : w.heap.size + 1 + 1 + 1 < w1.heap.size := by omega))
    refine bodyPost_ret (v := .agg #[.int .i64 (minI a0 b0), .int .i64 (minI a1 b1), .int .i64 (minI a2 b2), .int .i64 (minI a3 b3), .int .i64 (minI a4 b4)]) (by simp [results, Try.results22, go_sem, *]) rfl ⟨rfl, ?_⟩; (repeat' (first | with_reducible exact Below.refl _ _ | with_reducible assumption | with_reducible refine Below.drew ?_ | with_reducible refine below_drewN' ?_ _ | with_reducible refine Below.alloc ?_ ?_ _ | with_reducible refine Below.setCell ?_ ?_ _ | with_reducible refine below_step (by assumption) ?_ ?_ | omega | (simp; done) | (simp; omega)))

def howS (n a b : Int) : Int := if 0 < a then minI n (b / a) else n
def hv (a0 a1 a2 a3 a4 b0 b1 b2 b3 b4 : Int) : Nat → Int
  | 0 => 400
  | 1 => howS 400 a0 b0
  | 2 => howS (howS 400 a0 b0) a1 b1
  | 3 => howS (howS (howS 400 a0 b0) a1 b1) a2 b2
  | 4 => howS (howS (howS (howS 400 a0 b0) a1 b1) a2 b2) a3 b3
  | _ => howS (howS (howS (howS (howS 400 a0 b0) a1 b1) a2 b2) a3 b3) a4 b4
def howF (a0 a1 a2 a3 a4 b0 b1 b2 b3 b4 : Int) : Int := if rtB a0 a1 a2 a3 a4 = true ∧ rtB b0 b1 b2 b3 b4 = true then hv a0 a1 a2 a3 a4 b0 b1 b2 b3 b4 5 else 0

set_option maxHeartbeats 2000000 in
theorem how_any (a0 a1 a2 a3 a4 b0 b1 b2 b3 b4 : Int) (w : World) :
    Calls Try.prog 23 #[.agg #[.int .i64 a0, .int .i64 a1, .int .i64 a2, .int .i64 a3, .int .i64 a4], .agg #[.int .i64 b0, .int .i64 b1, .int .i64 b2, .int .i64 b3, .int .i64 b4]] w fun e w' => e = .returned (.int .i64 (howF a0 a1 a2 a3 a4 b0 b1 b2 b3 b4)) ∧ Below w.heap.size w w' := by
  cases ha : rtB a0 a1 a2 a3 a4
  · have he : howF a0 a1 a2 a3 a4 b0 b1 b2 b3 b4 = 0 := by simp [howF, ha]
    rw [he]
    go_enter Try.func23, Try.ntmps23
    go_wp2_with (go_at_call 16; refine (right_any _ _ _ _ _ _).mono ?_; rintro e w1 ⟨rfl, hb1⟩; obtain ⟨hc1, hf1⟩ := bcell hb1; have hz1 := hb1.size; (try simp at hz1); (try have hza : w.heap.size < w1.heap.size := by omega); (try have hzb : w.heap.size + 1 < w1.heap.size := by omega); (try have hzc : w.heap.size + 1 + 1 < w1.heap.size := by omega); (try have hzd : w.heap.size + 1 + 1 + 1 < w1.heap.size := by omega))
    go_ret
    exact ⟨rfl, by (repeat' (first | with_reducible exact Below.refl _ _ | with_reducible assumption | with_reducible refine Below.drew ?_ | with_reducible refine below_drewN' ?_ _ | with_reducible refine Below.alloc ?_ ?_ _ | with_reducible refine Below.setCell ?_ ?_ _ | with_reducible refine below_step (by assumption) ?_ ?_ | omega | (simp; done) | (simp; omega)))⟩
  cases hb : rtB b0 b1 b2 b3 b4
  · have he : howF a0 a1 a2 a3 a4 b0 b1 b2 b3 b4 = 0 := by simp [howF, hb]
    rw [he]
    go_enter Try.func23, Try.ntmps23
    go_wp2_with (go_at_call 16; refine (right_any _ _ _ _ _ _).mono ?_; rintro e w1 ⟨rfl, hb1⟩; obtain ⟨hc1, hf1⟩ := bcell hb1; have hz1 := hb1.size; (try simp at hz1); (try have hza : w.heap.size < w1.heap.size := by omega); (try have hzb : w.heap.size + 1 < w1.heap.size := by omega); (try have hzc : w.heap.size + 1 + 1 < w1.heap.size := by omega); (try have hzd : w.heap.size + 1 + 1 + 1 < w1.heap.size := by omega))
    go_ret
    exact ⟨rfl, by (repeat' (first | with_reducible exact Below.refl _ _ | with_reducible assumption | with_reducible refine Below.drew ?_ | with_reducible refine below_drewN' ?_ _ | with_reducible refine Below.alloc ?_ ?_ _ | with_reducible refine Below.setCell ?_ ?_ _ | with_reducible refine below_step (by assumption) ?_ ?_ | omega | (simp; done) | (simp; omega)))⟩
  · have He := Lib.hid (show howF a0 a1 a2 a3 a4 b0 b1 b2 b3 b4 = hv a0 a1 a2 a3 a4 b0 b1 b2 b3 b4 5 from if_pos ⟨ha, hb⟩)
    obtain ⟨⟨al0, au0⟩, ⟨al1, au1⟩, ⟨al2, au2⟩, ⟨al3, au3⟩, ⟨al4, au4⟩⟩ := (rtB_iff _ _ _ _ _).1 ha
    obtain ⟨⟨bl0, bu0⟩, ⟨bl1, bu1⟩, ⟨bl2, bu2⟩, ⟨bl3, bu3⟩, ⟨bl4, bu4⟩⟩ := (rtB_iff _ _ _ _ _).1 hb
    have i0 : ∀ w : World, (Instr.index 35 (.agg #[.int .i64 a0, .int .i64 a1, .int .i64 a2, .int .i64 a3, .int .i64 a4]) (.int .i64 0)).run Try.prog w = .ok (.int .i64 a0) w := fun _ => by kernel_rfl
    have i1 : ∀ w : World, (Instr.index 35 (.agg #[.int .i64 a0, .int .i64 a1, .int .i64 a2, .int .i64 a3, .int .i64 a4]) (.int .i64 1)).run Try.prog w = .ok (.int .i64 a1) w := fun _ => by kernel_rfl
    have i2 : ∀ w : World, (Instr.index 35 (.agg #[.int .i64 a0, .int .i64 a1, .int .i64 a2, .int .i64 a3, .int .i64 a4]) (.int .i64 2)).run Try.prog w = .ok (.int .i64 a2) w := fun _ => by kernel_rfl
    have i3 : ∀ w : World, (Instr.index 35 (.agg #[.int .i64 a0, .int .i64 a1, .int .i64 a2, .int .i64 a3, .int .i64 a4]) (.int .i64 3)).run Try.prog w = .ok (.int .i64 a3) w := fun _ => by kernel_rfl
    have i4 : ∀ w : World, (Instr.index 35 (.agg #[.int .i64 a0, .int .i64 a1, .int .i64 a2, .int .i64 a3, .int .i64 a4]) (.int .i64 4)).run Try.prog w = .ok (.int .i64 a4) w := fun _ => by kernel_rfl
    have hmn := minI_if
    go_enter Try.func23, Try.ntmps23
    go_wp2_with (first | (go_at_call 16; refine (right_any _ _ _ _ _ _).mono ?_; rintro e w1 ⟨rfl, hb1⟩; obtain ⟨hc1, hf1⟩ := bcell hb1; have hz1 := hb1.size; (try simp at hz1); (try have hza : w.heap.size < w1.heap.size := by omega); (try have hzb : w.heap.size + 1 < w1.heap.size := by omega); (try have hzc : w.heap.size + 1 + 1 < w1.heap.size := by omega); (try have hzd : w.heap.size + 1 + 1 + 1 < w1.heap.size := by omega)) | (go_at_call 27; refine (parts_any _ _ _ _ _ _).mono ?_; rintro e w1 ⟨rfl, hb1⟩; obtain ⟨hc1, hf1⟩ := bcell hb1; have hz1 := hb1.size; (try simp at hz1); (try have hza : w.heap.size < w1.heap.size := by omega); (try have hzb : w.heap.size + 1 < w1.heap.size := by omega); (try have hzc : w.heap.size + 1 + 1 < w1.heap.size := by omega); (try have hzd : w.heap.size + 1 + 1 + 1 < w1.heap.size := by omega)))
    go_loop [5, 21] (fun n i => ∃ k : Nat, k ≤ 5 ∧ i = .int .i64 k ∧ n = .int .i64 (hv a0 a1 a2 a3 a4 b0 b1 b2 b3 b4 k)) (fun _ i => 5 - (intOf i).toNat)
    case atStart => exact ⟨0, by omega, rfl, rfl⟩
    case round =>
      obtain ⟨k, hk, rfl, rfl⟩ := hrel
      have hk5 : k = 0 ∨ k = 1 ∨ k = 2 ∨ k = 3 ∨ k = 4 ∨ k = 5 := by omega
      rcases hk5 with rfl | rfl | rfl | rfl | rfl | rfl
      · by_cases h : 0 < a0
        all_goals
          go_wp2
          go_round
          case rel => exact ⟨1, by omega, rfl, by simp [hv, howS, h]⟩
          case measure => simp [intOf]
      · by_cases h : 0 < a1
        all_goals
          go_wp2
          go_round
          case rel => exact ⟨2, by omega, rfl, by simp [hv, howS, h]⟩
          case measure => simp [intOf]
      · by_cases h : 0 < a2
        all_goals
          go_wp2
          go_round
          case rel => exact ⟨3, by omega, rfl, by simp [hv, howS, h]⟩
          case measure => simp [intOf]
      · by_cases h : 0 < a3
        all_goals
          go_wp2
          go_round
          case rel => exact ⟨4, by omega, rfl, by simp [hv, howS, h]⟩
          case measure => simp [intOf]
      · by_cases h : 0 < a4
        all_goals
          go_wp2
          go_round
          case rel => exact ⟨5, by omega, rfl, by simp [hv, howS, h]⟩
          case measure => simp [intOf]
      · go_wp2
        go_ret
        exact ⟨by rw [He.out]; rfl, by (repeat' (first | with_reducible exact Below.refl _ _ | with_reducible assumption | with_reducible refine Below.drew ?_ | with_reducible refine below_drewN' ?_ _ | with_reducible refine Below.alloc ?_ ?_ _ | with_reducible refine Below.setCell ?_ ?_ _ | with_reducible refine below_step (by assumption) ?_ ?_ | omega | (simp; done) | (simp; omega)))⟩
end Go.Proofs.Ytfaeebbanphbgaa
