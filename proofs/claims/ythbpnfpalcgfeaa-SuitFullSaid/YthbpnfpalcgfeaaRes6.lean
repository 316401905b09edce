/-
  The contracts of res.Least, triremeref04.Least, res.How.
-/
import Derived.Test.YthbpnfpalcgfeaaRes2
namespace Go.Proofs.Ythbpnfpalcgfeaa
namespace Rs
set_option linter.unusedVariables false
set_option linter.unusedSimpArgs false
open Go.RowKit

def leastC (a0 a1 a2 a3 a4 b0 b1 b2 b3 b4 x y : Int) : Int := if rtB a0 a1 a2 a3 a4 = true ∧ rtB b0 b1 b2 b3 b4 = true then minI x y else 0

set_option maxHeartbeats 1000000 in
theorem least_any (a0 a1 a2 a3 a4 b0 b1 b2 b3 b4 : Int) (w : World) :
    Calls Try.prog 55 #[.agg #[.int .i64 a0, .int .i64 a1, .int .i64 a2, .int .i64 a3, .int .i64 a4], .agg #[.int .i64 b0, .int .i64 b1, .int .i64 b2, .int .i64 b3, .int .i64 b4]] w fun e w' => e = .returned (.agg #[.int .i64 (leastC a0 a1 a2 a3 a4 b0 b1 b2 b3 b4 a0 b0), .int .i64 (leastC a0 a1 a2 a3 a4 b0 b1 b2 b3 b4 a1 b1), .int .i64 (leastC a0 a1 a2 a3 a4 b0 b1 b2 b3 b4 a2 b2), .int .i64 (leastC a0 a1 a2 a3 a4 b0 b1 b2 b3 b4 a3 b3), .int .i64 (leastC a0 a1 a2 a3 a4 b0 b1 b2 b3 b4 a4 b4)]) ∧ Below w.heap.size w w' := by
  cases ha : rtB a0 a1 a2 a3 a4
  · have he : ∀ x y, leastC a0 a1 a2 a3 a4 b0 b1 b2 b3 b4 x y = 0 := by simp [leastC, ha]
    simp only [he]
    go_enter Try.func55, Try.ntmps55
    go_wp2_with (go_at_call 52; refine (right_any _ _ _ _ _ _).mono ?_; rintro e w1 ⟨rfl, hb1⟩; obtain ⟨hc1, hf1⟩ := bcell hb1; have hz1 := hb1.size; (try simp at hz1); (try have hza : w.heap.size < w1.heap.size := by omega); (try have hzb : w.heap.size + 1 < w1.heap.size := by omega); (try have hzc : w.heap.size + 1 + 1 < w1.heap.size := by omega); (try have hzd : w.heap.size + 1 + 1 + 1 < w1.heap.size := by omega))
    refine bodyPost_ret (v := .agg #[.int .i64 0, .int .i64 0, .int .i64 0, .int .i64 0, .int .i64 0]) (by simp [results, Try.results55, go_sem, *]) rfl ⟨rfl, ?_⟩; (repeat' (first | with_reducible exact Below.refl _ _ | with_reducible assumption | with_reducible refine Below.drew ?_ | with_reducible refine below_drewN' ?_ _ | with_reducible refine Below.alloc ?_ ?_ _ | with_reducible refine Below.setCell ?_ ?_ _ | with_reducible refine below_step (by assumption) ?_ ?_ | omega | (simp; done) | (simp; omega)))
  cases hb : rtB b0 b1 b2 b3 b4
  · have he : ∀ x y, leastC a0 a1 a2 a3 a4 b0 b1 b2 b3 b4 x y = 0 := by simp [leastC, hb]
    simp only [he]
    go_enter Try.func55, Try.ntmps55
    go_wp2_with (go_at_call 52; refine (right_any _ _ _ _ _ _).mono ?_; rintro e w1 ⟨rfl, hb1⟩; obtain ⟨hc1, hf1⟩ := bcell hb1; have hz1 := hb1.size; (try simp at hz1); (try have hza : w.heap.size < w1.heap.size := by omega); (try have hzb : w.heap.size + 1 < w1.heap.size := by omega); (try have hzc : w.heap.size + 1 + 1 < w1.heap.size := by omega); (try have hzd : w.heap.size + 1 + 1 + 1 < w1.heap.size := by omega))
    refine bodyPost_ret (v := .agg #[.int .i64 0, .int .i64 0, .int .i64 0, .int .i64 0, .int .i64 0]) (by simp [results, Try.results55, go_sem, *]) rfl ⟨rfl, ?_⟩; (repeat' (first | with_reducible exact Below.refl _ _ | with_reducible assumption | with_reducible refine Below.drew ?_ | with_reducible refine below_drewN' ?_ _ | with_reducible refine Below.alloc ?_ ?_ _ | with_reducible refine Below.setCell ?_ ?_ _ | with_reducible refine below_step (by assumption) ?_ ?_ | omega | (simp; done) | (simp; omega)))
  · have he : ∀ x y, leastC a0 a1 a2 a3 a4 b0 b1 b2 b3 b4 x y = minI x y := by simp [leastC, ha, hb]
    simp only [he]
    clear he
    have hmn := minI_if
    have i0 : ∀ w : World, (Instr.index 99 (.agg #[.int .i64 b0, .int .i64 b1, .int .i64 b2, .int .i64 b3, .int .i64 b4]) (.int .i64 0)).run Try.prog w = .ok (.int .i64 b0) w := fun _ => by kernel_rfl
    have i1 : ∀ w : World, (Instr.index 99 (.agg #[.int .i64 b0, .int .i64 b1, .int .i64 b2, .int .i64 b3, .int .i64 b4]) (.int .i64 1)).run Try.prog w = .ok (.int .i64 b1) w := fun _ => by kernel_rfl
    have i2 : ∀ w : World, (Instr.index 99 (.agg #[.int .i64 b0, .int .i64 b1, .int .i64 b2, .int .i64 b3, .int .i64 b4]) (.int .i64 2)).run Try.prog w = .ok (.int .i64 b2) w := fun _ => by kernel_rfl
    have i3 : ∀ w : World, (Instr.index 99 (.agg #[.int .i64 b0, .int .i64 b1, .int .i64 b2, .int .i64 b3, .int .i64 b4]) (.int .i64 3)).run Try.prog w = .ok (.int .i64 b3) w := fun _ => by kernel_rfl
    have i4 : ∀ w : World, (Instr.index 99 (.agg #[.int .i64 b0, .int .i64 b1, .int .i64 b2, .int .i64 b3, .int .i64 b4]) (.int .i64 4)).run Try.prog w = .ok (.int .i64 b4) w := fun _ => by kernel_rfl
    go_enter Try.func55, Try.ntmps55
    go_wp2_with (first | (go_at_call 52; refine (right_any _ _ _ _ _ _).mono ?_; rintro e w1 ⟨rfl, hb1⟩; obtain ⟨hc1, hf1⟩ := bcell hb1; have hz1 := hb1.size; (try simp at hz1); (try have hza : w.heap.size < w1.heap.size := by omega); (try have hzb : w.heap.size + 1 < w1.heap.size := by omega); (try have hzc : w.heap.size + 1 + 1 < w1.heap.size := by omega); (try have hzd : w.heap.size + 1 + 1 + 1 < w1.heap.size := by omega)) | (go_at_call 83; refine (parts_any _ _ _ _ _ _).mono ?_; rintro e w1 ⟨rfl, hb1⟩; obtain ⟨hc1, hf1⟩ := bcell hb1; have hz1 := hb1.size; (try simp at hz1); (try have hza : w.heap.size < w1.heap.size := by omega); (try have hzb : w.heap.size + 1 < w1.heap.size := by omega); (try have hzc : w.heap.size + 1 + 1 < w1.heap.size := by omega); (try have hzd : w.heap.size + 1 + 1 + 1 < w1.heap.size := by omega)))
    refine wp_loop_rounds 6 ?_
    iterate 6
      all_goals (try rw [rounds_succ])
      all_goals (try go_wp2_with (go_at_call 84; refine (whole_any _ _ _ _ _ _).mono ?_; rintro e w1 ⟨rfl, hb1⟩; obtain ⟨hc1, hf1⟩ := bcell hb1; have hz1 := hb1.size; (try simp at hz1); (try have hza : w.heap.size < w1.heap.size := by omega); (try have hzb : w.heap.size + 1 < w1.heap.size := by omega); (try have hzc : w.heap.size + 1 + 1 < w1.heap.size := by omega); (try have hzd : w.heap.size + 1 + 1 + 1 < w1.heap.size := by omega)))
    refine bodyPost_ret (v := .agg #[.int .i64 (minI a0 b0), .int .i64 (minI a1 b1), .int .i64 (minI a2 b2), .int .i64 (minI a3 b3), .int .i64 (minI a4 b4)]) (by simp [results, Try.results55, go_sem, *]) rfl ⟨rfl, ?_⟩; (repeat' (first | with_reducible exact Below.refl _ _ | with_reducible assumption | with_reducible refine Below.drew ?_ | with_reducible refine below_drewN' ?_ _ | with_reducible refine Below.alloc ?_ ?_ _ | with_reducible refine Below.setCell ?_ ?_ _ | with_reducible refine below_step (by assumption) ?_ ?_ | omega | (simp; done) | (simp; omega)))

set_option maxHeartbeats 1000000 in
theorem refleast_any (a0 a1 a2 a3 a4 b0 b1 b2 b3 b4 : Int) (w : World) :
    Calls Try.prog 27 #[.agg #[.int .i64 a0, .int .i64 a1, .int .i64 a2, .int .i64 a3, .int .i64 a4], .agg #[.int .i64 b0, .int .i64 b1, .int .i64 b2, .int .i64 b3, .int .i64 b4]] w fun e w' => e = .returned (.agg #[.int .i64 (leastC a0 a1 a2 a3 a4 b0 b1 b2 b3 b4 a0 b0), .int .i64 (leastC a0 a1 a2 a3 a4 b0 b1 b2 b3 b4 a1 b1), .int .i64 (leastC a0 a1 a2 a3 a4 b0 b1 b2 b3 b4 a2 b2), .int .i64 (leastC a0 a1 a2 a3 a4 b0 b1 b2 b3 b4 a3 b3), .int .i64 (leastC a0 a1 a2 a3 a4 b0 b1 b2 b3 b4 a4 b4)]) ∧ Below w.heap.size w w' := by
  cases ha : rtB a0 a1 a2 a3 a4
  · have he : ∀ x y, leastC a0 a1 a2 a3 a4 b0 b1 b2 b3 b4 x y = 0 := by simp [leastC, ha]
    simp only [he]
    go_enter Try.func27, Try.ntmps27
    go_wp2_with (go_at_call 18; refine (refright_any _ _ _ _ _ _).mono ?_; rintro e w1 ⟨rfl, hb1⟩; obtain ⟨hc1, hf1⟩ := bcell hb1; have hz1 := hb1.size; (try simp at hz1); (try have hza : w.heap.size < w1.heap.size := by omega); (try have hzb : w.heap.size + 1 < w1.heap.size := by omega); (try have hzc : w.heap.size + 1 + 1 < w1.heap.size := by omega); (try have hzd : w.heap.size + 1 + 1 + 1 < w1.heap.size := by omega))
    refine bodyPost_ret (v := .agg #[.int .i64 0, .int .i64 0, .int .i64 0, .int .i64 0, .int .i64 0]) (by simp [results, Try.results27, go_sem, *]) rfl ⟨rfl, ?_⟩; (repeat' (first | with_reducible exact Below.refl _ _ | with_reducible assumption | with_reducible refine Below.drew ?_ | with_reducible refine below_drewN' ?_ _ | with_reducible refine Below.alloc ?_ ?_ _ | with_reducible refine Below.setCell ?_ ?_ _ | with_reducible refine below_step (by assumption) ?_ ?_ | omega | (simp; done) | (simp; omega)))
  cases hb : rtB b0 b1 b2 b3 b4
  · have he : ∀ x y, leastC a0 a1 a2 a3 a4 b0 b1 b2 b3 b4 x y = 0 := by simp [leastC, hb]
    simp only [he]
    go_enter Try.func27, Try.ntmps27
    go_wp2_with (go_at_call 18; refine (refright_any _ _ _ _ _ _).mono ?_; rintro e w1 ⟨rfl, hb1⟩; obtain ⟨hc1, hf1⟩ := bcell hb1; have hz1 := hb1.size; (try simp at hz1); (try have hza : w.heap.size < w1.heap.size := by omega); (try have hzb : w.heap.size + 1 < w1.heap.size := by omega); (try have hzc : w.heap.size + 1 + 1 < w1.heap.size := by omega); (try have hzd : w.heap.size + 1 + 1 + 1 < w1.heap.size := by omega))
    refine bodyPost_ret (v := .agg #[.int .i64 0, .int .i64 0, .int .i64 0, .int .i64 0, .int .i64 0]) (by simp [results, Try.results27, go_sem, *]) rfl ⟨rfl, ?_⟩; (repeat' (first | with_reducible exact Below.refl _ _ | with_reducible assumption | with_reducible refine Below.drew ?_ | with_reducible refine below_drewN' ?_ _ | with_reducible refine Below.alloc ?_ ?_ _ | with_reducible refine Below.setCell ?_ ?_ _ | with_reducible refine below_step (by assumption) ?_ ?_ | omega | (simp; done) | (simp; omega)))
  · have he : ∀ x y, leastC a0 a1 a2 a3 a4 b0 b1 b2 b3 b4 x y = minI x y := by simp [leastC, ha, hb]
    simp only [he]
    clear he
    have hmn := minI_if
    go_enter Try.func27, Try.ntmps27
    go_wp2_with (go_at_call 18; refine (refright_any _ _ _ _ _ _).mono ?_; rintro e w1 ⟨rfl, hb1⟩; obtain ⟨hc1, hf1⟩ := bcell hb1; have hz1 := hb1.size; (try simp at hz1); (try have hza : w.heap.size < w1.heap.size := by omega); (try have hzb : w.heap.size + 1 < w1.heap.size := by omega); (try have hzc : w.heap.size + 1 + 1 < w1.heap.size := by omega); (try have hzd : w.heap.size + 1 + 1 + 1 < w1.heap.size := by omega))
    refine bodyPost_ret (v := .agg #[.int .i64 (minI a0 b0), .int .i64 (minI a1 b1), .int .i64 (minI a2 b2), .int .i64 (minI a3 b3), .int .i64 (minI a4 b4)]) (by simp [results, Try.results27, go_sem, *]) rfl ⟨rfl, ?_⟩; (repeat' (first | with_reducible exact Below.refl _ _ | with_reducible assumption | with_reducible refine Below.drew ?_ | with_reducible refine below_drewN' ?_ _ | with_reducible refine Below.alloc ?_ ?_ _ | with_reducible refine Below.setCell ?_ ?_ _ | with_reducible refine below_step (by assumption) ?_ ?_ | omega | (simp; done) | (simp; omega)))

def howS (n a b : Int) : Int := if 0 < a then minI n (b / a) else n
def hv (a0 a1 a2 a3 a4 b0 b1 b2 b3 b4 : Int) : Nat → Int
  | 0 => 400
  | 1 => howS 400 a0 b0
  | 2 => howS (howS 400 a0 b0) a1 b1
  | 3 => howS (howS (howS 400 a0 b0) a1 b1) a2 b2
  | 4 => howS (howS (howS (howS 400 a0 b0) a1 b1) a2 b2) a3 b3
  | _ => howS (howS (howS (howS (howS 400 a0 b0) a1 b1) a2 b2) a3 b3) a4 b4
def howF (a0 a1 a2 a3 a4 b0 b1 b2 b3 b4 : Int) : Int := if rtB a0 a1 a2 a3 a4 = true ∧ rtB b0 b1 b2 b3 b4 = true then hv a0 a1 a2 a3 a4 b0 b1 b2 b3 b4 5 else 0

end Rs
end Go.Proofs.Ythbpnfpalcgfeaa
