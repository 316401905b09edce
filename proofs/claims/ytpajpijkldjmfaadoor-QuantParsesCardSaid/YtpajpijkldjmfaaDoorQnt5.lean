/-
  The contracts of quant.decimal's exact and value, quant.scaled, Parse, Milli.
-/
import Derived.Test.YtpajpijkldjmfaaDoorQnt4
namespace Go.Proofs.YtpajpijkldjmfaaDoor
open Go.RowKit
set_option linter.unusedVariables false

def exactB (l p m dv : Int) : Bool := decide (p * m % 1000 = 0) && decide (l % dv = 0)
set_option maxRecDepth 100000 in
set_option maxHeartbeats 4000000 in
theorem exact_any (x l p m dv : Int) (hl : 0 ≤ l ∧ l < 1000) (hp : 0 ≤ p ∧ p < 1000) (hm : 1 ≤ m ∧ m ≤ 1099511627776000) (hd : 1 ≤ dv ∧ dv ≤ 1000) (w : World) :
    Calls Tryd.prog 30 #[.agg #[.int .i64 x, .int .i64 l, .int .i64 p], .int .i64 m, .int .i64 dv] w fun e w' => e = .returned (.bool (exactB l p m dv)) ∧ Below w.heap.size w w' := by
  have h0 : 0 ≤ p * m := Int.mul_nonneg (by omega) (by omega)
  have h1 : p * m ≤ 1000 * 1099511627776000 := Int.mul_le_mul (by omega) (by omega) (by omega) (by omega)
  have w1 : IntKind.i64.wrap (p * m) = p * m := wrap_in (by omega) (by omega)
  have w2 : Int.tmod (p * m) 1000 = p * m % 1000 := Int.tmod_eq_emod_of_nonneg h0
  have w3 : IntKind.i64.wrap (p * m % 1000) = p * m % 1000 := wrap_in (by omega) (by omega)
  have w4 : Int.tmod l dv = l % dv := Int.tmod_eq_emod_of_nonneg (by omega)
  have hlm := Int.emod_lt_of_pos l (show 0 < dv by omega)
  have hln := Int.emod_nonneg l (show dv ≠ 0 by omega)
  have w5 : IntKind.i64.wrap (l % dv) = l % dv := wrap_in (by omega) (by omega)
  have hz : (dv == 0) = false := by rw [beq_eq_false_iff_ne]; omega
  unfold exactB
  obtain ⟨a, ha⟩ : ∃ a, p * m % 1000 = a := ⟨_, rfl⟩
  obtain ⟨b, hb⟩ : ∃ b, l % dv = b := ⟨_, rfl⟩
  rw [ha] at w2 w3 ⊢
  rw [hb] at w4 w5 ⊢
  clear h0 h1 hlm hln ha hb
  by_cases g : a = 0
  · have g1 : (a == 0) = true := by simpa using g
    rw [decide_eq_true g, Bool.true_and]
    clear g
    by_cases g2 : b = 0
    · have g3 : (b == 0) = true := by simpa using g2
      rw [decide_eq_true g2]
      clear g2
      go_enter Tryd.func30, Tryd.ntmps30
      go_wp2
      go_ret
      exact ⟨by first | rfl | simp, by (repeat' (first | with_reducible exact Below.refl _ _ | with_reducible assumption | with_reducible refine Below.drew ?_ | with_reducible refine below_drewN' ?_ _ | with_reducible refine Below.alloc ?_ ?_ _ | with_reducible refine Below.setCell ?_ ?_ _ | with_reducible refine below_step (by assumption) ?_ ?_ | omega | (simp; done) | (simp; omega)))⟩
    · have g3 : (b == 0) = false := by simpa using g2
      rw [decide_eq_false g2]
      clear g2
      go_enter Tryd.func30, Tryd.ntmps30
      go_wp2
      go_ret
      exact ⟨by first | rfl | simp, by (repeat' (first | with_reducible exact Below.refl _ _ | with_reducible assumption | with_reducible refine Below.drew ?_ | with_reducible refine below_drewN' ?_ _ | with_reducible refine Below.alloc ?_ ?_ _ | with_reducible refine Below.setCell ?_ ?_ _ | with_reducible refine below_step (by assumption) ?_ ?_ | omega | (simp; done) | (simp; omega)))⟩
  · have g1 : (a == 0) = false := by simpa using g
    rw [decide_eq_false g, Bool.false_and]
    clear g
    go_enter Tryd.func30, Tryd.ntmps30
    go_wp2
    go_ret
    exact ⟨by first | rfl | simp, by (repeat' (first | with_reducible exact Below.refl _ _ | with_reducible assumption | with_reducible refine Below.drew ?_ | with_reducible refine below_drewN' ?_ _ | with_reducible refine Below.alloc ?_ ?_ _ | with_reducible refine Below.setCell ?_ ?_ _ | with_reducible refine below_step (by assumption) ?_ ?_ | omega | (simp; done) | (simp; omega)))⟩

def valV (x p m dv : Int) : Int × Int := if 1125899906842624 / m < x / dv then (0, 10) else overB (x / dv * m + p * m / 1000)
set_option maxRecDepth 100000 in
set_option maxHeartbeats 4000000 in
theorem value_any (x l p m dv : Int) (hx : 0 ≤ x ∧ x ≤ 1127025806749466624) (hp : 0 ≤ p ∧ p < 1000) (hm : 1 ≤ m ∧ m ≤ 1099511627776000) (hd : 1 ≤ dv ∧ dv ≤ 1000) (w : World) :
    Calls Tryd.prog 31 #[.agg #[.int .i64 x, .int .i64 l, .int .i64 p], .int .i64 m, .int .i64 dv] w fun e w' => e = .returned (.tuple #[.int .i64 (valV x p m dv).1, .int .i64 (valV x p m dv).2]) ∧ Below w.heap.size w w' := by
  have h0 : 0 ≤ p * m := Int.mul_nonneg (by omega) (by omega)
  have h1 : p * m ≤ 1000 * 1099511627776000 := Int.mul_le_mul (by omega) (by omega) (by omega) (by omega)
  have q0 : 0 ≤ x / dv := Int.ediv_nonneg (by omega) (by omega)
  have q1 : x / dv ≤ x := Int.ediv_le_self dv (by omega)
  have m0 : 0 ≤ 1125899906842624 / m := Int.ediv_nonneg (by omega) (by omega)
  have m1 : 1125899906842624 / m ≤ 1125899906842624 := Int.ediv_le_self m (by omega)
  have hz : (dv == 0) = false := by rw [beq_eq_false_iff_ne]; omega
  have hdv : ¬ dv = 0 := by omega
  have hmv : ¬ m = 0 := by omega
  have hzm : (m == 0) = false := by rw [beq_eq_false_iff_ne]; omega
  have t1 : Int.tdiv x dv = x / dv := Int.tdiv_eq_ediv_of_nonneg (by omega)
  have t2 : Int.tdiv 1125899906842624 m = 1125899906842624 / m := Int.tdiv_eq_ediv_of_nonneg (by omega)
  have t3 : Int.tdiv (p * m) 1000 = p * m / 1000 := Int.tdiv_eq_ediv_of_nonneg h0
  have w1 : IntKind.i64.wrap (x / dv) = x / dv := wrap_in (by omega) (by omega)
  have w2 : IntKind.i64.wrap (1125899906842624 / m) = 1125899906842624 / m := wrap_in (by omega) (by omega)
  have w3 : IntKind.i64.wrap (p * m) = p * m := wrap_in (by omega) (by omega)
  have w4 : IntKind.i64.wrap (p * m / 1000) = p * m / 1000 := wrap_in (by omega) (by omega)
  unfold valV
  by_cases hg : 1125899906842624 / m < x / dv
  · rw [if_pos hg]
    clear h0 h1 q0 q1 m0 m1
    go_enter Tryd.func31, Tryd.ntmps31
    go_wp2
    go_region
    all_goals (try go_wp2)
    all_goals
      go_ret2
      exact ⟨rfl, by (repeat' (first | with_reducible exact Below.refl _ _ | with_reducible assumption | with_reducible refine Below.drew ?_ | with_reducible refine below_drewN' ?_ _ | with_reducible refine Below.alloc ?_ ?_ _ | with_reducible refine Below.setCell ?_ ?_ _ | with_reducible refine below_step (by assumption) ?_ ?_ | omega | (simp; done) | (simp; omega)))⟩
  · rw [if_neg hg]
    have k1 : x / dv * m ≤ 1125899906842624 / m * m := Int.mul_le_mul_of_nonneg_right (by omega) (by omega)
    have k2 := Int.ediv_mul_le 1125899906842624 (show m ≠ 0 by omega)
    have k0 : 0 ≤ x / dv * m := Int.mul_nonneg q0 (by omega)
    have w5 : IntKind.i64.wrap (x / dv * m) = x / dv * m := wrap_in (by omega) (by omega)
    have w6 : IntKind.i64.wrap (x / dv * m + p * m / 1000) = x / dv * m + p * m / 1000 := wrap_in (by omega) (by omega)
    clear h0 h1 q0 q1 m0 m1 k0 k1 k2
    have B := fun V => bounded_any (x / dv * m + p * m / 1000) V
    have HB := Lib.hid B
    clear B
    go_enter Tryd.func31, Tryd.ntmps31
    go_wp2
    go_region
    all_goals (try go_wp2)
    have hq1 : ∀ w : World, (binOp .quo 3 (.int .i64 x) (.int .i64 dv)).run Tryd.prog w = .ok (.int .i64 (x / dv)) w := fun w => by simp [go_sem, *]
    have hq2 : ∀ w : World, (binOp .quo 3 (.int .i64 (p * m)) (.int .i64 1000)).run Tryd.prog w = .ok (.int .i64 (p * m / 1000)) w := fun w => by simp [go_sem, *]
    have hcH := held_cell
    refine region_below (by kernel_rfl) (by kernel_rfl) ?_
    repeat
      ((with_reducible refine wpQuiet_step (fun K hK => ?_))
       go_simp
       first
         | ((with_reducible refine hK _ ?_); clear hK K)
         | (apply Exists.intro
            (with_reducible refine ⟨fun n => ?_, hK _ ?_⟩)
            ((go_at_call 23; exact held_calls (HB.out _)))
            clear hK K))
    with_reducible refine wpQuiet_nil ?_
    intro w3 hw2
    clear hcH
    obtain ⟨⟨_, hb3⟩, rfl⟩ := hw2
    (try dsimp only)
    obtain ⟨hc3, hf3⟩ := bcell hb3
    have hz3 := hb3.size
    (try simp at hz3)
    go_wp2
    go_ret2
    exact ⟨rfl, by (repeat' (first | with_reducible exact Below.refl _ _ | with_reducible assumption | with_reducible refine Below.drew ?_ | with_reducible refine below_drewN' ?_ _ | with_reducible refine Below.alloc ?_ ?_ _ | with_reducible refine Below.setCell ?_ ?_ _ | with_reducible refine below_step (by assumption) ?_ ?_ | omega | (simp; done) | (simp; omega)))⟩
end Go.Proofs.YtpajpijkldjmfaaDoor
