/-
  The document's End.
-/
import Derived.Test.YtlndfognkkobaaaTrQ
namespace Go.Proofs.Ytlndfognkkobaaa
open Go.RowKit
set_option linter.unusedVariables false
set_option linter.unusedSimpArgs false

set_option maxRecDepth 100000 in
set_option maxHeartbeats 2000000 in
theorem rend_any (a : Option Addr) (ka : Nat) (l : List Nd) (i : Int) (w : World) (hF : NdL w a l) (hl : l.length ≤ 1000) :
    Calls Try.prog 14 #[.slice a l.length ka, .int .i64 i] w fun e w' => e = .returned (.int .i64 (endB l i)) ∧ Below w.heap.size w w' := by
  have HF := Lib.hid hF
  obtain ⟨n, hn⟩ : ∃ n, l.length = n := ⟨_, rfl⟩
  have HN := Lib.hid hn
  obtain ⟨R, hR⟩ : ∃ R, endB l i = R := ⟨_, rfl⟩
  have HR := Lib.hid hR
  rw [hn] at hl ⊢
  rw [hR]
  clear hF hn hR
  by_cases h0 : i < 0
  · have k1 : decide (i < 0) = true := decide_eq_true h0
    have hr : R = -1 := by rw [← HR.out]; unfold endB; rw [if_pos (.inl h0)]
    subst hr
    clear h0
    go_enter Try.func14, Try.ntmps14
    go_wp2
    go_ret
    exact ⟨rfl, by (repeat' (first | with_reducible exact Below.refl _ _ | with_reducible assumption | with_reducible refine Below.drew ?_ | with_reducible refine below_drewN' ?_ _ | with_reducible refine Below.alloc ?_ ?_ _ | with_reducible refine Below.setCell ?_ ?_ _ | with_reducible refine below_step (by assumption) ?_ ?_ | omega | (simp; done) | (simp; omega)))⟩
  have k1 : decide (i < 0) = false := decide_eq_false h0
  by_cases h1 : (n : Int) ≤ i
  · have k2 : decide (i < (n : Int)) = false := decide_eq_false (by omega)
    have hr : R = -1 := by rw [← HR.out]; unfold endB; rw [if_pos (.inr (by rw [HN.out]; exact h1))]
    subst hr
    clear h0 h1
    go_enter Try.func14, Try.ntmps14
    go_wp2
    refine wp_loop_rounds 1 ?_
    rw [rounds_succ]
    go_wp2
    go_ret
    exact ⟨rfl, by (repeat' (first | with_reducible exact Below.refl _ _ | with_reducible assumption | with_reducible refine Below.drew ?_ | with_reducible refine below_drewN' ?_ _ | with_reducible refine Below.alloc ?_ ?_ _ | with_reducible refine Below.setCell ?_ ?_ _ | with_reducible refine below_step (by assumption) ?_ ?_ | omega | (simp; done) | (simp; omega)))⟩
  obtain ⟨i0, rfl⟩ : ∃ i0 : Nat, i = (i0 : Int) := ⟨i.toNat, by omega⟩
  have hi : i0 < n := by omega
  have Hi := Lib.hid (show i0 < l.length by rw [HN.out]; exact hi)
  clear h0 h1
  go_enter Try.func14, Try.ntmps14
  go_wp2
  go_loop [5, 6] (fun vn vi => ∃ k q : Nat, k ≤ n ∧ q ≤ k * 1000 ∧ vi = .int .i64 k ∧ vn = .int .i64 ((q + 1 : Nat) : Int) ∧ fin (l.drop i0) 1 = fin (l.drop k) (q + 1)) (fun _ vi => n + 1 - (intOf vi).toNat)
  case atStart => exact ⟨i0, 0, by omega, by omega, rfl, rfl, rfl⟩
  case round =>
    obtain ⟨k, q, hk, hq, rfl, rfl, hf⟩ := hrel
    have Hf := Lib.hid hf
    clear hf k1
    by_cases hlt : k < n
    · obtain ⟨x, hx⟩ := mem_at (l := l) (k := k) (by rw [HN.out]; exact hlt)
      obtain ⟨b, o, rfl, hb, hc⟩ := HF.out (by rw [HN.out]; omega)
      obtain ⟨_, _, c2, _⟩ := nd_cells (hc k x hx)
      have hd : fin (l.drop i0) 1 = if 0 ≤ x.ki then fin (l.drop (k + 1)) (q + x.ki.toNat) else none := by rw [Hf.out, drop_at hx, fin_cons]
      have Hd := Lib.hid hd
      obtain ⟨ki, hki⟩ : ∃ ki, x.ki = ki := ⟨_, rfl⟩
      rw [hki] at c2 Hd
      have hq9 : q ≤ 1000000 := by
        have : k * 1000 ≤ 1000 * 1000 := Nat.mul_le_mul_right _ (by omega)
        omega
      have hq8 : k * 1000 + 1000 = (k + 1) * 1000 := by rw [Nat.add_mul]
      clear hc hx hki hd Hf
      by_cases g0 : ki < 0
      · have q2 : decide (ki < 0) = true := decide_eq_true g0
        have hr : R = -1 := by rw [← HR.out]; exact end_none Hi.out (by rw [Hd.out, if_neg (by omega)])
        subst hr
        clear g0
        go_wp2
        go_ret
        exact ⟨rfl, by (repeat' (first | with_reducible exact Below.refl _ _ | with_reducible assumption | with_reducible refine Below.drew ?_ | with_reducible refine below_drewN' ?_ _ | with_reducible refine Below.alloc ?_ ?_ _ | with_reducible refine Below.setCell ?_ ?_ _ | with_reducible refine below_step (by assumption) ?_ ?_ | omega | (simp; done) | (simp; omega)))⟩
      have q2 : decide (ki < 0) = false := decide_eq_false g0
      by_cases g1 : (n : Int) < ki
      · have q3 : decide ((n : Int) < ki) = true := decide_eq_true g1
        have hr : R = -1 := by
          rw [← HR.out]
          refine end_none Hi.out ?_
          rw [Hd.out, if_pos (by omega)]
          exact fin_few (by rw [List.length_drop, HN.out]; omega)
        subst hr
        clear g0 g1
        go_wp2
        go_ret
        exact ⟨rfl, by (repeat' (first | with_reducible exact Below.refl _ _ | with_reducible assumption | with_reducible refine Below.drew ?_ | with_reducible refine below_drewN' ?_ _ | with_reducible refine Below.alloc ?_ ?_ _ | with_reducible refine Below.setCell ?_ ?_ _ | with_reducible refine below_step (by assumption) ?_ ?_ | omega | (simp; done) | (simp; omega)))⟩
      have q3 : decide ((n : Int) < ki) = false := decide_eq_false g1
      by_cases g2 : (q : Int) + ki = 0
      · obtain rfl : q = 0 := by omega
        obtain rfl : ki = 0 := by omega
        have hr0 : R = ((k + 1 : Nat) : Int) := by
          rw [← HR.out]
          refine end_some Hi.out (by rw [HN.out]; omega) ?_
          rw [Hd.out, if_pos (by omega)]
          rfl
        have hr : R = (k : Int) + 1 := by rw [hr0]; omega
        clear hr0
        subst hr
        clear g0 g1 g2
        go_wp2
        go_ret
        exact ⟨rfl, by (repeat' (first | with_reducible exact Below.refl _ _ | with_reducible assumption | with_reducible refine Below.drew ?_ | with_reducible refine below_drewN' ?_ _ | with_reducible refine Below.alloc ?_ ?_ _ | with_reducible refine Below.setCell ?_ ?_ _ | with_reducible refine below_step (by assumption) ?_ ?_ | omega | (simp; done) | (simp; omega)))⟩
      have q4 : ((q : Int) + ki == 0) = false := by simpa using g2
      have q5 : ((q : Int) + 1 - 1 + ki == 0) = false := by rw [beq_eq_false_iff_ne]; omega
      go_wp2
      go_round
      case rel => exact ⟨k + 1, q + ki.toNat - 1, by omega, by omega, by go_num, by go_num, by rw [Hd.out, if_pos (by omega), show q + ki.toNat - 1 + 1 = q + ki.toNat by omega]⟩
      case measure => simp [intOf]; omega
    · obtain rfl : k = n := by omega
      have hr : R = -1 := by
        rw [← HR.out]
        refine end_none Hi.out ?_
        rw [Hf.out, List.drop_of_length_le (by rw [HN.out]; exact Nat.le_refl _)]
        exact fin_nil q
      subst hr
      go_wp2
      go_ret
      exact ⟨rfl, by (repeat' (first | with_reducible exact Below.refl _ _ | with_reducible assumption | with_reducible refine Below.drew ?_ | with_reducible refine below_drewN' ?_ _ | with_reducible refine Below.alloc ?_ ?_ _ | with_reducible refine Below.setCell ?_ ?_ _ | with_reducible refine below_step (by assumption) ?_ ?_ | omega | (simp; done) | (simp; omega)))⟩
end Go.Proofs.Ytlndfognkkobaaa
