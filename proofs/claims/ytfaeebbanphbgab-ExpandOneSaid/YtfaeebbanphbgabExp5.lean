/-
  The contract of triremeref21.Choose.
-/
import Derived.Test.YtfaeebbanphbgabExp4
namespace Go.Proofs.Ytfaeebbanphbgab
open Go.RowKit
set_option linter.unusedVariables false

/-- None of the first ones is better than number i. -/
def noneB (how : Int) (D : Nat → Opt) (i : Nat) : Nat → Bool
  | 0 => true
  | k + 1 => noneB how D i k && !bet how (D k) (D i)
theorem noneB_true (how : Int) (D : Nat → Opt) (i n : Nat) (h : noneB how D i n = true) : ∀ k, k < n → bet how (D k) (D i) = false := by
  induction n with
  | zero => intro k hk; omega
  | succ n ih =>
    intro k hk
    simp only [noneB, Bool.and_eq_true, Bool.not_eq_true'] at h
    by_cases hk' : k < n
    · exact ih h.1 k hk'
    · obtain rfl : k = n := by omega
      exact h.2
theorem noneB_false (how : Int) (D : Nat → Opt) (i n : Nat) (h : noneB how D i n = false) : ∃ k, k < n ∧ bet how (D k) (D i) = true := by
  induction n with
  | zero => cases h
  | succ n ih =>
    simp only [noneB, Bool.and_eq_false_iff, Bool.not_eq_false'] at h
    rcases h with h | h
    · obtain ⟨k, hk, hb⟩ := ih h; exact ⟨k, by omega, hb⟩
    · exact ⟨n, by omega, h⟩

set_option maxRecDepth 100000 in
set_option maxHeartbeats 4000000 in
theorem refchoose_any (how : Int) (b off n cap : Nat) (seed : Int) (D : Nat → Opt) (w : World) (hD : Opts w b off n D) (hn : 0 < n) (hb : b < w.heap.size) (hm : n ≤ 1000000) (h1 : 1 ≤ how) (h3 : how ≤ 3) :
    Calls Try.prog 12 #[.slice (some ⟨b, off, none⟩) n cap, .int .i64 how, .int .i64 seed] w fun e w' => e = .returned (.int .i64 (bst how D n)) ∧ Below w.heap.size w w' := by
  obtain ⟨dg, dc, ds, dw, dp, dr⟩ := hD
  have hn0 : ((n : Int) == 0) = false := beq_eq_false_iff_ne.2 (by omega)
  have h4 : (how == 4) = false := beq_eq_false_iff_ne.2 (by omega)
  go_enter Try.func12, Try.ntmps12
  go_wp2
  go_loopw [7] (fun i wr => ∃ k : Nat, k ≤ n ∧ i = .int .i64 k ∧ Below w.heap.size w wr ∧ ∀ j, j < k → noneB how D j n = false) (fun i _ => n - (intOf i).toNat)
  case atStart => exact ⟨0, by omega, rfl, by (repeat' (first | with_reducible exact Below.refl _ _ | with_reducible assumption | with_reducible refine Below.drew ?_ | with_reducible refine below_drewN' ?_ _ | with_reducible refine Below.alloc ?_ ?_ _ | with_reducible refine Below.setCell ?_ ?_ _ | with_reducible refine below_step (by assumption) ?_ ?_ | omega | (simp; done) | (simp; omega))), fun j hj => by omega⟩
  case round =>
    obtain ⟨i, hi, rfl, hB, hall⟩ := hrel
    have HA := Lib.hid hall
    clear hall
    by_cases hlt : i < n
    · go_wp2
      go_loopw [8, 9] (fun v j wr' => ∃ k : Nat, k ≤ n ∧ j = .int .i64 k ∧ v = .bool (noneB how D i k) ∧ Below w.heap.size w wr') (fun _ j _ => n - (intOf j).toNat)
      case atStart => exact ⟨0, by omega, rfl, rfl, by (repeat' (first | with_reducible exact Below.refl _ _ | with_reducible assumption | with_reducible refine Below.drew ?_ | with_reducible refine below_drewN' ?_ _ | with_reducible refine Below.alloc ?_ ?_ _ | with_reducible refine Below.setCell ?_ ?_ _ | with_reducible refine below_step (by assumption) ?_ ?_ | omega | (simp; done) | (simp; omega)))⟩
      case round =>
        obtain ⟨k, hk, rfl, rfl, hB2⟩ := hrel
        obtain ⟨hcB, hfB⟩ := bcell hB2
        have hbz := hB2.size
        have hbw : b < wr.heap.size := by omega
        by_cases hlk : k < n
        · cases hN : noneB how D i k
          · go_wp2_with fail
            have hcH := held_cell
            refine region_below (by kernel_rfl) (by kernel_rfl) ?_
            repeat
              ((with_reducible refine wpQuiet_step (fun K hK => ?_))
               go_simp
               first
                 | ((with_reducible refine hK _ ?_); clear hK K)
                 | (apply Exists.intro
                    (with_reducible refine ⟨fun n => ?_, hK _ ?_⟩)
                    (first | (go_at_call 10; exact held_calls (refbetter_any _ _ _ _ _ _ _ _ _ _ _ _ _ _ _ _ _ _)))
                    clear hK K))
            with_reducible refine wpQuiet_nil ?_
            intro w2 hw2
            clear hcH
            obtain ⟨⟨_, hb2⟩, rfl⟩ := hw2
            (try dsimp only)
            obtain ⟨hc2, hf2⟩ := bcell hb2
            have hz2 := hb2.size
            (try simp at hz2)
            go_wp2
            go_roundw
            case rel => exact ⟨k + 1, by omega, by go_num, by simp [noneB, hN], by (repeat' (first | with_reducible exact Below.refl _ _ | with_reducible assumption | with_reducible refine Below.drew ?_ | with_reducible refine below_drewN' ?_ _ | with_reducible refine Below.alloc ?_ ?_ _ | with_reducible refine Below.setCell ?_ ?_ _ | with_reducible refine below_step (by assumption) ?_ ?_ | omega | (simp; done) | (simp; omega)))⟩
            case measure => simp [intOf]; omega
          · go_wp2_with fail
            have hcH := held_cell
            refine region_below (by kernel_rfl) (by kernel_rfl) ?_
            repeat
              ((with_reducible refine wpQuiet_step (fun K hK => ?_))
               go_simp
               first
                 | ((with_reducible refine hK _ ?_); clear hK K)
                 | (apply Exists.intro
                    (with_reducible refine ⟨fun n => ?_, hK _ ?_⟩)
                    (first | (go_at_call 10; exact held_calls (refbetter_any _ _ _ _ _ _ _ _ _ _ _ _ _ _ _ _ _ _)))
                    clear hK K))
            with_reducible refine wpQuiet_nil ?_
            intro w2 hw2
            clear hcH
            obtain ⟨⟨_, hb2⟩, rfl⟩ := hw2
            (try dsimp only)
            obtain ⟨hc2, hf2⟩ := bcell hb2
            have hz2 := hb2.size
            (try simp at hz2)
            go_wp2
            go_roundw
            case rel => exact ⟨k + 1, by omega, by go_num, by simp [noneB, hN, bet], by (repeat' (first | with_reducible exact Below.refl _ _ | with_reducible assumption | with_reducible refine Below.drew ?_ | with_reducible refine below_drewN' ?_ _ | with_reducible refine Below.alloc ?_ ?_ _ | with_reducible refine Below.setCell ?_ ?_ _ | with_reducible refine below_step (by assumption) ?_ ?_ | omega | (simp; done) | (simp; omega)))⟩
            case measure => simp [intOf]; omega
        · obtain rfl : k = n := by omega
          cases hN : noneB how D i k
          · go_wp2
            go_roundw
            case rel => exact ⟨i + 1, by omega, by go_num, by (repeat' (first | with_reducible exact Below.refl _ _ | with_reducible assumption | with_reducible refine Below.drew ?_ | with_reducible refine below_drewN' ?_ _ | with_reducible refine Below.alloc ?_ ?_ _ | with_reducible refine Below.setCell ?_ ?_ _ | with_reducible refine below_step (by assumption) ?_ ?_ | omega | (simp; done) | (simp; omega))), fun j hj => (Nat.lt_succ_iff_lt_or_eq.1 hj).elim (HA.out j) (fun e => by subst e; exact hN)⟩
            case measure => simp [intOf]; omega
          · have hr := Lib.hid (bst_unique how D k i hn hlt (noneB_true how D i k hN) (fun j hj => noneB_false how D j k (HA.out j hj)))
            go_wp2
            go_ret
            exact ⟨by rw [hr.out]; rfl, by (repeat' (first | with_reducible exact Below.refl _ _ | with_reducible assumption | with_reducible refine Below.drew ?_ | with_reducible refine below_drewN' ?_ _ | with_reducible refine Below.alloc ?_ ?_ _ | with_reducible refine Below.setCell ?_ ?_ _ | with_reducible refine below_step (by assumption) ?_ ?_ | omega | (simp; done) | (simp; omega)))⟩
    · obtain rfl : i = n := by omega
      exfalso
      obtain ⟨k, hk, h⟩ := noneB_false how D _ i (HA.out _ (bst_lt how D i hn))
      rw [bst_best how D i k hk] at h
      cases h

set_option maxRecDepth 100000 in
set_option maxHeartbeats 1000000 in
theorem refchoose_no (sp : Option Addr) (n cap : Nat) (how seed : Int) (w : World) (hm : n ≤ 1000000) (h : n = 0 ∨ how < 1 ∨ 4 < how) :
    Calls Try.prog 12 #[.slice sp n cap, .int .i64 how, .int .i64 seed] w fun e w' => e = .returned (.int .i64 (-1)) ∧ Below w.heap.size w w' := by
  by_cases hn : n = 0
  · subst hn
    go_enter Try.func12, Try.ntmps12
    go_wp2
    go_ret
    exact ⟨rfl, by (repeat' (first | with_reducible exact Below.refl _ _ | with_reducible assumption | with_reducible refine Below.drew ?_ | with_reducible refine below_drewN' ?_ _ | with_reducible refine Below.alloc ?_ ?_ _ | with_reducible refine Below.setCell ?_ ?_ _ | with_reducible refine below_step (by assumption) ?_ ?_ | omega | (simp; done) | (simp; omega)))⟩
  have hn0 : ((n : Int) == 0) = false := beq_eq_false_iff_ne.2 (by omega)
  by_cases h1 : how < 1
  · go_enter Try.func12, Try.ntmps12
    go_wp2
    go_ret
    exact ⟨rfl, by (repeat' (first | with_reducible exact Below.refl _ _ | with_reducible assumption | with_reducible refine Below.drew ?_ | with_reducible refine below_drewN' ?_ _ | with_reducible refine Below.alloc ?_ ?_ _ | with_reducible refine Below.setCell ?_ ?_ _ | with_reducible refine below_step (by assumption) ?_ ?_ | omega | (simp; done) | (simp; omega)))⟩
  · have h4 : 4 < how := by omega
    go_enter Try.func12, Try.ntmps12
    go_wp2
    go_ret
    exact ⟨rfl, by (repeat' (first | with_reducible exact Below.refl _ _ | with_reducible assumption | with_reducible refine Below.drew ?_ | with_reducible refine below_drewN' ?_ _ | with_reducible refine Below.alloc ?_ ?_ _ | with_reducible refine Below.setCell ?_ ?_ _ | with_reducible refine below_step (by assumption) ?_ ?_ | omega | (simp; done) | (simp; omega)))⟩

set_option maxRecDepth 100000 in
set_option maxHeartbeats 1000000 in
theorem refchoose_4 (sp : Option Addr) (n cap : Nat) (seed : Int) (w : World) (hn : 0 < n) (hm : n ≤ 1000000) :
    Calls Try.prog 12 #[.slice sp n cap, .int .i64 4, .int .i64 seed] w fun e w' => e = .returned (.int .i64 (nextF seed % (n : Int))) ∧ Below w.heap.size w w' := by
  have hn0 : ((n : Int) == 0) = false := beq_eq_false_iff_ne.2 (by omega)
  obtain ⟨q, hq⟩ : ∃ q, nextF seed = q := ⟨_, rfl⟩
  have hb := nextF_bd seed
  rw [hq] at hb
  obtain ⟨q0, q1⟩ := hb
  go_enter Try.func12, Try.ntmps12
  go_wp2_with (first | (go_at_call 14; refine (refnext_any _ _).mono ?_; rintro e w1 ⟨rfl, rfl⟩))
  go_ret
  exact ⟨by rw [hq]; rfl, by (repeat' (first | with_reducible exact Below.refl _ _ | with_reducible assumption | with_reducible refine Below.drew ?_ | with_reducible refine below_drewN' ?_ _ | with_reducible refine Below.alloc ?_ ?_ _ | with_reducible refine Below.setCell ?_ ?_ _ | with_reducible refine below_step (by assumption) ?_ ?_ | omega | (simp; done) | (simp; omega)))⟩
end Go.Proofs.Ytfaeebbanphbgab
