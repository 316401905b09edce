/-
  Slices of ints: the contract of triremeref02.Ints.
-/
import Derived.Test.YtlgbbfaeclaghaaHeld
namespace Go.Proofs.Ytlgbbfaeclaghaa
open Go.RowKit
set_option linter.unusedVariables false

/-- The ints that a slice of length n holds. -/
def IntsAt (w : World) (a : Option Addr) (n : Nat) (D : Nat → Int) : Prop :=
  0 < n → ∃ b off, a = some ⟨b, off, none⟩ ∧ b < w.heap.size ∧ ∀ i, i < n → w.cell? ⟨b, off + i, none⟩ = some (.int .i64 (D i))

def eqI (D F : Nat → Int) : Nat → Bool
  | 0 => true
  | k + 1 => eqI D F k && D k == F k

theorem eqI_iff (D F : Nat → Int) (n : Nat) : eqI D F n = true ↔ ∀ i, i < n → D i = F i := by
  induction n with
  | zero => simp [eqI]
  | succ n ih => simp only [eqI, Bool.and_eq_true, ih, beq_iff_eq]; exact ⟨fun h i hi => (Nat.lt_succ_iff_lt_or_eq.1 hi).elim (h.1 i) (fun e => e ▸ h.2), fun h => ⟨fun i hi => h i (by omega), h n (by omega)⟩⟩

set_option maxRecDepth 100000 in
set_option maxHeartbeats 1000000 in
theorem ints_any (a c : Option Addr) (n m ka kc : Nat) (D F : Nat → Int) (w : World) (hD : IntsAt w a n D) (hF : IntsAt w c m F) (hn : n ≤ 1000000) (hm : m ≤ 1000000) :
    Calls Try.prog 8 #[.slice a n ka, .slice c m kc] w fun e w' => e = .returned (.bool (decide (n = m) && eqI D F n)) ∧ Below w.heap.size w w' := by
  by_cases h : n = m
  · subst h
    have He := Lib.hid (show (decide (n = n) && eqI D F n) = eqI D F n by simp)
    by_cases h0 : n = 0
    · subst h0
      go_enter Try.func8, Try.ntmps8
      go_wp2
      refine wp_loop_rounds 1 ?_
      rw [rounds_succ]
      go_wp2
      go_ret
      exact ⟨rfl, by (repeat' (first | with_reducible exact Below.refl _ _ | with_reducible assumption | with_reducible refine Below.drew ?_ | with_reducible refine below_drewN' ?_ _ | with_reducible refine Below.alloc ?_ ?_ _ | with_reducible refine Below.setCell ?_ ?_ _ | with_reducible refine below_step (by assumption) ?_ ?_ | omega | (simp; done) | (simp; omega)))⟩
    obtain ⟨b, off, rfl, hb, hc⟩ := hD (by omega)
    obtain ⟨d, ofg, rfl, hd, hg⟩ := hF (by omega)
    clear hD hF
    go_enter Try.func8, Try.ntmps8
    go_wp2
    go_loopw [5] (fun i wr => ∃ k : Nat, k ≤ n ∧ i = .int .i64 k ∧ Below w.heap.size w wr ∧ eqI D F k = true) (fun i _ => n - (intOf i).toNat)
    case atStart => exact ⟨0, by omega, rfl, by (repeat' (first | with_reducible exact Below.refl _ _ | with_reducible assumption | with_reducible refine Below.drew ?_ | with_reducible refine below_drewN' ?_ _ | with_reducible refine Below.alloc ?_ ?_ _ | with_reducible refine Below.setCell ?_ ?_ _ | with_reducible refine below_step (by assumption) ?_ ?_ | omega | (simp; done) | (simp; omega))), rfl⟩
    case round =>
      obtain ⟨k, hk, rfl, hB, hE⟩ := hrel
      obtain ⟨hcB, hfB⟩ := bcell hB
      have hbw : b < wr.heap.size := by have := hB.size; omega
      have hbd : d < wr.heap.size := by have := hB.size; omega
      by_cases hlt : k < n
      · have HE := Lib.hid hE
        clear hE
        by_cases hne : D k = F k
        · have hne' : (D k != F k) = false := by simpa using hne
          go_wp2
          go_quiet (fail)
          go_wp2
          go_roundw
          case rel => exact ⟨k + 1, by omega, by go_num, by (repeat' (first | with_reducible exact Below.refl _ _ | with_reducible assumption | with_reducible refine Below.drew ?_ | with_reducible refine below_drewN' ?_ _ | with_reducible refine Below.alloc ?_ ?_ _ | with_reducible refine Below.setCell ?_ ?_ _ | with_reducible refine below_step (by assumption) ?_ ?_ | omega | (simp; done) | (simp; omega))), by simp [eqI, HE.out, hne]⟩
          case measure => simp [intOf]; omega
        · have hne' : (D k != F k) = true := by simpa using hne
          have HH := Lib.hid hne
          clear hne
          go_wp2
          go_quiet (fail)
          go_wp2
          go_ret
          refine ⟨?_, by (repeat' (first | with_reducible exact Below.refl _ _ | with_reducible assumption | with_reducible refine Below.drew ?_ | with_reducible refine below_drewN' ?_ _ | with_reducible refine Below.alloc ?_ ?_ _ | with_reducible refine Below.setCell ?_ ?_ _ | with_reducible refine below_step (by assumption) ?_ ?_ | omega | (simp; done) | (simp; omega)))⟩
          rw [He.out]
          have : eqI D F n = false := Bool.eq_false_iff.2 fun h => HH.out ((eqI_iff D F n).1 h k hlt)
          rw [this]; rfl
      · obtain rfl : k = n := by omega
        have HE := Lib.hid hE
        clear hE
        go_wp2
        go_ret
        exact ⟨by rw [He.out, HE.out]; rfl, by (repeat' (first | with_reducible exact Below.refl _ _ | with_reducible assumption | with_reducible refine Below.drew ?_ | with_reducible refine below_drewN' ?_ _ | with_reducible refine Below.alloc ?_ ?_ _ | with_reducible refine Below.setCell ?_ ?_ _ | with_reducible refine below_step (by assumption) ?_ ?_ | omega | (simp; done) | (simp; omega)))⟩
  · have hd : ((n : Int) != (m : Int)) = true := by simp; omega
    have He := Lib.hid (show (decide (n = m) && eqI D F n) = false by simp [h])
    clear h
    go_enter Try.func8, Try.ntmps8
    go_wp2
    go_ret
    exact ⟨by rw [He.out]; rfl, by (repeat' (first | with_reducible exact Below.refl _ _ | with_reducible assumption | with_reducible refine Below.drew ?_ | with_reducible refine below_drewN' ?_ _ | with_reducible refine Below.alloc ?_ ?_ _ | with_reducible refine Below.setCell ?_ ?_ _ | with_reducible refine below_step (by assumption) ?_ ?_ | omega | (simp; done) | (simp; omega)))⟩
end Go.Proofs.Ytlgbbfaeclaghaa
