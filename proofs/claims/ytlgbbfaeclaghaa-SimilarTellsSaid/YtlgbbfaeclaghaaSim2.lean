/-
  The contracts of similar.wrong and similar.smallest.
-/
import Derived.Test.YtlgbbfaeclaghaaSim1
namespace Go.Proofs.Ytlgbbfaeclaghaa
open Go.RowKit
set_option linter.unusedVariables false

def okI (D : Nat → Int) : Nat → Bool
  | 0 => true
  | k + 1 => okI D k && (decide (0 ≤ D k) && decide (D k ≤ 200))

theorem okI_iff (D : Nat → Int) (n : Nat) : okI D n = true ↔ ∀ i, i < n → 0 ≤ D i ∧ D i ≤ 200 := by
  induction n with
  | zero => simp [okI]
  | succ n ih => simp only [okI, Bool.and_eq_true, ih, decide_eq_true_eq]; exact ⟨fun h i hi => (Nat.lt_succ_iff_lt_or_eq.1 hi).elim (h.1 i) (fun e => e ▸ h.2), fun h => ⟨fun i hi => h i (by omega), h n (by omega)⟩⟩

def wrongB (n m : Nat) (D F : Nat → Int) : Bool := !(decide (n = m) && decide (n ≤ 16) && okI D n && okI F m)

set_option maxRecDepth 100000 in
set_option maxHeartbeats 2000000 in
theorem wrong_any (q : Nat) (a c : Option Addr) (n m ka kc : Nat) (D F : Nat → Int) (w : World) (hD : IntsAt w a n D) (hF : IntsAt w c m F) (hn : n ≤ 1000000) (hm : m ≤ 1000000)
    (hq0 : w.cell? ⟨q, 0, none⟩ = some (.slice a n ka)) (hq1 : w.cell? ⟨q, 1, none⟩ = some (.slice c m kc)) (hq : q < w.heap.size) :
    Calls Try.prog 16 #[.slice (some ⟨q, 0, none⟩) 2 2] w fun e w' => e = .returned (.bool (wrongB n m D F)) ∧ Below w.heap.size w w' := by
  by_cases h16 : n ≤ 16
  · have hd16 : decide ((16 : Int) < (n : Int)) = false := by simp; omega
    by_cases h : n = m
    · subst h
      have He := Lib.hid (show wrongB n n D F = !(okI D n && okI F n) by simp [wrongB, h16])
      clear hm
      have HH := Lib.hid hD
      have HF := Lib.hid hF
      clear hD hF
      go_enter Try.func16, Try.ntmps16
      go_wp2
      refine wp_loop_rounds 3 ?_
      rw [rounds_succ]
      go_wp2
      go_loopw [27] (fun i wr => ∃ k : Nat, k ≤ n ∧ i = .int .i64 k ∧ Below w.heap.size w wr ∧ okI D k = true) (fun i _ => n - (intOf i).toNat)
      case atStart => exact ⟨0, by omega, rfl, by (repeat' (first | with_reducible exact Below.refl _ _ | with_reducible assumption | with_reducible refine Below.drew ?_ | with_reducible refine below_drewN' ?_ _ | with_reducible refine Below.alloc ?_ ?_ _ | with_reducible refine Below.setCell ?_ ?_ _ | with_reducible refine below_step (by assumption) ?_ ?_ | omega | (simp; done) | (simp; omega))), rfl⟩
      case round =>
        obtain ⟨k, hk, rfl, hB, hE⟩ := hrel
        obtain ⟨hcB, hfB⟩ := bcell hB
        have hbq : q < wr.heap.size := by have := hB.size; omega
        have HE := Lib.hid hE
        clear hE
        by_cases hlt : k < n
        · obtain ⟨b, off, rfl, hb, hc⟩ := HH.out (by omega)
          have hbw : b < wr.heap.size := by have := hB.size; omega
          by_cases h1 : D k < 0
          · go_wp2
            go_ret
            have : okI D n = false := Bool.eq_false_iff.2 fun h => absurd (((okI_iff D n).1 h k hlt).1) (by omega)
            exact ⟨by rw [He.out, this]; rfl, by (repeat' (first | with_reducible exact Below.refl _ _ | with_reducible assumption | with_reducible refine Below.drew ?_ | with_reducible refine below_drewN' ?_ _ | with_reducible refine Below.alloc ?_ ?_ _ | with_reducible refine Below.setCell ?_ ?_ _ | with_reducible refine below_step (by assumption) ?_ ?_ | omega | (simp; done) | (simp; omega)))⟩
          · by_cases h2 : 200 < D k
            · go_wp2
              go_ret
              have : okI D n = false := Bool.eq_false_iff.2 fun h => absurd (((okI_iff D n).1 h k hlt).2) (by omega)
              exact ⟨by rw [He.out, this]; rfl, by (repeat' (first | with_reducible exact Below.refl _ _ | with_reducible assumption | with_reducible refine Below.drew ?_ | with_reducible refine below_drewN' ?_ _ | with_reducible refine Below.alloc ?_ ?_ _ | with_reducible refine Below.setCell ?_ ?_ _ | with_reducible refine below_step (by assumption) ?_ ?_ | omega | (simp; done) | (simp; omega)))⟩
            · go_wp2
              go_roundw
              case rel => exact ⟨k + 1, by omega, by go_num, by (repeat' (first | with_reducible exact Below.refl _ _ | with_reducible assumption | with_reducible refine Below.drew ?_ | with_reducible refine below_drewN' ?_ _ | with_reducible refine Below.alloc ?_ ?_ _ | with_reducible refine Below.setCell ?_ ?_ _ | with_reducible refine below_step (by assumption) ?_ ?_ | omega | (simp; done) | (simp; omega))), by simp [okI, HE.out]; omega⟩
              case measure => simp [intOf]; omega
        · obtain rfl : k = n := by omega
          have HEn := HE
          clear HE
          go_wp2
          rw [rounds_succ]
          go_wp2
          go_loopw [27] (fun i wr => ∃ l : Nat, l ≤ k ∧ i = .int .i64 l ∧ Below w.heap.size w wr ∧ okI F l = true) (fun i _ => k - (intOf i).toNat)
          case atStart => exact ⟨0, by omega, rfl, by (repeat' (first | with_reducible exact Below.refl _ _ | with_reducible assumption | with_reducible refine Below.drew ?_ | with_reducible refine below_drewN' ?_ _ | with_reducible refine Below.alloc ?_ ?_ _ | with_reducible refine Below.setCell ?_ ?_ _ | with_reducible refine below_step (by assumption) ?_ ?_ | omega | (simp; done) | (simp; omega))), rfl⟩
          case round =>
            obtain ⟨l, hl, rfl, hB2, hE⟩ := hrel
            obtain ⟨hcB2, hfB2⟩ := bcell hB2
            have hbq2 : q < wr.heap.size := by have := hB2.size; omega
            have HE := Lib.hid hE
            clear hE
            by_cases hlt : l < k
            · obtain ⟨b, off, rfl, hb, hc⟩ := HF.out (by omega)
              have hbw : b < wr.heap.size := by have := hB2.size; omega
              by_cases h1 : F l < 0
              · go_wp2
                go_ret
                have : okI F k = false := Bool.eq_false_iff.2 fun h => absurd (((okI_iff F k).1 h l hlt).1) (by omega)
                exact ⟨by rw [He.out, this, HEn.out]; rfl, by (repeat' (first | with_reducible exact Below.refl _ _ | with_reducible assumption | with_reducible refine Below.drew ?_ | with_reducible refine below_drewN' ?_ _ | with_reducible refine Below.alloc ?_ ?_ _ | with_reducible refine Below.setCell ?_ ?_ _ | with_reducible refine below_step (by assumption) ?_ ?_ | omega | (simp; done) | (simp; omega)))⟩
              · by_cases h2 : 200 < F l
                · go_wp2
                  go_ret
                  have : okI F k = false := Bool.eq_false_iff.2 fun h => absurd (((okI_iff F k).1 h l hlt).2) (by omega)
                  exact ⟨by rw [He.out, this, HEn.out]; rfl, by (repeat' (first | with_reducible exact Below.refl _ _ | with_reducible assumption | with_reducible refine Below.drew ?_ | with_reducible refine below_drewN' ?_ _ | with_reducible refine Below.alloc ?_ ?_ _ | with_reducible refine Below.setCell ?_ ?_ _ | with_reducible refine below_step (by assumption) ?_ ?_ | omega | (simp; done) | (simp; omega)))⟩
                · go_wp2
                  go_roundw
                  case rel => exact ⟨l + 1, by omega, by go_num, by (repeat' (first | with_reducible exact Below.refl _ _ | with_reducible assumption | with_reducible refine Below.drew ?_ | with_reducible refine below_drewN' ?_ _ | with_reducible refine Below.alloc ?_ ?_ _ | with_reducible refine Below.setCell ?_ ?_ _ | with_reducible refine below_step (by assumption) ?_ ?_ | omega | (simp; done) | (simp; omega))), by simp [okI, HE.out]; omega⟩
                  case measure => simp [intOf]; omega
            · obtain rfl : l = k := by omega
              go_wp2
              rw [rounds_succ]
              go_wp2
              go_ret
              exact ⟨by rw [He.out, HE.out, HEn.out]; rfl, by (repeat' (first | with_reducible exact Below.refl _ _ | with_reducible assumption | with_reducible refine Below.drew ?_ | with_reducible refine below_drewN' ?_ _ | with_reducible refine Below.alloc ?_ ?_ _ | with_reducible refine Below.setCell ?_ ?_ _ | with_reducible refine below_step (by assumption) ?_ ?_ | omega | (simp; done) | (simp; omega)))⟩
    · have He := Lib.hid (show wrongB n m D F = true by simp [wrongB, h])
      have hnm : ((m : Int) != (n : Int)) = true := by simp; omega
      clear h
      have HH := Lib.hid hD
      have HF := Lib.hid hF
      clear hD hF
      go_enter Try.func16, Try.ntmps16
      go_wp2
      refine wp_loop_rounds 3 ?_
      rw [rounds_succ]
      go_wp2
      go_loopw [27] (fun i wr => ∃ k : Nat, k ≤ n ∧ i = .int .i64 k ∧ Below w.heap.size w wr ∧ okI D k = true) (fun i _ => n - (intOf i).toNat)
      case atStart => exact ⟨0, by omega, rfl, by (repeat' (first | with_reducible exact Below.refl _ _ | with_reducible assumption | with_reducible refine Below.drew ?_ | with_reducible refine below_drewN' ?_ _ | with_reducible refine Below.alloc ?_ ?_ _ | with_reducible refine Below.setCell ?_ ?_ _ | with_reducible refine below_step (by assumption) ?_ ?_ | omega | (simp; done) | (simp; omega))), rfl⟩
      case round =>
        obtain ⟨k, hk, rfl, hB, hE⟩ := hrel
        obtain ⟨hcB, hfB⟩ := bcell hB
        have hbq : q < wr.heap.size := by have := hB.size; omega
        have HE := Lib.hid hE
        clear hE
        by_cases hlt : k < n
        · obtain ⟨b, off, rfl, hb, hc⟩ := HH.out (by omega)
          have hbw : b < wr.heap.size := by have := hB.size; omega
          by_cases h1 : D k < 0
          · go_wp2
            go_ret
            have : okI D n = false := Bool.eq_false_iff.2 fun h => absurd (((okI_iff D n).1 h k hlt).1) (by omega)
            exact ⟨by rw [He.out]; rfl, by (repeat' (first | with_reducible exact Below.refl _ _ | with_reducible assumption | with_reducible refine Below.drew ?_ | with_reducible refine below_drewN' ?_ _ | with_reducible refine Below.alloc ?_ ?_ _ | with_reducible refine Below.setCell ?_ ?_ _ | with_reducible refine below_step (by assumption) ?_ ?_ | omega | (simp; done) | (simp; omega)))⟩
          · by_cases h2 : 200 < D k
            · go_wp2
              go_ret
              have : okI D n = false := Bool.eq_false_iff.2 fun h => absurd (((okI_iff D n).1 h k hlt).2) (by omega)
              exact ⟨by rw [He.out]; rfl, by (repeat' (first | with_reducible exact Below.refl _ _ | with_reducible assumption | with_reducible refine Below.drew ?_ | with_reducible refine below_drewN' ?_ _ | with_reducible refine Below.alloc ?_ ?_ _ | with_reducible refine Below.setCell ?_ ?_ _ | with_reducible refine below_step (by assumption) ?_ ?_ | omega | (simp; done) | (simp; omega)))⟩
            · go_wp2
              go_roundw
              case rel => exact ⟨k + 1, by omega, by go_num, by (repeat' (first | with_reducible exact Below.refl _ _ | with_reducible assumption | with_reducible refine Below.drew ?_ | with_reducible refine below_drewN' ?_ _ | with_reducible refine Below.alloc ?_ ?_ _ | with_reducible refine Below.setCell ?_ ?_ _ | with_reducible refine below_step (by assumption) ?_ ?_ | omega | (simp; done) | (simp; omega))), by simp [okI, HE.out]; omega⟩
              case measure => simp [intOf]; omega
        · obtain rfl : k = n := by omega
          go_wp2
          rw [rounds_succ]
          go_wp2
          go_ret
          exact ⟨by rw [He.out]; rfl, by (repeat' (first | with_reducible exact Below.refl _ _ | with_reducible assumption | with_reducible refine Below.drew ?_ | with_reducible refine below_drewN' ?_ _ | with_reducible refine Below.alloc ?_ ?_ _ | with_reducible refine Below.setCell ?_ ?_ _ | with_reducible refine below_step (by assumption) ?_ ?_ | omega | (simp; done) | (simp; omega)))⟩
  · have He := Lib.hid (show wrongB n m D F = true by simp [wrongB, h16])
    have hd16 : decide ((16 : Int) < (n : Int)) = true := by simp; omega
    clear h16
    have HH := Lib.hid hD
    have HF := Lib.hid hF
    clear hD hF
    go_enter Try.func16, Try.ntmps16
    go_wp2
    refine wp_loop_rounds 3 ?_
    rw [rounds_succ]
    go_wp2
    go_ret
    exact ⟨by rw [He.out]; rfl, by (repeat' (first | with_reducible exact Below.refl _ _ | with_reducible assumption | with_reducible refine Below.drew ?_ | with_reducible refine below_drewN' ?_ _ | with_reducible refine Below.alloc ?_ ?_ _ | with_reducible refine Below.setCell ?_ ?_ _ | with_reducible refine below_step (by assumption) ?_ ?_ | omega | (simp; done) | (simp; omega)))⟩
end Go.Proofs.Ytlgbbfaeclaghaa
