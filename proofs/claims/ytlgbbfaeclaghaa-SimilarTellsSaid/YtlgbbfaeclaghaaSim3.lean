/-
  The contract of similar.smallest.
-/
import Derived.Test.YtlgbbfaeclaghaaSim2
namespace Go.Proofs.Ytlgbbfaeclaghaa
open Go.RowKit
set_option linter.unusedVariables false

theorem i64_in (x : Int) (h : -9223372036854775808 ≤ x) (h' : x ≤ 9223372036854775807) : IntKind.i64.wrap x = x := by
  simp [IntKind.wrap, IntKind.bits, IntKind.signed]; omega

/-- The smallest of the first k that has room, or -1. -/
def smF (D S F : Nat → Int) : Nat → Int
  | 0 => -1
  | k + 1 => if D k + S k < F k ∧ (smF D S F k < 0 ∨ D k + S k < D (smF D S F k).toNat + S (smF D S F k).toNat) then k else smF D S F k

theorem smF_yes (D S F : Nat → Int) (k : Nat) (h : D k + S k < F k) (h2 : smF D S F k < 0 ∨ D k + S k < D (smF D S F k).toNat + S (smF D S F k).toNat) : smF D S F (k + 1) = k := if_pos ⟨h, h2⟩
theorem smF_no1 (D S F : Nat → Int) (k : Nat) (h : ¬ D k + S k < F k) : smF D S F (k + 1) = smF D S F k := if_neg (fun t => h t.1)
theorem smF_no2 (D S F : Nat → Int) (k : Nat) (h : 0 ≤ smF D S F k) (h2 : ¬ D k + S k < D (smF D S F k).toNat + S (smF D S F k).toNat) : smF D S F (k + 1) = smF D S F k := if_neg (fun t => t.2.elim (fun t => by omega) h2)

theorem smF_lt (D S F : Nat → Int) (k : Nat) : -1 ≤ smF D S F k ∧ smF D S F k < k := by
  induction k with
  | zero => simp [smF]
  | succ k ih => unfold smF; split <;> omega

set_option maxRecDepth 100000 in
set_option maxHeartbeats 2000000 in
theorem smallest_any (a c e : Option Addr) (n ka kc ke : Nat) (D S F : Nat → Int) (w : World) (hD : IntsAt w a n D) (hS : IntsAt w e n S) (hF : IntsAt w c n F) (hn : n ≤ 1000000)
    (bD : ∀ i, i < n → 0 ≤ D i ∧ D i ≤ 200) (bS : ∀ i, i < n → 0 ≤ S i ∧ S i ≤ 200) :
    Calls Try.prog 17 #[.slice a n ka, .slice e n ke, .slice c n kc] w fun e w' => e = .returned (.int .i64 (smF D S F n)) ∧ Below w.heap.size w w' := by
  have HD := Lib.hid hD
  have HS := Lib.hid hS
  have HF := Lib.hid hF
  have BD := Lib.hid bD
  have BS := Lib.hid bS
  clear hD hS hF bD bS
  go_enter Try.func17, Try.ntmps17
  go_wp2
  go_loopw [7, 12] (fun v i wr => ∃ k : Nat, k ≤ n ∧ i = .int .i64 k ∧ v = .int .i64 (smF D S F k) ∧ Below w.heap.size w wr) (fun _ i _ => n - (intOf i).toNat)
  case atStart => exact ⟨0, by omega, rfl, rfl, by (repeat' (first | with_reducible exact Below.refl _ _ | with_reducible assumption | with_reducible refine Below.drew ?_ | with_reducible refine below_drewN' ?_ _ | with_reducible refine Below.alloc ?_ ?_ _ | with_reducible refine Below.setCell ?_ ?_ _ | with_reducible refine below_step (by assumption) ?_ ?_ | omega | (simp; done) | (simp; omega)))⟩
  case round =>
    obtain ⟨k, hk, rfl, rfl, hB⟩ := hrel
    obtain ⟨hcB, hfB⟩ := bcell hB
    by_cases hlt : k < n
    · obtain ⟨b, off, rfl, hb, hc⟩ := HD.out (by omega)
      obtain ⟨b2, off2, rfl, hb2, hc2⟩ := HS.out (by omega)
      obtain ⟨b3, off3, rfl, hb3, hc3⟩ := HF.out (by omega)
      have hbw : b < wr.heap.size := by have := hB.size; omega
      have hbw2 : b2 < wr.heap.size := by have := hB.size; omega
      have hbw3 : b3 < wr.heap.size := by have := hB.size; omega
      have b1 := BD.out k hlt
      have b2' := BS.out k hlt
      have L1 := smF_yes D S F k
      have L2 := smF_no1 D S F k
      have L3 := smF_no2 D S F k
      obtain ⟨g1, g2⟩ := smF_lt D S F k
      obtain ⟨q, hq⟩ : ∃ q, smF D S F k = q := ⟨_, rfl⟩
      rw [hq] at L1 L2 L3 g1 g2 ⊢
      clear hq
      have H1 := Lib.hid L1
      have H2 := Lib.hid L2
      have H3 := Lib.hid L3
      clear L1 L2 L3
      by_cases h1 : D k + S k < F k
      · by_cases h2 : q < 0
        · obtain rfl : q = -1 := by omega
          have He := Lib.hid (H1.out h1 (.inl h2))
          clear g1 g2 h2
          go_wp2
          go_quiet (fail)
          go_wp2
          go_quiet (fail)
          go_wp2
          go_roundw
          case rel => exact ⟨k + 1, by omega, by go_num, by simp [He.out], by (repeat' (first | with_reducible exact Below.refl _ _ | with_reducible assumption | with_reducible refine Below.drew ?_ | with_reducible refine below_drewN' ?_ _ | with_reducible refine Below.alloc ?_ ?_ _ | with_reducible refine Below.setCell ?_ ?_ _ | with_reducible refine below_step (by assumption) ?_ ?_ | omega | (simp; done) | (simp; omega)))⟩
          case measure => simp [intOf]; omega
        · obtain ⟨p, rfl⟩ : ∃ p : Nat, q = p := ⟨q.toNat, by omega⟩
          have hp : p < n := by omega
          have c1 := BD.out p hp
          have c2 := BS.out p hp
          have hwp : IntKind.i64.wrap (D p + S p) = D p + S p := i64_in _ (by omega) (by omega)
          clear g1 g2
          by_cases h3 : D k + S k < D p + S p
          · have He := Lib.hid (H1.out h1 (.inr (by simpa using h3)))
            go_wp2
            go_quiet (fail)
            go_wp2
            go_quiet (fail)
            go_wp2
            go_roundw
            case rel => exact ⟨k + 1, by omega, by go_num, by simp [He.out], by (repeat' (first | with_reducible exact Below.refl _ _ | with_reducible assumption | with_reducible refine Below.drew ?_ | with_reducible refine below_drewN' ?_ _ | with_reducible refine Below.alloc ?_ ?_ _ | with_reducible refine Below.setCell ?_ ?_ _ | with_reducible refine below_step (by assumption) ?_ ?_ | omega | (simp; done) | (simp; omega)))⟩
            case measure => simp [intOf]; omega
          · have He := Lib.hid (H3.out (by omega) (by simpa using h3))
            go_wp2
            go_quiet (fail)
            go_wp2
            go_quiet (fail)
            go_wp2
            go_roundw
            case rel => exact ⟨k + 1, by omega, by go_num, by simp [He.out], by (repeat' (first | with_reducible exact Below.refl _ _ | with_reducible assumption | with_reducible refine Below.drew ?_ | with_reducible refine below_drewN' ?_ _ | with_reducible refine Below.alloc ?_ ?_ _ | with_reducible refine Below.setCell ?_ ?_ _ | with_reducible refine below_step (by assumption) ?_ ?_ | omega | (simp; done) | (simp; omega)))⟩
            case measure => simp [intOf]; omega
      · have He := Lib.hid (H2.out h1)
        have hd1 : decide (D k + S k < F k) = false := by simpa using h1
        clear g1 g2 h1
        go_wp2
        go_quiet (fail)
        go_wp2
        go_quiet (fail)
        go_wp2
        go_roundw
        case rel => exact ⟨k + 1, by omega, by go_num, by simp [He.out], by (repeat' (first | with_reducible exact Below.refl _ _ | with_reducible assumption | with_reducible refine Below.drew ?_ | with_reducible refine below_drewN' ?_ _ | with_reducible refine Below.alloc ?_ ?_ _ | with_reducible refine Below.setCell ?_ ?_ _ | with_reducible refine below_step (by assumption) ?_ ?_ | omega | (simp; done) | (simp; omega)))⟩
        case measure => simp [intOf]; omega
    · obtain rfl : k = n := by omega
      go_wp2
      go_ret
      exact ⟨rfl, by (repeat' (first | with_reducible exact Below.refl _ _ | with_reducible assumption | with_reducible refine Below.drew ?_ | with_reducible refine below_drewN' ?_ _ | with_reducible refine Below.alloc ?_ ?_ _ | with_reducible refine Below.setCell ?_ ?_ _ | with_reducible refine below_step (by assumption) ?_ ?_ | omega | (simp; done) | (simp; omega)))⟩
end Go.Proofs.Ytlgbbfaeclaghaa
