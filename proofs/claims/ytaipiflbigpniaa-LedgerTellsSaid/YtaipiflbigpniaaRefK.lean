/-
  The contracts of triremeref06.Light and triremeref04.Right, where the layers' own texts do not stand.
-/
import Derived.Test.YtaipiflbigpniaaRefR
namespace Go.Proofs.Ytaipiflbigpniaa
open Go.RowKit
set_option linter.unusedVariables false
set_option linter.unusedSimpArgs false

set_option maxRecDepth 100000 in
set_option maxHeartbeats 4000000 in
theorem light_any (a c : Option Addr) (ka kc : Nat) (l : List Tol) (xs : List Tnt) (w : World) (hD : TolsAt w a l) (hn : l.length ≤ maxLen) (hF : TntsAt w c xs) (hm : xs.length ≤ maxLen) :
    Calls Try.prog 35 #[.slice a l.length ka, .slice c xs.length kc] w fun e w' => e = .returned (.bool (lightB l xs)) ∧ Below w.heap.size w w' := by
  have HD := Lib.hid hD
  have HF := Lib.hid hF
  clear hD hF
  by_cases h40 : l.length ≤ 40 ∧ xs.length ≤ 40
  · have Hl := Lib.hid (show lightB l xs = (l.all shortO && xs.all shortT) by unfold lightB; rw [decide_eq_true h40]; rfl)
    obtain ⟨h1, h2⟩ := h40
    obtain ⟨m, hlm⟩ : ∃ m, l.length = m := ⟨_, rfl⟩
    rw [hlm] at h1 ⊢
    have Hlm := Lib.hid hlm
    clear hlm hn hm
    obtain ⟨n, hln⟩ : ∃ n, xs.length = n := ⟨_, rfl⟩
    rw [hln] at h2 ⊢
    have Hln := Lib.hid hln
    clear hln
    go_enter Try.func35, Try.ntmps35
    go_wp2
    go_loopw [5] (fun i wr => ∃ k : Nat, k ≤ m ∧ i = .int .i64 k ∧ (l.take k).all shortO = true ∧ Below w.heap.size w wr) (fun i _ => m - (intOf i).toNat)
    case atStart => exact ⟨0, by omega, rfl, rfl, by (repeat' (first | with_reducible exact Below.refl _ _ | with_reducible assumption | with_reducible refine Below.drew ?_ | with_reducible refine below_drewN' ?_ _ | with_reducible refine Below.alloc ?_ ?_ _ | with_reducible refine Below.setCell ?_ ?_ _ | with_reducible refine below_step (by assumption) ?_ ?_ | omega | (simp; done) | (simp; omega)))⟩
    case round =>
      obtain ⟨k, hk, rfl, hE, hB⟩ := hrel
      obtain ⟨hcB, hfB⟩ := bcell hB
      have hbz := hB.size
      have HE := Lib.hid hE
      clear hE
      by_cases hlt : k < m
      · obtain ⟨x, hx⟩ := mem_at (l := l) (k := k) (by rw [Hlm.out]; exact hlt)
        obtain ⟨b, off, rfl, hb, hc⟩ := HD.out (by rw [Hlm.out]; omega)
        have hbw : b < wr.heap.size := by omega
        obtain ⟨c0, c1, c2, c3⟩ := tol_cells (hc k x hx)
        have Hx := Lib.hid hx
        clear hc hx
        rcases short_cases x.key.size x.val.size with ⟨k1, hv⟩ | ⟨k1, k2, hv⟩ | ⟨k1, k2, hv⟩
        · have Hs := Lib.hid (show lightB l xs = false by rw [Hl.out, all_bad Hx.out (decide_eq_false hv)]; rfl)
          clear hv
          go_wp2
          go_ret
          exact ⟨by rw [Hs.out]; rfl, by (repeat' (first | with_reducible exact Below.refl _ _ | with_reducible assumption | with_reducible refine Below.drew ?_ | with_reducible refine below_drewN' ?_ _ | with_reducible refine Below.alloc ?_ ?_ _ | with_reducible refine Below.setCell ?_ ?_ _ | with_reducible refine below_step (by assumption) ?_ ?_ | omega | (simp; done) | (simp; omega)))⟩
        · have Hs := Lib.hid (show lightB l xs = false by rw [Hl.out, all_bad Hx.out (decide_eq_false hv)]; rfl)
          clear hv
          go_wp2
          go_ret
          exact ⟨by rw [Hs.out]; rfl, by (repeat' (first | with_reducible exact Below.refl _ _ | with_reducible assumption | with_reducible refine Below.drew ?_ | with_reducible refine below_drewN' ?_ _ | with_reducible refine Below.alloc ?_ ?_ _ | with_reducible refine Below.setCell ?_ ?_ _ | with_reducible refine below_step (by assumption) ?_ ?_ | omega | (simp; done) | (simp; omega)))⟩
        · have Hs := Lib.hid (all_take1 (P := shortO) Hx.out (decide_eq_true hv) HE.out)
          clear hv
          go_wp2
          go_roundw
          case rel => exact ⟨k + 1, by omega, by go_num, Hs.out, by (repeat' (first | with_reducible exact Below.refl _ _ | with_reducible assumption | with_reducible refine Below.drew ?_ | with_reducible refine below_drewN' ?_ _ | with_reducible refine Below.alloc ?_ ?_ _ | with_reducible refine Below.setCell ?_ ?_ _ | with_reducible refine below_step (by assumption) ?_ ?_ | omega | (simp; done) | (simp; omega)))⟩
          case measure => simp [intOf]; omega
      · obtain rfl : k = m := by omega
        have HA := Lib.hid (all_done Hlm.out HE.out)
        obtain ⟨w3, hw3⟩ : ∃ w3, w3 = wr := ⟨_, rfl⟩
        subst hw3
        go_wp2
        go_loopw [6] (fun i wr => ∃ k : Nat, k ≤ n ∧ i = .int .i64 k ∧ (xs.take k).all shortT = true ∧ Below w.heap.size w wr) (fun i _ => n - (intOf i).toNat)
        case atStart => exact ⟨0, by omega, rfl, rfl, by (repeat' (first | with_reducible exact Below.refl _ _ | with_reducible assumption | with_reducible refine Below.drew ?_ | with_reducible refine below_drewN' ?_ _ | with_reducible refine Below.alloc ?_ ?_ _ | with_reducible refine Below.setCell ?_ ?_ _ | with_reducible refine below_step (by assumption) ?_ ?_ | omega | (simp; done) | (simp; omega)))⟩
        case round =>
          obtain ⟨j, hj, rfl, hE, hC⟩ := hrel
          obtain ⟨hcC, hfC⟩ := bcell hC
          have hcz := hC.size
          have HE := Lib.hid hE
          clear hE
          by_cases hlj : j < n
          · obtain ⟨x, hx⟩ := mem_at (l := xs) (k := j) (by rw [Hln.out]; exact hlj)
            obtain ⟨b, off, rfl, hb, hc⟩ := HF.out (by rw [Hln.out]; omega)
            have hbw : b < wr.heap.size := by omega
            obtain ⟨c0, c1, c2⟩ := tnt_cells (hc j x hx)
            have Hx := Lib.hid hx
            clear hc hx
            rcases short_cases x.key.size x.val.size with ⟨k1, hv⟩ | ⟨k1, k2, hv⟩ | ⟨k1, k2, hv⟩
            · have Hs := Lib.hid (show lightB l xs = false by rw [Hl.out, HA.out, all_bad Hx.out (decide_eq_false hv)]; rfl)
              clear hv
              go_wp2
              go_ret
              exact ⟨by rw [Hs.out]; rfl, by (repeat' (first | with_reducible exact Below.refl _ _ | with_reducible assumption | with_reducible refine Below.drew ?_ | with_reducible refine below_drewN' ?_ _ | with_reducible refine Below.alloc ?_ ?_ _ | with_reducible refine Below.setCell ?_ ?_ _ | with_reducible refine below_step (by assumption) ?_ ?_ | omega | (simp; done) | (simp; omega)))⟩
            · have Hs := Lib.hid (show lightB l xs = false by rw [Hl.out, HA.out, all_bad Hx.out (decide_eq_false hv)]; rfl)
              clear hv
              go_wp2
              go_ret
              exact ⟨by rw [Hs.out]; rfl, by (repeat' (first | with_reducible exact Below.refl _ _ | with_reducible assumption | with_reducible refine Below.drew ?_ | with_reducible refine below_drewN' ?_ _ | with_reducible refine Below.alloc ?_ ?_ _ | with_reducible refine Below.setCell ?_ ?_ _ | with_reducible refine below_step (by assumption) ?_ ?_ | omega | (simp; done) | (simp; omega)))⟩
            · have Hs := Lib.hid (all_take1 (P := shortT) Hx.out (decide_eq_true hv) HE.out)
              clear hv
              go_wp2
              go_roundw
              case rel => exact ⟨j + 1, by omega, by go_num, Hs.out, by (repeat' (first | with_reducible exact Below.refl _ _ | with_reducible assumption | with_reducible refine Below.drew ?_ | with_reducible refine below_drewN' ?_ _ | with_reducible refine Below.alloc ?_ ?_ _ | with_reducible refine Below.setCell ?_ ?_ _ | with_reducible refine below_step (by assumption) ?_ ?_ | omega | (simp; done) | (simp; omega)))⟩
              case measure => simp [intOf]; omega
          · obtain rfl : j = n := by omega
            have Hs := Lib.hid (show lightB l xs = true by rw [Hl.out, HA.out, all_done Hln.out HE.out]; rfl)
            go_wp2
            go_ret
            exact ⟨by rw [Hs.out]; rfl, by (repeat' (first | with_reducible exact Below.refl _ _ | with_reducible assumption | with_reducible refine Below.drew ?_ | with_reducible refine below_drewN' ?_ _ | with_reducible refine Below.alloc ?_ ?_ _ | with_reducible refine Below.setCell ?_ ?_ _ | with_reducible refine below_step (by assumption) ?_ ?_ | omega | (simp; done) | (simp; omega)))⟩
  · have hr : lightB l xs = false := by unfold lightB; rw [decide_eq_false h40]; rfl
    rw [hr]
    clear hr
    unfold maxLen at hn hm
    by_cases h1 : 40 < l.length
    · go_enter Try.func35, Try.ntmps35
      go_wp2
      go_ret
      exact ⟨rfl, by (repeat' (first | with_reducible exact Below.refl _ _ | with_reducible assumption | with_reducible refine Below.drew ?_ | with_reducible refine below_drewN' ?_ _ | with_reducible refine Below.alloc ?_ ?_ _ | with_reducible refine Below.setCell ?_ ?_ _ | with_reducible refine below_step (by assumption) ?_ ?_ | omega | (simp; done) | (simp; omega)))⟩
    · have h2 : 40 < xs.length := by omega
      have h3 : l.length ≤ 40 := by omega
      go_enter Try.func35, Try.ntmps35
      go_wp2
      go_ret
      exact ⟨rfl, by (repeat' (first | with_reducible exact Below.refl _ _ | with_reducible assumption | with_reducible refine Below.drew ?_ | with_reducible refine below_drewN' ?_ _ | with_reducible refine Below.alloc ?_ ?_ _ | with_reducible refine Below.setCell ?_ ?_ _ | with_reducible refine below_step (by assumption) ?_ ?_ | omega | (simp; done) | (simp; omega)))⟩

def okB (n : Int) : Bool := decide (0 ≤ n ∧ n ≤ 1125899906842624)
def rtB (a0 a1 a2 a3 a4 : Int) : Bool := okB a0 && okB a1 && okB a2 && okB a3 && okB a4
theorem rtB_iff (a0 a1 a2 a3 a4 : Int) : rtB a0 a1 a2 a3 a4 = true ↔ (0 ≤ a0 ∧ a0 ≤ 1125899906842624) ∧ (0 ≤ a1 ∧ a1 ≤ 1125899906842624) ∧ (0 ≤ a2 ∧ a2 ≤ 1125899906842624) ∧ (0 ≤ a3 ∧ a3 ≤ 1125899906842624) ∧ (0 ≤ a4 ∧ a4 ≤ 1125899906842624) := by
  simp [rtB, okB]; omega
set_option maxHeartbeats 400000 in
theorem refone_any (n : Int) (w : World) :
    Calls Try.prog 57 #[.int .i64 n] w fun e w' => e = .returned (.bool (okB n)) ∧ w = w' := by
  by_cases h : 0 ≤ n
  · go_enter Try.func57, Try.ntmps57
    go_wp2
    go_ret
    exact ⟨by simp [okB, h], rfl⟩
  · have h' : n < 0 := by omega
    go_enter Try.func57, Try.ntmps57
    go_wp2
    go_ret
    exact ⟨by simp [okB]; omega, rfl⟩
set_option maxHeartbeats 4000000 in
theorem refright_any (a0 a1 a2 a3 a4 : Int) (w : World) :
    Calls Try.prog 47 #[.agg #[.int .i64 a0, .int .i64 a1, .int .i64 a2, .int .i64 a3, .int .i64 a4]] w fun e w' => e = .returned (.bool (rtB a0 a1 a2 a3 a4)) ∧ Below w.heap.size w w' := by
  cases h0 : okB a0
  all_goals cases h1 : okB a1
  all_goals cases h2 : okB a2
  all_goals cases h3 : okB a3
  all_goals cases h4 : okB a4
  all_goals
    go_enter Try.func47, Try.ntmps47
    go_wp2_with (go_at_call 57; refine (refone_any _ _).mono ?_; rintro e w1 ⟨rfl, rfl⟩)
    go_ret
    exact ⟨by simp [rtB, h0, h1, h2, h3, h4], by (repeat' (first | with_reducible exact Below.refl _ _ | with_reducible assumption | with_reducible refine Below.drew ?_ | with_reducible refine below_drewN' ?_ _ | with_reducible refine Below.alloc ?_ ?_ _ | with_reducible refine Below.setCell ?_ ?_ _ | with_reducible refine below_step (by assumption) ?_ ?_ | omega | (simp; done) | (simp; omega)))⟩
end Go.Proofs.Ytaipiflbigpniaa
