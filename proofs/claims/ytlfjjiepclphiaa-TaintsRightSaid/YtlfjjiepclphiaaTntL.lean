/-
  The contract of triremeref06.Light.
-/
import Derived.Test.YtlfjjiepclphiaaTntK
namespace Go.Proofs.Ytlfjjiepclphiaa
open Go.RowKit
set_option linter.unusedVariables false

def shortO (t : Tol) : Bool := decide (t.key.size ≤ 300 ∧ t.val.size ≤ 300)
def shortT (t : Tnt) : Bool := decide (t.key.size ≤ 300 ∧ t.val.size ≤ 300)
def lightB (l : List Tol) (xs : List Tnt) : Bool := decide (l.length ≤ 40 ∧ xs.length ≤ 40) && (l.all shortO && xs.all shortT)
theorem all_bad {α : Type} {P : α → Bool} {l : List α} {k : Nat} {x : α} (h : l[k]? = some x) (hp : P x = false) : l.all P = false := by
  rw [Bool.eq_false_iff]
  intro he
  have := List.all_eq_true.1 he x (List.mem_of_getElem? h)
  rw [hp] at this
  cases this
theorem all_take1 {α : Type} {P : α → Bool} {l : List α} {k : Nat} {x : α} (h : l[k]? = some x) (hp : P x = true) (ha : (l.take k).all P = true) : (l.take (k + 1)).all P = true := by
  rw [take_at h, List.all_append, ha]; simp [hp]
theorem all_done {α : Type} {P : α → Bool} {l : List α} {n : Nat} (h : l.length = n) (ha : (l.take n).all P = true) : l.all P = true := by
  rw [List.take_of_length_le (Nat.le_of_eq h)] at ha
  exact ha
theorem short_cases (a b : Nat) : (300 < a ∧ ¬ (a ≤ 300 ∧ b ≤ 300)) ∨ (a ≤ 300 ∧ 300 < b ∧ ¬ (a ≤ 300 ∧ b ≤ 300)) ∨ (a ≤ 300 ∧ b ≤ 300 ∧ (a ≤ 300 ∧ b ≤ 300)) := by omega

set_option maxRecDepth 100000 in
set_option maxHeartbeats 4000000 in
theorem light_any (a c : Option Addr) (ka kc : Nat) (l : List Tol) (xs : List Tnt) (w : World) (hD : TolsAt w a l) (hn : l.length ≤ maxLen) (hF : TntsAt w c xs) (hm : xs.length ≤ maxLen) :
    Calls Try.prog 8 #[.slice a l.length ka, .slice c xs.length kc] w fun e w' => e = .returned (.bool (lightB l xs)) ∧ Below w.heap.size w w' := by
  have HD := Lib.hid hD
  have HF := Lib.hid hF
  clear hD hF
  by_cases h40 : l.length ≤ 40 ∧ xs.length ≤ 40
  · have Hl := Lib.hid (show lightB l xs = (l.all shortO && xs.all shortT) by unfold lightB; rw [decide_eq_true h40]; rfl)
    obtain ⟨h1, h2⟩ := h40
    obtain ⟨m, hlm⟩ : ∃ m, l.length = m := ⟨_, rfl⟩
    rw [hlm] at h1 ⊢
    have Hlm := Lib.hid hlm
    clear hlm hn hm
    obtain ⟨n, hln⟩ : ∃ n, xs.length = n := ⟨_, rfl⟩
    rw [hln] at h2 ⊢
    have Hln := Lib.hid hln
    clear hln
    go_enter Try.func8, Try.ntmps8
    go_wp2
    go_loopw [5] (fun i wr => ∃ k : Nat, k ≤ m ∧ i = .int .i64 k ∧ (l.take k).all shortO = true ∧ Below w.heap.size w wr) (fun i _ => m - (intOf i).toNat)
    case atStart => exact ⟨0, by omega, rfl, rfl, by (repeat' (first | with_reducible exact Below.refl _ _ | with_reducible assumption | with_reducible refine Below.drew ?_ | with_reducible refine below_drewN' ?_ _ | with_reducible refine Below.alloc ?_ ?_ _ | with_reducible refine Below.setCell ?_ ?_ _ | with_reducible refine below_step (by assumption) ?_ ?_ | omega | (simp; done) | (simp; omega)))⟩
    case round =>
      obtain ⟨k, hk, rfl, hE, hB⟩ := hrel
      obtain ⟨hcB, hfB⟩ := bcell hB
      have hbz := hB.size
      have HE := Lib.hid hE
      clear hE
      by_cases hlt : k < m
      · obtain ⟨x, hx⟩ := mem_at (l := l) (k := k) (by rw [Hlm.out]; exact hlt)
        obtain ⟨b, off, rfl, hb, hc⟩ := HD.out (by rw [Hlm.out]; omega)
        have hbw : b < wr.heap.size := by omega
        obtain ⟨c0, c1, c2, c3⟩ := tol_cells (hc k x hx)
        have Hx := Lib.hid hx
        clear hc hx
        rcases short_cases x.key.size x.val.size with ⟨k1, hv⟩ | ⟨k1, k2, hv⟩ | ⟨k1, k2, hv⟩
        · have Hs := Lib.hid (show lightB l xs = false by rw [Hl.out, all_bad Hx.out (decide_eq_false hv)]; rfl)
          clear hv
          go_wp2
          go_ret
          exact ⟨by rw [Hs.out]; rfl, by (repeat' (first | with_reducible exact Below.refl _ _ | with_reducible assumption | with_reducible refine Below.drew ?_ | with_reducible refine below_drewN' ?_ _ | with_reducible refine Below.alloc ?_ ?_ _ | with_reducible refine Below.setCell ?_ ?_ _ | with_reducible refine below_step (by assumption) ?_ ?_ | omega | (simp; done) | (simp; omega)))⟩
        · have Hs := Lib.hid (show lightB l xs = false by rw [Hl.out, all_bad Hx.out (decide_eq_false hv)]; rfl)
          clear hv
          go_wp2
          go_ret
          exact ⟨by rw [Hs.out]; rfl, by (repeat' (first | with_reducible exact Below.refl _ _ | with_reducible assumption | with_reducible refine Below.drew ?_ | with_reducible refine below_drewN' ?_ _ | with_reducible refine Below.alloc ?_ ?_ _ | with_reducible refine Below.setCell ?_ ?_ _ | with_reducible refine below_step (by assumption) ?_ ?_ | omega | (simp; done) | (simp; omega)))⟩
        · have Hs := Lib.hid (all_take1 (P := shortO) Hx.out (decide_eq_true hv) HE.out)
          clear hv
          go_wp2
          go_roundw
          case rel => exact ⟨k + 1, by omega, by go_num, Hs.out, by (repeat' (first | with_reducible exact Below.refl _ _ | with_reducible assumption | with_reducible refine Below.drew ?_ | with_reducible refine below_drewN' ?_ _ | with_reducible refine Below.alloc ?_ ?_ _ | with_reducible refine Below.setCell ?_ ?_ _ | with_reducible refine below_step (by assumption) ?_ ?_ | omega | (simp; done) | (simp; omega)))⟩
          case measure => simp [intOf]; omega
      · obtain rfl : k = m := by omega
        have HA := Lib.hid (all_done Hlm.out HE.out)
        obtain ⟨w3, hw3⟩ : ∃ w3, w3 = wr := ⟨_, rfl⟩
        subst hw3
        go_wp2
        go_loopw [6] (fun i wr => ∃ k : Nat, k ≤ n ∧ i = .int .i64 k ∧ (xs.take k).all shortT = true ∧ Below w.heap.size w wr) (fun i _ => n - (intOf i).toNat)
        case atStart => exact ⟨0, by omega, rfl, rfl, by (repeat' (first | with_reducible exact Below.refl _ _ | with_reducible assumption | with_reducible refine Below.drew ?_ | with_reducible refine below_drewN' ?_ _ | with_reducible refine Below.alloc ?_ ?_ _ | with_reducible refine Below.setCell ?_ ?_ _ | with_reducible refine below_step (by assumption) ?_ ?_ | omega | (simp; done) | (simp; omega)))⟩
        case round =>
          obtain ⟨j, hj, rfl, hE, hC⟩ := hrel
          obtain ⟨hcC, hfC⟩ := bcell hC
          have hcz := hC.size
          have HE := Lib.hid hE
          clear hE
          by_cases hlj : j < n
          · obtain ⟨x, hx⟩ := mem_at (l := xs) (k := j) (by rw [Hln.out]; exact hlj)
            obtain ⟨b, off, rfl, hb, hc⟩ := HF.out (by rw [Hln.out]; omega)
            have hbw : b < wr.heap.size := by omega
            obtain ⟨c0, c1, c2⟩ := tnt_cells (hc j x hx)
            have Hx := Lib.hid hx
            clear hc hx
            rcases short_cases x.key.size x.val.size with ⟨k1, hv⟩ | ⟨k1, k2, hv⟩ | ⟨k1, k2, hv⟩
            · have Hs := Lib.hid (show lightB l xs = false by rw [Hl.out, HA.out, all_bad Hx.out (decide_eq_false hv)]; rfl)
              clear hv
              go_wp2
              go_ret
              exact ⟨by rw [Hs.out]; rfl, by (repeat' (first | with_reducible exact Below.refl _ _ | with_reducible assumption | with_reducible refine Below.drew ?_ | with_reducible refine below_drewN' ?_ _ | with_reducible refine Below.alloc ?_ ?_ _ | with_reducible refine Below.setCell ?_ ?_ _ | with_reducible refine below_step (by assumption) ?_ ?_ | omega | (simp; done) | (simp; omega)))⟩
            · have Hs := Lib.hid (show lightB l xs = false by rw [Hl.out, HA.out, all_bad Hx.out (decide_eq_false hv)]; rfl)
              clear hv
              go_wp2
              go_ret
              exact ⟨by rw [Hs.out]; rfl, by (repeat' (first | with_reducible exact Below.refl _ _ | with_reducible assumption | with_reducible refine Below.drew ?_ | with_reducible refine below_drewN' ?_ _ | with_reducible refine Below.alloc ?_ ?_ _ | with_reducible refine Below.setCell ?_ ?_ _ | with_reducible refine below_step (by assumption) ?_ ?_ | omega | (simp; done) | (simp; omega)))⟩
            · have Hs := Lib.hid (all_take1 (P := shortT) Hx.out (decide_eq_true hv) HE.out)
              clear hv
              go_wp2
              go_roundw
              case rel => exact ⟨j + 1, by omega, by go_num, Hs.out, by (repeat' (first | with_reducible exact Below.refl _ _ | with_reducible assumption | with_reducible refine Below.drew ?_ | with_reducible refine below_drewN' ?_ _ | with_reducible refine Below.alloc ?_ ?_ _ | with_reducible refine Below.setCell ?_ ?_ _ | with_reducible refine below_step (by assumption) ?_ ?_ | omega | (simp; done) | (simp; omega)))⟩
              case measure => simp [intOf]; omega
          · obtain rfl : j = n := by omega
            have Hs := Lib.hid (show lightB l xs = true by rw [Hl.out, HA.out, all_done Hln.out HE.out]; rfl)
            go_wp2
            go_ret
            exact ⟨by rw [Hs.out]; rfl, by (repeat' (first | with_reducible exact Below.refl _ _ | with_reducible assumption | with_reducible refine Below.drew ?_ | with_reducible refine below_drewN' ?_ _ | with_reducible refine Below.alloc ?_ ?_ _ | with_reducible refine Below.setCell ?_ ?_ _ | with_reducible refine below_step (by assumption) ?_ ?_ | omega | (simp; done) | (simp; omega)))⟩
  · have hr : lightB l xs = false := by unfold lightB; rw [decide_eq_false h40]; rfl
    rw [hr]
    clear hr
    unfold maxLen at hn hm
    by_cases h1 : 40 < l.length
    · go_enter Try.func8, Try.ntmps8
      go_wp2
      go_ret
      exact ⟨rfl, by (repeat' (first | with_reducible exact Below.refl _ _ | with_reducible assumption | with_reducible refine Below.drew ?_ | with_reducible refine below_drewN' ?_ _ | with_reducible refine Below.alloc ?_ ?_ _ | with_reducible refine Below.setCell ?_ ?_ _ | with_reducible refine below_step (by assumption) ?_ ?_ | omega | (simp; done) | (simp; omega)))⟩
    · have h2 : 40 < xs.length := by omega
      have h3 : l.length ≤ 40 := by omega
      go_enter Try.func8, Try.ntmps8
      go_wp2
      go_ret
      exact ⟨rfl, by (repeat' (first | with_reducible exact Below.refl _ _ | with_reducible assumption | with_reducible refine Below.drew ?_ | with_reducible refine below_drewN' ?_ _ | with_reducible refine Below.alloc ?_ ?_ _ | with_reducible refine Below.setCell ?_ ?_ _ | with_reducible refine below_step (by assumption) ?_ ?_ | omega | (simp; done) | (simp; omega)))⟩
end Go.Proofs.Ytlfjjiepclphiaa
