/-
  Lists of events that are the same; light ones.
-/
import Derived.Test.YtaehcnoendieaaaDoorTcM
import Derived.Deep.QuietTactic
namespace Go.Proofs.YtaehcnoendieaaaDoor
open Go.RowKit
set_option linter.unusedVariables false
set_option linter.unusedSimpArgs false

theorem guard_ev (op : BinOp) (x y : Operand) (xs ys : Array Value) (w : World) : (eqGuard op 39 x y (.agg xs) (.agg ys)).run Tryd.prog w = .ok () w := run_eqGuard_agg w op _ x y xs ys (by kernel_rfl)
theorem neq_ev (a d : Int) (b c : ByteArray) (w : World) : (binOp .neq 39 (.agg #[.int .i64 a, .string b, .string c, .int .i64 d]) (.agg #[.int .i64 a, .string b, .string c, .int .i64 d])).run Tryd.prog w = .ok (.bool false) w := by
  have hus := Tryd.underlying9
  have has := Tryd.isAgg9
  have hzs := Tryd.sizeOf9
  have hui := Tryd.underlying3
  have hai := Tryd.isAgg3
  have hzi := Tryd.sizeOf3
  have hS : Tryd.prog.underlying 39 = some (.struct (Tryd.prog.fieldsOf 39)) := by kernel_rfl
  have hp : Tryd.prog.stoodInHeld 39 = false := by kernel_rfl
  rw [run_neq_struct, show (10000 : Nat) = 9999 + 1 from rfl, run_equalIn_agg w 9999 39 _ _ hS hp]
  simp only [Program.fieldsOf, Tryd.underlying39]
  go_simp
theorem guard_pv (op : BinOp) (x y : Operand) (xs ys : Array Value) (w : World) : (eqGuard op 37 x y (.agg xs) (.agg ys)).run Tryd.prog w = .ok () w := run_eqGuard_agg w op _ x y xs ys (by kernel_rfl)
theorem eql_pv (a d : Int) (b c : ByteArray) (w : World) : (binOp .eql 37 (.agg #[.int .i64 a, .string b, .string c, .int .i64 d]) (.agg #[.int .i64 a, .string b, .string c, .int .i64 d])).run Tryd.prog w = .ok (.bool true) w := by
  have hus := Tryd.underlying9
  have has := Tryd.isAgg9
  have hzs := Tryd.sizeOf9
  have hui := Tryd.underlying3
  have hai := Tryd.isAgg3
  have hzi := Tryd.sizeOf3
  have hS : Tryd.prog.underlying 37 = some (.struct (Tryd.prog.fieldsOf 37)) := by kernel_rfl
  have hp : Tryd.prog.stoodInHeld 37 = false := by kernel_rfl
  rw [run_eql_struct, show (10000 : Nat) = 9999 + 1 from rfl, run_equalIn_agg w 9999 37 _ _ hS hp]
  simp only [Program.fieldsOf, Tryd.underlying37]
  go_simp
set_option maxRecDepth 100000 in
set_option maxHeartbeats 2000000 in
theorem same_any (a b : Option Addr) (ka kb n : Nat) (l : List Ev) (w : World) (hF : EvL w a l) (hG : EvL w b l) (hl : l.length = n) (hn : n ≤ 1000000) :
    Calls Tryd.prog 10 #[.slice a n ka, .slice b n kb] w fun e w' => e = .returned (.bool true) ∧ Below w.heap.size w w' := by
  have HF := Lib.hid hF
  have HG := Lib.hid hG
  have Hl := Lib.hid hl
  clear hF hG hl
  have hg := guard_ev
  have k0 : ((n : Int) != n) = false := by simp
  go_enter Tryd.func10, Tryd.ntmps10
  go_wp2
  go_loopw [5] (fun i wr => ∃ k : Nat, k ≤ n ∧ i = .int .i64 k ∧ Below w.heap.size w wr) (fun i _ => n - (intOf i).toNat)
  case atStart => exact ⟨0, by omega, rfl, by (repeat' (first | with_reducible exact Below.refl _ _ | with_reducible assumption | with_reducible refine Below.drew ?_ | with_reducible refine below_drewN' ?_ _ | with_reducible refine Below.alloc ?_ ?_ _ | with_reducible refine Below.setCell ?_ ?_ _ | with_reducible refine below_step (by assumption) ?_ ?_ | omega | (simp; done) | (simp; omega)))⟩
  case round =>
    obtain ⟨k, hk, rfl, hB⟩ := hrel
    obtain ⟨hcB, hfB⟩ := bcell hB
    have hbz := hB.size
    by_cases hlt : k < n
    · obtain ⟨x, hx⟩ := mem_at (l := l) (k := k) (by rw [Hl.out]; exact hlt)
      obtain ⟨b1, o1, rfl, hb1, hc1⟩ := HF.out (by rw [Hl.out]; omega)
      obtain ⟨b2, o2, rfl, hb2, hc2⟩ := HG.out (by rw [Hl.out]; omega)
      have hbw1 : b1 < wr.heap.size := by omega
      have hbw2 : b2 < wr.heap.size := by omega
      obtain ⟨d0, d1, d2, d3⟩ := ev_cells (hc1 k x hx)
      obtain ⟨f0, f1, f2, f3⟩ := ev_cells (hc2 k x hx)
      obtain ⟨xa, xb, xc, xd⟩ := x
      have hq := neq_ev xa xd xb xc
      clear hc1 hc2 hx
      go_wp2
      go_quiet (fail)
      go_wp2
      go_roundw
      case rel => exact ⟨k + 1, by omega, by go_num, by (repeat' (first | with_reducible exact Below.refl _ _ | with_reducible assumption | with_reducible refine Below.drew ?_ | with_reducible refine below_drewN' ?_ _ | with_reducible refine Below.alloc ?_ ?_ _ | with_reducible refine Below.setCell ?_ ?_ _ | with_reducible refine below_step (by assumption) ?_ ?_ | omega | (simp; done) | (simp; omega)))⟩
      case measure => simp [intOf]; omega
    · go_wp2
      go_ret
      exact ⟨rfl, by (repeat' (first | with_reducible exact Below.refl _ _ | with_reducible assumption | with_reducible refine Below.drew ?_ | with_reducible refine below_drewN' ?_ _ | with_reducible refine Below.alloc ?_ ?_ _ | with_reducible refine Below.setCell ?_ ?_ _ | with_reducible refine below_step (by assumption) ?_ ?_ | omega | (simp; done) | (simp; omega)))⟩
def lightB (l : List Ev) : Bool := decide (l.length ≤ 60) && l.all fun e => decide (e.what.size ≤ 100 ∧ e.name.size ≤ 300)
theorem light_short {l : List Ev} (h : lightB l = true) : l.length ≤ 60 ∧ ∀ e ∈ l, ShortE e := by
  unfold lightB at h
  rw [Bool.and_eq_true, decide_eq_true_iff, List.all_eq_true] at h
  refine ⟨h.1, fun e he => ?_⟩
  have := of_decide_eq_true (h.2 e he)
  exact ⟨by omega, by omega⟩
set_option maxRecDepth 100000 in
set_option maxHeartbeats 4000000 in
theorem light_any (l : List Ev) (a : Option Addr) (c : Nat) (w : World) (hF : EvL w a l) (hl : l.length ≤ maxLen) :
    Calls Tryd.prog 12 #[.slice a l.length c] w fun e w' => e = .returned (.bool (lightB l)) ∧ Below w.heap.size w w' := by
  obtain ⟨n, hn⟩ : ∃ n, l.length = n := ⟨_, rfl⟩
  have HN := Lib.hid hn
  have HF := Lib.hid hF
  obtain ⟨R, hR⟩ : ∃ R, lightB l = R := ⟨_, rfl⟩
  have hE : (decide (n ≤ 60) && l.all fun e => decide (e.what.size ≤ 100 ∧ e.name.size ≤ 300)) = R := by rw [← hR, ← hn]; rfl
  rw [hR]
  rw [hn] at hl ⊢
  clear hn hF hR
  by_cases h60 : n ≤ 60
  · have g0 : decide (60 < (n : Int)) = false := decide_eq_false (by omega)
    rw [decide_eq_true h60, Bool.true_and] at hE
    have HE := Lib.hid hE
    clear hE hl
    go_enter Tryd.func12, Tryd.ntmps12
    go_wp2
    go_loopw [3] (fun i wr => ∃ k : Nat, k ≤ n ∧ i = .int .i64 k ∧ ((l.take k).all fun e => decide (e.what.size ≤ 100 ∧ e.name.size ≤ 300)) = true ∧ wr = w) (fun i _ => n - (intOf i).toNat)
    case atStart => exact ⟨0, by omega, rfl, rfl, rfl⟩
    case round =>
      obtain ⟨k, hk, rfl, hA, rfl⟩ := hrel
      have HA := Lib.hid hA
      clear hA
      by_cases hlt : k < n
      · obtain ⟨x, hx⟩ := mem_at (l := l) (k := k) (by rw [HN.out]; exact hlt)
        obtain ⟨b1, o1, rfl, hb1, hc1⟩ := HF.out (by rw [HN.out]; omega)
        obtain ⟨d0, d1, d2, d3⟩ := ev_cells (hc1 k x hx)
        have HX := Lib.hid hx
        clear hc1 hx
        by_cases q1 : x.what.size ≤ 100
        · have e1 : decide (100 < (x.what.size : Int)) = false := decide_eq_false (by omega)
          by_cases q2 : x.name.size ≤ 300
          · have e2 : decide (300 < (x.name.size : Int)) = false := decide_eq_false (by omega)
            have Hs := Lib.hid (all_take1 (P := fun e : Ev => decide (e.what.size ≤ 100 ∧ e.name.size ≤ 300)) HX.out (decide_eq_true ⟨q1, q2⟩) HA.out)
            clear q1 q2
            go_wp2
            go_roundw
            case rel => exact ⟨k + 1, by omega, by go_num, Hs.out, by trivial⟩
            case measure => simp [intOf]; omega
          · have e2 : decide (300 < (x.name.size : Int)) = true := decide_eq_true (by omega)
            obtain rfl : R = false := HE.out.symm.trans (all_bad HX.out (decide_eq_false fun h => q2 h.2))
            clear q1 q2
            go_wp2
            go_ret
            exact ⟨rfl, Below.refl _ _⟩
        · have e1 : decide (100 < (x.what.size : Int)) = true := decide_eq_true (by omega)
          obtain rfl : R = false := HE.out.symm.trans (all_bad HX.out (decide_eq_false fun h => q1 h.1))
          clear q1
          go_wp2
          go_ret
          exact ⟨rfl, Below.refl _ _⟩
      · obtain rfl : k = n := by omega
        obtain rfl : R = true := HE.out.symm.trans (all_done HN.out HA.out)
        go_wp2
        go_ret
        exact ⟨rfl, Below.refl _ _⟩
  · have g0 : decide (60 < (n : Int)) = true := decide_eq_true (by omega)
    obtain rfl : R = false := by rw [← hE, decide_eq_false h60]; rfl
    clear hE h60 hl
    go_enter Tryd.func12, Tryd.ntmps12
    go_wp2
    go_ret
    exact ⟨rfl, Below.refl _ _⟩
end Go.Proofs.YtaehcnoendieaaaDoor
