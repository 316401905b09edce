/-
  Labels: the contract of slices.Equal at them.
-/
import Derived.Test.YtlgbbfaeclaghaaSim5
import Derived.Laws.StructEq
namespace Go.Proofs.Ytlgbbfaeclaghaa
open Go.RowKit
set_option linter.unusedVariables false

/-- The labels that a slice of length n holds. -/
def LabsAt (w : World) (a : Option Addr) (n : Nat) (D : Nat → ByteArray × ByteArray) : Prop :=
  0 < n → ∃ b off, a = some ⟨b, off, none⟩ ∧ b < w.heap.size ∧ ∀ i, i < n → w.cell? ⟨b, off + i * 2, none⟩ = some (.string (D i).1) ∧ w.cell? ⟨b, off + i * 2 + 1, none⟩ = some (.string (D i).2)

theorem toList_inj (a b : ByteArray) : a.toList = b.toList ↔ a = b := by
  rw [ByteArray.toList_eq, ByteArray.toList_eq]
  exact ⟨fun h => ByteArray.ext (Array.toList_inj.mp h), fun h => by rw [h]⟩

theorem guard_lab (op : BinOp) (x y : Operand) (xs ys : Array Value) (w : World) : (eqGuard op 44 x y (.agg xs) (.agg ys)).run Try.prog w = .ok () w := run_eqGuard_agg w op _ x y xs ys (by kernel_rfl)

theorem neq_lab (x y : ByteArray × ByteArray) (w : World) : (binOp .neq 44 (.agg #[.string x.1, .string x.2]) (.agg #[.string y.1, .string y.2])).run Try.prog w = .ok (.bool (!decide (x = y))) w := by
  have hus := Try.underlying9
  have has := Try.isAgg9
  have hzs := Try.sizeOf9
  have hS : Try.prog.underlying 44 = some (.struct (Try.prog.fieldsOf 44)) := by kernel_rfl
  have hp : Try.prog.stoodInHeld 44 = false := by kernel_rfl
  rw [run_neq_struct, show (10000 : Nat) = 9999 + 1 from rfl, run_equalIn_agg w 9999 44 _ _ hS hp]
  simp only [Program.fieldsOf, Try.underlying44]
  go_simp
  obtain ⟨x1, x2⟩ := x
  obtain ⟨y1, y2⟩ := y
  by_cases h1 : x1 = y1 <;> by_cases h2 : x2 = y2 <;> simp [h1, h2, Prod.ext_iff, toList_inj]

set_option maxRecDepth 100000 in
set_option maxHeartbeats 2000000 in
theorem eqlabs_any (a c : Option Addr) (n m ka kc : Nat) (D F : Nat → ByteArray × ByteArray) (w : World) (hD : LabsAt w a n D) (hF : LabsAt w c m F) (hn : n ≤ 1000000) (hm : m ≤ 1000000) :
    Calls Try.prog 22 #[.slice a n ka, .slice c m kc] w fun e w' => e = .returned (.bool (decide (n = m ∧ ∀ i, i < n → D i = F i))) ∧ Below w.heap.size w w' := by
  by_cases h : n = m
  · subst h
    rw [show (decide (n = n ∧ ∀ i, i < n → D i = F i)) = decide (∀ i, i < n → D i = F i) by simp]
    have HD := Lib.hid hD
    have HF := Lib.hid hF
    clear hD hF
    go_enter Try.func22, Try.ntmps22
    go_wp2
    go_loopw [13] (fun i wr => ∃ k : Nat, k ≤ n ∧ i = .int .i64 k ∧ Below w.heap.size w wr ∧ ∀ j, j < k → D j = F j) (fun i _ => n - (intOf i).toNat)
    case atStart => exact ⟨0, by omega, rfl, by (repeat' (first | with_reducible exact Below.refl _ _ | with_reducible assumption | with_reducible refine Below.drew ?_ | with_reducible refine below_drewN' ?_ _ | with_reducible refine Below.alloc ?_ ?_ _ | with_reducible refine Below.setCell ?_ ?_ _ | with_reducible refine below_step (by assumption) ?_ ?_ | omega | (simp; done) | (simp; omega))), fun j hj => by omega⟩
    case round =>
      obtain ⟨k, hk, rfl, hB, hE⟩ := hrel
      obtain ⟨hcB, hfB⟩ := bcell hB
      have HE := Lib.hid hE
      clear hE
      by_cases hlt : k < n
      · obtain ⟨b, off, rfl, hb, hc⟩ := HD.out (by omega)
        obtain ⟨b2, off2, rfl, hb2, hc2⟩ := HF.out (by omega)
        have hbw : b < wr.heap.size := by have := hB.size; omega
        have hbw2 : b2 < wr.heap.size := by have := hB.size; omega
        obtain ⟨c1, c2⟩ := hc k hlt
        obtain ⟨c3, c4⟩ := hc2 k hlt
        clear hc hc2
        have hg := guard_lab
        have hq := neq_lab (D k) (F k)
        by_cases hne : D k = F k
        · have hd : decide (D k = F k) = true := by simpa using hne
          rw [hd] at hq
          go_wp2
          go_quiet (fail)
          go_wp2
          go_roundw
          case rel => exact ⟨k + 1, by omega, by go_num, by (repeat' (first | with_reducible exact Below.refl _ _ | with_reducible assumption | with_reducible refine Below.drew ?_ | with_reducible refine below_drewN' ?_ _ | with_reducible refine Below.alloc ?_ ?_ _ | with_reducible refine Below.setCell ?_ ?_ _ | with_reducible refine below_step (by assumption) ?_ ?_ | omega | (simp; done) | (simp; omega))), fun j hj => (Nat.lt_succ_iff_lt_or_eq.1 hj).elim (HE.out j) (fun e => e ▸ hne)⟩
          case measure => simp [intOf]; omega
        · have hd : decide (D k = F k) = false := by simpa using hne
          rw [hd] at hq
          have HH := Lib.hid hne
          clear hne
          go_wp2
          go_quiet (fail)
          go_wp2
          go_ret
          exact ⟨by rw [decide_eq_false (fun h => HH.out (h k hlt))]; rfl, by (repeat' (first | with_reducible exact Below.refl _ _ | with_reducible assumption | with_reducible refine Below.drew ?_ | with_reducible refine below_drewN' ?_ _ | with_reducible refine Below.alloc ?_ ?_ _ | with_reducible refine Below.setCell ?_ ?_ _ | with_reducible refine below_step (by assumption) ?_ ?_ | omega | (simp; done) | (simp; omega)))⟩
      · obtain rfl : k = n := by omega
        go_wp2
        go_ret
        exact ⟨by rw [decide_eq_true HE.out]; rfl, by (repeat' (first | with_reducible exact Below.refl _ _ | with_reducible assumption | with_reducible refine Below.drew ?_ | with_reducible refine below_drewN' ?_ _ | with_reducible refine Below.alloc ?_ ?_ _ | with_reducible refine Below.setCell ?_ ?_ _ | with_reducible refine below_step (by assumption) ?_ ?_ | omega | (simp; done) | (simp; omega)))⟩
  · have hd : ((n : Int) != (m : Int)) = true := by simp; omega
    have He := Lib.hid (show decide (n = m ∧ ∀ i, i < n → D i = F i) = false from decide_eq_false (fun t => h t.1))
    clear h
    go_enter Try.func22, Try.ntmps22
    go_wp2
    go_ret
    exact ⟨by rw [He.out]; rfl, by (repeat' (first | with_reducible exact Below.refl _ _ | with_reducible assumption | with_reducible refine Below.drew ?_ | with_reducible refine below_drewN' ?_ _ | with_reducible refine Below.alloc ?_ ?_ _ | with_reducible refine Below.setCell ?_ ?_ _ | with_reducible refine below_step (by assumption) ?_ ?_ | omega | (simp; done) | (simp; omega)))⟩

set_option maxRecDepth 100000 in
set_option maxHeartbeats 2000000 in
theorem samelabs_any (a c : Option Addr) (n m ka kc : Nat) (D F : Nat → ByteArray × ByteArray) (w : World) (hD : LabsAt w a n D) (hF : LabsAt w c m F) (hn : n ≤ 1000000) (hm : m ≤ 1000000) :
    Calls Try.prog 25 #[.slice a n ka, .slice c m kc] w fun e w' => e = .returned (.bool (decide (n = m ∧ ∀ i, i < n → D i = F i))) ∧ Below w.heap.size w w' := by
  by_cases h : n = m
  · subst h
    rw [show (decide (n = n ∧ ∀ i, i < n → D i = F i)) = decide (∀ i, i < n → D i = F i) by simp]
    have HD := Lib.hid hD
    have HF := Lib.hid hF
    clear hD hF
    go_enter Try.func25, Try.ntmps25
    go_wp2
    go_loopw [5] (fun i wr => ∃ k : Nat, k ≤ n ∧ i = .int .i64 k ∧ Below w.heap.size w wr ∧ ∀ j, j < k → D j = F j) (fun i _ => n - (intOf i).toNat)
    case atStart => exact ⟨0, by omega, rfl, by (repeat' (first | with_reducible exact Below.refl _ _ | with_reducible assumption | with_reducible refine Below.drew ?_ | with_reducible refine below_drewN' ?_ _ | with_reducible refine Below.alloc ?_ ?_ _ | with_reducible refine Below.setCell ?_ ?_ _ | with_reducible refine below_step (by assumption) ?_ ?_ | omega | (simp; done) | (simp; omega))), fun j hj => by omega⟩
    case round =>
      obtain ⟨k, hk, rfl, hB, hE⟩ := hrel
      obtain ⟨hcB, hfB⟩ := bcell hB
      have HE := Lib.hid hE
      clear hE
      by_cases hlt : k < n
      · obtain ⟨b, off, rfl, hb, hc⟩ := HD.out (by omega)
        obtain ⟨b2, off2, rfl, hb2, hc2⟩ := HF.out (by omega)
        have hbw : b < wr.heap.size := by have := hB.size; omega
        have hbw2 : b2 < wr.heap.size := by have := hB.size; omega
        obtain ⟨c1, c2⟩ := hc k hlt
        obtain ⟨c3, c4⟩ := hc2 k hlt
        clear hc hc2
        have hg := guard_lab
        have hq := neq_lab (D k) (F k)
        by_cases hne : D k = F k
        · have hd : decide (D k = F k) = true := by simpa using hne
          rw [hd] at hq
          go_wp2
          go_quiet (fail)
          go_wp2
          go_roundw
          case rel => exact ⟨k + 1, by omega, by go_num, by (repeat' (first | with_reducible exact Below.refl _ _ | with_reducible assumption | with_reducible refine Below.drew ?_ | with_reducible refine below_drewN' ?_ _ | with_reducible refine Below.alloc ?_ ?_ _ | with_reducible refine Below.setCell ?_ ?_ _ | with_reducible refine below_step (by assumption) ?_ ?_ | omega | (simp; done) | (simp; omega))), fun j hj => (Nat.lt_succ_iff_lt_or_eq.1 hj).elim (HE.out j) (fun e => e ▸ hne)⟩
          case measure => simp [intOf]; omega
        · have hd : decide (D k = F k) = false := by simpa using hne
          rw [hd] at hq
          have HH := Lib.hid hne
          clear hne
          go_wp2
          go_quiet (fail)
          go_wp2
          go_ret
          exact ⟨by rw [decide_eq_false (fun h => HH.out (h k hlt))]; rfl, by (repeat' (first | with_reducible exact Below.refl _ _ | with_reducible assumption | with_reducible refine Below.drew ?_ | with_reducible refine below_drewN' ?_ _ | with_reducible refine Below.alloc ?_ ?_ _ | with_reducible refine Below.setCell ?_ ?_ _ | with_reducible refine below_step (by assumption) ?_ ?_ | omega | (simp; done) | (simp; omega)))⟩
      · obtain rfl : k = n := by omega
        go_wp2
        go_ret
        exact ⟨by rw [decide_eq_true HE.out]; rfl, by (repeat' (first | with_reducible exact Below.refl _ _ | with_reducible assumption | with_reducible refine Below.drew ?_ | with_reducible refine below_drewN' ?_ _ | with_reducible refine Below.alloc ?_ ?_ _ | with_reducible refine Below.setCell ?_ ?_ _ | with_reducible refine below_step (by assumption) ?_ ?_ | omega | (simp; done) | (simp; omega)))⟩
  · have hd : ((n : Int) != (m : Int)) = true := by simp; omega
    have He := Lib.hid (show decide (n = m ∧ ∀ i, i < n → D i = F i) = false from decide_eq_false (fun t => h t.1))
    clear h
    go_enter Try.func25, Try.ntmps25
    go_wp2
    go_ret
    exact ⟨by rw [He.out]; rfl, by (repeat' (first | with_reducible exact Below.refl _ _ | with_reducible assumption | with_reducible refine Below.drew ?_ | with_reducible refine below_drewN' ?_ _ | with_reducible refine Below.alloc ?_ ?_ _ | with_reducible refine Below.setCell ?_ ?_ _ | with_reducible refine below_step (by assumption) ?_ ?_ | omega | (simp; done) | (simp; omega)))⟩
end Go.Proofs.Ytlgbbfaeclaghaa
