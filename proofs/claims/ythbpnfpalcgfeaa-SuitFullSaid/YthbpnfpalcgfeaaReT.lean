/-
  The contract of triremeref04.Times.
-/
import Derived.Test.YthbpnfpalcgfeaaRes2
import Derived.Deep.QuietTactic
import Derived.StillTailTactics
namespace Go.Proofs.Ythbpnfpalcgfeaa
namespace Rs
set_option linter.unusedVariables false
set_option linter.unusedSimpArgs false
open Go.RowKit

def tok (x n : Int) : Prop := 0 < x → n ≤ 1125899906842624 / x
theorem tok_bd (x n : Int) (hx : 0 ≤ x) (hn : 0 ≤ n) (h : tok x n) : 0 ≤ x * n ∧ x * n ≤ 1125899906842624 := by
  refine ⟨Int.mul_nonneg hx hn, ?_⟩
  by_cases h0 : 0 < x
  · have := (Int.le_ediv_iff_mul_le h0).1 (h h0)
    rw [Int.mul_comm]; exact this
  · obtain rfl : x = 0 := by omega
    simp
open Classical in
noncomputable def timesE (a0 a1 a2 a3 a4 n : Int) : Int :=
  if rtB a0 a1 a2 a3 a4 = true ∧ 0 ≤ n then (if tok a0 n ∧ tok a1 n ∧ tok a2 n ∧ tok a3 n ∧ tok a4 n then 0 else 10) else 1

def tpr (k j : Nat) (a n : Int) : Int := if j < k then a * n else a

structure TInv (a0 a1 a2 a3 a4 n : Int) (P R k : Nat) (wr : World) : Prop where
  c0 : wr.cell? ⟨P, 0, none⟩ = some (.int .i64 (tpr k 0 a0 n))
  c1 : wr.cell? ⟨P, 1, none⟩ = some (.int .i64 (tpr k 1 a1 n))
  c2 : wr.cell? ⟨P, 2, none⟩ = some (.int .i64 (tpr k 2 a2 n))
  c3 : wr.cell? ⟨P, 3, none⟩ = some (.int .i64 (tpr k 3 a3 n))
  c4 : wr.cell? ⟨P, 4, none⟩ = some (.int .i64 (tpr k 4 a4 n))
  f : ∀ j, wr.frozen? ⟨P, j, none⟩ = false
  r0 : wr.cell? ⟨R, 0, none⟩ = some (.int .i64 0)
  r1 : wr.cell? ⟨R, 1, none⟩ = some (.int .i64 0)
  r2 : wr.cell? ⟨R, 2, none⟩ = some (.int .i64 0)
  r3 : wr.cell? ⟨R, 3, none⟩ = some (.int .i64 0)
  r4 : wr.cell? ⟨R, 4, none⟩ = some (.int .i64 0)
  g : ∀ j, wr.frozen? ⟨R, j, none⟩ = false
  sz : P < wr.heap.size
  sr : R < wr.heap.size

end Rs
end Go.Proofs.Ythbpnfpalcgfeaa
namespace Go.Proofs.Ythbpnfpalcgfeaa
namespace Rs
set_option linter.unusedVariables false
set_option linter.unusedSimpArgs false
open Go.RowKit

theorem tok_iff (x n : Int) (hx : 0 ≤ x) (hn : 0 < n) : tok x n ↔ x ≤ 1125899906842624 / n := by
  unfold tok
  rw [Int.le_ediv_iff_mul_le hn]
  constructor
  · intro h
    exact (tok_bd x n hx (by omega) h).2
  · intro h h0
    rw [Int.le_ediv_iff_mul_le h0, Int.mul_comm]; exact h

theorem tok_zero (x : Int) (hx : 0 ≤ x) : tok x 0 := fun h => Int.ediv_nonneg (by decide) hx

set_option maxRecDepth 100000 in
set_option maxHeartbeats 1000000 in
theorem reftimes_no (a0 a1 a2 a3 a4 n : Int) (w : World) (h : rtB a0 a1 a2 a3 a4 = false ∨ n < 0) :
    Calls Try.prog 30 #[.agg #[.int .i64 a0, .int .i64 a1, .int .i64 a2, .int .i64 a3, .int .i64 a4], .int .i64 n] w fun e w' => e = .returned (.tuple #[.agg #[.int .i64 0, .int .i64 0, .int .i64 0, .int .i64 0, .int .i64 0], .int .i64 1]) ∧ Below w.heap.size w w' := by
  cases ha : rtB a0 a1 a2 a3 a4
  · clear h
    go_enter Try.func30, Try.ntmps30
    go_wp2_with (go_at_call 18; refine (refright_any _ _ _ _ _ _).mono ?_; rintro e w1 ⟨rfl, hb1⟩; obtain ⟨hc1, hf1⟩ := bcell hb1; have hz1 := hb1.size; (try simp at hz1); (try have hza : w.heap.size < w1.heap.size := by omega); (try have hzb : w.heap.size + 1 < w1.heap.size := by omega); (try have hzc : w.heap.size + 1 + 1 < w1.heap.size := by omega); (try have hzd : w.heap.size + 1 + 1 + 1 < w1.heap.size := by omega))
    refine bodyPost_ret (v := .tuple #[.agg #[.int .i64 0, .int .i64 0, .int .i64 0, .int .i64 0, .int .i64 0], .int .i64 1]) (by simp [results, Try.results30, go_sem, *]) rfl ⟨rfl, ?_⟩; (repeat' (first | with_reducible exact Below.refl _ _ | with_reducible assumption | with_reducible refine Below.drew ?_ | with_reducible refine below_drewN' ?_ _ | with_reducible refine Below.alloc ?_ ?_ _ | with_reducible refine Below.setCell ?_ ?_ _ | with_reducible refine below_step (by assumption) ?_ ?_ | omega | (simp; done) | (simp; omega)))
  · have hb : n < 0 := by simpa [ha] using h
    clear h
    go_enter Try.func30, Try.ntmps30
    go_wp2_with (go_at_call 18; refine (refright_any _ _ _ _ _ _).mono ?_; rintro e w1 ⟨rfl, hb1⟩; obtain ⟨hc1, hf1⟩ := bcell hb1; have hz1 := hb1.size; (try simp at hz1); (try have hza : w.heap.size < w1.heap.size := by omega); (try have hzb : w.heap.size + 1 < w1.heap.size := by omega); (try have hzc : w.heap.size + 1 + 1 < w1.heap.size := by omega); (try have hzd : w.heap.size + 1 + 1 + 1 < w1.heap.size := by omega))
    refine bodyPost_ret (v := .tuple #[.agg #[.int .i64 0, .int .i64 0, .int .i64 0, .int .i64 0, .int .i64 0], .int .i64 1]) (by simp [results, Try.results30, go_sem, *]) rfl ⟨rfl, ?_⟩; (repeat' (first | with_reducible exact Below.refl _ _ | with_reducible assumption | with_reducible refine Below.drew ?_ | with_reducible refine below_drewN' ?_ _ | with_reducible refine Below.alloc ?_ ?_ _ | with_reducible refine Below.setCell ?_ ?_ _ | with_reducible refine below_step (by assumption) ?_ ?_ | omega | (simp; done) | (simp; omega)))

set_option maxRecDepth 100000 in
set_option maxHeartbeats 2000000 in
theorem reftimes_yes (a0 a1 a2 a3 a4 n : Int) (w : World) (ha : rtB a0 a1 a2 a3 a4 = true) (hn : 0 ≤ n) :
    Calls Try.prog 30 #[.agg #[.int .i64 a0, .int .i64 a1, .int .i64 a2, .int .i64 a3, .int .i64 a4], .int .i64 n] w fun e w' => e = .returned (.tuple #[.agg #[.int .i64 (sel (timesE a0 a1 a2 a3 a4 n) (a0 * n)), .int .i64 (sel (timesE a0 a1 a2 a3 a4 n) (a1 * n)), .int .i64 (sel (timesE a0 a1 a2 a3 a4 n) (a2 * n)), .int .i64 (sel (timesE a0 a1 a2 a3 a4 n) (a3 * n)), .int .i64 (sel (timesE a0 a1 a2 a3 a4 n) (a4 * n))], .int .i64 (timesE a0 a1 a2 a3 a4 n)]) ∧ Below w.heap.size w w' := by
  have He := Lib.hid (show timesE a0 a1 a2 a3 a4 n = _ from if_pos ⟨ha, hn⟩)
  obtain ⟨⟨al0, au0⟩, ⟨al1, au1⟩, ⟨al2, au2⟩, ⟨al3, au3⟩, ⟨al4, au4⟩⟩ := (rtB_iff _ _ _ _ _).1 ha
  go_enter Try.func30, Try.ntmps30
  go_wp2_with (go_at_call 18; refine (refright_any _ _ _ _ _ _).mono ?_; rintro e w1 ⟨rfl, hb1⟩; obtain ⟨hc1, hf1⟩ := bcell hb1; have hz1 := hb1.size; (try simp at hz1); (try have hza : w.heap.size < w1.heap.size := by omega); (try have hzb : w.heap.size + 1 < w1.heap.size := by omega); (try have hzc : w.heap.size + 1 + 1 < w1.heap.size := by omega); (try have hzd : w.heap.size + 1 + 1 + 1 < w1.heap.size := by omega))
  go_loopw [7] (fun i wr => ∃ k : Nat, k ≤ 5 ∧ i = .int .i64 k ∧ Below w.heap.size w wr ∧ TInv a0 a1 a2 a3 a4 n w1.heap.size (w.heap.size + 1) k wr ∧ ∀ j, j < k → tok (match j with | 0 => a0 | 1 => a1 | 2 => a2 | 3 => a3 | _ => a4) n) (fun i _ => 5 - (intOf i).toNat)
  case atStart =>
    refine ⟨0, by omega, rfl, by (repeat' (first | with_reducible exact Below.refl _ _ | with_reducible assumption | with_reducible refine Below.drew ?_ | with_reducible refine below_drewN' ?_ _ | with_reducible refine Below.alloc ?_ ?_ _ | with_reducible refine Below.setCell ?_ ?_ _ | with_reducible refine below_step (by assumption) ?_ ?_ | omega | (simp; done) | (simp; omega))), ?_, fun j hj => by omega⟩
    constructor <;> simp [go_sem, tpr, *]
  case round =>
    obtain ⟨k, hk, rfl, hB, hI, ht⟩ := hrel
    have HT := Lib.hid ht
    clear ht
    have hk5 : k = 0 ∨ k = 1 ∨ k = 2 ∨ k = 3 ∨ k = 4 ∨ k = 5 := by omega
    rcases hk5 with rfl | rfl | rfl | rfl | rfl | rfl
    · obtain ⟨c0, c1, c2, c3, c4, f, r0, r1, r2, r3, r4, g, sz, sr⟩ := hI
      simp [tpr] at c0 c1 c2 c3 c4
      by_cases h : 0 < n
      · by_cases h2 : a0 ≤ 1125899906842624 / n
        · have HK := Lib.hid ((tok_iff a0 n al0 h).2 h2)
          obtain ⟨b1, b2⟩ := tok_bd a0 n al0 hn HK.out
          go_wp2
          go_quiet (fail)
          go_wp2
          go_roundw
          case rel => exact ⟨0 + 1, by omega, rfl, by (repeat' (first | with_reducible exact Below.refl _ _ | with_reducible assumption | with_reducible refine Below.drew ?_ | with_reducible refine below_drewN' ?_ _ | with_reducible refine Below.alloc ?_ ?_ _ | with_reducible refine Below.setCell ?_ ?_ _ | with_reducible refine below_step (by assumption) ?_ ?_ | omega | (simp; done) | (simp; omega))), (by constructor <;> simp [go_sem, tpr, *]), fun j hj => (Nat.lt_succ_iff_lt_or_eq.1 hj).elim (HT.out j) (fun e => by subst e; exact HK.out)⟩
          case measure => simp [intOf]
        · have HK := Lib.hid (fun t => h2 ((tok_iff a0 n al0 h).1 t))
          have h3 : 1125899906842624 / n < a0 := by omega
          clear h2
          go_wp2
          go_quiet (fail)
          go_wp2
          have he : timesE a0 a1 a2 a3 a4 n = 10 := He.out.trans (if_neg (fun t => HK.out t.1))
          refine bodyPost_ret (v := .tuple #[.agg #[.int .i64 (sel (timesE a0 a1 a2 a3 a4 n) (a0 * n)), .int .i64 (sel (timesE a0 a1 a2 a3 a4 n) (a1 * n)), .int .i64 (sel (timesE a0 a1 a2 a3 a4 n) (a2 * n)), .int .i64 (sel (timesE a0 a1 a2 a3 a4 n) (a3 * n)), .int .i64 (sel (timesE a0 a1 a2 a3 a4 n) (a4 * n))], .int .i64 (timesE a0 a1 a2 a3 a4 n)]) (by simp [results, Try.results30, go_sem, *, sel]) rfl ⟨rfl, ?_⟩; (repeat' (first | with_reducible exact Below.refl _ _ | with_reducible assumption | with_reducible refine Below.drew ?_ | with_reducible refine below_drewN' ?_ _ | with_reducible refine Below.alloc ?_ ?_ _ | with_reducible refine Below.setCell ?_ ?_ _ | with_reducible refine below_step (by assumption) ?_ ?_ | omega | (simp; done) | (simp; omega)))
      · have HK : Hid (tok a0 n) := (show n = 0 by omega) ▸ tok_zero a0 al0
        obtain ⟨b1, b2⟩ := tok_bd a0 n al0 hn HK.out
        have hd : decide (0 < n) = false := by simpa using h
        go_wp2
        go_quiet (fail)
        go_wp2
        go_roundw
        case rel => exact ⟨0 + 1, by omega, rfl, by (repeat' (first | with_reducible exact Below.refl _ _ | with_reducible assumption | with_reducible refine Below.drew ?_ | with_reducible refine below_drewN' ?_ _ | with_reducible refine Below.alloc ?_ ?_ _ | with_reducible refine Below.setCell ?_ ?_ _ | with_reducible refine below_step (by assumption) ?_ ?_ | omega | (simp; done) | (simp; omega))), (by constructor <;> simp [go_sem, tpr, *]), fun j hj => (Nat.lt_succ_iff_lt_or_eq.1 hj).elim (HT.out j) (fun e => by subst e; exact HK.out)⟩
        case measure => simp [intOf]
    · obtain ⟨c0, c1, c2, c3, c4, f, r0, r1, r2, r3, r4, g, sz, sr⟩ := hI
      simp [tpr] at c0 c1 c2 c3 c4
      by_cases h : 0 < n
      · by_cases h2 : a1 ≤ 1125899906842624 / n
        · have HK := Lib.hid ((tok_iff a1 n al1 h).2 h2)
          obtain ⟨b1, b2⟩ := tok_bd a1 n al1 hn HK.out
          go_wp2
          go_quiet (fail)
          go_wp2
          go_roundw
          case rel => exact ⟨1 + 1, by omega, rfl, by (repeat' (first | with_reducible exact Below.refl _ _ | with_reducible assumption | with_reducible refine Below.drew ?_ | with_reducible refine below_drewN' ?_ _ | with_reducible refine Below.alloc ?_ ?_ _ | with_reducible refine Below.setCell ?_ ?_ _ | with_reducible refine below_step (by assumption) ?_ ?_ | omega | (simp; done) | (simp; omega))), (by constructor <;> simp [go_sem, tpr, *]), fun j hj => (Nat.lt_succ_iff_lt_or_eq.1 hj).elim (HT.out j) (fun e => by subst e; exact HK.out)⟩
          case measure => simp [intOf]
        · have HK := Lib.hid (fun t => h2 ((tok_iff a1 n al1 h).1 t))
          have h3 : 1125899906842624 / n < a1 := by omega
          clear h2
          go_wp2
          go_quiet (fail)
          go_wp2
          have he : timesE a0 a1 a2 a3 a4 n = 10 := He.out.trans (if_neg (fun t => HK.out t.2.1))
          refine bodyPost_ret (v := .tuple #[.agg #[.int .i64 (sel (timesE a0 a1 a2 a3 a4 n) (a0 * n)), .int .i64 (sel (timesE a0 a1 a2 a3 a4 n) (a1 * n)), .int .i64 (sel (timesE a0 a1 a2 a3 a4 n) (a2 * n)), .int .i64 (sel (timesE a0 a1 a2 a3 a4 n) (a3 * n)), .int .i64 (sel (timesE a0 a1 a2 a3 a4 n) (a4 * n))], .int .i64 (timesE a0 a1 a2 a3 a4 n)]) (by simp [results, Try.results30, go_sem, *, sel]) rfl ⟨rfl, ?_⟩; (repeat' (first | with_reducible exact Below.refl _ _ | with_reducible assumption | with_reducible refine Below.drew ?_ | with_reducible refine below_drewN' ?_ _ | with_reducible refine Below.alloc ?_ ?_ _ | with_reducible refine Below.setCell ?_ ?_ _ | with_reducible refine below_step (by assumption) ?_ ?_ | omega | (simp; done) | (simp; omega)))
      · have HK : Hid (tok a1 n) := (show n = 0 by omega) ▸ tok_zero a1 al1
        obtain ⟨b1, b2⟩ := tok_bd a1 n al1 hn HK.out
        have hd : decide (0 < n) = false := by simpa using h
        go_wp2
        go_quiet (fail)
        go_wp2
        go_roundw
        case rel => exact ⟨1 + 1, by omega, rfl, by (repeat' (first | with_reducible exact Below.refl _ _ | with_reducible assumption | with_reducible refine Below.drew ?_ | with_reducible refine below_drewN' ?_ _ | with_reducible refine Below.alloc ?_ ?_ _ | with_reducible refine Below.setCell ?_ ?_ _ | with_reducible refine below_step (by assumption) ?_ ?_ | omega | (simp; done) | (simp; omega))), (by constructor <;> simp [go_sem, tpr, *]), fun j hj => (Nat.lt_succ_iff_lt_or_eq.1 hj).elim (HT.out j) (fun e => by subst e; exact HK.out)⟩
        case measure => simp [intOf]
    · obtain ⟨c0, c1, c2, c3, c4, f, r0, r1, r2, r3, r4, g, sz, sr⟩ := hI
      simp [tpr] at c0 c1 c2 c3 c4
      by_cases h : 0 < n
      · by_cases h2 : a2 ≤ 1125899906842624 / n
        · have HK := Lib.hid ((tok_iff a2 n al2 h).2 h2)
          obtain ⟨b1, b2⟩ := tok_bd a2 n al2 hn HK.out
          go_wp2
          go_quiet (fail)
          go_wp2
          go_roundw
          case rel => exact ⟨2 + 1, by omega, rfl, by (repeat' (first | with_reducible exact Below.refl _ _ | with_reducible assumption | with_reducible refine Below.drew ?_ | with_reducible refine below_drewN' ?_ _ | with_reducible refine Below.alloc ?_ ?_ _ | with_reducible refine Below.setCell ?_ ?_ _ | with_reducible refine below_step (by assumption) ?_ ?_ | omega | (simp; done) | (simp; omega))), (by constructor <;> simp [go_sem, tpr, *]), fun j hj => (Nat.lt_succ_iff_lt_or_eq.1 hj).elim (HT.out j) (fun e => by subst e; exact HK.out)⟩
          case measure => simp [intOf]
        · have HK := Lib.hid (fun t => h2 ((tok_iff a2 n al2 h).1 t))
          have h3 : 1125899906842624 / n < a2 := by omega
          clear h2
          go_wp2
          go_quiet (fail)
          go_wp2
          have he : timesE a0 a1 a2 a3 a4 n = 10 := He.out.trans (if_neg (fun t => HK.out t.2.2.1))
          refine bodyPost_ret (v := .tuple #[.agg #[.int .i64 (sel (timesE a0 a1 a2 a3 a4 n) (a0 * n)), .int .i64 (sel (timesE a0 a1 a2 a3 a4 n) (a1 * n)), .int .i64 (sel (timesE a0 a1 a2 a3 a4 n) (a2 * n)), .int .i64 (sel (timesE a0 a1 a2 a3 a4 n) (a3 * n)), .int .i64 (sel (timesE a0 a1 a2 a3 a4 n) (a4 * n))], .int .i64 (timesE a0 a1 a2 a3 a4 n)]) (by simp [results, Try.results30, go_sem, *, sel]) rfl ⟨rfl, ?_⟩; (repeat' (first | with_reducible exact Below.refl _ _ | with_reducible assumption | with_reducible refine Below.drew ?_ | with_reducible refine below_drewN' ?_ _ | with_reducible refine Below.alloc ?_ ?_ _ | with_reducible refine Below.setCell ?_ ?_ _ | with_reducible refine below_step (by assumption) ?_ ?_ | omega | (simp; done) | (simp; omega)))
      · have HK : Hid (tok a2 n) := (show n = 0 by omega) ▸ tok_zero a2 al2
        obtain ⟨b1, b2⟩ := tok_bd a2 n al2 hn HK.out
        have hd : decide (0 < n) = false := by simpa using h
        go_wp2
        go_quiet (fail)
        go_wp2
        go_roundw
        case rel => exact ⟨2 + 1, by omega, rfl, by (repeat' (first | with_reducible exact Below.refl _ _ | with_reducible assumption | with_reducible refine Below.drew ?_ | with_reducible refine below_drewN' ?_ _ | with_reducible refine Below.alloc ?_ ?_ _ | with_reducible refine Below.setCell ?_ ?_ _ | with_reducible refine below_step (by assumption) ?_ ?_ | omega | (simp; done) | (simp; omega))), (by constructor <;> simp [go_sem, tpr, *]), fun j hj => (Nat.lt_succ_iff_lt_or_eq.1 hj).elim (HT.out j) (fun e => by subst e; exact HK.out)⟩
        case measure => simp [intOf]
    · obtain ⟨c0, c1, c2, c3, c4, f, r0, r1, r2, r3, r4, g, sz, sr⟩ := hI
      simp [tpr] at c0 c1 c2 c3 c4
      by_cases h : 0 < n
      · by_cases h2 : a3 ≤ 1125899906842624 / n
        · have HK := Lib.hid ((tok_iff a3 n al3 h).2 h2)
          obtain ⟨b1, b2⟩ := tok_bd a3 n al3 hn HK.out
          go_wp2
          go_quiet (fail)
          go_wp2
          go_roundw
          case rel => exact ⟨3 + 1, by omega, rfl, by (repeat' (first | with_reducible exact Below.refl _ _ | with_reducible assumption | with_reducible refine Below.drew ?_ | with_reducible refine below_drewN' ?_ _ | with_reducible refine Below.alloc ?_ ?_ _ | with_reducible refine Below.setCell ?_ ?_ _ | with_reducible refine below_step (by assumption) ?_ ?_ | omega | (simp; done) | (simp; omega))), (by constructor <;> simp [go_sem, tpr, *]), fun j hj => (Nat.lt_succ_iff_lt_or_eq.1 hj).elim (HT.out j) (fun e => by subst e; exact HK.out)⟩
          case measure => simp [intOf]
        · have HK := Lib.hid (fun t => h2 ((tok_iff a3 n al3 h).1 t))
          have h3 : 1125899906842624 / n < a3 := by omega
          clear h2
          go_wp2
          go_quiet (fail)
          go_wp2
          have he : timesE a0 a1 a2 a3 a4 n = 10 := He.out.trans (if_neg (fun t => HK.out t.2.2.2.1))
          refine bodyPost_ret (v := .tuple #[.agg #[.int .i64 (sel (timesE a0 a1 a2 a3 a4 n) (a0 * n)), .int .i64 (sel (timesE a0 a1 a2 a3 a4 n) (a1 * n)), .int .i64 (sel (timesE a0 a1 a2 a3 a4 n) (a2 * n)), .int .i64 (sel (timesE a0 a1 a2 a3 a4 n) (a3 * n)), .int .i64 (sel (timesE a0 a1 a2 a3 a4 n) (a4 * n))], .int .i64 (timesE a0 a1 a2 a3 a4 n)]) (by simp [results, Try.results30, go_sem, *, sel]) rfl ⟨rfl, ?_⟩; (repeat' (first | with_reducible exact Below.refl _ _ | with_reducible assumption | with_reducible refine Below.drew ?_ | with_reducible refine below_drewN' ?_ _ | with_reducible refine Below.alloc ?_ ?_ _ | with_reducible refine Below.setCell ?_ ?_ _ | with_reducible refine below_step (by assumption) ?_ ?_ | omega | (simp; done) | (simp; omega)))
      · have HK : Hid (tok a3 n) := (show n = 0 by omega) ▸ tok_zero a3 al3
        obtain ⟨b1, b2⟩ := tok_bd a3 n al3 hn HK.out
        have hd : decide (0 < n) = false := by simpa using h
        go_wp2
        go_quiet (fail)
        go_wp2
        go_roundw
        case rel => exact ⟨3 + 1, by omega, rfl, by (repeat' (first | with_reducible exact Below.refl _ _ | with_reducible assumption | with_reducible refine Below.drew ?_ | with_reducible refine below_drewN' ?_ _ | with_reducible refine Below.alloc ?_ ?_ _ | with_reducible refine Below.setCell ?_ ?_ _ | with_reducible refine below_step (by assumption) ?_ ?_ | omega | (simp; done) | (simp; omega))), (by constructor <;> simp [go_sem, tpr, *]), fun j hj => (Nat.lt_succ_iff_lt_or_eq.1 hj).elim (HT.out j) (fun e => by subst e; exact HK.out)⟩
        case measure => simp [intOf]
    · obtain ⟨c0, c1, c2, c3, c4, f, r0, r1, r2, r3, r4, g, sz, sr⟩ := hI
      simp [tpr] at c0 c1 c2 c3 c4
      by_cases h : 0 < n
      · by_cases h2 : a4 ≤ 1125899906842624 / n
        · have HK := Lib.hid ((tok_iff a4 n al4 h).2 h2)
          obtain ⟨b1, b2⟩ := tok_bd a4 n al4 hn HK.out
          go_wp2
          go_quiet (fail)
          go_wp2
          go_roundw
          case rel => exact ⟨4 + 1, by omega, rfl, by (repeat' (first | with_reducible exact Below.refl _ _ | with_reducible assumption | with_reducible refine Below.drew ?_ | with_reducible refine below_drewN' ?_ _ | with_reducible refine Below.alloc ?_ ?_ _ | with_reducible refine Below.setCell ?_ ?_ _ | with_reducible refine below_step (by assumption) ?_ ?_ | omega | (simp; done) | (simp; omega))), (by constructor <;> simp [go_sem, tpr, *]), fun j hj => (Nat.lt_succ_iff_lt_or_eq.1 hj).elim (HT.out j) (fun e => by subst e; exact HK.out)⟩
          case measure => simp [intOf]
        · have HK := Lib.hid (fun t => h2 ((tok_iff a4 n al4 h).1 t))
          have h3 : 1125899906842624 / n < a4 := by omega
          clear h2
          go_wp2
          go_quiet (fail)
          go_wp2
          have he : timesE a0 a1 a2 a3 a4 n = 10 := He.out.trans (if_neg (fun t => HK.out t.2.2.2.2))
          refine bodyPost_ret (v := .tuple #[.agg #[.int .i64 (sel (timesE a0 a1 a2 a3 a4 n) (a0 * n)), .int .i64 (sel (timesE a0 a1 a2 a3 a4 n) (a1 * n)), .int .i64 (sel (timesE a0 a1 a2 a3 a4 n) (a2 * n)), .int .i64 (sel (timesE a0 a1 a2 a3 a4 n) (a3 * n)), .int .i64 (sel (timesE a0 a1 a2 a3 a4 n) (a4 * n))], .int .i64 (timesE a0 a1 a2 a3 a4 n)]) (by simp [results, Try.results30, go_sem, *, sel]) rfl ⟨rfl, ?_⟩; (repeat' (first | with_reducible exact Below.refl _ _ | with_reducible assumption | with_reducible refine Below.drew ?_ | with_reducible refine below_drewN' ?_ _ | with_reducible refine Below.alloc ?_ ?_ _ | with_reducible refine Below.setCell ?_ ?_ _ | with_reducible refine below_step (by assumption) ?_ ?_ | omega | (simp; done) | (simp; omega)))
      · have HK : Hid (tok a4 n) := (show n = 0 by omega) ▸ tok_zero a4 al4
        obtain ⟨b1, b2⟩ := tok_bd a4 n al4 hn HK.out
        have hd : decide (0 < n) = false := by simpa using h
        go_wp2
        go_quiet (fail)
        go_wp2
        go_roundw
        case rel => exact ⟨4 + 1, by omega, rfl, by (repeat' (first | with_reducible exact Below.refl _ _ | with_reducible assumption | with_reducible refine Below.drew ?_ | with_reducible refine below_drewN' ?_ _ | with_reducible refine Below.alloc ?_ ?_ _ | with_reducible refine Below.setCell ?_ ?_ _ | with_reducible refine below_step (by assumption) ?_ ?_ | omega | (simp; done) | (simp; omega))), (by constructor <;> simp [go_sem, tpr, *]), fun j hj => (Nat.lt_succ_iff_lt_or_eq.1 hj).elim (HT.out j) (fun e => by subst e; exact HK.out)⟩
        case measure => simp [intOf]
    · obtain ⟨c0, c1, c2, c3, c4, f, r0, r1, r2, r3, r4, g, sz, sr⟩ := hI
      simp [tpr] at c0 c1 c2 c3 c4
      go_wp2
      go_still_tail 16, (by kernel_rfl)
      go_wp2
      have he : timesE a0 a1 a2 a3 a4 n = 0 := He.out.trans (if_pos ⟨HT.out 0 (by omega), HT.out 1 (by omega), HT.out 2 (by omega), HT.out 3 (by omega), HT.out 4 (by omega)⟩)
      refine bodyPost_ret (v := .tuple #[.agg #[.int .i64 (sel (timesE a0 a1 a2 a3 a4 n) (a0 * n)), .int .i64 (sel (timesE a0 a1 a2 a3 a4 n) (a1 * n)), .int .i64 (sel (timesE a0 a1 a2 a3 a4 n) (a2 * n)), .int .i64 (sel (timesE a0 a1 a2 a3 a4 n) (a3 * n)), .int .i64 (sel (timesE a0 a1 a2 a3 a4 n) (a4 * n))], .int .i64 (timesE a0 a1 a2 a3 a4 n)]) (by simp [results, Try.results30, go_sem, *, sel]) rfl ⟨rfl, ?_⟩; (repeat' (first | with_reducible exact Below.refl _ _ | with_reducible assumption | with_reducible refine Below.drew ?_ | with_reducible refine below_drewN' ?_ _ | with_reducible refine Below.alloc ?_ ?_ _ | with_reducible refine Below.setCell ?_ ?_ _ | with_reducible refine below_step (by assumption) ?_ ?_ | omega | (simp; done) | (simp; omega)))

theorem reftimes_any (a0 a1 a2 a3 a4 n : Int) (w : World) :
    Calls Try.prog 30 #[.agg #[.int .i64 a0, .int .i64 a1, .int .i64 a2, .int .i64 a3, .int .i64 a4], .int .i64 n] w fun e w' => e = .returned (.tuple #[.agg #[.int .i64 (sel (timesE a0 a1 a2 a3 a4 n) (a0 * n)), .int .i64 (sel (timesE a0 a1 a2 a3 a4 n) (a1 * n)), .int .i64 (sel (timesE a0 a1 a2 a3 a4 n) (a2 * n)), .int .i64 (sel (timesE a0 a1 a2 a3 a4 n) (a3 * n)), .int .i64 (sel (timesE a0 a1 a2 a3 a4 n) (a4 * n))], .int .i64 (timesE a0 a1 a2 a3 a4 n)]) ∧ Below w.heap.size w w' := by
  cases ha : rtB a0 a1 a2 a3 a4
  · have he : timesE a0 a1 a2 a3 a4 n = 1 := by simp [timesE, ha]
    rw [he]; exact reftimes_no a0 a1 a2 a3 a4 n w (Or.inl ha)
  by_cases hn : 0 ≤ n
  · exact reftimes_yes a0 a1 a2 a3 a4 n w ha hn
  · have he : timesE a0 a1 a2 a3 a4 n = 1 := by simp [timesE, hn]
    rw [he]; exact reftimes_no a0 a1 a2 a3 a4 n w (Or.inr (by omega))
end Rs
end Go.Proofs.Ythbpnfpalcgfeaa
