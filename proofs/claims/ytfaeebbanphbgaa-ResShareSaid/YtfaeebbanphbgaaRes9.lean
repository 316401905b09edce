/-
  The contract of triremeref04.How.
-/
import Derived.Test.YtfaeebbanphbgaaRes4
import Derived.Test.YtfaeebbanphbgaaRes6
import Derived.Test.YtfaeebbanphbgaaRes8
namespace Go.Proofs.Ytfaeebbanphbgaa
open Go.RowKit

theorem howS_le (n a b m : Int) : m ≤ howS n a b ↔ m ≤ n ∧ (0 < a → m ≤ b / a) := by
  unfold howS
  by_cases h : 0 < a
  · rw [if_pos h]
    have := minI_le n (b / a)
    constructor
    · intro h1; exact ⟨by omega, fun _ => by omega⟩
    · intro ⟨h1, h2⟩; have := h2 h; omega
  · rw [if_neg h]; exact ⟨fun h1 => ⟨h1, fun h2 => absurd h2 h⟩, fun h1 => h1.1⟩

theorem quo_iff (a b m : Int) (hb : 0 ≤ b) (ha : 0 ≤ a) : (0 < a → m ≤ b / a) ↔ a * m ≤ b := by
  constructor
  · intro h
    by_cases h0 : 0 < a
    · have := (Int.le_ediv_iff_mul_le h0).1 (h h0); rw [Int.mul_comm]; exact this
    · obtain rfl : a = 0 := by omega
      simpa using hb
  · intro h h0
    rw [Int.le_ediv_iff_mul_le h0, Int.mul_comm]; exact h

theorem lesB_iff (a0 a1 a2 a3 a4 b0 b1 b2 b3 b4 : Int) : lesB a0 a1 a2 a3 a4 b0 b1 b2 b3 b4 = true ↔ rtB a0 a1 a2 a3 a4 = true ∧ rtB b0 b1 b2 b3 b4 = true ∧ a0 ≤ b0 ∧ a1 ≤ b1 ∧ a2 ≤ b2 ∧ a3 ≤ b3 ∧ a4 ≤ b4 := by
  simp only [lesB, Bool.and_eq_true, decide_eq_true_eq, and_assoc]

theorem how_iff (a0 a1 a2 a3 a4 b0 b1 b2 b3 b4 m : Int) (ha : rtB a0 a1 a2 a3 a4 = true) (hb : rtB b0 b1 b2 b3 b4 = true) (hm : 0 ≤ m) :
    m ≤ howF a0 a1 a2 a3 a4 b0 b1 b2 b3 b4 ↔ m ≤ 400 ∧ timesE a0 a1 a2 a3 a4 m = 0 ∧ lesB (a0 * m) (a1 * m) (a2 * m) (a3 * m) (a4 * m) b0 b1 b2 b3 b4 = true := by
  obtain ⟨⟨al0, au0⟩, ⟨al1, au1⟩, ⟨al2, au2⟩, ⟨al3, au3⟩, ⟨al4, au4⟩⟩ := (rtB_iff _ _ _ _ _).1 ha
  obtain ⟨⟨bl0, bu0⟩, ⟨bl1, bu1⟩, ⟨bl2, bu2⟩, ⟨bl3, bu3⟩, ⟨bl4, bu4⟩⟩ := (rtB_iff _ _ _ _ _).1 hb
  rw [show howF a0 a1 a2 a3 a4 b0 b1 b2 b3 b4 = _ from if_pos ⟨ha, hb⟩]
  show m ≤ howS (howS (howS (howS (howS 400 a0 b0) a1 b1) a2 b2) a3 b3) a4 b4 ↔ _
  rw [howS_le _ _ _ _, howS_le _ _ _ _, howS_le _ _ _ _, howS_le _ _ _ _, howS_le _ _ _ _, quo_iff _ _ _ bl0 al0, quo_iff _ _ _ bl1 al1, quo_iff _ _ _ bl2 al2, quo_iff _ _ _ bl3 al3, quo_iff _ _ _ bl4 al4]
  have key : ∀ x y : Int, 0 ≤ x → y ≤ 1125899906842624 → x * m ≤ y → tok x m := by
    intro x y hx hy h h0
    rw [Int.le_ediv_iff_mul_le h0, Int.mul_comm]; omega
  have n0 := Int.mul_nonneg al0 hm
  have n1 := Int.mul_nonneg al1 hm
  have n2 := Int.mul_nonneg al2 hm
  have n3 := Int.mul_nonneg al3 hm
  have n4 := Int.mul_nonneg al4 hm
  constructor
  · intro ⟨⟨⟨⟨⟨h, e0⟩, e1⟩, e2⟩, e3⟩, e4⟩
    refine ⟨h, ?_, ?_⟩
    · rw [show timesE a0 a1 a2 a3 a4 m = _ from if_pos ⟨ha, hm⟩]
      exact if_pos ⟨key _ _ al0 bu0 e0, key _ _ al1 bu1 e1, key _ _ al2 bu2 e2, key _ _ al3 bu3 e3, key _ _ al4 bu4 e4⟩
    · exact (lesB_iff _ _ _ _ _ _ _ _ _ _).2 ⟨(rtB_iff _ _ _ _ _).2 (by omega), hb, e0, e1, e2, e3, e4⟩
  · intro ⟨h, _, e⟩
    obtain ⟨_, _, e0, e1, e2, e3, e4⟩ := (lesB_iff _ _ _ _ _ _ _ _ _ _).1 e
    exact ⟨⟨⟨⟨⟨h, e0⟩, e1⟩, e2⟩, e3⟩, e4⟩

theorem how_zero (a0 a1 a2 a3 a4 b0 b1 b2 b3 b4 : Int) (ha : rtB a0 a1 a2 a3 a4 = true) (hb : rtB b0 b1 b2 b3 b4 = true) : 0 ≤ howF a0 a1 a2 a3 a4 b0 b1 b2 b3 b4 ∧ howF a0 a1 a2 a3 a4 b0 b1 b2 b3 b4 ≤ 400 := by
  refine ⟨?_, ((how_iff a0 a1 a2 a3 a4 b0 b1 b2 b3 b4 (howF a0 a1 a2 a3 a4 b0 b1 b2 b3 b4) ha hb ?_).1 (Int.le_refl _)).1⟩
  all_goals
    refine (how_iff a0 a1 a2 a3 a4 b0 b1 b2 b3 b4 0 ha hb (Int.le_refl _)).2 ⟨by decide, ?_, ?_⟩
    · obtain ⟨⟨al0, au0⟩, ⟨al1, au1⟩, ⟨al2, au2⟩, ⟨al3, au3⟩, ⟨al4, au4⟩⟩ := (rtB_iff _ _ _ _ _).1 ha
      rw [show timesE a0 a1 a2 a3 a4 0 = _ from if_pos ⟨ha, Int.le_refl _⟩]
      exact if_pos ⟨tok_zero _ al0, tok_zero _ al1, tok_zero _ al2, tok_zero _ al3, tok_zero _ al4⟩
    · have := (rtB_iff _ _ _ _ _).1 hb
      simp only [Int.mul_zero]
      exact (lesB_iff _ _ _ _ _ _ _ _ _ _).2 ⟨(rtB_iff _ _ _ _ _).2 (by omega), hb, by omega⟩

structure HInv (a0 a1 a2 a3 a4 b0 b1 b2 b3 b4 : Int) (A : Nat) (wr : World) : Prop where
  a0 : wr.cell? ⟨A, 0, none⟩ = some (.int .i64 a0)
  a1 : wr.cell? ⟨A, 1, none⟩ = some (.int .i64 a1)
  a2 : wr.cell? ⟨A, 2, none⟩ = some (.int .i64 a2)
  a3 : wr.cell? ⟨A, 3, none⟩ = some (.int .i64 a3)
  a4 : wr.cell? ⟨A, 4, none⟩ = some (.int .i64 a4)
  b0 : wr.cell? ⟨A + 1, 0, none⟩ = some (.int .i64 b0)
  b1 : wr.cell? ⟨A + 1, 1, none⟩ = some (.int .i64 b1)
  b2 : wr.cell? ⟨A + 1, 2, none⟩ = some (.int .i64 b2)
  b3 : wr.cell? ⟨A + 1, 3, none⟩ = some (.int .i64 b3)
  b4 : wr.cell? ⟨A + 1, 4, none⟩ = some (.int .i64 b4)
  sz : A < wr.heap.size
  sr : A + 1 < wr.heap.size

set_option maxRecDepth 100000 in
set_option maxHeartbeats 2000000 in
theorem refhow_any (a0 a1 a2 a3 a4 b0 b1 b2 b3 b4 : Int) (w : World) :
    Calls Try.prog 24 #[.agg #[.int .i64 a0, .int .i64 a1, .int .i64 a2, .int .i64 a3, .int .i64 a4], .agg #[.int .i64 b0, .int .i64 b1, .int .i64 b2, .int .i64 b3, .int .i64 b4]] w fun e w' => e = .returned (.int .i64 (howF a0 a1 a2 a3 a4 b0 b1 b2 b3 b4)) ∧ Below w.heap.size w w' := by
  cases ha : rtB a0 a1 a2 a3 a4
  · have he : howF a0 a1 a2 a3 a4 b0 b1 b2 b3 b4 = 0 := by simp [howF, ha]
    rw [he]
    go_enter Try.func24, Try.ntmps24
    go_wp2_with (go_at_call 17; refine (refright_any _ _ _ _ _ _).mono ?_; rintro e w1 ⟨rfl, hb1⟩; obtain ⟨hc1, hf1⟩ := bcell hb1; have hz1 := hb1.size; (try simp at hz1); (try have hza : w.heap.size < w1.heap.size := by omega); (try have hzb : w.heap.size + 1 < w1.heap.size := by omega); (try have hzc : w.heap.size + 1 + 1 < w1.heap.size := by omega); (try have hzd : w.heap.size + 1 + 1 + 1 < w1.heap.size := by omega))
    go_ret
    exact ⟨rfl, by (repeat' (first | with_reducible exact Below.refl _ _ | with_reducible assumption | with_reducible refine Below.drew ?_ | with_reducible refine below_drewN' ?_ _ | with_reducible refine Below.alloc ?_ ?_ _ | with_reducible refine Below.setCell ?_ ?_ _ | with_reducible refine below_step (by assumption) ?_ ?_ | omega | (simp; done) | (simp; omega)))⟩
  cases hb : rtB b0 b1 b2 b3 b4
  · have he : howF a0 a1 a2 a3 a4 b0 b1 b2 b3 b4 = 0 := by simp [howF, hb]
    rw [he]
    go_enter Try.func24, Try.ntmps24
    go_wp2_with (go_at_call 17; refine (refright_any _ _ _ _ _ _).mono ?_; rintro e w1 ⟨rfl, hb1⟩; obtain ⟨hc1, hf1⟩ := bcell hb1; have hz1 := hb1.size; (try simp at hz1); (try have hza : w.heap.size < w1.heap.size := by omega); (try have hzb : w.heap.size + 1 < w1.heap.size := by omega); (try have hzc : w.heap.size + 1 + 1 < w1.heap.size := by omega); (try have hzd : w.heap.size + 1 + 1 + 1 < w1.heap.size := by omega))
    go_ret
    exact ⟨rfl, by (repeat' (first | with_reducible exact Below.refl _ _ | with_reducible assumption | with_reducible refine Below.drew ?_ | with_reducible refine below_drewN' ?_ _ | with_reducible refine Below.alloc ?_ ?_ _ | with_reducible refine Below.setCell ?_ ?_ _ | with_reducible refine below_step (by assumption) ?_ ?_ | omega | (simp; done) | (simp; omega)))⟩
  · have H0 := Lib.hid (how_zero a0 a1 a2 a3 a4 b0 b1 b2 b3 b4 ha hb)
    have HI := Lib.hid (fun m hm => how_iff a0 a1 a2 a3 a4 b0 b1 b2 b3 b4 m ha hb hm)
    obtain ⟨H, HH⟩ : ∃ H : Nat, howF a0 a1 a2 a3 a4 b0 b1 b2 b3 b4 = H := ⟨(howF a0 a1 a2 a3 a4 b0 b1 b2 b3 b4).toNat, by have := H0.out.1; omega⟩
    have hH4 : H ≤ 400 := by have := H0.out.2; omega
    have HH := Lib.hid HH
    go_enter Try.func24, Try.ntmps24
    go_wp2_with (go_at_call 17; refine (refright_any _ _ _ _ _ _).mono ?_; rintro e w1 ⟨rfl, hb1⟩; obtain ⟨hc1, hf1⟩ := bcell hb1; have hz1 := hb1.size; (try simp at hz1); (try have hza : w.heap.size < w1.heap.size := by omega); (try have hzb : w.heap.size + 1 < w1.heap.size := by omega); (try have hzc : w.heap.size + 1 + 1 < w1.heap.size := by omega); (try have hzd : w.heap.size + 1 + 1 + 1 < w1.heap.size := by omega))
    go_loopw [5] (fun n wr => ∃ k : Nat, n = .int .i64 k ∧ k ≤ H ∧ Below w.heap.size w wr ∧ HInv a0 a1 a2 a3 a4 b0 b1 b2 b3 b4 w.heap.size wr) (fun n _ => 400 - (intOf n).toNat)
    case atStart =>
      refine ⟨0, rfl, by omega, by (repeat' (first | with_reducible exact Below.refl _ _ | with_reducible assumption | with_reducible refine Below.drew ?_ | with_reducible refine below_drewN' ?_ _ | with_reducible refine Below.alloc ?_ ?_ _ | with_reducible refine Below.setCell ?_ ?_ _ | with_reducible refine below_step (by assumption) ?_ ?_ | omega | (simp; done) | (simp; omega))), ?_⟩
      constructor <;> simp [go_sem, *]
    case round =>
      obtain ⟨k, rfl, hk, hB, hI⟩ := hrel
      obtain ⟨ca0, ca1, ca2, ca3, ca4, cb0, cb1, cb2, cb3, cb4, sz, sr⟩ := hI
      by_cases h4 : k < 400
      · have hs0 := sel_0
        by_cases e : timesE a0 a1 a2 a3 a4 ((k : Int) + 1) = 0
        · cases f : lesB (a0 * ((k : Int) + 1)) (a1 * ((k : Int) + 1)) (a2 * ((k : Int) + 1)) (a3 * ((k : Int) + 1)) (a4 * ((k : Int) + 1)) b0 b1 b2 b3 b4
          · have hlt : Hid (H = k) := by
              have h1 : ¬ ((k : Int) + 1 ≤ howF a0 a1 a2 a3 a4 b0 b1 b2 b3 b4) := fun h => by
                have := ((HI.out _ (by omega)).1 h).2.2; rw [f] at this; cases this
              rw [HH.out] at h1
              show H = k
              omega
            go_wp2_with (first | (go_at_call 15; go_must (refine (reftimes_any _ _ _ _ _ _ _).mono ?_); go_must (rintro e w2 ⟨rfl, hb2⟩); go_must (obtain ⟨hc2, hf2⟩ := bcell hb2); go_must (have hz2 := hb2.size);  go_must (have hz3 : w.heap.size < w2.heap.size := by omega); go_must (have hz4 : w.heap.size + 1 < w2.heap.size := by omega)) | (go_at_call 20; refine (reffits_any _ _ _ _ _ _ _ _ _ _ _).mono ?_; rintro e w2 ⟨rfl, hb2⟩))
            go_ret
            exact ⟨by rw [HH.out, hlt.out]; rfl, by (repeat' (first | with_reducible exact Below.refl _ _ | with_reducible assumption | with_reducible refine Below.drew ?_ | with_reducible refine below_drewN' ?_ _ | with_reducible refine Below.alloc ?_ ?_ _ | with_reducible refine Below.setCell ?_ ?_ _ | with_reducible refine below_step (by assumption) ?_ ?_ | omega | (simp; done) | (simp; omega)))⟩
          · have hlt : k + 1 ≤ H := by
              have h1 := (HI.out ((k : Int) + 1) (by omega)).2 ⟨by omega, e, f⟩
              rw [HH.out] at h1
              omega
            go_wp2_with (first | (go_at_call 15; go_must (refine (reftimes_any _ _ _ _ _ _ _).mono ?_); go_must (rintro e w2 ⟨rfl, hb2⟩); go_must (obtain ⟨hc2, hf2⟩ := bcell hb2); go_must (have hz2 := hb2.size);  go_must (have hz3 : w.heap.size < w2.heap.size := by omega); go_must (have hz4 : w.heap.size + 1 < w2.heap.size := by omega)) | (go_at_call 20; refine (reffits_any _ _ _ _ _ _ _ _ _ _ _).mono ?_; rintro e w3 ⟨rfl, hb3⟩; obtain ⟨hc3, hf3⟩ := bcell hb3; have hz5 := hb3.size; (try simp at hz5)))
            go_roundw
            case rel => exact ⟨k + 1, by go_num, by omega, by (repeat' (first | with_reducible exact Below.refl _ _ | with_reducible assumption | with_reducible refine Below.drew ?_ | with_reducible refine below_drewN' ?_ _ | with_reducible refine Below.alloc ?_ ?_ _ | with_reducible refine Below.setCell ?_ ?_ _ | with_reducible refine below_step (by assumption) ?_ ?_ | omega | (simp; done) | (simp; omega))), (by constructor <;> first | omega | simp [go_sem, *])⟩
            case measure => simp [intOf]; omega
        · have hne : (timesE a0 a1 a2 a3 a4 ((k : Int) + 1) != 0) = true := by rw [bne_iff_ne]; exact e
          have hlt : Hid (H = k) := by
              have h1 : ¬ ((k : Int) + 1 ≤ howF a0 a1 a2 a3 a4 b0 b1 b2 b3 b4) := fun h => e ((HI.out _ (by omega)).1 h).2.1
              rw [HH.out] at h1
              show H = k
              omega
          clear e
          go_wp2_with (first | (go_at_call 15; go_must (refine (reftimes_any _ _ _ _ _ _ _).mono ?_); go_must (rintro e w2 ⟨rfl, hb2⟩); go_must (obtain ⟨hc2, hf2⟩ := bcell hb2); go_must (have hz2 := hb2.size);  go_must (have hz3 : w.heap.size < w2.heap.size := by omega); go_must (have hz4 : w.heap.size + 1 < w2.heap.size := by omega)))
          go_ret
          exact ⟨by rw [HH.out, hlt.out]; rfl, by (repeat' (first | with_reducible exact Below.refl _ _ | with_reducible assumption | with_reducible refine Below.drew ?_ | with_reducible refine below_drewN' ?_ _ | with_reducible refine Below.alloc ?_ ?_ _ | with_reducible refine Below.setCell ?_ ?_ _ | with_reducible refine below_step (by assumption) ?_ ?_ | omega | (simp; done) | (simp; omega)))⟩
      · have hlt : Hid (H = k) := by show H = k; omega
        go_wp2
        go_ret
        exact ⟨by rw [HH.out, hlt.out]; rfl, by (repeat' (first | with_reducible exact Below.refl _ _ | with_reducible assumption | with_reducible refine Below.drew ?_ | with_reducible refine below_drewN' ?_ _ | with_reducible refine Below.alloc ?_ ?_ _ | with_reducible refine Below.setCell ?_ ?_ _ | with_reducible refine below_step (by assumption) ?_ ?_ | omega | (simp; done) | (simp; omega)))⟩
end Go.Proofs.Ytfaeebbanphbgaa
