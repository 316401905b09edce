/-
  ResTimes: what is there so many times is there, added one by one; once more it is not, if it was less often than may be.
  For every two values of api.Res, without a condition.
-/
import Derived.Test.YtfaeebbanphbgaaHeld
import Derived.Test.YtfaeebbanphbgaaResLaw0
import Derived.Test.YtfaeebbanphbgaaRes9
namespace Go.Proofs.Ytfaeebbanphbgaa
open Go.ChangeShapes Go.WideShapes Go.ChangeAt Go.RowKit
namespace resTimes

theorem fits_les (a0 a1 a2 a3 a4 b0 b1 b2 b3 b4 : Int) : fitsB a0 a1 a2 a3 a4 b0 b1 b2 b3 b4 = lesB a0 a1 a2 a3 a4 b0 b1 b2 b3 b4 := by
  rw [Bool.eq_iff_iff, lesB_iff]
  simp only [fitsB, decide_eq_true_eq]
  unfold subE
  split
  · rename_i h1
    split
    · rename_i h2; exact ⟨fun _ => ⟨h1.2, h1.1, h2⟩, fun _ => rfl⟩
    · rename_i h2; exact ⟨(fun h => nomatch h), fun h => (h2 h.2.2).elim⟩
  · rename_i h1; exact ⟨(fun h => nomatch h), fun h => (h1 ⟨h.2.1, h.1⟩).elim⟩

theorem mul_succ (x k : Int) : x * (k + 1) = x * k + x := by rw [Int.mul_add, Int.mul_one]

/-- One time more is right, as long as it is there so often. -/
theorem add_round (a0 a1 a2 a3 a4 b0 b1 b2 b3 b4 k : Int) (ha : rtB a0 a1 a2 a3 a4 = true) (hb : rtB b0 b1 b2 b3 b4 = true) (hk : 0 ≤ k) (h : k + 1 ≤ howF a0 a1 a2 a3 a4 b0 b1 b2 b3 b4) :
    addE (a0 * k) (a1 * k) (a2 * k) (a3 * k) (a4 * k) a0 a1 a2 a3 a4 = 0 := by
  obtain ⟨_, _, h1⟩ := (how_iff a0 a1 a2 a3 a4 b0 b1 b2 b3 b4 (k + 1) ha hb (by omega)).1 h
  obtain ⟨_, _, h0⟩ := (how_iff a0 a1 a2 a3 a4 b0 b1 b2 b3 b4 k ha hb hk).1 (by omega)
  obtain ⟨h1, _⟩ := (lesB_iff _ _ _ _ _ _ _ _ _ _).1 h1
  obtain ⟨h0, _⟩ := (lesB_iff _ _ _ _ _ _ _ _ _ _).1 h0
  simp only [mul_succ] at h1
  have h1 := (rtB_iff _ _ _ _ _).1 h1
  exact (if_pos ⟨h0, ha⟩ : addE _ _ _ _ _ _ _ _ _ _ = _).trans (if_pos (by omega))

/-- If once more were there, it would be counted. -/
theorem no_more (a0 a1 a2 a3 a4 b0 b1 b2 b3 b4 : Int) (ha : rtB a0 a1 a2 a3 a4 = true) (hb : rtB b0 b1 b2 b3 b4 = true) (k : Int) (hk : howF a0 a1 a2 a3 a4 b0 b1 b2 b3 b4 = k) (h4 : k < 400)
    (h : lesB (a0 * k + a0) (a1 * k + a1) (a2 * k + a2) (a3 * k + a3) (a4 * k + a4) b0 b1 b2 b3 b4 = true) : False := by
  have h0 := how_zero a0 a1 a2 a3 a4 b0 b1 b2 b3 b4 ha hb
  have := (how_iff a0 a1 a2 a3 a4 b0 b1 b2 b3 b4 (k + 1) ha hb (by omega)).2 ⟨by omega, by
    rw [show timesE a0 a1 a2 a3 a4 (k + 1) = _ from if_pos ⟨ha, by omega⟩]
    obtain ⟨⟨al0, au0⟩, ⟨al1, au1⟩, ⟨al2, au2⟩, ⟨al3, au3⟩, ⟨al4, au4⟩⟩ := (rtB_iff _ _ _ _ _).1 ha
    obtain ⟨⟨bl0, bu0⟩, ⟨bl1, bu1⟩, ⟨bl2, bu2⟩, ⟨bl3, bu3⟩, ⟨bl4, bu4⟩⟩ := (rtB_iff _ _ _ _ _).1 hb
    obtain ⟨_, _, e0, e1, e2, e3, e4⟩ := (lesB_iff _ _ _ _ _ _ _ _ _ _).1 h
    have key : ∀ x y : Int, y ≤ 1125899906842624 → x * k + x ≤ y → tok x (k + 1) := by
      intro x y hy h h0
      rw [Int.le_ediv_iff_mul_le h0, Int.mul_comm, mul_succ]; omega
    exact if_pos ⟨key _ _ bu0 e0, key _ _ bu1 e1, key _ _ bu2 e2, key _ _ bu3 e3, key _ _ bu4 e4⟩, by simp only [mul_succ]; exact h⟩
  omega

structure SInv (a0 a1 a2 a3 a4 b0 b1 b2 b3 b4 : Int) (A S k : Nat) (wr : World) : Prop where
  p0 : wr.cell? ⟨A, 0, none⟩ = some (.int .i64 a0)
  p1 : wr.cell? ⟨A, 1, none⟩ = some (.int .i64 a1)
  p2 : wr.cell? ⟨A, 2, none⟩ = some (.int .i64 a2)
  p3 : wr.cell? ⟨A, 3, none⟩ = some (.int .i64 a3)
  p4 : wr.cell? ⟨A, 4, none⟩ = some (.int .i64 a4)
  q0 : wr.cell? ⟨A + 1, 0, none⟩ = some (.int .i64 b0)
  q1 : wr.cell? ⟨A + 1, 1, none⟩ = some (.int .i64 b1)
  q2 : wr.cell? ⟨A + 1, 2, none⟩ = some (.int .i64 b2)
  q3 : wr.cell? ⟨A + 1, 3, none⟩ = some (.int .i64 b3)
  q4 : wr.cell? ⟨A + 1, 4, none⟩ = some (.int .i64 b4)
  s0 : wr.cell? ⟨S, 0, none⟩ = some (.int .i64 (a0 * k))
  s1 : wr.cell? ⟨S, 1, none⟩ = some (.int .i64 (a1 * k))
  s2 : wr.cell? ⟨S, 2, none⟩ = some (.int .i64 (a2 * k))
  s3 : wr.cell? ⟨S, 3, none⟩ = some (.int .i64 (a3 * k))
  s4 : wr.cell? ⟨S, 4, none⟩ = some (.int .i64 (a4 * k))
  f : ∀ j, wr.frozen? ⟨S, j, none⟩ = false
  sz : A < wr.heap.size
  sr : A + 1 < wr.heap.size
  ss : S < wr.heap.size

set_option maxRecDepth 100000 in
set_option maxHeartbeats 1000000 in
theorem walk_no (a0 a1 a2 a3 a4 b0 b1 b2 b3 b4 : Int) (w : World) (h : rtB a0 a1 a2 a3 a4 = false ∨ rtB b0 b1 b2 b3 b4 = false) :
    Calls Try.prog 6 #[.agg #[.int .i64 a0, .int .i64 a1, .int .i64 a2, .int .i64 a3, .int .i64 a4], .agg #[.int .i64 b0, .int .i64 b1, .int .i64 b2, .int .i64 b3, .int .i64 b4]] w fun e w' => e = .returned (.bool true) ∧ Below w.heap.size w w' := by
  have hh : howF a0 a1 a2 a3 a4 b0 b1 b2 b3 b4 = 0 := by
    refine if_neg fun h' => ?_
    rcases h with h | h
    · rw [h] at h'; cases h'.1
    · rw [h] at h'; cases h'.2
  cases ha : rtB a0 a1 a2 a3 a4
  · clear h
    go_enter Try.func6, Try.ntmps6
    go_wp2_with (first | (go_at_call 23; refine (how_any _ _ _ _ _ _ _ _ _ _ _).mono ?_; rintro e w1 ⟨rfl, hb1⟩; obtain ⟨hc1, hf1⟩ := bcell hb1; have hz1 := hb1.size; (try simp at hz1); (try have hza : w.heap.size < w1.heap.size := by omega); (try have hzb : w.heap.size + 1 < w1.heap.size := by omega); (try have hzc : w.heap.size + 1 + 1 < w1.heap.size := by omega); (try have hzd : w.heap.size + 1 + 1 + 1 < w1.heap.size := by omega)) | (go_at_call 16; refine (right_any _ _ _ _ _ _).mono ?_; rintro e w1 ⟨rfl, hb1⟩; obtain ⟨hc1, hf1⟩ := bcell hb1; have hz1 := hb1.size; (try simp at hz1); (try have hza : w.heap.size < w1.heap.size := by omega); (try have hzb : w.heap.size + 1 < w1.heap.size := by omega); (try have hzc : w.heap.size + 1 + 1 < w1.heap.size := by omega); (try have hzd : w.heap.size + 1 + 1 + 1 < w1.heap.size := by omega)) | (go_at_call 18; refine (known_any _).mono ?_; rintro e w1 ⟨rfl, hb1⟩; obtain ⟨hc1, hf1⟩ := bcell hb1; have hz1 := hb1.size; (try simp at hz1); (try have hza : w.heap.size < w1.heap.size := by omega); (try have hzb : w.heap.size + 1 < w1.heap.size := by omega); (try have hzc : w.heap.size + 1 + 1 < w1.heap.size := by omega); (try have hzd : w.heap.size + 1 + 1 + 1 < w1.heap.size := by omega)))
    go_ret
    exact ⟨rfl, by (repeat' (first | with_reducible exact Below.refl _ _ | with_reducible assumption | with_reducible refine Below.drew ?_ | with_reducible refine below_drewN' ?_ _ | with_reducible refine Below.alloc ?_ ?_ _ | with_reducible refine Below.setCell ?_ ?_ _ | with_reducible refine below_step (by assumption) ?_ ?_ | omega | (simp; done) | (simp; omega)))⟩
  have hb : rtB b0 b1 b2 b3 b4 = false := by simpa [ha] using h
  clear h
  go_enter Try.func6, Try.ntmps6
  go_wp2_with (first | (go_at_call 23; refine (how_any _ _ _ _ _ _ _ _ _ _ _).mono ?_; rintro e w1 ⟨rfl, hb1⟩; obtain ⟨hc1, hf1⟩ := bcell hb1; have hz1 := hb1.size; (try simp at hz1); (try have hza : w.heap.size < w1.heap.size := by omega); (try have hzb : w.heap.size + 1 < w1.heap.size := by omega); (try have hzc : w.heap.size + 1 + 1 < w1.heap.size := by omega); (try have hzd : w.heap.size + 1 + 1 + 1 < w1.heap.size := by omega)) | (go_at_call 16; refine (right_any _ _ _ _ _ _).mono ?_; rintro e w1 ⟨rfl, hb1⟩; obtain ⟨hc1, hf1⟩ := bcell hb1; have hz1 := hb1.size; (try simp at hz1); (try have hza : w.heap.size < w1.heap.size := by omega); (try have hzb : w.heap.size + 1 < w1.heap.size := by omega); (try have hzc : w.heap.size + 1 + 1 < w1.heap.size := by omega); (try have hzd : w.heap.size + 1 + 1 + 1 < w1.heap.size := by omega)) | (go_at_call 18; refine (known_any _).mono ?_; rintro e w1 ⟨rfl, hb1⟩; obtain ⟨hc1, hf1⟩ := bcell hb1; have hz1 := hb1.size; (try simp at hz1); (try have hza : w.heap.size < w1.heap.size := by omega); (try have hzb : w.heap.size + 1 < w1.heap.size := by omega); (try have hzc : w.heap.size + 1 + 1 < w1.heap.size := by omega); (try have hzd : w.heap.size + 1 + 1 + 1 < w1.heap.size := by omega)))
  go_ret
  exact ⟨rfl, by (repeat' (first | with_reducible exact Below.refl _ _ | with_reducible assumption | with_reducible refine Below.drew ?_ | with_reducible refine below_drewN' ?_ _ | with_reducible refine Below.alloc ?_ ?_ _ | with_reducible refine Below.setCell ?_ ?_ _ | with_reducible refine below_step (by assumption) ?_ ?_ | omega | (simp; done) | (simp; omega)))⟩

set_option maxRecDepth 100000 in
set_option maxHeartbeats 4000000 in
theorem walk_yes (a0 a1 a2 a3 a4 b0 b1 b2 b3 b4 : Int) (w : World) (ha : rtB a0 a1 a2 a3 a4 = true) (hb : rtB b0 b1 b2 b3 b4 = true) :
    Calls Try.prog 6 #[.agg #[.int .i64 a0, .int .i64 a1, .int .i64 a2, .int .i64 a3, .int .i64 a4], .agg #[.int .i64 b0, .int .i64 b1, .int .i64 b2, .int .i64 b3, .int .i64 b4]] w fun e w' => e = .returned (.bool true) ∧ Below w.heap.size w w' := by
  have H0 := how_zero a0 a1 a2 a3 a4 b0 b1 b2 b3 b4 ha hb
  obtain ⟨H, hH⟩ : ∃ H : Nat, howF a0 a1 a2 a3 a4 b0 b1 b2 b3 b4 = H := ⟨(howF a0 a1 a2 a3 a4 b0 b1 b2 b3 b4).toNat, by omega⟩
  have hH4 : H ≤ 400 := by omega
  clear H0
  have HR := Lib.hid (fun k hk h => add_round a0 a1 a2 a3 a4 b0 b1 b2 b3 b4 k ha hb hk h)
  have HM := Lib.hid (no_more a0 a1 a2 a3 a4 b0 b1 b2 b3 b4 ha hb H hH)
  have HI := Lib.hid ((how_iff a0 a1 a2 a3 a4 b0 b1 b2 b3 b4 H ha hb (by omega)).1 (by omega))
  have hs0 := sel_0
  go_enter Try.func6, Try.ntmps6
  go_wp2_with fail
  (go_at_call 23; refine (how_any _ _ _ _ _ _ _ _ _ _ _).mono ?_; rintro e w1 ⟨rfl, hb1⟩)
  obtain ⟨hc1, hf1⟩ := bcell hb1
  have hz1 := hb1.size
  (try simp at hz1)
  have z1_0 : w.heap.size < w1.heap.size := (by omega); have y1_0 : w.heap.size ≤ w1.heap.size := (by omega); have z1_1 : w.heap.size + 1 < w1.heap.size := (by omega); have y1_1 : w.heap.size + 1 ≤ w1.heap.size := (by omega)
  go_wp2_with fail
  (go_at_call 16; refine (right_any _ _ _ _ _ _).mono ?_; rintro e w2 ⟨rfl, hb2⟩)
  obtain ⟨hc2, hf2⟩ := bcell hb2
  have hz2 := hb2.size
  (try simp at hz2)
  have z2_0 : w.heap.size < w2.heap.size := (by omega); have y2_0 : w.heap.size ≤ w2.heap.size := (by omega); have z2_1 : w.heap.size + 1 < w2.heap.size := (by omega); have y2_1 : w.heap.size + 1 ≤ w2.heap.size := (by omega)
  go_wp2_with fail
  (go_at_call 16; refine (right_any _ _ _ _ _ _).mono ?_; rintro e w3 ⟨rfl, hb3⟩)
  obtain ⟨hc3, hf3⟩ := bcell hb3
  have hz3 := hb3.size
  (try simp at hz3)
  have z3_0 : w.heap.size < w3.heap.size := (by omega); have y3_0 : w.heap.size ≤ w3.heap.size := (by omega); have z3_1 : w.heap.size + 1 < w3.heap.size := (by omega); have y3_1 : w.heap.size + 1 ≤ w3.heap.size := (by omega)
  go_wp2_with fail
  have HH := Lib.hid hH
  clear hH
  go_loopw [7] (fun i wr => ∃ k : Nat, i = .int .i64 k ∧ k ≤ H ∧ Below w.heap.size w wr ∧ SInv a0 a1 a2 a3 a4 b0 b1 b2 b3 b4 w.heap.size w3.heap.size k wr) (fun i _ => H - (intOf i).toNat)
  case atStart =>
    refine ⟨0, rfl, by omega, by (repeat' (first | with_reducible exact Below.refl _ _ | with_reducible assumption | with_reducible refine Below.drew ?_ | with_reducible refine below_drewN' ?_ _ | with_reducible refine Below.alloc ?_ ?_ _ | with_reducible refine Below.setCell ?_ ?_ _ | with_reducible refine below_step (by assumption) ?_ ?_ | omega | (simp; done) | (simp; omega))), ?_⟩
    constructor <;> simp [go_sem, *]
  case round =>
    obtain ⟨k, rfl, hk, hB, hI⟩ := hrel
    obtain ⟨p0, p1, p2, p3, p4, q0, q1, q2, q3, q4, s0, s1, s2, s3, s4, f, sz, sr, ss⟩ := hI
    by_cases hlt : k < H
    · have e := HR.out k (by omega) (by rw [HH.out]; omega)
      have hmu : ∀ x : Int, x * ((k : Int) + 1) = x * k + x := fun x => mul_succ x k
      go_wp2_with fail
      (go_at_call 10; refine (add_any _ _ _ _ _ _ _ _ _ _ _).mono ?_; rintro e w4 ⟨rfl, hb4⟩)
      obtain ⟨hc4, hf4⟩ := bcell hb4
      have hz4 := hb4.size
      (try simp at hz4)
      have z4_0 : w.heap.size < w4.heap.size := (by omega); have y4_0 : w.heap.size ≤ w4.heap.size := (by omega); have z4_1 : w.heap.size + 1 < w4.heap.size := (by omega); have y4_1 : w.heap.size + 1 ≤ w4.heap.size := (by omega); have z4_2 : w3.heap.size < w4.heap.size := (by omega); have y4_2 : w3.heap.size ≤ w4.heap.size := (by omega)
      go_wp2
      go_roundw
      case rel =>
        refine ⟨k + 1, by go_num, by omega, by (repeat' (first | with_reducible exact Below.refl _ _ | with_reducible assumption | with_reducible refine Below.drew ?_ | with_reducible refine below_drewN' ?_ _ | with_reducible refine Below.alloc ?_ ?_ _ | with_reducible refine Below.setCell ?_ ?_ _ | with_reducible refine below_step (by assumption) ?_ ?_ | omega | (simp; done) | (simp; omega))), ?_⟩
        constructor <;> first | omega | simp [go_sem, *]
      case measure => simp [intOf]; omega
    · obtain rfl : k = H := by omega
      obtain ⟨_, t1, t2⟩ := HI.out
      have e1 : fitsB (a0 * (k : Int)) (a1 * (k : Int)) (a2 * (k : Int)) (a3 * (k : Int)) (a4 * (k : Int)) b0 b1 b2 b3 b4 = true := (fits_les _ _ _ _ _ _ _ _ _ _).trans t2
      clear t2
      by_cases h4 : k < 400
      · have h4' : ((k : Int) == 400) = false := beq_eq_false_iff_ne.2 (by omega)
        by_cases g : addE (a0 * (k : Int)) (a1 * (k : Int)) (a2 * (k : Int)) (a3 * (k : Int)) (a4 * (k : Int)) a0 a1 a2 a3 a4 = 0
        · have e2 : fitsB (a0 * (k : Int) + a0) (a1 * (k : Int) + a1) (a2 * (k : Int) + a2) (a3 * (k : Int) + a3) (a4 * (k : Int) + a4) b0 b1 b2 b3 b4 = false := by
            rw [fits_les]; exact Bool.eq_false_iff.2 fun h => HM.out (by omega) h
          go_wp2_with fail
          (go_at_call 14; refine (times_any _ _ _ _ _ _ _).mono ?_; rintro e w4 ⟨rfl, hb4⟩)
          obtain ⟨hc4, hf4⟩ := bcell hb4
          have hz4 := hb4.size
          (try simp at hz4)
          have z4_0 : w.heap.size < w4.heap.size := (by omega); have y4_0 : w.heap.size ≤ w4.heap.size := (by omega); have z4_1 : w.heap.size + 1 < w4.heap.size := (by omega); have y4_1 : w.heap.size + 1 ≤ w4.heap.size := (by omega); have z4_2 : w3.heap.size < w4.heap.size := (by omega); have y4_2 : w3.heap.size ≤ w4.heap.size := (by omega)
          go_wp2_with fail
          (go_at_call 10; refine (add_any _ _ _ _ _ _ _ _ _ _ _).mono ?_; rintro e w5 ⟨rfl, hb5⟩)
          obtain ⟨hc5, hf5⟩ := bcell hb5
          have hz5 := hb5.size
          (try simp at hz5)
          have z5_0 : w.heap.size < w5.heap.size := (by omega); have y5_0 : w.heap.size ≤ w5.heap.size := (by omega); have z5_1 : w.heap.size + 1 < w5.heap.size := (by omega); have y5_1 : w.heap.size + 1 ≤ w5.heap.size := (by omega); have z5_2 : w3.heap.size < w5.heap.size := (by omega); have y5_2 : w3.heap.size ≤ w5.heap.size := (by omega); have z5_3 : w4.heap.size < w5.heap.size := (by omega); have y5_3 : w4.heap.size ≤ w5.heap.size := (by omega)
          go_wp2_with (first | (go_at_call 19; refine (fits_any _ _ _ _ _ _ _ _ _ _ _).mono ?_; rintro e w9 ⟨rfl, hb9⟩; obtain ⟨hc9, hf9⟩ := bcell hb9; have hz9 := hb9.size; (try simp at hz9); have z9_0 : w.heap.size < w9.heap.size := (by omega); have y9_0 : w.heap.size ≤ w9.heap.size := (by omega); have z9_1 : w.heap.size + 1 < w9.heap.size := (by omega); have y9_1 : w.heap.size + 1 ≤ w9.heap.size := (by omega); have z9_2 : w3.heap.size < w9.heap.size := (by omega); have y9_2 : w3.heap.size ≤ w9.heap.size := (by omega); have z9_3 : w4.heap.size < w9.heap.size := (by omega); have y9_3 : w4.heap.size ≤ w9.heap.size := (by omega); have z9_4 : w5.heap.size < w9.heap.size := (by omega); have y9_4 : w5.heap.size ≤ w9.heap.size := (by omega)) | (go_at_call 18; refine (known_any _).mono ?_; rintro e w9 ⟨rfl, hb9⟩; obtain ⟨hc9, hf9⟩ := bcell hb9; have hz9 := hb9.size; (try simp at hz9); skip))
          go_ret
          exact ⟨rfl, by (repeat' (first | with_reducible exact Below.refl _ _ | with_reducible assumption | with_reducible refine Below.drew ?_ | with_reducible refine below_drewN' ?_ _ | with_reducible refine Below.alloc ?_ ?_ _ | with_reducible refine Below.setCell ?_ ?_ _ | with_reducible refine below_step (by assumption) ?_ ?_ | omega | (simp; done) | (simp; omega)))⟩
        · have g' : (addE (a0 * (k : Int)) (a1 * (k : Int)) (a2 * (k : Int)) (a3 * (k : Int)) (a4 * (k : Int)) a0 a1 a2 a3 a4 != 0) = true := bne_iff_ne.2 g
          clear g
          go_wp2_with fail
          (go_at_call 14; refine (times_any _ _ _ _ _ _ _).mono ?_; rintro e w4 ⟨rfl, hb4⟩)
          obtain ⟨hc4, hf4⟩ := bcell hb4
          have hz4 := hb4.size
          (try simp at hz4)
          have z4_0 : w.heap.size < w4.heap.size := (by omega); have y4_0 : w.heap.size ≤ w4.heap.size := (by omega); have z4_1 : w.heap.size + 1 < w4.heap.size := (by omega); have y4_1 : w.heap.size + 1 ≤ w4.heap.size := (by omega); have z4_2 : w3.heap.size < w4.heap.size := (by omega); have y4_2 : w3.heap.size ≤ w4.heap.size := (by omega)
          go_wp2_with fail
          (go_at_call 10; refine (add_any _ _ _ _ _ _ _ _ _ _ _).mono ?_; rintro e w5 ⟨rfl, hb5⟩)
          obtain ⟨hc5, hf5⟩ := bcell hb5
          have hz5 := hb5.size
          (try simp at hz5)
          have z5_0 : w.heap.size < w5.heap.size := (by omega); have y5_0 : w.heap.size ≤ w5.heap.size := (by omega); have z5_1 : w.heap.size + 1 < w5.heap.size := (by omega); have y5_1 : w.heap.size + 1 ≤ w5.heap.size := (by omega); have z5_2 : w3.heap.size < w5.heap.size := (by omega); have y5_2 : w3.heap.size ≤ w5.heap.size := (by omega); have z5_3 : w4.heap.size < w5.heap.size := (by omega); have y5_3 : w4.heap.size ≤ w5.heap.size := (by omega)
          go_wp2_with (first | (go_at_call 19; refine (fits_any _ _ _ _ _ _ _ _ _ _ _).mono ?_; rintro e w9 ⟨rfl, hb9⟩; obtain ⟨hc9, hf9⟩ := bcell hb9; have hz9 := hb9.size; (try simp at hz9); have z9_0 : w.heap.size < w9.heap.size := (by omega); have y9_0 : w.heap.size ≤ w9.heap.size := (by omega); have z9_1 : w.heap.size + 1 < w9.heap.size := (by omega); have y9_1 : w.heap.size + 1 ≤ w9.heap.size := (by omega); have z9_2 : w3.heap.size < w9.heap.size := (by omega); have y9_2 : w3.heap.size ≤ w9.heap.size := (by omega); have z9_3 : w4.heap.size < w9.heap.size := (by omega); have y9_3 : w4.heap.size ≤ w9.heap.size := (by omega); have z9_4 : w5.heap.size < w9.heap.size := (by omega); have y9_4 : w5.heap.size ≤ w9.heap.size := (by omega)) | (go_at_call 18; refine (known_any _).mono ?_; rintro e w9 ⟨rfl, hb9⟩; obtain ⟨hc9, hf9⟩ := bcell hb9; have hz9 := hb9.size; (try simp at hz9); skip))
          go_ret
          exact ⟨rfl, by (repeat' (first | with_reducible exact Below.refl _ _ | with_reducible assumption | with_reducible refine Below.drew ?_ | with_reducible refine below_drewN' ?_ _ | with_reducible refine Below.alloc ?_ ?_ _ | with_reducible refine Below.setCell ?_ ?_ _ | with_reducible refine below_step (by assumption) ?_ ?_ | omega | (simp; done) | (simp; omega)))⟩
      · have h4' : ((k : Int) == 400) = true := beq_iff_eq.2 (by omega)
        go_wp2_with fail
        (go_at_call 14; refine (times_any _ _ _ _ _ _ _).mono ?_; rintro e w4 ⟨rfl, hb4⟩)
        obtain ⟨hc4, hf4⟩ := bcell hb4
        have hz4 := hb4.size
        (try simp at hz4)
        have z4_0 : w.heap.size < w4.heap.size := (by omega); have y4_0 : w.heap.size ≤ w4.heap.size := (by omega); have z4_1 : w.heap.size + 1 < w4.heap.size := (by omega); have y4_1 : w.heap.size + 1 ≤ w4.heap.size := (by omega); have z4_2 : w3.heap.size < w4.heap.size := (by omega); have y4_2 : w3.heap.size ≤ w4.heap.size := (by omega)
        go_wp2_with fail
        (go_at_call 10; refine (add_any _ _ _ _ _ _ _ _ _ _ _).mono ?_; rintro e w5 ⟨rfl, hb5⟩)
        obtain ⟨hc5, hf5⟩ := bcell hb5
        have hz5 := hb5.size
        (try simp at hz5)
        have z5_0 : w.heap.size < w5.heap.size := (by omega); have y5_0 : w.heap.size ≤ w5.heap.size := (by omega); have z5_1 : w.heap.size + 1 < w5.heap.size := (by omega); have y5_1 : w.heap.size + 1 ≤ w5.heap.size := (by omega); have z5_2 : w3.heap.size < w5.heap.size := (by omega); have y5_2 : w3.heap.size ≤ w5.heap.size := (by omega); have z5_3 : w4.heap.size < w5.heap.size := (by omega); have y5_3 : w4.heap.size ≤ w5.heap.size := (by omega)
        go_wp2_with (first | (go_at_call 19; refine (fits_any _ _ _ _ _ _ _ _ _ _ _).mono ?_; rintro e w9 ⟨rfl, hb9⟩; obtain ⟨hc9, hf9⟩ := bcell hb9; have hz9 := hb9.size; (try simp at hz9); have z9_0 : w.heap.size < w9.heap.size := (by omega); have y9_0 : w.heap.size ≤ w9.heap.size := (by omega); have z9_1 : w.heap.size + 1 < w9.heap.size := (by omega); have y9_1 : w.heap.size + 1 ≤ w9.heap.size := (by omega); have z9_2 : w3.heap.size < w9.heap.size := (by omega); have y9_2 : w3.heap.size ≤ w9.heap.size := (by omega); have z9_3 : w4.heap.size < w9.heap.size := (by omega); have y9_3 : w4.heap.size ≤ w9.heap.size := (by omega); have z9_4 : w5.heap.size < w9.heap.size := (by omega); have y9_4 : w5.heap.size ≤ w9.heap.size := (by omega)) | (go_at_call 18; refine (known_any _).mono ?_; rintro e w9 ⟨rfl, hb9⟩; obtain ⟨hc9, hf9⟩ := bcell hb9; have hz9 := hb9.size; (try simp at hz9); skip))
        go_ret
        exact ⟨rfl, by (repeat' (first | with_reducible exact Below.refl _ _ | with_reducible assumption | with_reducible refine Below.drew ?_ | with_reducible refine below_drewN' ?_ _ | with_reducible refine Below.alloc ?_ ?_ _ | with_reducible refine Below.setCell ?_ ?_ _ | with_reducible refine below_step (by assumption) ?_ ?_ | omega | (simp; done) | (simp; omega)))⟩

theorem walk (a0 a1 a2 a3 a4 b0 b1 b2 b3 b4 : Int) (w : World) :
    Calls Try.prog 6 #[.agg #[.int .i64 a0, .int .i64 a1, .int .i64 a2, .int .i64 a3, .int .i64 a4], .agg #[.int .i64 b0, .int .i64 b1, .int .i64 b2, .int .i64 b3, .int .i64 b4]] w fun e w' => e = .returned (.bool true) ∧ Below w.heap.size w w' := by
  cases ha : rtB a0 a1 a2 a3 a4
  · exact walk_no a0 a1 a2 a3 a4 b0 b1 b2 b3 b4 w (.inl ha)
  cases hb : rtB b0 b1 b2 b3 b4
  · exact walk_no a0 a1 a2 a3 a4 b0 b1 b2 b3 b4 w (.inr hb)
  exact walk_yes a0 a1 a2 a3 a4 b0 b1 b2 b3 b4 w ha hb

set_option maxRecDepth 100000 in
theorem lifted (os : Os) (started : os.Started) (H : Type) (enc : TypeId × Value → H) :
    ReturnsInHanded {} Try.checked os 6 .any (Rows.resTimesSpec.pre6 enc Try.prog Try.f6 Rows.resTimesRow.domain false) (Rows.resTimesSpec.post enc Try.prog Try.f6 false true false false) := by
  refine returnsInHanded_of_change (C := Try.checked) Try.own started (by kernel_rfl) Try.func6
    (ChangeSpec.witness6 (enc := enc) (C := Try.checked) false ⟨#[], #[.agg #[.int .i64 0, .int .i64 0, .int .i64 0, .int .i64 0, .int .i64 0], .agg #[.int .i64 0, .int .i64 0, .int .i64 0, .int .i64 0, .int .i64 0]], []⟩ 8 (by kernel_rfl) (by kernel_rfl) (by kernel_rfl) (by kernel_rfl)) ?_
  intro W base args ds gs before hval hW _ _
  have hW' := hW
  obtain ⟨p, q, hA, hV, rfl, hfz, hnd⟩ := hW
  rw [Try.params6] at hA hval
  obtain ⟨v0, v1, d0, d1, p0, p1, rfl, rfl, rfl, h0, h1⟩ := trodAll_two hA
  obtain ⟨a0, a1, a2, a3, a4, rfl⟩ := open_res (hval 0 23 v0 rfl rfl) h0
  obtain ⟨b0, b1, b2, b3, b4, rfl⟩ := open_res (hval 1 23 v1 rfl rfl) h1
  refine (walk a0 a1 a2 a3 a4 b0 b1 b2 b3 b4 W).mono fun e W' ⟨he, hb⟩ => ?_
  exact ⟨_, he, law_post Try.laidOut hW' rfl (by kernel_rfl) (by kernel_rfl) Try.underlying4 rfl rfl rfl hb⟩

theorem over : Rows.resTimesRow.holds Try.pinned (OpenSpec.ofChange Rows.resTimesSpec) :=
  OpenClaim.holds_of_wide 6 Try.f6 rfl rfl rfl rfl rfl rfl rfl ⟨rfl, rfl, rfl, rfl, rfl⟩ rfl rfl rfl rfl rfl (by kernel_rfl) Try.func6 (by kernel_rfl)
    (of_decide_eq_true (by kernel_rfl)) (by unfold Func.isWrapper; first | (rw [if_pos (by decide +kernel)]; kernel_rfl) | (rw [if_neg (by decide +kernel)]; exact ⟨rfl, rfl⟩))
    (fun os started H enc _ => lifted os started H enc)

/-- The statement. -/
theorem proved : Rows.ResTimesSaid := over
end resTimes
end Go.Proofs.Ytfaeebbanphbgaa
