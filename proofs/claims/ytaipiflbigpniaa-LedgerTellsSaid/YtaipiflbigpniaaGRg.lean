/-
  The contracts of spec.RightGroup, triremeref07.RightGroup: the same.
-/
import Derived.Test.YtaipiflbigpniaaGMch
namespace Go.Proofs.Ytaipiflbigpniaa
open Go.RowKit
set_option linter.unusedVariables false
set_option linter.unusedSimpArgs false

def inB (n lo hi : Int) : Bool := decide (lo ≤ n ∧ n ≤ hi)
set_option maxRecDepth 100000 in
theorem in_any (n lo hi : Int) (w : World) :
    Calls Try.prog 39 #[.int .i64 n, .int .i64 lo, .int .i64 hi] w fun e w' => e = .returned (.bool (inB n lo hi)) ∧ Below w.heap.size w w' := by
  unfold inB
  by_cases h1 : lo ≤ n
  · by_cases h2 : n ≤ hi
    · rw [decide_eq_true ⟨h1, h2⟩]
      go_enter Try.func39, Try.ntmps39
      go_wp2
      go_ret
      exact ⟨by first | rfl | (simp; omega), by (repeat' (first | with_reducible exact Below.refl _ _ | with_reducible assumption | with_reducible refine Below.drew ?_ | with_reducible refine below_drewN' ?_ _ | with_reducible refine Below.alloc ?_ ?_ _ | with_reducible refine Below.setCell ?_ ?_ _ | with_reducible refine below_step (by assumption) ?_ ?_ | omega | (simp; done) | (simp; omega)))⟩
    · rw [decide_eq_false (fun h => h2 h.2)]
      go_enter Try.func39, Try.ntmps39
      go_wp2
      go_ret
      exact ⟨by first | rfl | (simp; omega), by (repeat' (first | with_reducible exact Below.refl _ _ | with_reducible assumption | with_reducible refine Below.drew ?_ | with_reducible refine below_drewN' ?_ _ | with_reducible refine Below.alloc ?_ ?_ _ | with_reducible refine Below.setCell ?_ ?_ _ | with_reducible refine below_step (by assumption) ?_ ?_ | omega | (simp; done) | (simp; omega)))⟩
  · have h1' : n < lo := by omega
    rw [decide_eq_false (fun h => h1 h.1)]
    go_enter Try.func39, Try.ntmps39
    go_wp2
    go_ret
    exact ⟨by first | rfl | (simp; omega), by (repeat' (first | with_reducible exact Below.refl _ _ | with_reducible assumption | with_reducible refine Below.drew ?_ | with_reducible refine below_drewN' ?_ _ | with_reducible refine Below.alloc ?_ ?_ _ | with_reducible refine Below.setCell ?_ ?_ _ | with_reducible refine below_step (by assumption) ?_ ?_ | omega | (simp; done) | (simp; omega)))⟩
set_option maxRecDepth 100000 in
theorem within_any (n lo hi : Int) (w : World) :
    Calls Try.prog 42 #[.int .i64 n, .int .i64 lo, .int .i64 hi] w fun e w' => e = .returned (.bool (inB n lo hi)) ∧ Below w.heap.size w w' := by
  unfold inB
  by_cases h1 : lo ≤ n
  · by_cases h2 : n ≤ hi
    · rw [decide_eq_true ⟨h1, h2⟩]
      go_enter Try.func42, Try.ntmps42
      go_wp2
      go_ret
      exact ⟨by first | rfl | (simp; omega), by (repeat' (first | with_reducible exact Below.refl _ _ | with_reducible assumption | with_reducible refine Below.drew ?_ | with_reducible refine below_drewN' ?_ _ | with_reducible refine Below.alloc ?_ ?_ _ | with_reducible refine Below.setCell ?_ ?_ _ | with_reducible refine below_step (by assumption) ?_ ?_ | omega | (simp; done) | (simp; omega)))⟩
    · rw [decide_eq_false (fun h => h2 h.2)]
      go_enter Try.func42, Try.ntmps42
      go_wp2
      go_ret
      exact ⟨by first | rfl | (simp; omega), by (repeat' (first | with_reducible exact Below.refl _ _ | with_reducible assumption | with_reducible refine Below.drew ?_ | with_reducible refine below_drewN' ?_ _ | with_reducible refine Below.alloc ?_ ?_ _ | with_reducible refine Below.setCell ?_ ?_ _ | with_reducible refine below_step (by assumption) ?_ ?_ | omega | (simp; done) | (simp; omega)))⟩
  · have h1' : n < lo := by omega
    rw [decide_eq_false (fun h => h1 h.1)]
    go_enter Try.func42, Try.ntmps42
    go_wp2
    go_ret
    exact ⟨by first | rfl | (simp; omega), by (repeat' (first | with_reducible exact Below.refl _ _ | with_reducible assumption | with_reducible refine Below.drew ?_ | with_reducible refine below_drewN' ?_ _ | with_reducible refine Below.alloc ?_ ?_ _ | with_reducible refine Below.setCell ?_ ?_ _ | with_reducible refine below_step (by assumption) ?_ ?_ | omega | (simp; done) | (simp; omega)))⟩

def rightG (g : Gp) : Bool := wordB g.nm && inB g.mx 1 200 && inB g.mn 0 g.mx && inB g.pr 0 1125899906842624 && inB g.rk 0 1000 && rightM g.like && decide (g.like.nm = emp) && decide (g.like.gp = g.nm) && g.like.rd

set_option maxRecDepth 100000 in
set_option maxHeartbeats 16000000 in
theorem refrightgroup_any (g : Gp) (w : World) (hA : MacAt w g.like) (hs : g.nm.size ≤ 300) (hLt : lightM g.like = true) :
    Calls Try.prog 33 #[.agg #[.string (g).nm, .int .i64 (g).mn, .int .i64 (g).mx, .string (g).like.nm, .string (g).like.gp, .int .i64 (g).like.r0, .int .i64 (g).like.r1, .int .i64 (g).like.r2, .int .i64 (g).like.r3, .int .i64 (g).like.r4, .slice (g).like.la (g).like.labs.length (g).like.lk, .slice (g).like.ta (g).like.tnts.length (g).like.tk, .bool (g).like.rd, .int .i64 (g).pr, .int .i64 (g).rk]] w fun e w' => e = .returned (.bool (rightG g)) ∧ Below w.heap.size w w' := by
  obtain ⟨nm, mn, mx, M, pr, rk⟩ := g
  dsimp only at hA hs hLt ⊢
  have hs1 : nm.size ≤ 1000000000 := by omega
  have HM : ∀ V : World, Below w.heap.size w V → Calls Try.prog 40 #[.agg #[.string (M).nm, .string (M).gp, .int .i64 (M).r0, .int .i64 (M).r1, .int .i64 (M).r2, .int .i64 (M).r3, .int .i64 (M).r4, .slice (M).la (M).labs.length (M).lk, .slice (M).ta (M).tnts.length (M).tk, .bool (M).rd]] V fun e w' => e = .returned (.bool (rightM M)) ∧ Below V.heap.size V w' := fun V hV => rightm_any M V (hA.mono hV) hLt
  have HMM := Lib.hid HM
  clear HM hA hLt hs
  cases h1 : wordB nm
  · have hv : rightG ⟨nm, mn, mx, M, pr, rk⟩ = false := by simp [rightG, h1]
    rw [hv]
    have H1 := Lib.hid h1
    clear hv h1
    go_enter Try.func33, Try.ntmps33
    go_wp2_with (first
      | (go_at_call 38; (with_reducible refine (refword_any nm hs1 _).mono ?_); rw [H1.out]; rintro e w1 ⟨rfl, hb1⟩; obtain ⟨hc1, hf1⟩ := bcell hb1; have hz1 := hb1.size; (try simp at hz1); have hw1 : w.heap.size < w1.heap.size := (by omega))
      | (go_at_call 39; (with_reducible refine (in_any mx 1 200 _).mono ?_); rw [H2.out]; rintro e w2 ⟨rfl, hb2⟩; obtain ⟨hc2, hf2⟩ := bcell hb2; have hz2 := hb2.size; have hw2 : w.heap.size < w2.heap.size := (by omega))
      | (go_at_call 39; (with_reducible refine (in_any mn 0 mx _).mono ?_); rw [H3.out]; rintro e w3 ⟨rfl, hb3⟩; obtain ⟨hc3, hf3⟩ := bcell hb3; have hz3 := hb3.size; have hw3 : w.heap.size < w3.heap.size := (by omega))
      | (go_at_call 39; (with_reducible refine (in_any pr 0 1125899906842624 _).mono ?_); rw [H4.out]; rintro e w4 ⟨rfl, hb4⟩; obtain ⟨hc4, hf4⟩ := bcell hb4; have hz4 := hb4.size; have hw4 : w.heap.size < w4.heap.size := (by omega))
      | (go_at_call 39; (with_reducible refine (in_any rk 0 1000 _).mono ?_); rw [H5.out]; rintro e w5 ⟨rfl, hb5⟩; obtain ⟨hc5, hf5⟩ := bcell hb5; have hz5 := hb5.size; have hw5 : w.heap.size < w5.heap.size := (by omega))
      | (go_at_call 40; (with_reducible refine (HMM.out _ (by (repeat' (first | with_reducible exact Below.refl _ _ | with_reducible assumption | with_reducible refine Below.drew ?_ | with_reducible refine below_drewN' ?_ _ | with_reducible refine Below.alloc ?_ ?_ _ | with_reducible refine Below.setCell ?_ ?_ _ | with_reducible refine below_step (by assumption) ?_ ?_ | omega | (simp; done) | (simp; omega))))).mono ?_); rw [H6.out]; rintro e w6 ⟨rfl, hb6⟩; obtain ⟨hc6, hf6⟩ := bcell hb6; have hz6 := hb6.size; have hw6 : w.heap.size < w6.heap.size := (by omega)))
    go_ret
    exact ⟨by first | rfl | (simp; done), by (repeat' (first | with_reducible exact Below.refl _ _ | with_reducible assumption | with_reducible refine Below.drew ?_ | with_reducible refine below_drewN' ?_ _ | with_reducible refine Below.alloc ?_ ?_ _ | with_reducible refine Below.setCell ?_ ?_ _ | with_reducible refine below_step (by assumption) ?_ ?_ | omega | (simp; done) | (simp; omega)))⟩
  cases h2 : inB mx 1 200
  · have hv : rightG ⟨nm, mn, mx, M, pr, rk⟩ = false := by simp [rightG, h1, h2]
    rw [hv]
    have H1 := Lib.hid h1
    have H2 := Lib.hid h2
    clear hv h1 h2
    go_enter Try.func33, Try.ntmps33
    go_wp2_with (first
      | (go_at_call 38; (with_reducible refine (refword_any nm hs1 _).mono ?_); rw [H1.out]; rintro e w1 ⟨rfl, hb1⟩; obtain ⟨hc1, hf1⟩ := bcell hb1; have hz1 := hb1.size; (try simp at hz1); have hw1 : w.heap.size < w1.heap.size := (by omega))
      | (go_at_call 39; (with_reducible refine (in_any mx 1 200 _).mono ?_); rw [H2.out]; rintro e w2 ⟨rfl, hb2⟩; obtain ⟨hc2, hf2⟩ := bcell hb2; have hz2 := hb2.size; have hw2 : w.heap.size < w2.heap.size := (by omega))
      | (go_at_call 39; (with_reducible refine (in_any mn 0 mx _).mono ?_); rw [H3.out]; rintro e w3 ⟨rfl, hb3⟩; obtain ⟨hc3, hf3⟩ := bcell hb3; have hz3 := hb3.size; have hw3 : w.heap.size < w3.heap.size := (by omega))
      | (go_at_call 39; (with_reducible refine (in_any pr 0 1125899906842624 _).mono ?_); rw [H4.out]; rintro e w4 ⟨rfl, hb4⟩; obtain ⟨hc4, hf4⟩ := bcell hb4; have hz4 := hb4.size; have hw4 : w.heap.size < w4.heap.size := (by omega))
      | (go_at_call 39; (with_reducible refine (in_any rk 0 1000 _).mono ?_); rw [H5.out]; rintro e w5 ⟨rfl, hb5⟩; obtain ⟨hc5, hf5⟩ := bcell hb5; have hz5 := hb5.size; have hw5 : w.heap.size < w5.heap.size := (by omega))
      | (go_at_call 40; (with_reducible refine (HMM.out _ (by (repeat' (first | with_reducible exact Below.refl _ _ | with_reducible assumption | with_reducible refine Below.drew ?_ | with_reducible refine below_drewN' ?_ _ | with_reducible refine Below.alloc ?_ ?_ _ | with_reducible refine Below.setCell ?_ ?_ _ | with_reducible refine below_step (by assumption) ?_ ?_ | omega | (simp; done) | (simp; omega))))).mono ?_); rw [H6.out]; rintro e w6 ⟨rfl, hb6⟩; obtain ⟨hc6, hf6⟩ := bcell hb6; have hz6 := hb6.size; have hw6 : w.heap.size < w6.heap.size := (by omega)))
    go_ret
    exact ⟨by first | rfl | (simp; done), by (repeat' (first | with_reducible exact Below.refl _ _ | with_reducible assumption | with_reducible refine Below.drew ?_ | with_reducible refine below_drewN' ?_ _ | with_reducible refine Below.alloc ?_ ?_ _ | with_reducible refine Below.setCell ?_ ?_ _ | with_reducible refine below_step (by assumption) ?_ ?_ | omega | (simp; done) | (simp; omega)))⟩
  cases h3 : inB mn 0 mx
  · have hv : rightG ⟨nm, mn, mx, M, pr, rk⟩ = false := by simp [rightG, h1, h2, h3]
    rw [hv]
    have H1 := Lib.hid h1
    have H2 := Lib.hid h2
    have H3 := Lib.hid h3
    clear hv h1 h2 h3
    go_enter Try.func33, Try.ntmps33
    go_wp2_with (first
      | (go_at_call 38; (with_reducible refine (refword_any nm hs1 _).mono ?_); rw [H1.out]; rintro e w1 ⟨rfl, hb1⟩; obtain ⟨hc1, hf1⟩ := bcell hb1; have hz1 := hb1.size; (try simp at hz1); have hw1 : w.heap.size < w1.heap.size := (by omega))
      | (go_at_call 39; (with_reducible refine (in_any mx 1 200 _).mono ?_); rw [H2.out]; rintro e w2 ⟨rfl, hb2⟩; obtain ⟨hc2, hf2⟩ := bcell hb2; have hz2 := hb2.size; have hw2 : w.heap.size < w2.heap.size := (by omega))
      | (go_at_call 39; (with_reducible refine (in_any mn 0 mx _).mono ?_); rw [H3.out]; rintro e w3 ⟨rfl, hb3⟩; obtain ⟨hc3, hf3⟩ := bcell hb3; have hz3 := hb3.size; have hw3 : w.heap.size < w3.heap.size := (by omega))
      | (go_at_call 39; (with_reducible refine (in_any pr 0 1125899906842624 _).mono ?_); rw [H4.out]; rintro e w4 ⟨rfl, hb4⟩; obtain ⟨hc4, hf4⟩ := bcell hb4; have hz4 := hb4.size; have hw4 : w.heap.size < w4.heap.size := (by omega))
      | (go_at_call 39; (with_reducible refine (in_any rk 0 1000 _).mono ?_); rw [H5.out]; rintro e w5 ⟨rfl, hb5⟩; obtain ⟨hc5, hf5⟩ := bcell hb5; have hz5 := hb5.size; have hw5 : w.heap.size < w5.heap.size := (by omega))
      | (go_at_call 40; (with_reducible refine (HMM.out _ (by (repeat' (first | with_reducible exact Below.refl _ _ | with_reducible assumption | with_reducible refine Below.drew ?_ | with_reducible refine below_drewN' ?_ _ | with_reducible refine Below.alloc ?_ ?_ _ | with_reducible refine Below.setCell ?_ ?_ _ | with_reducible refine below_step (by assumption) ?_ ?_ | omega | (simp; done) | (simp; omega))))).mono ?_); rw [H6.out]; rintro e w6 ⟨rfl, hb6⟩; obtain ⟨hc6, hf6⟩ := bcell hb6; have hz6 := hb6.size; have hw6 : w.heap.size < w6.heap.size := (by omega)))
    go_ret
    exact ⟨by first | rfl | (simp; done), by (repeat' (first | with_reducible exact Below.refl _ _ | with_reducible assumption | with_reducible refine Below.drew ?_ | with_reducible refine below_drewN' ?_ _ | with_reducible refine Below.alloc ?_ ?_ _ | with_reducible refine Below.setCell ?_ ?_ _ | with_reducible refine below_step (by assumption) ?_ ?_ | omega | (simp; done) | (simp; omega)))⟩
  cases h4 : inB pr 0 1125899906842624
  · have hv : rightG ⟨nm, mn, mx, M, pr, rk⟩ = false := by simp [rightG, h1, h2, h3, h4]
    rw [hv]
    have H1 := Lib.hid h1
    have H2 := Lib.hid h2
    have H3 := Lib.hid h3
    have H4 := Lib.hid h4
    clear hv h1 h2 h3 h4
    go_enter Try.func33, Try.ntmps33
    go_wp2_with (first
      | (go_at_call 38; (with_reducible refine (refword_any nm hs1 _).mono ?_); rw [H1.out]; rintro e w1 ⟨rfl, hb1⟩; obtain ⟨hc1, hf1⟩ := bcell hb1; have hz1 := hb1.size; (try simp at hz1); have hw1 : w.heap.size < w1.heap.size := (by omega))
      | (go_at_call 39; (with_reducible refine (in_any mx 1 200 _).mono ?_); rw [H2.out]; rintro e w2 ⟨rfl, hb2⟩; obtain ⟨hc2, hf2⟩ := bcell hb2; have hz2 := hb2.size; have hw2 : w.heap.size < w2.heap.size := (by omega))
      | (go_at_call 39; (with_reducible refine (in_any mn 0 mx _).mono ?_); rw [H3.out]; rintro e w3 ⟨rfl, hb3⟩; obtain ⟨hc3, hf3⟩ := bcell hb3; have hz3 := hb3.size; have hw3 : w.heap.size < w3.heap.size := (by omega))
      | (go_at_call 39; (with_reducible refine (in_any pr 0 1125899906842624 _).mono ?_); rw [H4.out]; rintro e w4 ⟨rfl, hb4⟩; obtain ⟨hc4, hf4⟩ := bcell hb4; have hz4 := hb4.size; have hw4 : w.heap.size < w4.heap.size := (by omega))
      | (go_at_call 39; (with_reducible refine (in_any rk 0 1000 _).mono ?_); rw [H5.out]; rintro e w5 ⟨rfl, hb5⟩; obtain ⟨hc5, hf5⟩ := bcell hb5; have hz5 := hb5.size; have hw5 : w.heap.size < w5.heap.size := (by omega))
      | (go_at_call 40; (with_reducible refine (HMM.out _ (by (repeat' (first | with_reducible exact Below.refl _ _ | with_reducible assumption | with_reducible refine Below.drew ?_ | with_reducible refine below_drewN' ?_ _ | with_reducible refine Below.alloc ?_ ?_ _ | with_reducible refine Below.setCell ?_ ?_ _ | with_reducible refine below_step (by assumption) ?_ ?_ | omega | (simp; done) | (simp; omega))))).mono ?_); rw [H6.out]; rintro e w6 ⟨rfl, hb6⟩; obtain ⟨hc6, hf6⟩ := bcell hb6; have hz6 := hb6.size; have hw6 : w.heap.size < w6.heap.size := (by omega)))
    go_ret
    exact ⟨by first | rfl | (simp; done), by (repeat' (first | with_reducible exact Below.refl _ _ | with_reducible assumption | with_reducible refine Below.drew ?_ | with_reducible refine below_drewN' ?_ _ | with_reducible refine Below.alloc ?_ ?_ _ | with_reducible refine Below.setCell ?_ ?_ _ | with_reducible refine below_step (by assumption) ?_ ?_ | omega | (simp; done) | (simp; omega)))⟩
  cases h5 : inB rk 0 1000
  · have hv : rightG ⟨nm, mn, mx, M, pr, rk⟩ = false := by simp [rightG, h1, h2, h3, h4, h5]
    rw [hv]
    have H1 := Lib.hid h1
    have H2 := Lib.hid h2
    have H3 := Lib.hid h3
    have H4 := Lib.hid h4
    have H5 := Lib.hid h5
    clear hv h1 h2 h3 h4 h5
    go_enter Try.func33, Try.ntmps33
    go_wp2_with (first
      | (go_at_call 38; (with_reducible refine (refword_any nm hs1 _).mono ?_); rw [H1.out]; rintro e w1 ⟨rfl, hb1⟩; obtain ⟨hc1, hf1⟩ := bcell hb1; have hz1 := hb1.size; (try simp at hz1); have hw1 : w.heap.size < w1.heap.size := (by omega))
      | (go_at_call 39; (with_reducible refine (in_any mx 1 200 _).mono ?_); rw [H2.out]; rintro e w2 ⟨rfl, hb2⟩; obtain ⟨hc2, hf2⟩ := bcell hb2; have hz2 := hb2.size; have hw2 : w.heap.size < w2.heap.size := (by omega))
      | (go_at_call 39; (with_reducible refine (in_any mn 0 mx _).mono ?_); rw [H3.out]; rintro e w3 ⟨rfl, hb3⟩; obtain ⟨hc3, hf3⟩ := bcell hb3; have hz3 := hb3.size; have hw3 : w.heap.size < w3.heap.size := (by omega))
      | (go_at_call 39; (with_reducible refine (in_any pr 0 1125899906842624 _).mono ?_); rw [H4.out]; rintro e w4 ⟨rfl, hb4⟩; obtain ⟨hc4, hf4⟩ := bcell hb4; have hz4 := hb4.size; have hw4 : w.heap.size < w4.heap.size := (by omega))
      | (go_at_call 39; (with_reducible refine (in_any rk 0 1000 _).mono ?_); rw [H5.out]; rintro e w5 ⟨rfl, hb5⟩; obtain ⟨hc5, hf5⟩ := bcell hb5; have hz5 := hb5.size; have hw5 : w.heap.size < w5.heap.size := (by omega))
      | (go_at_call 40; (with_reducible refine (HMM.out _ (by (repeat' (first | with_reducible exact Below.refl _ _ | with_reducible assumption | with_reducible refine Below.drew ?_ | with_reducible refine below_drewN' ?_ _ | with_reducible refine Below.alloc ?_ ?_ _ | with_reducible refine Below.setCell ?_ ?_ _ | with_reducible refine below_step (by assumption) ?_ ?_ | omega | (simp; done) | (simp; omega))))).mono ?_); rw [H6.out]; rintro e w6 ⟨rfl, hb6⟩; obtain ⟨hc6, hf6⟩ := bcell hb6; have hz6 := hb6.size; have hw6 : w.heap.size < w6.heap.size := (by omega)))
    go_ret
    exact ⟨by first | rfl | (simp; done), by (repeat' (first | with_reducible exact Below.refl _ _ | with_reducible assumption | with_reducible refine Below.drew ?_ | with_reducible refine below_drewN' ?_ _ | with_reducible refine Below.alloc ?_ ?_ _ | with_reducible refine Below.setCell ?_ ?_ _ | with_reducible refine below_step (by assumption) ?_ ?_ | omega | (simp; done) | (simp; omega)))⟩
  cases h6 : rightM M
  · have hv : rightG ⟨nm, mn, mx, M, pr, rk⟩ = false := by simp [rightG, h1, h2, h3, h4, h5, h6]
    rw [hv]
    have H1 := Lib.hid h1
    have H2 := Lib.hid h2
    have H3 := Lib.hid h3
    have H4 := Lib.hid h4
    have H5 := Lib.hid h5
    have H6 := Lib.hid h6
    clear hv h1 h2 h3 h4 h5 h6
    go_enter Try.func33, Try.ntmps33
    go_wp2_with (first
      | (go_at_call 38; (with_reducible refine (refword_any nm hs1 _).mono ?_); rw [H1.out]; rintro e w1 ⟨rfl, hb1⟩; obtain ⟨hc1, hf1⟩ := bcell hb1; have hz1 := hb1.size; (try simp at hz1); have hw1 : w.heap.size < w1.heap.size := (by omega))
      | (go_at_call 39; (with_reducible refine (in_any mx 1 200 _).mono ?_); rw [H2.out]; rintro e w2 ⟨rfl, hb2⟩; obtain ⟨hc2, hf2⟩ := bcell hb2; have hz2 := hb2.size; have hw2 : w.heap.size < w2.heap.size := (by omega))
      | (go_at_call 39; (with_reducible refine (in_any mn 0 mx _).mono ?_); rw [H3.out]; rintro e w3 ⟨rfl, hb3⟩; obtain ⟨hc3, hf3⟩ := bcell hb3; have hz3 := hb3.size; have hw3 : w.heap.size < w3.heap.size := (by omega))
      | (go_at_call 39; (with_reducible refine (in_any pr 0 1125899906842624 _).mono ?_); rw [H4.out]; rintro e w4 ⟨rfl, hb4⟩; obtain ⟨hc4, hf4⟩ := bcell hb4; have hz4 := hb4.size; have hw4 : w.heap.size < w4.heap.size := (by omega))
      | (go_at_call 39; (with_reducible refine (in_any rk 0 1000 _).mono ?_); rw [H5.out]; rintro e w5 ⟨rfl, hb5⟩; obtain ⟨hc5, hf5⟩ := bcell hb5; have hz5 := hb5.size; have hw5 : w.heap.size < w5.heap.size := (by omega))
      | (go_at_call 40; (with_reducible refine (HMM.out _ (by (repeat' (first | with_reducible exact Below.refl _ _ | with_reducible assumption | with_reducible refine Below.drew ?_ | with_reducible refine below_drewN' ?_ _ | with_reducible refine Below.alloc ?_ ?_ _ | with_reducible refine Below.setCell ?_ ?_ _ | with_reducible refine below_step (by assumption) ?_ ?_ | omega | (simp; done) | (simp; omega))))).mono ?_); rw [H6.out]; rintro e w6 ⟨rfl, hb6⟩; obtain ⟨hc6, hf6⟩ := bcell hb6; have hz6 := hb6.size; have hw6 : w.heap.size < w6.heap.size := (by omega)))
    go_ret
    exact ⟨by first | rfl | (simp; done), by (repeat' (first | with_reducible exact Below.refl _ _ | with_reducible assumption | with_reducible refine Below.drew ?_ | with_reducible refine below_drewN' ?_ _ | with_reducible refine Below.alloc ?_ ?_ _ | with_reducible refine Below.setCell ?_ ?_ _ | with_reducible refine below_step (by assumption) ?_ ?_ | omega | (simp; done) | (simp; omega)))⟩
  have hv0 : rightG ⟨nm, mn, mx, M, pr, rk⟩ = (decide (M.nm = emp) && decide (M.gp = nm) && M.rd) := by simp [rightG, h1, h2, h3, h4, h5, h6]
  rw [hv0]
  have H1 := Lib.hid h1
  have H2 := Lib.hid h2
  have H3 := Lib.hid h3
  have H4 := Lib.hid h4
  have H5 := Lib.hid h5
  have H6 := Lib.hid h6
  clear hv0 h1 h2 h3 h4 h5 h6
  obtain ⟨mm, mg, r0, r1, r2, r3, r4, la, lk, L, ta, tk, T, rd⟩ := M
  dsimp only
  by_cases h7 : mm = emp
  · obtain ⟨p1, p2, p3, p4⟩ := emp_lits h7
    rw [decide_eq_true h7]
    clear h7
    by_cases h8 : mg = nm
    · have k8 := tnt_str h8
      rw [decide_eq_true h8]
      clear h8
      cases rd
      · skip
        go_enter Try.func33, Try.ntmps33
        go_wp2_with (first
          | (go_at_call 38; (with_reducible refine (refword_any nm hs1 _).mono ?_); rw [H1.out]; rintro e w1 ⟨rfl, hb1⟩; obtain ⟨hc1, hf1⟩ := bcell hb1; have hz1 := hb1.size; (try simp at hz1); have hw1 : w.heap.size < w1.heap.size := (by omega))
          | (go_at_call 39; (with_reducible refine (in_any mx 1 200 _).mono ?_); rw [H2.out]; rintro e w2 ⟨rfl, hb2⟩; obtain ⟨hc2, hf2⟩ := bcell hb2; have hz2 := hb2.size; have hw2 : w.heap.size < w2.heap.size := (by omega))
          | (go_at_call 39; (with_reducible refine (in_any mn 0 mx _).mono ?_); rw [H3.out]; rintro e w3 ⟨rfl, hb3⟩; obtain ⟨hc3, hf3⟩ := bcell hb3; have hz3 := hb3.size; have hw3 : w.heap.size < w3.heap.size := (by omega))
          | (go_at_call 39; (with_reducible refine (in_any pr 0 1125899906842624 _).mono ?_); rw [H4.out]; rintro e w4 ⟨rfl, hb4⟩; obtain ⟨hc4, hf4⟩ := bcell hb4; have hz4 := hb4.size; have hw4 : w.heap.size < w4.heap.size := (by omega))
          | (go_at_call 39; (with_reducible refine (in_any rk 0 1000 _).mono ?_); rw [H5.out]; rintro e w5 ⟨rfl, hb5⟩; obtain ⟨hc5, hf5⟩ := bcell hb5; have hz5 := hb5.size; have hw5 : w.heap.size < w5.heap.size := (by omega))
          | (go_at_call 40; (with_reducible refine (HMM.out _ (by (repeat' (first | with_reducible exact Below.refl _ _ | with_reducible assumption | with_reducible refine Below.drew ?_ | with_reducible refine below_drewN' ?_ _ | with_reducible refine Below.alloc ?_ ?_ _ | with_reducible refine Below.setCell ?_ ?_ _ | with_reducible refine below_step (by assumption) ?_ ?_ | omega | (simp; done) | (simp; omega))))).mono ?_); rw [H6.out]; rintro e w6 ⟨rfl, hb6⟩; obtain ⟨hc6, hf6⟩ := bcell hb6; have hz6 := hb6.size; have hw6 : w.heap.size < w6.heap.size := (by omega)))
        go_ret
        exact ⟨by first | rfl | (simp; done), by (repeat' (first | with_reducible exact Below.refl _ _ | with_reducible assumption | with_reducible refine Below.drew ?_ | with_reducible refine below_drewN' ?_ _ | with_reducible refine Below.alloc ?_ ?_ _ | with_reducible refine Below.setCell ?_ ?_ _ | with_reducible refine below_step (by assumption) ?_ ?_ | omega | (simp; done) | (simp; omega)))⟩
      · skip
        go_enter Try.func33, Try.ntmps33
        go_wp2_with (first
          | (go_at_call 38; (with_reducible refine (refword_any nm hs1 _).mono ?_); rw [H1.out]; rintro e w1 ⟨rfl, hb1⟩; obtain ⟨hc1, hf1⟩ := bcell hb1; have hz1 := hb1.size; (try simp at hz1); have hw1 : w.heap.size < w1.heap.size := (by omega))
          | (go_at_call 39; (with_reducible refine (in_any mx 1 200 _).mono ?_); rw [H2.out]; rintro e w2 ⟨rfl, hb2⟩; obtain ⟨hc2, hf2⟩ := bcell hb2; have hz2 := hb2.size; have hw2 : w.heap.size < w2.heap.size := (by omega))
          | (go_at_call 39; (with_reducible refine (in_any mn 0 mx _).mono ?_); rw [H3.out]; rintro e w3 ⟨rfl, hb3⟩; obtain ⟨hc3, hf3⟩ := bcell hb3; have hz3 := hb3.size; have hw3 : w.heap.size < w3.heap.size := (by omega))
          | (go_at_call 39; (with_reducible refine (in_any pr 0 1125899906842624 _).mono ?_); rw [H4.out]; rintro e w4 ⟨rfl, hb4⟩; obtain ⟨hc4, hf4⟩ := bcell hb4; have hz4 := hb4.size; have hw4 : w.heap.size < w4.heap.size := (by omega))
          | (go_at_call 39; (with_reducible refine (in_any rk 0 1000 _).mono ?_); rw [H5.out]; rintro e w5 ⟨rfl, hb5⟩; obtain ⟨hc5, hf5⟩ := bcell hb5; have hz5 := hb5.size; have hw5 : w.heap.size < w5.heap.size := (by omega))
          | (go_at_call 40; (with_reducible refine (HMM.out _ (by (repeat' (first | with_reducible exact Below.refl _ _ | with_reducible assumption | with_reducible refine Below.drew ?_ | with_reducible refine below_drewN' ?_ _ | with_reducible refine Below.alloc ?_ ?_ _ | with_reducible refine Below.setCell ?_ ?_ _ | with_reducible refine below_step (by assumption) ?_ ?_ | omega | (simp; done) | (simp; omega))))).mono ?_); rw [H6.out]; rintro e w6 ⟨rfl, hb6⟩; obtain ⟨hc6, hf6⟩ := bcell hb6; have hz6 := hb6.size; have hw6 : w.heap.size < w6.heap.size := (by omega)))
        go_ret
        exact ⟨by first | rfl | (simp; done), by (repeat' (first | with_reducible exact Below.refl _ _ | with_reducible assumption | with_reducible refine Below.drew ?_ | with_reducible refine below_drewN' ?_ _ | with_reducible refine Below.alloc ?_ ?_ _ | with_reducible refine Below.setCell ?_ ?_ _ | with_reducible refine below_step (by assumption) ?_ ?_ | omega | (simp; done) | (simp; omega)))⟩
    · have k8 := tnt_strn h8
      rw [decide_eq_false h8]
      clear h8
      cases rd
      · skip
        go_enter Try.func33, Try.ntmps33
        go_wp2_with (first
          | (go_at_call 38; (with_reducible refine (refword_any nm hs1 _).mono ?_); rw [H1.out]; rintro e w1 ⟨rfl, hb1⟩; obtain ⟨hc1, hf1⟩ := bcell hb1; have hz1 := hb1.size; (try simp at hz1); have hw1 : w.heap.size < w1.heap.size := (by omega))
          | (go_at_call 39; (with_reducible refine (in_any mx 1 200 _).mono ?_); rw [H2.out]; rintro e w2 ⟨rfl, hb2⟩; obtain ⟨hc2, hf2⟩ := bcell hb2; have hz2 := hb2.size; have hw2 : w.heap.size < w2.heap.size := (by omega))
          | (go_at_call 39; (with_reducible refine (in_any mn 0 mx _).mono ?_); rw [H3.out]; rintro e w3 ⟨rfl, hb3⟩; obtain ⟨hc3, hf3⟩ := bcell hb3; have hz3 := hb3.size; have hw3 : w.heap.size < w3.heap.size := (by omega))
          | (go_at_call 39; (with_reducible refine (in_any pr 0 1125899906842624 _).mono ?_); rw [H4.out]; rintro e w4 ⟨rfl, hb4⟩; obtain ⟨hc4, hf4⟩ := bcell hb4; have hz4 := hb4.size; have hw4 : w.heap.size < w4.heap.size := (by omega))
          | (go_at_call 39; (with_reducible refine (in_any rk 0 1000 _).mono ?_); rw [H5.out]; rintro e w5 ⟨rfl, hb5⟩; obtain ⟨hc5, hf5⟩ := bcell hb5; have hz5 := hb5.size; have hw5 : w.heap.size < w5.heap.size := (by omega))
          | (go_at_call 40; (with_reducible refine (HMM.out _ (by (repeat' (first | with_reducible exact Below.refl _ _ | with_reducible assumption | with_reducible refine Below.drew ?_ | with_reducible refine below_drewN' ?_ _ | with_reducible refine Below.alloc ?_ ?_ _ | with_reducible refine Below.setCell ?_ ?_ _ | with_reducible refine below_step (by assumption) ?_ ?_ | omega | (simp; done) | (simp; omega))))).mono ?_); rw [H6.out]; rintro e w6 ⟨rfl, hb6⟩; obtain ⟨hc6, hf6⟩ := bcell hb6; have hz6 := hb6.size; have hw6 : w.heap.size < w6.heap.size := (by omega)))
        go_ret
        exact ⟨by first | rfl | (simp; done), by (repeat' (first | with_reducible exact Below.refl _ _ | with_reducible assumption | with_reducible refine Below.drew ?_ | with_reducible refine below_drewN' ?_ _ | with_reducible refine Below.alloc ?_ ?_ _ | with_reducible refine Below.setCell ?_ ?_ _ | with_reducible refine below_step (by assumption) ?_ ?_ | omega | (simp; done) | (simp; omega)))⟩
      · skip
        go_enter Try.func33, Try.ntmps33
        go_wp2_with (first
          | (go_at_call 38; (with_reducible refine (refword_any nm hs1 _).mono ?_); rw [H1.out]; rintro e w1 ⟨rfl, hb1⟩; obtain ⟨hc1, hf1⟩ := bcell hb1; have hz1 := hb1.size; (try simp at hz1); have hw1 : w.heap.size < w1.heap.size := (by omega))
          | (go_at_call 39; (with_reducible refine (in_any mx 1 200 _).mono ?_); rw [H2.out]; rintro e w2 ⟨rfl, hb2⟩; obtain ⟨hc2, hf2⟩ := bcell hb2; have hz2 := hb2.size; have hw2 : w.heap.size < w2.heap.size := (by omega))
          | (go_at_call 39; (with_reducible refine (in_any mn 0 mx _).mono ?_); rw [H3.out]; rintro e w3 ⟨rfl, hb3⟩; obtain ⟨hc3, hf3⟩ := bcell hb3; have hz3 := hb3.size; have hw3 : w.heap.size < w3.heap.size := (by omega))
          | (go_at_call 39; (with_reducible refine (in_any pr 0 1125899906842624 _).mono ?_); rw [H4.out]; rintro e w4 ⟨rfl, hb4⟩; obtain ⟨hc4, hf4⟩ := bcell hb4; have hz4 := hb4.size; have hw4 : w.heap.size < w4.heap.size := (by omega))
          | (go_at_call 39; (with_reducible refine (in_any rk 0 1000 _).mono ?_); rw [H5.out]; rintro e w5 ⟨rfl, hb5⟩; obtain ⟨hc5, hf5⟩ := bcell hb5; have hz5 := hb5.size; have hw5 : w.heap.size < w5.heap.size := (by omega))
          | (go_at_call 40; (with_reducible refine (HMM.out _ (by (repeat' (first | with_reducible exact Below.refl _ _ | with_reducible assumption | with_reducible refine Below.drew ?_ | with_reducible refine below_drewN' ?_ _ | with_reducible refine Below.alloc ?_ ?_ _ | with_reducible refine Below.setCell ?_ ?_ _ | with_reducible refine below_step (by assumption) ?_ ?_ | omega | (simp; done) | (simp; omega))))).mono ?_); rw [H6.out]; rintro e w6 ⟨rfl, hb6⟩; obtain ⟨hc6, hf6⟩ := bcell hb6; have hz6 := hb6.size; have hw6 : w.heap.size < w6.heap.size := (by omega)))
        go_ret
        exact ⟨by first | rfl | (simp; done), by (repeat' (first | with_reducible exact Below.refl _ _ | with_reducible assumption | with_reducible refine Below.drew ?_ | with_reducible refine below_drewN' ?_ _ | with_reducible refine Below.alloc ?_ ?_ _ | with_reducible refine Below.setCell ?_ ?_ _ | with_reducible refine below_step (by assumption) ?_ ?_ | omega | (simp; done) | (simp; omega)))⟩
  · obtain ⟨p1, p2, p3, p4⟩ := emp_litn h7
    rw [decide_eq_false h7]
    clear h7
    go_enter Try.func33, Try.ntmps33
    go_wp2_with (first
      | (go_at_call 38; (with_reducible refine (refword_any nm hs1 _).mono ?_); rw [H1.out]; rintro e w1 ⟨rfl, hb1⟩; obtain ⟨hc1, hf1⟩ := bcell hb1; have hz1 := hb1.size; (try simp at hz1); have hw1 : w.heap.size < w1.heap.size := (by omega))
      | (go_at_call 39; (with_reducible refine (in_any mx 1 200 _).mono ?_); rw [H2.out]; rintro e w2 ⟨rfl, hb2⟩; obtain ⟨hc2, hf2⟩ := bcell hb2; have hz2 := hb2.size; have hw2 : w.heap.size < w2.heap.size := (by omega))
      | (go_at_call 39; (with_reducible refine (in_any mn 0 mx _).mono ?_); rw [H3.out]; rintro e w3 ⟨rfl, hb3⟩; obtain ⟨hc3, hf3⟩ := bcell hb3; have hz3 := hb3.size; have hw3 : w.heap.size < w3.heap.size := (by omega))
      | (go_at_call 39; (with_reducible refine (in_any pr 0 1125899906842624 _).mono ?_); rw [H4.out]; rintro e w4 ⟨rfl, hb4⟩; obtain ⟨hc4, hf4⟩ := bcell hb4; have hz4 := hb4.size; have hw4 : w.heap.size < w4.heap.size := (by omega))
      | (go_at_call 39; (with_reducible refine (in_any rk 0 1000 _).mono ?_); rw [H5.out]; rintro e w5 ⟨rfl, hb5⟩; obtain ⟨hc5, hf5⟩ := bcell hb5; have hz5 := hb5.size; have hw5 : w.heap.size < w5.heap.size := (by omega))
      | (go_at_call 40; (with_reducible refine (HMM.out _ (by (repeat' (first | with_reducible exact Below.refl _ _ | with_reducible assumption | with_reducible refine Below.drew ?_ | with_reducible refine below_drewN' ?_ _ | with_reducible refine Below.alloc ?_ ?_ _ | with_reducible refine Below.setCell ?_ ?_ _ | with_reducible refine below_step (by assumption) ?_ ?_ | omega | (simp; done) | (simp; omega))))).mono ?_); rw [H6.out]; rintro e w6 ⟨rfl, hb6⟩; obtain ⟨hc6, hf6⟩ := bcell hb6; have hz6 := hb6.size; have hw6 : w.heap.size < w6.heap.size := (by omega)))
    go_ret
    exact ⟨by first | rfl | (simp; done), by (repeat' (first | with_reducible exact Below.refl _ _ | with_reducible assumption | with_reducible refine Below.drew ?_ | with_reducible refine below_drewN' ?_ _ | with_reducible refine Below.alloc ?_ ?_ _ | with_reducible refine Below.setCell ?_ ?_ _ | with_reducible refine below_step (by assumption) ?_ ?_ | omega | (simp; done) | (simp; omega)))⟩

set_option maxRecDepth 100000 in
set_option maxHeartbeats 16000000 in
theorem srightgroup_any (g : Gp) (w : World) (hA : MacIn w g.like) (hs : g.nm.size ≤ 300) (hLt : lightM g.like = true) :
    Calls Try.prog 36 #[.agg #[.string (g).nm, .int .i64 (g).mn, .int .i64 (g).mx, .string (g).like.nm, .string (g).like.gp, .int .i64 (g).like.r0, .int .i64 (g).like.r1, .int .i64 (g).like.r2, .int .i64 (g).like.r3, .int .i64 (g).like.r4, .slice (g).like.la (g).like.labs.length (g).like.lk, .slice (g).like.ta (g).like.tnts.length (g).like.tk, .bool (g).like.rd, .int .i64 (g).pr, .int .i64 (g).rk]] w fun e w' => e = .returned (.bool (rightG g)) ∧ Below w.heap.size w w' := by
  obtain ⟨nm, mn, mx, M, pr, rk⟩ := g
  dsimp only at hA hs hLt ⊢
  have hs1 : nm.size ≤ 1000000000 := by omega
  have HM : ∀ V : World, Below w.heap.size w V → Calls Try.prog 43 #[.agg #[.string (M).nm, .string (M).gp, .int .i64 (M).r0, .int .i64 (M).r1, .int .i64 (M).r2, .int .i64 (M).r3, .int .i64 (M).r4, .slice (M).la (M).labs.length (M).lk, .slice (M).ta (M).tnts.length (M).tk, .bool (M).rd]] V fun e w' => e = .returned (.bool (rightM M)) ∧ Below V.heap.size V w' := fun V hV => srightm_any M V (hA.mono hV) hLt
  have HMM := Lib.hid HM
  clear HM hA hLt hs
  cases h1 : wordB nm
  · have hv : rightG ⟨nm, mn, mx, M, pr, rk⟩ = false := by simp [rightG, h1]
    rw [hv]
    have H1 := Lib.hid h1
    clear hv h1
    go_enter Try.func36, Try.ntmps36
    go_wp2_with (first
      | (go_at_call 41; (with_reducible refine (word_any nm _).mono ?_); rw [H1.out]; rintro e w1 ⟨rfl, hb1⟩; obtain ⟨hc1, hf1⟩ := bcell hb1; have hz1 := hb1.size; (try simp at hz1); have hw1 : w.heap.size < w1.heap.size := (by omega))
      | (go_at_call 42; (with_reducible refine (within_any mx 1 200 _).mono ?_); rw [H2.out]; rintro e w2 ⟨rfl, hb2⟩; obtain ⟨hc2, hf2⟩ := bcell hb2; have hz2 := hb2.size; have hw2 : w.heap.size < w2.heap.size := (by omega))
      | (go_at_call 42; (with_reducible refine (within_any mn 0 mx _).mono ?_); rw [H3.out]; rintro e w3 ⟨rfl, hb3⟩; obtain ⟨hc3, hf3⟩ := bcell hb3; have hz3 := hb3.size; have hw3 : w.heap.size < w3.heap.size := (by omega))
      | (go_at_call 42; (with_reducible refine (within_any pr 0 1125899906842624 _).mono ?_); rw [H4.out]; rintro e w4 ⟨rfl, hb4⟩; obtain ⟨hc4, hf4⟩ := bcell hb4; have hz4 := hb4.size; have hw4 : w.heap.size < w4.heap.size := (by omega))
      | (go_at_call 42; (with_reducible refine (within_any rk 0 1000 _).mono ?_); rw [H5.out]; rintro e w5 ⟨rfl, hb5⟩; obtain ⟨hc5, hf5⟩ := bcell hb5; have hz5 := hb5.size; have hw5 : w.heap.size < w5.heap.size := (by omega))
      | (go_at_call 43; (with_reducible refine (HMM.out _ (by (repeat' (first | with_reducible exact Below.refl _ _ | with_reducible assumption | with_reducible refine Below.drew ?_ | with_reducible refine below_drewN' ?_ _ | with_reducible refine Below.alloc ?_ ?_ _ | with_reducible refine Below.setCell ?_ ?_ _ | with_reducible refine below_step (by assumption) ?_ ?_ | omega | (simp; done) | (simp; omega))))).mono ?_); rw [H6.out]; rintro e w6 ⟨rfl, hb6⟩; obtain ⟨hc6, hf6⟩ := bcell hb6; have hz6 := hb6.size; have hw6 : w.heap.size < w6.heap.size := (by omega)))
    go_ret
    exact ⟨by first | rfl | (simp; done), by (repeat' (first | with_reducible exact Below.refl _ _ | with_reducible assumption | with_reducible refine Below.drew ?_ | with_reducible refine below_drewN' ?_ _ | with_reducible refine Below.alloc ?_ ?_ _ | with_reducible refine Below.setCell ?_ ?_ _ | with_reducible refine below_step (by assumption) ?_ ?_ | omega | (simp; done) | (simp; omega)))⟩
  cases h2 : inB mx 1 200
  · have hv : rightG ⟨nm, mn, mx, M, pr, rk⟩ = false := by simp [rightG, h1, h2]
    rw [hv]
    have H1 := Lib.hid h1
    have H2 := Lib.hid h2
    clear hv h1 h2
    go_enter Try.func36, Try.ntmps36
    go_wp2_with (first
      | (go_at_call 41; (with_reducible refine (word_any nm _).mono ?_); rw [H1.out]; rintro e w1 ⟨rfl, hb1⟩; obtain ⟨hc1, hf1⟩ := bcell hb1; have hz1 := hb1.size; (try simp at hz1); have hw1 : w.heap.size < w1.heap.size := (by omega))
      | (go_at_call 42; (with_reducible refine (within_any mx 1 200 _).mono ?_); rw [H2.out]; rintro e w2 ⟨rfl, hb2⟩; obtain ⟨hc2, hf2⟩ := bcell hb2; have hz2 := hb2.size; have hw2 : w.heap.size < w2.heap.size := (by omega))
      | (go_at_call 42; (with_reducible refine (within_any mn 0 mx _).mono ?_); rw [H3.out]; rintro e w3 ⟨rfl, hb3⟩; obtain ⟨hc3, hf3⟩ := bcell hb3; have hz3 := hb3.size; have hw3 : w.heap.size < w3.heap.size := (by omega))
      | (go_at_call 42; (with_reducible refine (within_any pr 0 1125899906842624 _).mono ?_); rw [H4.out]; rintro e w4 ⟨rfl, hb4⟩; obtain ⟨hc4, hf4⟩ := bcell hb4; have hz4 := hb4.size; have hw4 : w.heap.size < w4.heap.size := (by omega))
      | (go_at_call 42; (with_reducible refine (within_any rk 0 1000 _).mono ?_); rw [H5.out]; rintro e w5 ⟨rfl, hb5⟩; obtain ⟨hc5, hf5⟩ := bcell hb5; have hz5 := hb5.size; have hw5 : w.heap.size < w5.heap.size := (by omega))
      | (go_at_call 43; (with_reducible refine (HMM.out _ (by (repeat' (first | with_reducible exact Below.refl _ _ | with_reducible assumption | with_reducible refine Below.drew ?_ | with_reducible refine below_drewN' ?_ _ | with_reducible refine Below.alloc ?_ ?_ _ | with_reducible refine Below.setCell ?_ ?_ _ | with_reducible refine below_step (by assumption) ?_ ?_ | omega | (simp; done) | (simp; omega))))).mono ?_); rw [H6.out]; rintro e w6 ⟨rfl, hb6⟩; obtain ⟨hc6, hf6⟩ := bcell hb6; have hz6 := hb6.size; have hw6 : w.heap.size < w6.heap.size := (by omega)))
    go_ret
    exact ⟨by first | rfl | (simp; done), by (repeat' (first | with_reducible exact Below.refl _ _ | with_reducible assumption | with_reducible refine Below.drew ?_ | with_reducible refine below_drewN' ?_ _ | with_reducible refine Below.alloc ?_ ?_ _ | with_reducible refine Below.setCell ?_ ?_ _ | with_reducible refine below_step (by assumption) ?_ ?_ | omega | (simp; done) | (simp; omega)))⟩
  cases h3 : inB mn 0 mx
  · have hv : rightG ⟨nm, mn, mx, M, pr, rk⟩ = false := by simp [rightG, h1, h2, h3]
    rw [hv]
    have H1 := Lib.hid h1
    have H2 := Lib.hid h2
    have H3 := Lib.hid h3
    clear hv h1 h2 h3
    go_enter Try.func36, Try.ntmps36
    go_wp2_with (first
      | (go_at_call 41; (with_reducible refine (word_any nm _).mono ?_); rw [H1.out]; rintro e w1 ⟨rfl, hb1⟩; obtain ⟨hc1, hf1⟩ := bcell hb1; have hz1 := hb1.size; (try simp at hz1); have hw1 : w.heap.size < w1.heap.size := (by omega))
      | (go_at_call 42; (with_reducible refine (within_any mx 1 200 _).mono ?_); rw [H2.out]; rintro e w2 ⟨rfl, hb2⟩; obtain ⟨hc2, hf2⟩ := bcell hb2; have hz2 := hb2.size; have hw2 : w.heap.size < w2.heap.size := (by omega))
      | (go_at_call 42; (with_reducible refine (within_any mn 0 mx _).mono ?_); rw [H3.out]; rintro e w3 ⟨rfl, hb3⟩; obtain ⟨hc3, hf3⟩ := bcell hb3; have hz3 := hb3.size; have hw3 : w.heap.size < w3.heap.size := (by omega))
      | (go_at_call 42; (with_reducible refine (within_any pr 0 1125899906842624 _).mono ?_); rw [H4.out]; rintro e w4 ⟨rfl, hb4⟩; obtain ⟨hc4, hf4⟩ := bcell hb4; have hz4 := hb4.size; have hw4 : w.heap.size < w4.heap.size := (by omega))
      | (go_at_call 42; (with_reducible refine (within_any rk 0 1000 _).mono ?_); rw [H5.out]; rintro e w5 ⟨rfl, hb5⟩; obtain ⟨hc5, hf5⟩ := bcell hb5; have hz5 := hb5.size; have hw5 : w.heap.size < w5.heap.size := (by omega))
      | (go_at_call 43; (with_reducible refine (HMM.out _ (by (repeat' (first | with_reducible exact Below.refl _ _ | with_reducible assumption | with_reducible refine Below.drew ?_ | with_reducible refine below_drewN' ?_ _ | with_reducible refine Below.alloc ?_ ?_ _ | with_reducible refine Below.setCell ?_ ?_ _ | with_reducible refine below_step (by assumption) ?_ ?_ | omega | (simp; done) | (simp; omega))))).mono ?_); rw [H6.out]; rintro e w6 ⟨rfl, hb6⟩; obtain ⟨hc6, hf6⟩ := bcell hb6; have hz6 := hb6.size; have hw6 : w.heap.size < w6.heap.size := (by omega)))
    go_ret
    exact ⟨by first | rfl | (simp; done), by (repeat' (first | with_reducible exact Below.refl _ _ | with_reducible assumption | with_reducible refine Below.drew ?_ | with_reducible refine below_drewN' ?_ _ | with_reducible refine Below.alloc ?_ ?_ _ | with_reducible refine Below.setCell ?_ ?_ _ | with_reducible refine below_step (by assumption) ?_ ?_ | omega | (simp; done) | (simp; omega)))⟩
  cases h4 : inB pr 0 1125899906842624
  · have hv : rightG ⟨nm, mn, mx, M, pr, rk⟩ = false := by simp [rightG, h1, h2, h3, h4]
    rw [hv]
    have H1 := Lib.hid h1
    have H2 := Lib.hid h2
    have H3 := Lib.hid h3
    have H4 := Lib.hid h4
    clear hv h1 h2 h3 h4
    go_enter Try.func36, Try.ntmps36
    go_wp2_with (first
      | (go_at_call 41; (with_reducible refine (word_any nm _).mono ?_); rw [H1.out]; rintro e w1 ⟨rfl, hb1⟩; obtain ⟨hc1, hf1⟩ := bcell hb1; have hz1 := hb1.size; (try simp at hz1); have hw1 : w.heap.size < w1.heap.size := (by omega))
      | (go_at_call 42; (with_reducible refine (within_any mx 1 200 _).mono ?_); rw [H2.out]; rintro e w2 ⟨rfl, hb2⟩; obtain ⟨hc2, hf2⟩ := bcell hb2; have hz2 := hb2.size; have hw2 : w.heap.size < w2.heap.size := (by omega))
      | (go_at_call 42; (with_reducible refine (within_any mn 0 mx _).mono ?_); rw [H3.out]; rintro e w3 ⟨rfl, hb3⟩; obtain ⟨hc3, hf3⟩ := bcell hb3; have hz3 := hb3.size; have hw3 : w.heap.size < w3.heap.size := (by omega))
      | (go_at_call 42; (with_reducible refine (within_any pr 0 1125899906842624 _).mono ?_); rw [H4.out]; rintro e w4 ⟨rfl, hb4⟩; obtain ⟨hc4, hf4⟩ := bcell hb4; have hz4 := hb4.size; have hw4 : w.heap.size < w4.heap.size := (by omega))
      | (go_at_call 42; (with_reducible refine (within_any rk 0 1000 _).mono ?_); rw [H5.out]; rintro e w5 ⟨rfl, hb5⟩; obtain ⟨hc5, hf5⟩ := bcell hb5; have hz5 := hb5.size; have hw5 : w.heap.size < w5.heap.size := (by omega))
      | (go_at_call 43; (with_reducible refine (HMM.out _ (by (repeat' (first | with_reducible exact Below.refl _ _ | with_reducible assumption | with_reducible refine Below.drew ?_ | with_reducible refine below_drewN' ?_ _ | with_reducible refine Below.alloc ?_ ?_ _ | with_reducible refine Below.setCell ?_ ?_ _ | with_reducible refine below_step (by assumption) ?_ ?_ | omega | (simp; done) | (simp; omega))))).mono ?_); rw [H6.out]; rintro e w6 ⟨rfl, hb6⟩; obtain ⟨hc6, hf6⟩ := bcell hb6; have hz6 := hb6.size; have hw6 : w.heap.size < w6.heap.size := (by omega)))
    go_ret
    exact ⟨by first | rfl | (simp; done), by (repeat' (first | with_reducible exact Below.refl _ _ | with_reducible assumption | with_reducible refine Below.drew ?_ | with_reducible refine below_drewN' ?_ _ | with_reducible refine Below.alloc ?_ ?_ _ | with_reducible refine Below.setCell ?_ ?_ _ | with_reducible refine below_step (by assumption) ?_ ?_ | omega | (simp; done) | (simp; omega)))⟩
  cases h5 : inB rk 0 1000
  · have hv : rightG ⟨nm, mn, mx, M, pr, rk⟩ = false := by simp [rightG, h1, h2, h3, h4, h5]
    rw [hv]
    have H1 := Lib.hid h1
    have H2 := Lib.hid h2
    have H3 := Lib.hid h3
    have H4 := Lib.hid h4
    have H5 := Lib.hid h5
    clear hv h1 h2 h3 h4 h5
    go_enter Try.func36, Try.ntmps36
    go_wp2_with (first
      | (go_at_call 41; (with_reducible refine (word_any nm _).mono ?_); rw [H1.out]; rintro e w1 ⟨rfl, hb1⟩; obtain ⟨hc1, hf1⟩ := bcell hb1; have hz1 := hb1.size; (try simp at hz1); have hw1 : w.heap.size < w1.heap.size := (by omega))
      | (go_at_call 42; (with_reducible refine (within_any mx 1 200 _).mono ?_); rw [H2.out]; rintro e w2 ⟨rfl, hb2⟩; obtain ⟨hc2, hf2⟩ := bcell hb2; have hz2 := hb2.size; have hw2 : w.heap.size < w2.heap.size := (by omega))
      | (go_at_call 42; (with_reducible refine (within_any mn 0 mx _).mono ?_); rw [H3.out]; rintro e w3 ⟨rfl, hb3⟩; obtain ⟨hc3, hf3⟩ := bcell hb3; have hz3 := hb3.size; have hw3 : w.heap.size < w3.heap.size := (by omega))
      | (go_at_call 42; (with_reducible refine (within_any pr 0 1125899906842624 _).mono ?_); rw [H4.out]; rintro e w4 ⟨rfl, hb4⟩; obtain ⟨hc4, hf4⟩ := bcell hb4; have hz4 := hb4.size; have hw4 : w.heap.size < w4.heap.size := (by omega))
      | (go_at_call 42; (with_reducible refine (within_any rk 0 1000 _).mono ?_); rw [H5.out]; rintro e w5 ⟨rfl, hb5⟩; obtain ⟨hc5, hf5⟩ := bcell hb5; have hz5 := hb5.size; have hw5 : w.heap.size < w5.heap.size := (by omega))
      | (go_at_call 43; (with_reducible refine (HMM.out _ (by (repeat' (first | with_reducible exact Below.refl _ _ | with_reducible assumption | with_reducible refine Below.drew ?_ | with_reducible refine below_drewN' ?_ _ | with_reducible refine Below.alloc ?_ ?_ _ | with_reducible refine Below.setCell ?_ ?_ _ | with_reducible refine below_step (by assumption) ?_ ?_ | omega | (simp; done) | (simp; omega))))).mono ?_); rw [H6.out]; rintro e w6 ⟨rfl, hb6⟩; obtain ⟨hc6, hf6⟩ := bcell hb6; have hz6 := hb6.size; have hw6 : w.heap.size < w6.heap.size := (by omega)))
    go_ret
    exact ⟨by first | rfl | (simp; done), by (repeat' (first | with_reducible exact Below.refl _ _ | with_reducible assumption | with_reducible refine Below.drew ?_ | with_reducible refine below_drewN' ?_ _ | with_reducible refine Below.alloc ?_ ?_ _ | with_reducible refine Below.setCell ?_ ?_ _ | with_reducible refine below_step (by assumption) ?_ ?_ | omega | (simp; done) | (simp; omega)))⟩
  cases h6 : rightM M
  · have hv : rightG ⟨nm, mn, mx, M, pr, rk⟩ = false := by simp [rightG, h1, h2, h3, h4, h5, h6]
    rw [hv]
    have H1 := Lib.hid h1
    have H2 := Lib.hid h2
    have H3 := Lib.hid h3
    have H4 := Lib.hid h4
    have H5 := Lib.hid h5
    have H6 := Lib.hid h6
    clear hv h1 h2 h3 h4 h5 h6
    go_enter Try.func36, Try.ntmps36
    go_wp2_with (first
      | (go_at_call 41; (with_reducible refine (word_any nm _).mono ?_); rw [H1.out]; rintro e w1 ⟨rfl, hb1⟩; obtain ⟨hc1, hf1⟩ := bcell hb1; have hz1 := hb1.size; (try simp at hz1); have hw1 : w.heap.size < w1.heap.size := (by omega))
      | (go_at_call 42; (with_reducible refine (within_any mx 1 200 _).mono ?_); rw [H2.out]; rintro e w2 ⟨rfl, hb2⟩; obtain ⟨hc2, hf2⟩ := bcell hb2; have hz2 := hb2.size; have hw2 : w.heap.size < w2.heap.size := (by omega))
      | (go_at_call 42; (with_reducible refine (within_any mn 0 mx _).mono ?_); rw [H3.out]; rintro e w3 ⟨rfl, hb3⟩; obtain ⟨hc3, hf3⟩ := bcell hb3; have hz3 := hb3.size; have hw3 : w.heap.size < w3.heap.size := (by omega))
      | (go_at_call 42; (with_reducible refine (within_any pr 0 1125899906842624 _).mono ?_); rw [H4.out]; rintro e w4 ⟨rfl, hb4⟩; obtain ⟨hc4, hf4⟩ := bcell hb4; have hz4 := hb4.size; have hw4 : w.heap.size < w4.heap.size := (by omega))
      | (go_at_call 42; (with_reducible refine (within_any rk 0 1000 _).mono ?_); rw [H5.out]; rintro e w5 ⟨rfl, hb5⟩; obtain ⟨hc5, hf5⟩ := bcell hb5; have hz5 := hb5.size; have hw5 : w.heap.size < w5.heap.size := (by omega))
      | (go_at_call 43; (with_reducible refine (HMM.out _ (by (repeat' (first | with_reducible exact Below.refl _ _ | with_reducible assumption | with_reducible refine Below.drew ?_ | with_reducible refine below_drewN' ?_ _ | with_reducible refine Below.alloc ?_ ?_ _ | with_reducible refine Below.setCell ?_ ?_ _ | with_reducible refine below_step (by assumption) ?_ ?_ | omega | (simp; done) | (simp; omega))))).mono ?_); rw [H6.out]; rintro e w6 ⟨rfl, hb6⟩; obtain ⟨hc6, hf6⟩ := bcell hb6; have hz6 := hb6.size; have hw6 : w.heap.size < w6.heap.size := (by omega)))
    go_ret
    exact ⟨by first | rfl | (simp; done), by (repeat' (first | with_reducible exact Below.refl _ _ | with_reducible assumption | with_reducible refine Below.drew ?_ | with_reducible refine below_drewN' ?_ _ | with_reducible refine Below.alloc ?_ ?_ _ | with_reducible refine Below.setCell ?_ ?_ _ | with_reducible refine below_step (by assumption) ?_ ?_ | omega | (simp; done) | (simp; omega)))⟩
  have hv0 : rightG ⟨nm, mn, mx, M, pr, rk⟩ = (decide (M.nm = emp) && decide (M.gp = nm) && M.rd) := by simp [rightG, h1, h2, h3, h4, h5, h6]
  rw [hv0]
  have H1 := Lib.hid h1
  have H2 := Lib.hid h2
  have H3 := Lib.hid h3
  have H4 := Lib.hid h4
  have H5 := Lib.hid h5
  have H6 := Lib.hid h6
  clear hv0 h1 h2 h3 h4 h5 h6
  obtain ⟨mm, mg, r0, r1, r2, r3, r4, la, lk, L, ta, tk, T, rd⟩ := M
  dsimp only
  by_cases h7 : mm = emp
  · obtain ⟨p1, p2, p3, p4⟩ := emp_lits h7
    rw [decide_eq_true h7]
    clear h7
    by_cases h8 : mg = nm
    · have k8 := tnt_str h8
      rw [decide_eq_true h8]
      clear h8
      cases rd
      · skip
        go_enter Try.func36, Try.ntmps36
        go_wp2_with (first
          | (go_at_call 41; (with_reducible refine (word_any nm _).mono ?_); rw [H1.out]; rintro e w1 ⟨rfl, hb1⟩; obtain ⟨hc1, hf1⟩ := bcell hb1; have hz1 := hb1.size; (try simp at hz1); have hw1 : w.heap.size < w1.heap.size := (by omega))
          | (go_at_call 42; (with_reducible refine (within_any mx 1 200 _).mono ?_); rw [H2.out]; rintro e w2 ⟨rfl, hb2⟩; obtain ⟨hc2, hf2⟩ := bcell hb2; have hz2 := hb2.size; have hw2 : w.heap.size < w2.heap.size := (by omega))
          | (go_at_call 42; (with_reducible refine (within_any mn 0 mx _).mono ?_); rw [H3.out]; rintro e w3 ⟨rfl, hb3⟩; obtain ⟨hc3, hf3⟩ := bcell hb3; have hz3 := hb3.size; have hw3 : w.heap.size < w3.heap.size := (by omega))
          | (go_at_call 42; (with_reducible refine (within_any pr 0 1125899906842624 _).mono ?_); rw [H4.out]; rintro e w4 ⟨rfl, hb4⟩; obtain ⟨hc4, hf4⟩ := bcell hb4; have hz4 := hb4.size; have hw4 : w.heap.size < w4.heap.size := (by omega))
          | (go_at_call 42; (with_reducible refine (within_any rk 0 1000 _).mono ?_); rw [H5.out]; rintro e w5 ⟨rfl, hb5⟩; obtain ⟨hc5, hf5⟩ := bcell hb5; have hz5 := hb5.size; have hw5 : w.heap.size < w5.heap.size := (by omega))
          | (go_at_call 43; (with_reducible refine (HMM.out _ (by (repeat' (first | with_reducible exact Below.refl _ _ | with_reducible assumption | with_reducible refine Below.drew ?_ | with_reducible refine below_drewN' ?_ _ | with_reducible refine Below.alloc ?_ ?_ _ | with_reducible refine Below.setCell ?_ ?_ _ | with_reducible refine below_step (by assumption) ?_ ?_ | omega | (simp; done) | (simp; omega))))).mono ?_); rw [H6.out]; rintro e w6 ⟨rfl, hb6⟩; obtain ⟨hc6, hf6⟩ := bcell hb6; have hz6 := hb6.size; have hw6 : w.heap.size < w6.heap.size := (by omega)))
        go_ret
        exact ⟨by first | rfl | (simp; done), by (repeat' (first | with_reducible exact Below.refl _ _ | with_reducible assumption | with_reducible refine Below.drew ?_ | with_reducible refine below_drewN' ?_ _ | with_reducible refine Below.alloc ?_ ?_ _ | with_reducible refine Below.setCell ?_ ?_ _ | with_reducible refine below_step (by assumption) ?_ ?_ | omega | (simp; done) | (simp; omega)))⟩
      · skip
        go_enter Try.func36, Try.ntmps36
        go_wp2_with (first
          | (go_at_call 41; (with_reducible refine (word_any nm _).mono ?_); rw [H1.out]; rintro e w1 ⟨rfl, hb1⟩; obtain ⟨hc1, hf1⟩ := bcell hb1; have hz1 := hb1.size; (try simp at hz1); have hw1 : w.heap.size < w1.heap.size := (by omega))
          | (go_at_call 42; (with_reducible refine (within_any mx 1 200 _).mono ?_); rw [H2.out]; rintro e w2 ⟨rfl, hb2⟩; obtain ⟨hc2, hf2⟩ := bcell hb2; have hz2 := hb2.size; have hw2 : w.heap.size < w2.heap.size := (by omega))
          | (go_at_call 42; (with_reducible refine (within_any mn 0 mx _).mono ?_); rw [H3.out]; rintro e w3 ⟨rfl, hb3⟩; obtain ⟨hc3, hf3⟩ := bcell hb3; have hz3 := hb3.size; have hw3 : w.heap.size < w3.heap.size := (by omega))
          | (go_at_call 42; (with_reducible refine (within_any pr 0 1125899906842624 _).mono ?_); rw [H4.out]; rintro e w4 ⟨rfl, hb4⟩; obtain ⟨hc4, hf4⟩ := bcell hb4; have hz4 := hb4.size; have hw4 : w.heap.size < w4.heap.size := (by omega))
          | (go_at_call 42; (with_reducible refine (within_any rk 0 1000 _).mono ?_); rw [H5.out]; rintro e w5 ⟨rfl, hb5⟩; obtain ⟨hc5, hf5⟩ := bcell hb5; have hz5 := hb5.size; have hw5 : w.heap.size < w5.heap.size := (by omega))
          | (go_at_call 43; (with_reducible refine (HMM.out _ (by (repeat' (first | with_reducible exact Below.refl _ _ | with_reducible assumption | with_reducible refine Below.drew ?_ | with_reducible refine below_drewN' ?_ _ | with_reducible refine Below.alloc ?_ ?_ _ | with_reducible refine Below.setCell ?_ ?_ _ | with_reducible refine below_step (by assumption) ?_ ?_ | omega | (simp; done) | (simp; omega))))).mono ?_); rw [H6.out]; rintro e w6 ⟨rfl, hb6⟩; obtain ⟨hc6, hf6⟩ := bcell hb6; have hz6 := hb6.size; have hw6 : w.heap.size < w6.heap.size := (by omega)))
        go_ret
        exact ⟨by first | rfl | (simp; done), by (repeat' (first | with_reducible exact Below.refl _ _ | with_reducible assumption | with_reducible refine Below.drew ?_ | with_reducible refine below_drewN' ?_ _ | with_reducible refine Below.alloc ?_ ?_ _ | with_reducible refine Below.setCell ?_ ?_ _ | with_reducible refine below_step (by assumption) ?_ ?_ | omega | (simp; done) | (simp; omega)))⟩
    · have k8 := tnt_strn h8
      rw [decide_eq_false h8]
      clear h8
      cases rd
      · skip
        go_enter Try.func36, Try.ntmps36
        go_wp2_with (first
          | (go_at_call 41; (with_reducible refine (word_any nm _).mono ?_); rw [H1.out]; rintro e w1 ⟨rfl, hb1⟩; obtain ⟨hc1, hf1⟩ := bcell hb1; have hz1 := hb1.size; (try simp at hz1); have hw1 : w.heap.size < w1.heap.size := (by omega))
          | (go_at_call 42; (with_reducible refine (within_any mx 1 200 _).mono ?_); rw [H2.out]; rintro e w2 ⟨rfl, hb2⟩; obtain ⟨hc2, hf2⟩ := bcell hb2; have hz2 := hb2.size; have hw2 : w.heap.size < w2.heap.size := (by omega))
          | (go_at_call 42; (with_reducible refine (within_any mn 0 mx _).mono ?_); rw [H3.out]; rintro e w3 ⟨rfl, hb3⟩; obtain ⟨hc3, hf3⟩ := bcell hb3; have hz3 := hb3.size; have hw3 : w.heap.size < w3.heap.size := (by omega))
          | (go_at_call 42; (with_reducible refine (within_any pr 0 1125899906842624 _).mono ?_); rw [H4.out]; rintro e w4 ⟨rfl, hb4⟩; obtain ⟨hc4, hf4⟩ := bcell hb4; have hz4 := hb4.size; have hw4 : w.heap.size < w4.heap.size := (by omega))
          | (go_at_call 42; (with_reducible refine (within_any rk 0 1000 _).mono ?_); rw [H5.out]; rintro e w5 ⟨rfl, hb5⟩; obtain ⟨hc5, hf5⟩ := bcell hb5; have hz5 := hb5.size; have hw5 : w.heap.size < w5.heap.size := (by omega))
          | (go_at_call 43; (with_reducible refine (HMM.out _ (by (repeat' (first | with_reducible exact Below.refl _ _ | with_reducible assumption | with_reducible refine Below.drew ?_ | with_reducible refine below_drewN' ?_ _ | with_reducible refine Below.alloc ?_ ?_ _ | with_reducible refine Below.setCell ?_ ?_ _ | with_reducible refine below_step (by assumption) ?_ ?_ | omega | (simp; done) | (simp; omega))))).mono ?_); rw [H6.out]; rintro e w6 ⟨rfl, hb6⟩; obtain ⟨hc6, hf6⟩ := bcell hb6; have hz6 := hb6.size; have hw6 : w.heap.size < w6.heap.size := (by omega)))
        go_ret
        exact ⟨by first | rfl | (simp; done), by (repeat' (first | with_reducible exact Below.refl _ _ | with_reducible assumption | with_reducible refine Below.drew ?_ | with_reducible refine below_drewN' ?_ _ | with_reducible refine Below.alloc ?_ ?_ _ | with_reducible refine Below.setCell ?_ ?_ _ | with_reducible refine below_step (by assumption) ?_ ?_ | omega | (simp; done) | (simp; omega)))⟩
      · skip
        go_enter Try.func36, Try.ntmps36
        go_wp2_with (first
          | (go_at_call 41; (with_reducible refine (word_any nm _).mono ?_); rw [H1.out]; rintro e w1 ⟨rfl, hb1⟩; obtain ⟨hc1, hf1⟩ := bcell hb1; have hz1 := hb1.size; (try simp at hz1); have hw1 : w.heap.size < w1.heap.size := (by omega))
          | (go_at_call 42; (with_reducible refine (within_any mx 1 200 _).mono ?_); rw [H2.out]; rintro e w2 ⟨rfl, hb2⟩; obtain ⟨hc2, hf2⟩ := bcell hb2; have hz2 := hb2.size; have hw2 : w.heap.size < w2.heap.size := (by omega))
          | (go_at_call 42; (with_reducible refine (within_any mn 0 mx _).mono ?_); rw [H3.out]; rintro e w3 ⟨rfl, hb3⟩; obtain ⟨hc3, hf3⟩ := bcell hb3; have hz3 := hb3.size; have hw3 : w.heap.size < w3.heap.size := (by omega))
          | (go_at_call 42; (with_reducible refine (within_any pr 0 1125899906842624 _).mono ?_); rw [H4.out]; rintro e w4 ⟨rfl, hb4⟩; obtain ⟨hc4, hf4⟩ := bcell hb4; have hz4 := hb4.size; have hw4 : w.heap.size < w4.heap.size := (by omega))
          | (go_at_call 42; (with_reducible refine (within_any rk 0 1000 _).mono ?_); rw [H5.out]; rintro e w5 ⟨rfl, hb5⟩; obtain ⟨hc5, hf5⟩ := bcell hb5; have hz5 := hb5.size; have hw5 : w.heap.size < w5.heap.size := (by omega))
          | (go_at_call 43; (with_reducible refine (HMM.out _ (by (repeat' (first | with_reducible exact Below.refl _ _ | with_reducible assumption | with_reducible refine Below.drew ?_ | with_reducible refine below_drewN' ?_ _ | with_reducible refine Below.alloc ?_ ?_ _ | with_reducible refine Below.setCell ?_ ?_ _ | with_reducible refine below_step (by assumption) ?_ ?_ | omega | (simp; done) | (simp; omega))))).mono ?_); rw [H6.out]; rintro e w6 ⟨rfl, hb6⟩; obtain ⟨hc6, hf6⟩ := bcell hb6; have hz6 := hb6.size; have hw6 : w.heap.size < w6.heap.size := (by omega)))
        go_ret
        exact ⟨by first | rfl | (simp; done), by (repeat' (first | with_reducible exact Below.refl _ _ | with_reducible assumption | with_reducible refine Below.drew ?_ | with_reducible refine below_drewN' ?_ _ | with_reducible refine Below.alloc ?_ ?_ _ | with_reducible refine Below.setCell ?_ ?_ _ | with_reducible refine below_step (by assumption) ?_ ?_ | omega | (simp; done) | (simp; omega)))⟩
  · obtain ⟨p1, p2, p3, p4⟩ := emp_litn h7
    rw [decide_eq_false h7]
    clear h7
    go_enter Try.func36, Try.ntmps36
    go_wp2_with (first
      | (go_at_call 41; (with_reducible refine (word_any nm _).mono ?_); rw [H1.out]; rintro e w1 ⟨rfl, hb1⟩; obtain ⟨hc1, hf1⟩ := bcell hb1; have hz1 := hb1.size; (try simp at hz1); have hw1 : w.heap.size < w1.heap.size := (by omega))
      | (go_at_call 42; (with_reducible refine (within_any mx 1 200 _).mono ?_); rw [H2.out]; rintro e w2 ⟨rfl, hb2⟩; obtain ⟨hc2, hf2⟩ := bcell hb2; have hz2 := hb2.size; have hw2 : w.heap.size < w2.heap.size := (by omega))
      | (go_at_call 42; (with_reducible refine (within_any mn 0 mx _).mono ?_); rw [H3.out]; rintro e w3 ⟨rfl, hb3⟩; obtain ⟨hc3, hf3⟩ := bcell hb3; have hz3 := hb3.size; have hw3 : w.heap.size < w3.heap.size := (by omega))
      | (go_at_call 42; (with_reducible refine (within_any pr 0 1125899906842624 _).mono ?_); rw [H4.out]; rintro e w4 ⟨rfl, hb4⟩; obtain ⟨hc4, hf4⟩ := bcell hb4; have hz4 := hb4.size; have hw4 : w.heap.size < w4.heap.size := (by omega))
      | (go_at_call 42; (with_reducible refine (within_any rk 0 1000 _).mono ?_); rw [H5.out]; rintro e w5 ⟨rfl, hb5⟩; obtain ⟨hc5, hf5⟩ := bcell hb5; have hz5 := hb5.size; have hw5 : w.heap.size < w5.heap.size := (by omega))
      | (go_at_call 43; (with_reducible refine (HMM.out _ (by (repeat' (first | with_reducible exact Below.refl _ _ | with_reducible assumption | with_reducible refine Below.drew ?_ | with_reducible refine below_drewN' ?_ _ | with_reducible refine Below.alloc ?_ ?_ _ | with_reducible refine Below.setCell ?_ ?_ _ | with_reducible refine below_step (by assumption) ?_ ?_ | omega | (simp; done) | (simp; omega))))).mono ?_); rw [H6.out]; rintro e w6 ⟨rfl, hb6⟩; obtain ⟨hc6, hf6⟩ := bcell hb6; have hz6 := hb6.size; have hw6 : w.heap.size < w6.heap.size := (by omega)))
    go_ret
    exact ⟨by first | rfl | (simp; done), by (repeat' (first | with_reducible exact Below.refl _ _ | with_reducible assumption | with_reducible refine Below.drew ?_ | with_reducible refine below_drewN' ?_ _ | with_reducible refine Below.alloc ?_ ?_ _ | with_reducible refine Below.setCell ?_ ?_ _ | with_reducible refine below_step (by assumption) ?_ ?_ | omega | (simp; done) | (simp; omega)))⟩

end Go.Proofs.Ytaipiflbigpniaa
