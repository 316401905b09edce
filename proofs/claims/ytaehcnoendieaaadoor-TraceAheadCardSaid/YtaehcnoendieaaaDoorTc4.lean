/-
  The document's Right.
-/
import Derived.Test.YtaehcnoendieaaaDoorTc3
namespace Go.Proofs.YtaehcnoendieaaaDoor
open Go.RowKit
set_option linter.unusedVariables false
set_option linter.unusedSimpArgs false

theorem kind_le (s : ByteArray) : kindB s = 0 ∨ kindB s = 1 ∨ kindB s = 2 ∨ kindB s = 3 := by
  unfold kindB
  split
  · exact .inr (.inl rfl)
  · split
    · exact .inr (.inr (.inl rfl))
    · split
      · exact .inr (.inr (.inr rfl))
      · exact .inl rfl
set_option maxRecDepth 100000 in
set_option maxHeartbeats 4000000 in
theorem rright_any (e : Ev) (hs : e.name.size ≤ 1000000000) (w : World) :
    Calls Tryd.prog 15 #[.agg #[.int .i64 e.now, .string e.what, .string e.name, .int .i64 e.n]] w fun r w' => r = .returned (.bool (rightE e)) ∧ Below w.heap.size w w' := by
  obtain ⟨now, what, name, n⟩ := e
  obtain ⟨R, hR⟩ : ∃ R, rightE ⟨now, what, name, n⟩ = R := ⟨_, rfl⟩
  rw [hR]
  unfold rightE at hR
  dsimp only at hR hs ⊢
  have HK1 := Lib.hid (fun w : World => rkind_any what w)
  by_cases t0 : now < 0
  · have q0 : decide (now < 0) = true := decide_eq_true t0
    obtain rfl : R = false := by rw [← hR, decide_eq_false (by omega)]; rfl
    clear hR t0
    go_enter Tryd.func15, Tryd.ntmps15
    go_wp2
    go_ret
    exact ⟨rfl, by (repeat' (first | with_reducible exact Below.refl _ _ | with_reducible assumption | with_reducible refine Below.drew ?_ | with_reducible refine below_drewN' ?_ _ | with_reducible refine Below.alloc ?_ ?_ _ | with_reducible refine Below.setCell ?_ ?_ _ | with_reducible refine below_step (by assumption) ?_ ?_ | omega | (simp; done) | (simp; omega)))⟩
  by_cases t1 : 1099511627776 < now
  · have q0 : decide (now < 0) = false := decide_eq_false t0
    have q1 : decide (1099511627776 < now) = true := decide_eq_true t1
    obtain rfl : R = false := by rw [← hR, decide_eq_false (by omega)]; rfl
    clear hR t0 t1
    go_enter Tryd.func15, Tryd.ntmps15
    go_wp2
    go_ret
    exact ⟨rfl, by (repeat' (first | with_reducible exact Below.refl _ _ | with_reducible assumption | with_reducible refine Below.drew ?_ | with_reducible refine below_drewN' ?_ _ | with_reducible refine Below.alloc ?_ ?_ _ | with_reducible refine Below.setCell ?_ ?_ _ | with_reducible refine below_step (by assumption) ?_ ?_ | omega | (simp; done) | (simp; omega)))⟩
  have q0 : decide (now < 0) = false := decide_eq_false t0
  have q1 : decide (1099511627776 < now) = false := decide_eq_false t1
  rw [decide_eq_true (show 0 ≤ now ∧ now ≤ 1099511627776 from ⟨by omega, by omega⟩), Bool.true_and] at hR
  clear t0 t1
  rcases kind_le what with k | k | k | k
  · rw [k] at hR HK1
    obtain rfl : R = false := hR.symm
    clear hR k
    go_enter Tryd.func15, Tryd.ntmps15
    go_wp2_with (first
      | (go_at_call 29; (with_reducible refine (HK1.out _).mono ?_); rintro e w1 ⟨rfl, rfl⟩)
      | (go_at_call 30; (with_reducible refine (refword_any _ hs _).mono ?_); rintro e w9 ⟨rfl, hb9⟩; obtain ⟨hc9, hf9⟩ := bcell hb9; have hz9 := hb9.size; (try simp at hz9); have hx9 : w.heap.size < w9.heap.size := by omega))
    go_ret
    exact ⟨rfl, by (repeat' (first | with_reducible exact Below.refl _ _ | with_reducible assumption | with_reducible refine Below.drew ?_ | with_reducible refine below_drewN' ?_ _ | with_reducible refine Below.alloc ?_ ?_ _ | with_reducible refine Below.setCell ?_ ?_ _ | with_reducible refine below_step (by assumption) ?_ ?_ | omega | (simp; done) | (simp; omega)))⟩
  · rw [k] at hR HK1
    rw [if_pos rfl] at hR
    cases hw : wordB name
    · obtain rfl : R = false := by rw [← hR, hw]; rfl
      clear hR k
      go_enter Tryd.func15, Tryd.ntmps15
      go_wp2_with (first
        | (go_at_call 29; (with_reducible refine (HK1.out _).mono ?_); rintro e w1 ⟨rfl, rfl⟩)
        | (go_at_call 30; (with_reducible refine (refword_any _ hs _).mono ?_); rintro e w9 ⟨rfl, hb9⟩; obtain ⟨hc9, hf9⟩ := bcell hb9; have hz9 := hb9.size; (try simp at hz9); have hx9 : w.heap.size < w9.heap.size := by omega))
      go_ret
      exact ⟨rfl, by (repeat' (first | with_reducible exact Below.refl _ _ | with_reducible assumption | with_reducible refine Below.drew ?_ | with_reducible refine below_drewN' ?_ _ | with_reducible refine Below.alloc ?_ ?_ _ | with_reducible refine Below.setCell ?_ ?_ _ | with_reducible refine below_step (by assumption) ?_ ?_ | omega | (simp; done) | (simp; omega)))⟩
    · by_cases h1 : 1 ≤ n
      · have p1 : decide (1 ≤ n) = true := decide_eq_true h1
        by_cases h2 : n ≤ 200
        · have p2 : decide (n ≤ 200) = true := decide_eq_true h2
          obtain rfl : R = true := by rw [← hR, hw, decide_eq_true (show 1 ≤ n ∧ n ≤ 200 from ⟨h1, h2⟩)]; rfl
          clear hR h1 h2 k
          go_enter Tryd.func15, Tryd.ntmps15
          go_wp2_with (first
            | (go_at_call 29; (with_reducible refine (HK1.out _).mono ?_); rintro e w1 ⟨rfl, rfl⟩)
            | (go_at_call 30; (with_reducible refine (refword_any _ hs _).mono ?_); rintro e w9 ⟨rfl, hb9⟩; obtain ⟨hc9, hf9⟩ := bcell hb9; have hz9 := hb9.size; (try simp at hz9); have hx9 : w.heap.size < w9.heap.size := by omega))
          go_ret
          exact ⟨rfl, by (repeat' (first | with_reducible exact Below.refl _ _ | with_reducible assumption | with_reducible refine Below.drew ?_ | with_reducible refine below_drewN' ?_ _ | with_reducible refine Below.alloc ?_ ?_ _ | with_reducible refine Below.setCell ?_ ?_ _ | with_reducible refine below_step (by assumption) ?_ ?_ | omega | (simp; done) | (simp; omega)))⟩
        · have p2 : decide (n ≤ 200) = false := decide_eq_false h2
          obtain rfl : R = false := by rw [← hR, hw, decide_eq_false (fun h : 1 ≤ n ∧ n ≤ 200 => h2 h.2)]; rfl
          clear hR h1 h2 k
          go_enter Tryd.func15, Tryd.ntmps15
          go_wp2_with (first
            | (go_at_call 29; (with_reducible refine (HK1.out _).mono ?_); rintro e w1 ⟨rfl, rfl⟩)
            | (go_at_call 30; (with_reducible refine (refword_any _ hs _).mono ?_); rintro e w9 ⟨rfl, hb9⟩; obtain ⟨hc9, hf9⟩ := bcell hb9; have hz9 := hb9.size; (try simp at hz9); have hx9 : w.heap.size < w9.heap.size := by omega))
          go_ret
          exact ⟨rfl, by (repeat' (first | with_reducible exact Below.refl _ _ | with_reducible assumption | with_reducible refine Below.drew ?_ | with_reducible refine below_drewN' ?_ _ | with_reducible refine Below.alloc ?_ ?_ _ | with_reducible refine Below.setCell ?_ ?_ _ | with_reducible refine below_step (by assumption) ?_ ?_ | omega | (simp; done) | (simp; omega)))⟩
      · have p1 : decide (1 ≤ n) = false := decide_eq_false h1
        obtain rfl : R = false := by rw [← hR, hw, decide_eq_false (fun h : 1 ≤ n ∧ n ≤ 200 => h1 h.1)]; rfl
        clear hR h1 k
        go_enter Tryd.func15, Tryd.ntmps15
        go_wp2_with (first
          | (go_at_call 29; (with_reducible refine (HK1.out _).mono ?_); rintro e w1 ⟨rfl, rfl⟩)
          | (go_at_call 30; (with_reducible refine (refword_any _ hs _).mono ?_); rintro e w9 ⟨rfl, hb9⟩; obtain ⟨hc9, hf9⟩ := bcell hb9; have hz9 := hb9.size; (try simp at hz9); have hx9 : w.heap.size < w9.heap.size := by omega))
        go_ret
        exact ⟨rfl, by (repeat' (first | with_reducible exact Below.refl _ _ | with_reducible assumption | with_reducible refine Below.drew ?_ | with_reducible refine below_drewN' ?_ _ | with_reducible refine Below.alloc ?_ ?_ _ | with_reducible refine Below.setCell ?_ ?_ _ | with_reducible refine below_step (by assumption) ?_ ?_ | omega | (simp; done) | (simp; omega)))⟩
  · rw [k] at hR HK1
    rw [if_neg (by decide), if_pos rfl] at hR
    cases hw : wordB name
    · obtain rfl : R = false := by rw [← hR, hw]; rfl
      clear hR k
      go_enter Tryd.func15, Tryd.ntmps15
      go_wp2_with (first
        | (go_at_call 29; (with_reducible refine (HK1.out _).mono ?_); rintro e w1 ⟨rfl, rfl⟩)
        | (go_at_call 30; (with_reducible refine (refword_any _ hs _).mono ?_); rintro e w9 ⟨rfl, hb9⟩; obtain ⟨hc9, hf9⟩ := bcell hb9; have hz9 := hb9.size; (try simp at hz9); have hx9 : w.heap.size < w9.heap.size := by omega))
      go_ret
      exact ⟨rfl, by (repeat' (first | with_reducible exact Below.refl _ _ | with_reducible assumption | with_reducible refine Below.drew ?_ | with_reducible refine below_drewN' ?_ _ | with_reducible refine Below.alloc ?_ ?_ _ | with_reducible refine Below.setCell ?_ ?_ _ | with_reducible refine below_step (by assumption) ?_ ?_ | omega | (simp; done) | (simp; omega)))⟩
    · by_cases h2 : n = 0
      · obtain rfl : R = true := by rw [← hR, hw, decide_eq_true h2]; rfl
        subst h2
        clear hR k
        go_enter Tryd.func15, Tryd.ntmps15
        go_wp2_with (first
          | (go_at_call 29; (with_reducible refine (HK1.out _).mono ?_); rintro e w1 ⟨rfl, rfl⟩)
          | (go_at_call 30; (with_reducible refine (refword_any _ hs _).mono ?_); rintro e w9 ⟨rfl, hb9⟩; obtain ⟨hc9, hf9⟩ := bcell hb9; have hz9 := hb9.size; (try simp at hz9); have hx9 : w.heap.size < w9.heap.size := by omega))
        go_ret
        exact ⟨rfl, by (repeat' (first | with_reducible exact Below.refl _ _ | with_reducible assumption | with_reducible refine Below.drew ?_ | with_reducible refine below_drewN' ?_ _ | with_reducible refine Below.alloc ?_ ?_ _ | with_reducible refine Below.setCell ?_ ?_ _ | with_reducible refine below_step (by assumption) ?_ ?_ | omega | (simp; done) | (simp; omega)))⟩
      · obtain rfl : R = false := by rw [← hR, hw, decide_eq_false h2]; rfl
        have p2 : (n == 0) = false := by simpa using h2
        clear hR h2 k
        go_enter Tryd.func15, Tryd.ntmps15
        go_wp2_with (first
          | (go_at_call 29; (with_reducible refine (HK1.out _).mono ?_); rintro e w1 ⟨rfl, rfl⟩)
          | (go_at_call 30; (with_reducible refine (refword_any _ hs _).mono ?_); rintro e w9 ⟨rfl, hb9⟩; obtain ⟨hc9, hf9⟩ := bcell hb9; have hz9 := hb9.size; (try simp at hz9); have hx9 : w.heap.size < w9.heap.size := by omega))
        go_ret
        exact ⟨rfl, by (repeat' (first | with_reducible exact Below.refl _ _ | with_reducible assumption | with_reducible refine Below.drew ?_ | with_reducible refine below_drewN' ?_ _ | with_reducible refine Below.alloc ?_ ?_ _ | with_reducible refine Below.setCell ?_ ?_ _ | with_reducible refine below_step (by assumption) ?_ ?_ | omega | (simp; done) | (simp; omega)))⟩
  · rw [k] at hR HK1
    rw [if_neg (by decide), if_neg (by decide), if_pos rfl] at hR
    by_cases h1 : name = emp
    · have p1 := emp_lits h1
      by_cases h2 : n = 0
      · obtain rfl : R = true := hR.symm.trans (decide_eq_true ⟨h1, h2⟩)
        subst h2
        clear hR h1 k
        go_enter Tryd.func15, Tryd.ntmps15
        go_wp2_with (first
          | (go_at_call 29; (with_reducible refine (HK1.out _).mono ?_); rintro e w1 ⟨rfl, rfl⟩)
          | (go_at_call 30; (with_reducible refine (refword_any _ hs _).mono ?_); rintro e w9 ⟨rfl, hb9⟩; obtain ⟨hc9, hf9⟩ := bcell hb9; have hz9 := hb9.size; (try simp at hz9); have hx9 : w.heap.size < w9.heap.size := by omega))
        go_ret
        exact ⟨rfl, by (repeat' (first | with_reducible exact Below.refl _ _ | with_reducible assumption | with_reducible refine Below.drew ?_ | with_reducible refine below_drewN' ?_ _ | with_reducible refine Below.alloc ?_ ?_ _ | with_reducible refine Below.setCell ?_ ?_ _ | with_reducible refine below_step (by assumption) ?_ ?_ | omega | (simp; done) | (simp; omega)))⟩
      · obtain rfl : R = false := hR.symm.trans (decide_eq_false fun h => h2 h.2)
        have p2 : (n == 0) = false := by simpa using h2
        clear hR h1 h2 k
        go_enter Tryd.func15, Tryd.ntmps15
        go_wp2_with (first
          | (go_at_call 29; (with_reducible refine (HK1.out _).mono ?_); rintro e w1 ⟨rfl, rfl⟩)
          | (go_at_call 30; (with_reducible refine (refword_any _ hs _).mono ?_); rintro e w9 ⟨rfl, hb9⟩; obtain ⟨hc9, hf9⟩ := bcell hb9; have hz9 := hb9.size; (try simp at hz9); have hx9 : w.heap.size < w9.heap.size := by omega))
        go_ret
        exact ⟨rfl, by (repeat' (first | with_reducible exact Below.refl _ _ | with_reducible assumption | with_reducible refine Below.drew ?_ | with_reducible refine below_drewN' ?_ _ | with_reducible refine Below.alloc ?_ ?_ _ | with_reducible refine Below.setCell ?_ ?_ _ | with_reducible refine below_step (by assumption) ?_ ?_ | omega | (simp; done) | (simp; omega)))⟩
    · have p1 := emp_litn h1
      obtain rfl : R = false := hR.symm.trans (decide_eq_false fun h => h1 h.1)
      clear hR h1 k
      go_enter Tryd.func15, Tryd.ntmps15
      go_wp2_with (first
        | (go_at_call 29; (with_reducible refine (HK1.out _).mono ?_); rintro e w1 ⟨rfl, rfl⟩)
        | (go_at_call 30; (with_reducible refine (refword_any _ hs _).mono ?_); rintro e w9 ⟨rfl, hb9⟩; obtain ⟨hc9, hf9⟩ := bcell hb9; have hz9 := hb9.size; (try simp at hz9); have hx9 : w.heap.size < w9.heap.size := by omega))
      go_ret
      exact ⟨rfl, by (repeat' (first | with_reducible exact Below.refl _ _ | with_reducible assumption | with_reducible refine Below.drew ?_ | with_reducible refine below_drewN' ?_ _ | with_reducible refine Below.alloc ?_ ?_ _ | with_reducible refine Below.setCell ?_ ?_ _ | with_reducible refine below_step (by assumption) ?_ ?_ | omega | (simp; done) | (simp; omega)))⟩
end Go.Proofs.YtaehcnoendieaaaDoor
