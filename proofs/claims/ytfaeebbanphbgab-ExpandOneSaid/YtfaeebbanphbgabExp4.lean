/-
  The rest of the contract of expand.Choose; the best option is the first that none is better than.
-/
import Derived.Test.YtfaeebbanphbgabExp3
import Derived.BigQuiet
namespace Go.Proofs.Ytfaeebbanphbgab
open Go.RowKit
set_option linter.unusedVariables false

theorem nextF_bd (s : Int) : 0 ≤ nextF s ∧ nextF s < 2147483648 := by
  unfold nextF
  split
  · constructor
    · exact Int.emod_nonneg _ (by decide)
    · exact Int.emod_lt_of_pos _ (by decide)
  · decide

set_option maxRecDepth 100000 in
set_option maxHeartbeats 1000000 in
theorem choose_4 (sp : Option Addr) (n cap : Nat) (seed : Int) (w : World) (hn : 0 < n) (hm : n ≤ 1000000) :
    Calls Try.prog 11 #[.slice sp n cap, .int .i64 4, .int .i64 seed] w fun e w' => e = .returned (.int .i64 (nextF seed % (n : Int))) ∧ Below w.heap.size w w' := by
  have hn0 : ((n : Int) == 0) = false := beq_eq_false_iff_ne.2 (by omega)
  obtain ⟨q, hq⟩ : ∃ q, nextF seed = q := ⟨_, rfl⟩
  have hb := nextF_bd seed
  rw [hq] at hb
  obtain ⟨q0, q1⟩ := hb
  have Hq := Lib.hid hq
  go_enter Try.func11, Try.ntmps11
  go_wp2_with (first | (go_at_call 15; refine (find_4 _).mono ?_; rintro e w1 ⟨rfl, hb1⟩; obtain ⟨hc1, hf1⟩ := bcell hb1; have hz1 := hb1.size; (try simp at hz1); (try have hza : w.heap.size < w1.heap.size := by omega); (try have hzb : w.heap.size + 1 < w1.heap.size := by omega); (try have hzc : w.heap.size + 1 + 1 < w1.heap.size := by omega); (try have hzd : w.heap.size + 1 + 1 + 1 < w1.heap.size := by omega)) | (go_at_call 13; refine (next_any _ _).mono ?_; rintro e w1 ⟨rfl, rfl⟩))
  go_ret
  exact ⟨by rw [hq]; rfl, by (repeat' (first | with_reducible exact Below.refl _ _ | with_reducible assumption | with_reducible refine Below.drew ?_ | with_reducible refine below_drewN' ?_ _ | with_reducible refine Below.alloc ?_ ?_ _ | with_reducible refine Below.setCell ?_ ?_ _ | with_reducible refine below_step (by assumption) ?_ ?_ | omega | (simp; done) | (simp; omega)))⟩

set_option maxRecDepth 100000 in
set_option maxHeartbeats 1000000 in
theorem choose_0 (sp : Option Addr) (cap : Nat) (how seed : Int) (w : World) :
    Calls Try.prog 11 #[.slice sp 0 cap, .int .i64 how, .int .i64 seed] w fun e w' => e = .returned (.int .i64 (-1)) ∧ Below w.heap.size w w' := by
  by_cases h1 : how = 1
  · subst h1
    go_enter Try.func11, Try.ntmps11
    go_wp2_with (go_at_call 15; refine (find_1 _).mono ?_; rintro e w1 ⟨rfl, hb1⟩; obtain ⟨hc1, hf1⟩ := bcell hb1; have hz1 := hb1.size; (try simp at hz1); (try have hza : w.heap.size < w1.heap.size := by omega); (try have hzb : w.heap.size + 1 < w1.heap.size := by omega); (try have hzc : w.heap.size + 1 + 1 < w1.heap.size := by omega); (try have hzd : w.heap.size + 1 + 1 + 1 < w1.heap.size := by omega))
    go_ret
    exact ⟨rfl, by (repeat' (first | with_reducible exact Below.refl _ _ | with_reducible assumption | with_reducible refine Below.drew ?_ | with_reducible refine below_drewN' ?_ _ | with_reducible refine Below.alloc ?_ ?_ _ | with_reducible refine Below.setCell ?_ ?_ _ | with_reducible refine below_step (by assumption) ?_ ?_ | omega | (simp; done) | (simp; omega)))⟩
  by_cases h2 : how = 2
  · subst h2
    go_enter Try.func11, Try.ntmps11
    go_wp2_with (go_at_call 15; refine (find_2 _).mono ?_; rintro e w1 ⟨rfl, hb1⟩; obtain ⟨hc1, hf1⟩ := bcell hb1; have hz1 := hb1.size; (try simp at hz1); (try have hza : w.heap.size < w1.heap.size := by omega); (try have hzb : w.heap.size + 1 < w1.heap.size := by omega); (try have hzc : w.heap.size + 1 + 1 < w1.heap.size := by omega); (try have hzd : w.heap.size + 1 + 1 + 1 < w1.heap.size := by omega))
    go_ret
    exact ⟨rfl, by (repeat' (first | with_reducible exact Below.refl _ _ | with_reducible assumption | with_reducible refine Below.drew ?_ | with_reducible refine below_drewN' ?_ _ | with_reducible refine Below.alloc ?_ ?_ _ | with_reducible refine Below.setCell ?_ ?_ _ | with_reducible refine below_step (by assumption) ?_ ?_ | omega | (simp; done) | (simp; omega)))⟩
  by_cases h3 : how = 3
  · subst h3
    go_enter Try.func11, Try.ntmps11
    go_wp2_with (go_at_call 15; refine (find_3 _).mono ?_; rintro e w1 ⟨rfl, hb1⟩; obtain ⟨hc1, hf1⟩ := bcell hb1; have hz1 := hb1.size; (try simp at hz1); (try have hza : w.heap.size < w1.heap.size := by omega); (try have hzb : w.heap.size + 1 < w1.heap.size := by omega); (try have hzc : w.heap.size + 1 + 1 < w1.heap.size := by omega); (try have hzd : w.heap.size + 1 + 1 + 1 < w1.heap.size := by omega))
    go_ret
    exact ⟨rfl, by (repeat' (first | with_reducible exact Below.refl _ _ | with_reducible assumption | with_reducible refine Below.drew ?_ | with_reducible refine below_drewN' ?_ _ | with_reducible refine Below.alloc ?_ ?_ _ | with_reducible refine Below.setCell ?_ ?_ _ | with_reducible refine below_step (by assumption) ?_ ?_ | omega | (simp; done) | (simp; omega)))⟩
  by_cases h4 : how = 4
  · subst h4
    go_enter Try.func11, Try.ntmps11
    go_wp2_with (go_at_call 15; refine (find_4 _).mono ?_; rintro e w1 ⟨rfl, hb1⟩; obtain ⟨hc1, hf1⟩ := bcell hb1; have hz1 := hb1.size; (try simp at hz1); (try have hza : w.heap.size < w1.heap.size := by omega); (try have hzb : w.heap.size + 1 < w1.heap.size := by omega); (try have hzc : w.heap.size + 1 + 1 < w1.heap.size := by omega); (try have hzd : w.heap.size + 1 + 1 + 1 < w1.heap.size := by omega))
    go_ret
    exact ⟨rfl, by (repeat' (first | with_reducible exact Below.refl _ _ | with_reducible assumption | with_reducible refine Below.drew ?_ | with_reducible refine below_drewN' ?_ _ | with_reducible refine Below.alloc ?_ ?_ _ | with_reducible refine Below.setCell ?_ ?_ _ | with_reducible refine below_step (by assumption) ?_ ?_ | omega | (simp; done) | (simp; omega)))⟩
  have e1 : (1 == how) = false := beq_eq_false_iff_ne.2 (Ne.symm h1)
  have e2 : (2 == how) = false := beq_eq_false_iff_ne.2 (Ne.symm h2)
  have e3 : (3 == how) = false := beq_eq_false_iff_ne.2 (Ne.symm h3)
  have e4 : (4 == how) = false := beq_eq_false_iff_ne.2 (Ne.symm h4)
  clear h1 h2 h3 h4
  go_enter Try.func11, Try.ntmps11
  go_wp2_with (go_at_call 15; refine (find_no _ _ e1 e2 e3 e4).mono ?_; rintro e w1 ⟨rfl, hb1⟩; obtain ⟨hc1, hf1⟩ := bcell hb1; have hz1 := hb1.size; (try simp at hz1); (try have hza : w.heap.size < w1.heap.size := by omega); (try have hzb : w.heap.size + 1 < w1.heap.size := by omega); (try have hzc : w.heap.size + 1 + 1 < w1.heap.size := by omega); (try have hzd : w.heap.size + 1 + 1 + 1 < w1.heap.size := by omega))
  go_ret
  exact ⟨rfl, by (repeat' (first | with_reducible exact Below.refl _ _ | with_reducible assumption | with_reducible refine Below.drew ?_ | with_reducible refine below_drewN' ?_ _ | with_reducible refine Below.alloc ?_ ?_ _ | with_reducible refine Below.setCell ?_ ?_ _ | with_reducible refine below_step (by assumption) ?_ ?_ | omega | (simp; done) | (simp; omega)))⟩

set_option maxRecDepth 100000 in
set_option maxHeartbeats 1000000 in
theorem choose_no (sp : Option Addr) (n cap : Nat) (how seed : Int) (w : World) (h1 : how ≠ 1) (h2 : how ≠ 2) (h3 : how ≠ 3) (h4 : how ≠ 4) :
    Calls Try.prog 11 #[.slice sp n cap, .int .i64 how, .int .i64 seed] w fun e w' => e = .returned (.int .i64 (-1)) ∧ Below w.heap.size w w' := by
  have e1 : (1 == how) = false := beq_eq_false_iff_ne.2 (Ne.symm h1)
  have e2 : (2 == how) = false := beq_eq_false_iff_ne.2 (Ne.symm h2)
  have e3 : (3 == how) = false := beq_eq_false_iff_ne.2 (Ne.symm h3)
  have e4 : (4 == how) = false := beq_eq_false_iff_ne.2 (Ne.symm h4)
  clear h1 h2 h3 h4
  go_enter Try.func11, Try.ntmps11
  go_wp2_with (go_at_call 15; refine (find_no _ _ e1 e2 e3 e4).mono ?_; rintro e w1 ⟨rfl, hb1⟩; obtain ⟨hc1, hf1⟩ := bcell hb1; have hz1 := hb1.size; (try simp at hz1); (try have hza : w.heap.size < w1.heap.size := by omega); (try have hzb : w.heap.size + 1 < w1.heap.size := by omega); (try have hzc : w.heap.size + 1 + 1 < w1.heap.size := by omega); (try have hzd : w.heap.size + 1 + 1 + 1 < w1.heap.size := by omega))
  go_ret
  exact ⟨rfl, by (repeat' (first | with_reducible exact Below.refl _ _ | with_reducible assumption | with_reducible refine Below.drew ?_ | with_reducible refine below_drewN' ?_ _ | with_reducible refine Below.alloc ?_ ?_ _ | with_reducible refine Below.setCell ?_ ?_ _ | with_reducible refine below_step (by assumption) ?_ ?_ | omega | (simp; done) | (simp; omega)))⟩

/-! The order. -/
theorem bet_irrefl (how : Int) (a : Opt) : bet how a a = false := by
  unfold bet betB
  split
  · simp
  split
  · simp
  split
  · simp
  rfl
theorem bet_trans (how : Int) (a b c : Opt) (h1 : bet how a b = false) (h2 : bet how b c = false) : bet how a c = false := by
  unfold bet betB at *
  split
  · simp_all; omega
  split
  · simp_all; omega
  split
  · simp_all; omega
  rfl
theorem bet_asymm (how : Int) (a b : Opt) (h1 : bet how a b = true) : bet how b a = false := by
  cases h : bet how b a
  · rfl
  · have h2 := bet_irrefl how a
    unfold bet betB at *
    split at h2
    · simp_all; omega
    split at h2
    · simp_all; omega
    split at h2
    · simp_all; omega
    simp_all

/-- None of the first ones is better than the best of them. -/
theorem bst_best (how : Int) (D : Nat → Opt) (n : Nat) : ∀ k, k < n → bet how (D k) (D (bst how D n)) = false := by
  induction n with
  | zero => intro k hk; omega
  | succ n ih =>
    intro k hk
    rw [bst_succ how D n _ rfl]
    by_cases h : bet how (D n) (D (bst how D n)) = true
    · rw [if_pos h]
      by_cases hk' : k < n
      · exact bet_trans how _ _ _ (ih k hk') (bet_asymm how _ _ h)
      · obtain rfl : k = n := by omega
        exact bet_irrefl how _
    · rw [if_neg h]
      by_cases hk' : k < n
      · exact ih k hk'
      · obtain rfl : k = n := by omega
        simpa using h

/-- The best one is better than each ahead of it. -/
theorem bst_first (how : Int) (D : Nat → Opt) (n : Nat) : ∀ k, k < bst how D n → bet how (D (bst how D n)) (D k) = true := by
  induction n with
  | zero => intro k hk; exact absurd hk (by simp [bst])
  | succ n ih =>
    intro k hk
    rw [bst_succ how D n _ rfl] at hk ⊢
    by_cases h : bet how (D n) (D (bst how D n)) = true
    · rw [if_pos h] at hk ⊢
      cases h3 : bet how (D n) (D k)
      · rw [bet_trans how _ _ _ h3 (bst_best how D n k hk)] at h; cases h
      · rfl
    · rw [if_neg h] at hk ⊢
      exact ih k hk

/-- What is the first that none is better than is the best one. -/
theorem bst_unique (how : Int) (D : Nat → Opt) (n i : Nat) (hn : 0 < n) (hi : i < n) (h1 : ∀ k, k < n → bet how (D k) (D i) = false) (h2 : ∀ j, j < i → ∃ k, k < n ∧ bet how (D k) (D j) = true) :
    bst how D n = i := by
  have hb := bst_lt how D n hn
  by_cases hlt : i < bst how D n
  · have := bst_first how D n i hlt
    rw [h1 _ hb] at this; cases this
  by_cases hgt : bst how D n < i
  · obtain ⟨k, hk, h⟩ := h2 _ hgt
    rw [bst_best how D n k hk] at h; cases h
  · omega
end Go.Proofs.Ytfaeebbanphbgab
