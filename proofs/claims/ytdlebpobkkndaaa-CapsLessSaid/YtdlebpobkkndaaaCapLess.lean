/-
  CapsLess: a lesser cap leaves no more room, none the most. For any caps, any machines and any machine; no condition.
-/
import Derived.Test.YtdlebpobkkndaaaCapO
namespace Go.Proofs.Ytdlebpobkkndaaa
open Go.ChangeShapes Go.WideShapes Go.ChangeAt Go.RowKit
set_option linter.unusedVariables false
namespace capsLess

theorem roomL_mono : ∀ (l : List Int) (r r' : Int), r ≤ r' → 0 ≤ roomL r l → roomL r l ≤ roomL r' l
  | [], r, r', h, _ => h
  | a :: l, r, r', h, h0 => by
    unfold roomL at h0 ⊢
    by_cases h1 : r - a < 0
    · rw [if_pos h1] at h0; omega
    · rw [if_neg h1] at h0 ⊢
      rw [if_neg (show ¬ r' - a < 0 by omega)]
      exact roomL_mono l _ _ (by omega) h0
theorem stepQ_n (q : Nat) (c : Int) (ms : List Mac) (like : Mac) {n n' : Int} (h : n ≤ n') : stepQ q c ms like n ≤ stepQ q c ms like n' := by
  unfold stepQ
  split
  · split <;> split <;> omega
  · exact h
theorem stepQ_c (c c' : Int) (hc : c ≠ 0) (hc' : c' ≠ 0) (hcc : c ≤ c') (ms : List Mac) (like : Mac) (h0 : 0 ≤ roomL c (ms.map (amt 0))) (n : Int) : stepQ 0 c ms like n ≤ stepQ 0 c' ms like n := by
  have hr := roomL_mono (ms.map (amt 0)) c c' hcc h0
  have e : ∀ d : Int, d ≠ 0 → stepQ 0 d ms like n = if roomL d (ms.map (amt 0)) < n then roomL d (ms.map (amt 0)) else n := fun d hd => by
    have e1 : amt 0 like = 1 := rfl
    unfold stepQ
    rw [e1, if_pos (show d ≠ 0 ∧ (0 : Int) < 1 from ⟨hd, by decide⟩), Int.ediv_one]
  rw [e c hc, e c' hc']
  split <;> split <;> omega
theorem stepQ_0 (q : Nat) (c : Int) (ms : List Mac) (like : Mac) (n : Int) : stepQ q c ms like n ≤ stepQ q 0 ms like n := by
  have e : stepQ q 0 ms like n = n := if_neg fun h => h.1 rfl
  rw [e]
  unfold stepQ
  split
  · split <;> omega
  · omega
theorem keep0 (q : Nat) (ms : List Mac) : keepB q 0 ms = true := rfl
theorem max_mono {a b : Int} (h : a ≤ b) : (if a < 0 then (0 : Int) else a) ≤ if b < 0 then 0 else b := by split <;> split <;> omega
theorem roomV_nonneg (c0 c1 c2 : Int) (ms : List Mac) (like : Mac) : 0 ≤ roomV c0 c1 c2 ms like := by
  unfold roomV
  split
  · split <;> omega
  · omega
theorem less1 {c0 c1 c2 : Int} (h2 : 2 ≤ c0) (ms : List Mac) (like : Mac) : roomV (c0 / 2) c1 c2 ms like ≤ roomV c0 c1 c2 ms like := by
  by_cases hw : withinB (c0 / 2) c1 c2 ms = true
  · have hr := (within_room hw).1 (by omega)
    have hw' : withinB c0 c1 c2 ms = true := by
      unfold withinB at hw ⊢
      simp only [Bool.and_eq_true] at hw ⊢
      refine ⟨⟨?_, hw.1.2⟩, hw.2⟩
      have := roomL_mono (ms.map (amt 0)) (c0 / 2) c0 (by omega) hr
      unfold keepB
      rw [decide_eq_false (show ¬ roomL c0 (ms.map (amt 0)) < 0 by omega)]
      simp
    unfold roomV
    rw [if_pos hw, if_pos hw']
    refine max_mono ?_
    exact stepQ_n _ _ _ _ (stepQ_n _ _ _ _ (stepQ_c _ _ (by omega) (by omega) (by omega) ms like hr _))
  · have e : roomV (c0 / 2) c1 c2 ms like = 0 := if_neg hw
    rw [e]
    exact roomV_nonneg _ _ _ _ _
theorem less2 (c0 c1 c2 : Int) (ms : List Mac) (like : Mac) : roomV c0 c1 c2 ms like ≤ roomV c0 0 c2 ms like := by
  by_cases hw : withinB c0 c1 c2 ms = true
  · have hw' : withinB c0 0 c2 ms = true := by
      unfold withinB at hw ⊢
      simp only [Bool.and_eq_true] at hw ⊢
      exact ⟨⟨hw.1.1, rfl⟩, hw.2⟩
    unfold roomV
    rw [if_pos hw, if_pos hw']
    refine max_mono ?_
    exact stepQ_n _ _ _ _ (stepQ_0 _ _ _ _ _)
  · have e : roomV c0 c1 c2 ms like = 0 := if_neg hw
    rw [e]
    exact roomV_nonneg _ _ _ _ _
theorem less3 (ms : List Mac) (like : Mac) (h : ms.length ≤ 30) : roomV 0 0 0 ms like = 200 - (ms.length : Int) := by
  have hw : withinB 0 0 0 ms = true := rfl
  unfold roomV
  rw [if_pos hw]
  have e : ∀ q n, stepQ q 0 ms like n = n := fun q n => if_neg fun h => h.1 rfl
  have e3 : stepsTo 0 0 0 ms like 3 = 200 - (ms.length : Int) := by
    show stepQ 2 0 ms like (stepQ 1 0 ms like (stepQ 0 0 ms like (200 - (ms.length : Int)))) = _
    rw [e, e, e]
  rw [e3, if_neg (by omega)]

set_option maxRecDepth 100000 in
set_option maxHeartbeats 4000000 in
theorem walk_no (c0 c1 c2 : Int) (c : Option Addr) (kc : Nat) (ms : List Mac) (like : Mac) (w : World) (hF : MacsAt w c ms) (hm : ms.length ≤ maxLen) (hA : ∀ x ∈ ms, MacAt w x) (hL : MacAt w like) (hr : rightAll c0 c1 c2 ms like = false) :
    Calls Try.prog 5 #[.agg #[.int .i64 c0, .int .i64 c1, .int .i64 c2], .slice c ms.length kc, .agg #[.string (like).nm, .string (like).gp, .int .i64 (like).r0, .int .i64 (like).r1, .int .i64 (like).r2, .int .i64 (like).r3, .int .i64 (like).r4, .slice (like).la (like).labs.length (like).lk, .slice (like).ta (like).tnts.length (like).tk, .bool (like).rd]] w fun e w' => e = .returned (.bool true) ∧ Below w.heap.size w w' := by
  have Hr := Lib.hid hr
  clear hr
  go_enter Try.func5, Try.ntmps5
  go_wp2_with (first | (go_at_call 8; (with_reducible refine (rightall_any c0 c1 c2 c kc ms like _ (hF.mono (by (repeat' (first | with_reducible exact Below.refl _ _ | with_reducible assumption | with_reducible refine Below.drew ?_ | with_reducible refine below_drewN' ?_ _ | with_reducible refine Below.alloc ?_ ?_ _ | with_reducible refine Below.setCell ?_ ?_ _ | with_reducible refine below_step (by assumption) ?_ ?_ | omega | (simp; done) | (simp; omega))))) hm (fun x hx => (hA x hx).mono (by (repeat' (first | with_reducible exact Below.refl _ _ | with_reducible assumption | with_reducible refine Below.drew ?_ | with_reducible refine below_drewN' ?_ _ | with_reducible refine Below.alloc ?_ ?_ _ | with_reducible refine Below.setCell ?_ ?_ _ | with_reducible refine below_step (by assumption) ?_ ?_ | omega | (simp; done) | (simp; omega))))) (hL.mono (by (repeat' (first | with_reducible exact Below.refl _ _ | with_reducible assumption | with_reducible refine Below.drew ?_ | with_reducible refine below_drewN' ?_ _ | with_reducible refine Below.alloc ?_ ?_ _ | with_reducible refine Below.setCell ?_ ?_ _ | with_reducible refine below_step (by assumption) ?_ ?_ | omega | (simp; done) | (simp; omega)))))).mono ?_); rw [Hr.out]; rintro e w1 ⟨rfl, hb1⟩; have hz1 := hb1.size; (try simp at hz1)) | (go_at_call 9; (with_reducible refine (known_any _).mono ?_); rintro e w2 ⟨rfl, hb2⟩; have hz2 := hb2.size))
  go_ret
  exact ⟨rfl, by (repeat' (first | with_reducible exact Below.refl _ _ | with_reducible assumption | with_reducible refine Below.drew ?_ | with_reducible refine below_drewN' ?_ _ | with_reducible refine Below.alloc ?_ ?_ _ | with_reducible refine Below.setCell ?_ ?_ _ | with_reducible refine below_step (by assumption) ?_ ?_ | omega | (simp; done) | (simp; omega)))⟩

set_option maxRecDepth 100000 in
set_option maxHeartbeats 4000000 in
theorem walk_yes (c0 c1 c2 : Int) (c : Option Addr) (kc : Nat) (ms : List Mac) (like : Mac) (w : World) (hF : MacsAt w c ms) (hA : ∀ x ∈ ms, MacAt w x) (hL : MacAt w like) (hr : rightAll c0 c1 c2 ms like = true) :
    Calls Try.prog 5 #[.agg #[.int .i64 c0, .int .i64 c1, .int .i64 c2], .slice c ms.length kc, .agg #[.string (like).nm, .string (like).gp, .int .i64 (like).r0, .int .i64 (like).r1, .int .i64 (like).r2, .int .i64 (like).r3, .int .i64 (like).r4, .slice (like).la (like).labs.length (like).lk, .slice (like).ta (like).tnts.length (like).tk, .bool (like).rd]] w fun e w' => e = .returned (.bool true) ∧ Below w.heap.size w w' := by
  obtain ⟨hm30, hcc, hlk, hok⟩ := rightAll_ok hr
  have hc3 : (0 ≤ c0 ∧ c0 ≤ 288230376151711744) ∧ (0 ≤ c1 ∧ c1 ≤ 288230376151711744) ∧ (0 ≤ c2 ∧ c2 ≤ 288230376151711744) := by
    unfold rightC capB at hcc
    simp only [Bool.and_eq_true, decide_eq_true_eq] at hcc
    exact ⟨hcc.1.1, hcc.1.2, hcc.2⟩
  have hcc2 : rightC (c0 / 2) c1 c2 = true := by
    unfold rightC capB
    rw [decide_eq_true (by omega), decide_eq_true (by omega), decide_eq_true (by omega)]
    rfl
  have hcc3 : rightC c0 0 c2 = true := by
    unfold rightC capB
    rw [decide_eq_true (by omega), decide_eq_true (by omega), decide_eq_true (by omega)]
    rfl
  have R0 := fun n : Held w => rightall_any c0 c1 c2 c kc ms like n.w (hF.mono n.below) (by unfold maxLen; omega) (fun x hx => (hA x hx).mono n.below) (hL.mono n.below)
  rw [hr] at R0
  have A1 := fun n : Held w => roomc_any c0 c1 c2 hcc c kc ms like n.w (hF.mono n.below) hok hlk (by omega)
  have A2 := fun n : Held w => roomc_any (c0 / 2) c1 c2 hcc2 c kc ms like n.w (hF.mono n.below) hok hlk (by omega)
  have A3 := fun n : Held w => roomc_any c0 0 c2 hcc3 c kc ms like n.w (hF.mono n.below) hok hlk (by omega)
  have A4 := fun n : Held w => roomc_any 0 0 0 (by decide) c kc ms like n.w (hF.mono n.below) hok hlk (by omega)
  simp only [less3 ms like hm30] at A4
  have l1 := fun h : 2 ≤ c0 => less1 (c1 := c1) (c2 := c2) h ms like
  have l2 := less2 c0 c1 c2 ms like
  obtain ⟨n1, e1⟩ : ∃ n1, roomV c0 c1 c2 ms like = n1 := ⟨_, rfl⟩
  obtain ⟨n2, e2⟩ : ∃ n2, roomV (c0 / 2) c1 c2 ms like = n2 := ⟨_, rfl⟩
  obtain ⟨n3, e3⟩ : ∃ n3, roomV c0 0 c2 ms like = n3 := ⟨_, rfl⟩
  simp only [e1] at A1 l1 l2
  simp only [e2] at A2 l1
  simp only [e3] at A3 l2
  obtain ⟨h, eh⟩ : ∃ h, c0 / 2 = h := ⟨_, rfl⟩
  have q1 : Int.tdiv c0 2 = h := by rw [Int.tdiv_eq_ediv_of_nonneg hc3.1.1, eh]
  have q2 : IntKind.i64.wrap h = h := wrap_in (by omega) (by omega)
  have q3 : IntKind.i64.wrap (200 - (ms.length : Int)) = 200 - (ms.length : Int) := wrap_in (by omega) (by omega)
  rw [eh] at A2
  have HA1 := Lib.hid A1
  have HA2 := Lib.hid A2
  have HA3 := Lib.hid A3
  have HA4 := Lib.hid A4
  have HR := Lib.hid R0
  have g2 : decide (n1 ≤ n3) = true := decide_eq_true l2
  have g3 : decide (n3 < n1) = false := decide_eq_false (by omega)
  have hz0 : w.heap.size < w.heap.size + 2 := by omega
  have hz1 : w.heap.size + 1 < w.heap.size + 2 := by omega
  rcases Int.lt_or_le c0 2 with hlt | hge
  · have g1 : decide (c0 < 2) = true := decide_eq_true hlt
    clear A1 A2 A3 A4 R0 hr l1 l2 e1 e2 e3 eh hcc hcc2 hcc3 hc3
    go_enter Try.func5, Try.ntmps5
    go_wp2_with (first
      | ((with_reducible refine (HR.out ⟨_, ?_⟩).mono ?_); rotate_left; (rintro e w1 ⟨rfl, hb1⟩; dsimp only at hb1; obtain ⟨hc1, hf1⟩ := bcell hb1; have hz1 := hb1.size; (try simp at hz1); have z1_0 : w.heap.size < w1.heap.size := (by omega); have y1_0 : w.heap.size ≤ w1.heap.size := (by omega); have z1_1 : w.heap.size + 1 < w1.heap.size := (by omega); have y1_1 : w.heap.size + 1 ≤ w1.heap.size := (by omega)); rotate_left; ((repeat' (first | with_reducible exact Below.refl _ _ | with_reducible assumption | with_reducible refine Below.drew ?_ | with_reducible refine below_drewN' ?_ _ | with_reducible refine Below.alloc ?_ ?_ _ | with_reducible refine Below.setCell ?_ ?_ _ | with_reducible refine below_step (by assumption) ?_ ?_ | omega | (simp; done) | (simp; omega)))))
      | ((with_reducible refine (HA1.out ⟨_, ?_⟩).mono ?_); rotate_left; (rintro e w2 ⟨rfl, hb2⟩; dsimp only at hb2; obtain ⟨hc2, hf2⟩ := bcell hb2; have hz2 := hb2.size; (try simp at hz2); have z2_0 : w.heap.size < w2.heap.size := (by omega); have y2_0 : w.heap.size ≤ w2.heap.size := (by omega); have z2_1 : w.heap.size + 1 < w2.heap.size := (by omega); have y2_1 : w.heap.size + 1 ≤ w2.heap.size := (by omega)); rotate_left; ((repeat' (first | with_reducible exact Below.refl _ _ | with_reducible assumption | with_reducible refine Below.drew ?_ | with_reducible refine below_drewN' ?_ _ | with_reducible refine Below.alloc ?_ ?_ _ | with_reducible refine Below.setCell ?_ ?_ _ | with_reducible refine below_step (by assumption) ?_ ?_ | omega | (simp; done) | (simp; omega)))))
      | ((with_reducible refine (HA2.out ⟨_, ?_⟩).mono ?_); rotate_left; (rintro e w3 ⟨rfl, hb3⟩; dsimp only at hb3; obtain ⟨hc3, hf3⟩ := bcell hb3; have hz3 := hb3.size; (try simp at hz3); have z3_0 : w.heap.size < w3.heap.size := (by omega); have y3_0 : w.heap.size ≤ w3.heap.size := (by omega); have z3_1 : w.heap.size + 1 < w3.heap.size := (by omega); have y3_1 : w.heap.size + 1 ≤ w3.heap.size := (by omega); have z3_2 : w2.heap.size < w3.heap.size := (by omega); have y3_2 : w2.heap.size ≤ w3.heap.size := (by omega); have z3_3 : w2.heap.size + 1 < w3.heap.size := (by omega); have y3_3 : w2.heap.size + 1 ≤ w3.heap.size := (by omega)); rotate_left; ((repeat' (first | with_reducible exact Below.refl _ _ | with_reducible assumption | with_reducible refine Below.drew ?_ | with_reducible refine below_drewN' ?_ _ | with_reducible refine Below.alloc ?_ ?_ _ | with_reducible refine Below.setCell ?_ ?_ _ | with_reducible refine below_step (by assumption) ?_ ?_ | omega | (simp; done) | (simp; omega)))))
      | ((with_reducible refine (HA3.out ⟨_, ?_⟩).mono ?_); rotate_left; (rintro e w4 ⟨rfl, hb4⟩; dsimp only at hb4; obtain ⟨hc4, hf4⟩ := bcell hb4; have hz4 := hb4.size; (try simp at hz4); have z4_0 : w.heap.size < w4.heap.size := (by omega); have y4_0 : w.heap.size ≤ w4.heap.size := (by omega); have z4_1 : w.heap.size + 1 < w4.heap.size := (by omega); have y4_1 : w.heap.size + 1 ≤ w4.heap.size := (by omega); have z4_2 : w2.heap.size < w4.heap.size := (by omega); have y4_2 : w2.heap.size ≤ w4.heap.size := (by omega); have z4_3 : w2.heap.size + 1 < w4.heap.size := (by omega); have y4_3 : w2.heap.size + 1 ≤ w4.heap.size := (by omega)); rotate_left; ((repeat' (first | with_reducible exact Below.refl _ _ | with_reducible assumption | with_reducible refine Below.drew ?_ | with_reducible refine below_drewN' ?_ _ | with_reducible refine Below.alloc ?_ ?_ _ | with_reducible refine Below.setCell ?_ ?_ _ | with_reducible refine below_step (by assumption) ?_ ?_ | omega | (simp; done) | (simp; omega)))))
      | ((with_reducible refine (HA4.out ⟨_, ?_⟩).mono ?_); rotate_left; (rintro e w5 ⟨rfl, hb5⟩; dsimp only at hb5; obtain ⟨hc5, hf5⟩ := bcell hb5; have hz5 := hb5.size; (try simp at hz5); have z5_0 : w.heap.size < w5.heap.size := (by omega); have y5_0 : w.heap.size ≤ w5.heap.size := (by omega); have z5_1 : w.heap.size + 1 < w5.heap.size := (by omega); have y5_1 : w.heap.size + 1 ≤ w5.heap.size := (by omega); have z5_2 : w2.heap.size < w5.heap.size := (by omega); have y5_2 : w2.heap.size ≤ w5.heap.size := (by omega); have z5_3 : w2.heap.size + 1 < w5.heap.size := (by omega); have y5_3 : w2.heap.size + 1 ≤ w5.heap.size := (by omega)); rotate_left; ((repeat' (first | with_reducible exact Below.refl _ _ | with_reducible assumption | with_reducible refine Below.drew ?_ | with_reducible refine below_drewN' ?_ _ | with_reducible refine Below.alloc ?_ ?_ _ | with_reducible refine Below.setCell ?_ ?_ _ | with_reducible refine below_step (by assumption) ?_ ?_ | omega | (simp; done) | (simp; omega)))))
      | (go_at_call 9; (with_reducible refine (known_any _).mono ?_); rintro e w6 ⟨rfl, hb6⟩; have hz6 := hb6.size))
    go_ret
    exact ⟨rfl, by (repeat' (first | with_reducible exact Below.refl _ _ | with_reducible assumption | with_reducible refine Below.drew ?_ | with_reducible refine below_drewN' ?_ _ | with_reducible refine Below.alloc ?_ ?_ _ | with_reducible refine Below.setCell ?_ ?_ _ | with_reducible refine below_step (by assumption) ?_ ?_ | omega | (simp; done) | (simp; omega)))⟩
  · have g1 : decide (c0 < 2) = false := decide_eq_false (by omega)
    have g4 : decide (n2 ≤ n1) = true := decide_eq_true (l1 hge)
    clear A1 A2 A3 A4 R0 hr l1 l2 e1 e2 e3 eh hcc hcc2 hcc3 hc3
    go_enter Try.func5, Try.ntmps5
    go_wp2_with (first
      | ((with_reducible refine (HR.out ⟨_, ?_⟩).mono ?_); rotate_left; (rintro e w1 ⟨rfl, hb1⟩; dsimp only at hb1; obtain ⟨hc1, hf1⟩ := bcell hb1; have hz1 := hb1.size; (try simp at hz1); have z1_0 : w.heap.size < w1.heap.size := (by omega); have y1_0 : w.heap.size ≤ w1.heap.size := (by omega); have z1_1 : w.heap.size + 1 < w1.heap.size := (by omega); have y1_1 : w.heap.size + 1 ≤ w1.heap.size := (by omega)); rotate_left; ((repeat' (first | with_reducible exact Below.refl _ _ | with_reducible assumption | with_reducible refine Below.drew ?_ | with_reducible refine below_drewN' ?_ _ | with_reducible refine Below.alloc ?_ ?_ _ | with_reducible refine Below.setCell ?_ ?_ _ | with_reducible refine below_step (by assumption) ?_ ?_ | omega | (simp; done) | (simp; omega)))))
      | ((with_reducible refine (HA1.out ⟨_, ?_⟩).mono ?_); rotate_left; (rintro e w2 ⟨rfl, hb2⟩; dsimp only at hb2; obtain ⟨hc2, hf2⟩ := bcell hb2; have hz2 := hb2.size; (try simp at hz2); have z2_0 : w.heap.size < w2.heap.size := (by omega); have y2_0 : w.heap.size ≤ w2.heap.size := (by omega); have z2_1 : w.heap.size + 1 < w2.heap.size := (by omega); have y2_1 : w.heap.size + 1 ≤ w2.heap.size := (by omega)); rotate_left; ((repeat' (first | with_reducible exact Below.refl _ _ | with_reducible assumption | with_reducible refine Below.drew ?_ | with_reducible refine below_drewN' ?_ _ | with_reducible refine Below.alloc ?_ ?_ _ | with_reducible refine Below.setCell ?_ ?_ _ | with_reducible refine below_step (by assumption) ?_ ?_ | omega | (simp; done) | (simp; omega)))))
      | ((with_reducible refine (HA2.out ⟨_, ?_⟩).mono ?_); rotate_left; (rintro e w3 ⟨rfl, hb3⟩; dsimp only at hb3; obtain ⟨hc3, hf3⟩ := bcell hb3; have hz3 := hb3.size; (try simp at hz3); have z3_0 : w.heap.size < w3.heap.size := (by omega); have y3_0 : w.heap.size ≤ w3.heap.size := (by omega); have z3_1 : w.heap.size + 1 < w3.heap.size := (by omega); have y3_1 : w.heap.size + 1 ≤ w3.heap.size := (by omega); have z3_2 : w2.heap.size < w3.heap.size := (by omega); have y3_2 : w2.heap.size ≤ w3.heap.size := (by omega); have z3_3 : w2.heap.size + 1 < w3.heap.size := (by omega); have y3_3 : w2.heap.size + 1 ≤ w3.heap.size := (by omega)); rotate_left; ((repeat' (first | with_reducible exact Below.refl _ _ | with_reducible assumption | with_reducible refine Below.drew ?_ | with_reducible refine below_drewN' ?_ _ | with_reducible refine Below.alloc ?_ ?_ _ | with_reducible refine Below.setCell ?_ ?_ _ | with_reducible refine below_step (by assumption) ?_ ?_ | omega | (simp; done) | (simp; omega)))))
      | ((with_reducible refine (HA3.out ⟨_, ?_⟩).mono ?_); rotate_left; (rintro e w4 ⟨rfl, hb4⟩; dsimp only at hb4; obtain ⟨hc4, hf4⟩ := bcell hb4; have hz4 := hb4.size; (try simp at hz4); have z4_0 : w.heap.size < w4.heap.size := (by omega); have y4_0 : w.heap.size ≤ w4.heap.size := (by omega); have z4_1 : w.heap.size + 1 < w4.heap.size := (by omega); have y4_1 : w.heap.size + 1 ≤ w4.heap.size := (by omega); have z4_2 : w2.heap.size < w4.heap.size := (by omega); have y4_2 : w2.heap.size ≤ w4.heap.size := (by omega); have z4_3 : w2.heap.size + 1 < w4.heap.size := (by omega); have y4_3 : w2.heap.size + 1 ≤ w4.heap.size := (by omega)); rotate_left; ((repeat' (first | with_reducible exact Below.refl _ _ | with_reducible assumption | with_reducible refine Below.drew ?_ | with_reducible refine below_drewN' ?_ _ | with_reducible refine Below.alloc ?_ ?_ _ | with_reducible refine Below.setCell ?_ ?_ _ | with_reducible refine below_step (by assumption) ?_ ?_ | omega | (simp; done) | (simp; omega)))))
      | ((with_reducible refine (HA4.out ⟨_, ?_⟩).mono ?_); rotate_left; (rintro e w5 ⟨rfl, hb5⟩; dsimp only at hb5; obtain ⟨hc5, hf5⟩ := bcell hb5; have hz5 := hb5.size; (try simp at hz5); have z5_0 : w.heap.size < w5.heap.size := (by omega); have y5_0 : w.heap.size ≤ w5.heap.size := (by omega); have z5_1 : w.heap.size + 1 < w5.heap.size := (by omega); have y5_1 : w.heap.size + 1 ≤ w5.heap.size := (by omega); have z5_2 : w2.heap.size < w5.heap.size := (by omega); have y5_2 : w2.heap.size ≤ w5.heap.size := (by omega); have z5_3 : w2.heap.size + 1 < w5.heap.size := (by omega); have y5_3 : w2.heap.size + 1 ≤ w5.heap.size := (by omega)); rotate_left; ((repeat' (first | with_reducible exact Below.refl _ _ | with_reducible assumption | with_reducible refine Below.drew ?_ | with_reducible refine below_drewN' ?_ _ | with_reducible refine Below.alloc ?_ ?_ _ | with_reducible refine Below.setCell ?_ ?_ _ | with_reducible refine below_step (by assumption) ?_ ?_ | omega | (simp; done) | (simp; omega)))))
      | (go_at_call 9; (with_reducible refine (known_any _).mono ?_); rintro e w6 ⟨rfl, hb6⟩; have hz6 := hb6.size))
    go_ret
    exact ⟨rfl, by (repeat' (first | with_reducible exact Below.refl _ _ | with_reducible assumption | with_reducible refine Below.drew ?_ | with_reducible refine below_drewN' ?_ _ | with_reducible refine Below.alloc ?_ ?_ _ | with_reducible refine Below.setCell ?_ ?_ _ | with_reducible refine below_step (by assumption) ?_ ?_ | omega | (simp; done) | (simp; omega)))⟩
theorem walk {H : Type} {enc : TypeId × Value → H} {W : World} {base : Nat} {v u x : Value} {d f g : DataW H} {p q r : List MemPlace}
    (hv : Value.okWide Try.prog W .any base 23 v) (h : DataW.Trod enc Try.prog W 0 (fun _ => true) true 23 v d p)
    (hu : Value.okWide Try.prog W .any base 24 u) (k : DataW.Trod enc Try.prog W 0 (fun _ => true) true 24 u f q)
    (hx : Value.okWide Try.prog W .any base 30 x) (l : DataW.Trod enc Try.prog W 0 (fun _ => true) true 30 x g r) :
    Calls Try.prog 5 #[v, u, x] W fun e W' => e = .returned (.bool true) ∧ Below W.heap.size W W' := by
  obtain ⟨c0, c1, c2, rfl⟩ := open_caps hv h
  obtain ⟨a, ms, kc, rfl, _, hF, hm, hA⟩ := open_macs hu k
  obtain ⟨like, rfl, hL⟩ := open_mac hx l
  cases hr : rightAll c0 c1 c2 ms like
  · exact walk_no c0 c1 c2 a kc ms like W hF hm hA hL hr
  · exact walk_yes c0 c1 c2 a kc ms like W hF hA hL hr

set_option maxRecDepth 100000 in
theorem lifted (os : Os) (started : os.Started) (H : Type) (enc : TypeId × Value → H) :
    ReturnsInHanded {} Try.checked os 5 .any (Rows.capsLessSpec.pre6 enc Try.prog Try.f5 Rows.capsLessRow.domain false) (Rows.capsLessSpec.post enc Try.prog Try.f5 false true false false) := by
  refine returnsInHanded_of_change (C := Try.checked) Try.own started (by kernel_rfl) Try.func5
    (ChangeSpec.witness6 (enc := enc) (C := Try.checked) false ⟨#[], #[.agg #[.int .i64 0, .int .i64 0, .int .i64 0], .slice none 0 0, .agg #[.string ⟨#[]⟩, .string ⟨#[]⟩, .int .i64 0, .int .i64 0, .int .i64 0, .int .i64 0, .int .i64 0, .slice none 0 0, .slice none 0 0, .bool false]], []⟩ 8 (by kernel_rfl) (by kernel_rfl) (by kernel_rfl) (by kernel_rfl)) ?_
  intro W base args ds gs before hval hW _ _
  have hW' := hW
  obtain ⟨p, q, hA, hV, rfl, hfz, hnd⟩ := hW
  rw [Try.params5] at hA hval
  obtain ⟨v0, v1, v2, d0, d1, d2, p0, p1, p2, rfl, rfl, rfl, h0, h1, h2⟩ := trodAll_three hA
  refine (walk (hval 0 23 v0 rfl rfl) h0 (hval 1 24 v1 rfl rfl) h1 (hval 2 30 v2 rfl rfl) h2).mono fun e W' ⟨he, hb⟩ => ?_
  exact ⟨_, he, law_post Try.laidOut hW' rfl (by kernel_rfl) (by kernel_rfl) Try.underlying4 rfl rfl rfl hb⟩

theorem over : Rows.capsLessRow.holds Try.pinned (OpenSpec.ofChange Rows.capsLessSpec) :=
  OpenClaim.holds_of_wide 5 Try.f5 rfl rfl rfl rfl rfl rfl rfl ⟨rfl, rfl, rfl, rfl, rfl⟩ rfl rfl rfl rfl rfl (by kernel_rfl) Try.func5 (by kernel_rfl)
    (of_decide_eq_true (by kernel_rfl)) (by unfold Func.isWrapper; first | (rw [if_pos (by decide +kernel)]; kernel_rfl) | (rw [if_neg (by decide +kernel)]; exact ⟨rfl, rfl⟩))
    (fun os started H enc _ => lifted os started H enc)

/-- The statement. -/
theorem proved : Rows.CapsLessSaid := over
end capsLess
end Go.Proofs.Ytdlebpobkkndaaa
