/-
  The document's right.
-/
import Derived.Test.YtlndfognkkobaaaTrW
import Derived.Test.YtlndfognkkobaaaTrQ
namespace Go.Proofs.Ytlndfognkkobaaa
open Go.RowKit
set_option linter.unusedVariables false
set_option linter.unusedSimpArgs false

/-- Whether a node has what its kind asks, by itself. -/
def rightN (x : Nd) : Bool :=
  if x.kd = 5 then (decide (x.tx = emp) && decide (0 ≤ x.po))
  else if x.kd = 3 then (decide (x.ki = 0) && wordB x.tx && decide (0 ≤ x.po))
  else if x.kd = 4 then (decide (x.ki = 0) && !oddT x.tx && decide (0 ≤ x.po))
  else false
theorem emp_iff (s : ByteArray) : s.toList = [] ↔ s = emp := by
  constructor
  · intro h
    refine bytes_inj ?_
    rw [h]
    exact (toB_list []).symm
  · intro h
    rw [h]
    exact toB_list []
set_option maxRecDepth 100000 in
set_option maxHeartbeats 4000000 in
theorem right_any (x : Nd) (hx : x.tx.size ≤ 30000) (w : World) :
    Calls Try.prog 25 #[.agg #[.int .i64 x.kd, .string x.tx, .int .i64 x.ki, .int .i64 x.po]] w fun e w' => e = .returned (.bool (rightN x)) ∧ Below w.heap.size w w' := by
  obtain ⟨kd, tx, ki, po⟩ := x
  dsimp only at hx ⊢
  unfold rightN
  dsimp only
  have hp : ∃ b, decide (0 ≤ po) = b := ⟨_, rfl⟩
  obtain ⟨b, hb⟩ := hp
  rw [hb]
  by_cases k5 : kd = 5
  · rw [if_pos k5]
    subst k5
    by_cases ht : tx = emp
    · have e : decide (tx = emp) = true := decide_eq_true ht
      rw [e, Bool.true_and]
      subst ht
      unfold emp
      go_enter Try.func25, Try.ntmps25
      go_wp2
      go_ret
      exact ⟨rfl, by (repeat' (first | with_reducible exact Below.refl _ _ | with_reducible assumption | with_reducible refine Below.drew ?_ | with_reducible refine below_drewN' ?_ _ | with_reducible refine Below.alloc ?_ ?_ _ | with_reducible refine Below.setCell ?_ ?_ _ | with_reducible refine below_step (by assumption) ?_ ?_ | omega | (simp; done) | (simp; omega)))⟩
    · have e : decide (tx = emp) = false := decide_eq_false ht
      rw [e, Bool.false_and]
      have hne : ¬ tx.toList = [] := fun h => ht ((emp_iff tx).1 h)
      clear ht e
      go_enter Try.func25, Try.ntmps25
      go_wp2
      go_ret
      exact ⟨rfl, by (repeat' (first | with_reducible exact Below.refl _ _ | with_reducible assumption | with_reducible refine Below.drew ?_ | with_reducible refine below_drewN' ?_ _ | with_reducible refine Below.alloc ?_ ?_ _ | with_reducible refine Below.setCell ?_ ?_ _ | with_reducible refine below_step (by assumption) ?_ ?_ | omega | (simp; done) | (simp; omega)))⟩
  have n5 : (kd == 5) = false := by simpa using k5
  rw [if_neg k5]
  by_cases k3 : kd = 3
  · rw [if_pos k3]
    subst k3
    have HW := Lib.hid (fun V => refword_any tx (by omega) V)
    obtain ⟨c, hc⟩ : ∃ c, wordB tx = c := ⟨_, rfl⟩
    rw [hc] at HW ⊢
    clear k5 hc n5
    by_cases h0 : ki = 0
    · have e : decide (ki = 0) = true := decide_eq_true h0
      rw [e, Bool.true_and]
      subst h0
      cases c with
      | true =>
        rw [Bool.true_and]
        go_enter Try.func25, Try.ntmps25
        go_wp2_with (go_at_call 39; (with_reducible refine (HW.out _).mono ?_); rintro e w1 ⟨rfl, hb1⟩; have HB1 := Lib.hid hb1; obtain ⟨hc1, hf1⟩ := bcell hb1; have hz1 := hb1.size; (try simp at hz1))
        go_ret
        exact ⟨rfl, by (repeat' (first | with_reducible exact Below.refl _ _ | with_reducible assumption | with_reducible refine Below.drew ?_ | with_reducible refine below_drewN' ?_ _ | with_reducible refine Below.alloc ?_ ?_ _ | with_reducible refine Below.setCell ?_ ?_ _ | with_reducible refine below_step (by assumption) ?_ ?_ | omega | (simp; done) | (simp; omega)))⟩
      | false =>
        rw [Bool.false_and]
        go_enter Try.func25, Try.ntmps25
        go_wp2_with (go_at_call 39; (with_reducible refine (HW.out _).mono ?_); rintro e w1 ⟨rfl, hb1⟩; have HB1 := Lib.hid hb1; obtain ⟨hc1, hf1⟩ := bcell hb1; have hz1 := hb1.size; (try simp at hz1))
        go_ret
        exact ⟨rfl, by (repeat' (first | with_reducible exact Below.refl _ _ | with_reducible assumption | with_reducible refine Below.drew ?_ | with_reducible refine below_drewN' ?_ _ | with_reducible refine Below.alloc ?_ ?_ _ | with_reducible refine Below.setCell ?_ ?_ _ | with_reducible refine below_step (by assumption) ?_ ?_ | omega | (simp; done) | (simp; omega)))⟩
    · have e : decide (ki = 0) = false := decide_eq_false h0
      rw [e, Bool.false_and, Bool.false_and]
      have n0 : (ki == 0) = false := by simpa using h0
      clear h0 e
      go_enter Try.func25, Try.ntmps25
      go_wp2
      go_ret
      exact ⟨rfl, by (repeat' (first | with_reducible exact Below.refl _ _ | with_reducible assumption | with_reducible refine Below.drew ?_ | with_reducible refine below_drewN' ?_ _ | with_reducible refine Below.alloc ?_ ?_ _ | with_reducible refine Below.setCell ?_ ?_ _ | with_reducible refine below_step (by assumption) ?_ ?_ | omega | (simp; done) | (simp; omega)))⟩
  have n3 : (kd == 3) = false := by simpa using k3
  rw [if_neg k3]
  by_cases k4 : kd = 4
  · rw [if_pos k4]
    subst k4
    have hq := quote_size tx
    have HQ := Lib.hid (fun V => refquote_any tx (by omega) V)
    have HS := Lib.hid (fun V => refscan_quote tx (by omega) V)
    obtain ⟨c, hc⟩ : ∃ c, oddT tx = c := ⟨_, rfl⟩
    rw [hc] at HS ⊢
    obtain ⟨q, hq2⟩ : ∃ q, quoteB tx = q := ⟨_, rfl⟩
    rw [hq2] at HQ HS
    clear k5 k3 hc n5 n3 hq hq2
    cases c with
    | true =>
      have HS := Lib.hid (show ∀ V : World, Calls Try.prog 40 #[.string q] V fun e w' => (∃ p : Int, e = .returned (.tuple #[.slice none 0 0, .int .i64 2, .int .i64 p])) ∧ Below V.heap.size V w' from HS.out)
      have e : (decide (ki = 0) && !true && b) = false := by cases decide (ki = 0) <;> rfl
      rw [e]
      by_cases h0 : ki = 0
      · subst h0
        clear hb e
        go_enter Try.func25, Try.ntmps25
        go_wp2_with (first
          | (go_at_call 41; (with_reducible refine (HQ.out _).mono ?_); rintro e w1 ⟨rfl, hb1⟩; have HB1 := Lib.hid hb1; obtain ⟨hc1, hf1⟩ := bcell hb1; have hz1 := hb1.size; (try simp at hz1); have hzz : w.heap.size < w1.heap.size := (by omega))
          | (go_at_call 40; (with_reducible refine (HS.out _).mono ?_); rintro e w2 ⟨⟨p, rfl⟩, hb2⟩; obtain ⟨hc2, hf2⟩ := bcell hb2; have hz2 := hb2.size; (try simp at hz2); have hzy : w.heap.size < w2.heap.size := (by omega)))
        go_ret
        exact ⟨rfl, by (repeat' (first | with_reducible exact Below.refl _ _ | with_reducible assumption | with_reducible refine Below.drew ?_ | with_reducible refine below_drewN' ?_ _ | with_reducible refine Below.alloc ?_ ?_ _ | with_reducible refine Below.setCell ?_ ?_ _ | with_reducible refine below_step (by assumption) ?_ ?_ | omega | (simp; done) | (simp; omega)))⟩
      · have n0 : (ki == 0) = false := by simpa using h0
        clear h0 hb e
        go_enter Try.func25, Try.ntmps25
        go_wp2_with (first
          | (go_at_call 41; (with_reducible refine (HQ.out _).mono ?_); rintro e w1 ⟨rfl, hb1⟩; have HB1 := Lib.hid hb1; obtain ⟨hc1, hf1⟩ := bcell hb1; have hz1 := hb1.size; (try simp at hz1); have hzz : w.heap.size < w1.heap.size := (by omega))
          | (go_at_call 40; (with_reducible refine (HS.out _).mono ?_); rintro e w2 ⟨⟨p, rfl⟩, hb2⟩; obtain ⟨hc2, hf2⟩ := bcell hb2; have hz2 := hb2.size; (try simp at hz2); have hzy : w.heap.size < w2.heap.size := (by omega)))
        go_ret
        exact ⟨rfl, by (repeat' (first | with_reducible exact Below.refl _ _ | with_reducible assumption | with_reducible refine Below.drew ?_ | with_reducible refine below_drewN' ?_ _ | with_reducible refine Below.alloc ?_ ?_ _ | with_reducible refine Below.setCell ?_ ?_ _ | with_reducible refine below_step (by assumption) ?_ ?_ | omega | (simp; done) | (simp; omega)))⟩
    | false =>
      have HS := Lib.hid (show ∀ V : World, Calls Try.prog 40 #[.string q] V fun e w' => (∃ a k, e = .returned (.tuple #[.slice a 1 k, .int .i64 0, .int .i64 0])) ∧ Below V.heap.size V w' from HS.out)
      by_cases h0 : ki = 0
      · have e : (decide (ki = 0) && !false && b) = b := by rw [decide_eq_true h0]; rfl
        rw [e]
        subst h0
        clear e
        go_enter Try.func25, Try.ntmps25
        go_wp2_with (first
          | (go_at_call 41; (with_reducible refine (HQ.out _).mono ?_); rintro e w1 ⟨rfl, hb1⟩; have HB1 := Lib.hid hb1; obtain ⟨hc1, hf1⟩ := bcell hb1; have hz1 := hb1.size; (try simp at hz1); have hzz : w.heap.size < w1.heap.size := (by omega))
          | (go_at_call 40; (with_reducible refine (HS.out _).mono ?_); rintro e w2 ⟨⟨a9, k9, rfl⟩, hb2⟩; obtain ⟨hc2, hf2⟩ := bcell hb2; have hz2 := hb2.size; (try simp at hz2); have hzy : w.heap.size < w2.heap.size := (by omega)))
        go_ret
        exact ⟨rfl, by (repeat' (first | with_reducible exact Below.refl _ _ | with_reducible assumption | with_reducible refine Below.drew ?_ | with_reducible refine below_drewN' ?_ _ | with_reducible refine Below.alloc ?_ ?_ _ | with_reducible refine Below.setCell ?_ ?_ _ | with_reducible refine below_step (by assumption) ?_ ?_ | omega | (simp; done) | (simp; omega)))⟩
      · have e : (decide (ki = 0) && !false && b) = false := by rw [decide_eq_false h0]; rfl
        rw [e]
        have n0 : (ki == 0) = false := by simpa using h0
        clear h0 hb e
        go_enter Try.func25, Try.ntmps25
        go_wp2_with (first
          | (go_at_call 41; (with_reducible refine (HQ.out _).mono ?_); rintro e w1 ⟨rfl, hb1⟩; have HB1 := Lib.hid hb1; obtain ⟨hc1, hf1⟩ := bcell hb1; have hz1 := hb1.size; (try simp at hz1); have hzz : w.heap.size < w1.heap.size := (by omega))
          | (go_at_call 40; (with_reducible refine (HS.out _).mono ?_); rintro e w2 ⟨⟨a9, k9, rfl⟩, hb2⟩; obtain ⟨hc2, hf2⟩ := bcell hb2; have hz2 := hb2.size; (try simp at hz2); have hzy : w.heap.size < w2.heap.size := (by omega)))
        go_ret
        exact ⟨rfl, by (repeat' (first | with_reducible exact Below.refl _ _ | with_reducible assumption | with_reducible refine Below.drew ?_ | with_reducible refine below_drewN' ?_ _ | with_reducible refine Below.alloc ?_ ?_ _ | with_reducible refine Below.setCell ?_ ?_ _ | with_reducible refine below_step (by assumption) ?_ ?_ | omega | (simp; done) | (simp; omega)))⟩
  have n4 : (kd == 4) = false := by simpa using k4
  rw [if_neg k4]
  clear k5 k3 k4 hb
  go_enter Try.func25, Try.ntmps25
  go_wp2
  go_ret
  exact ⟨rfl, by (repeat' (first | with_reducible exact Below.refl _ _ | with_reducible assumption | with_reducible refine Below.drew ?_ | with_reducible refine below_drewN' ?_ _ | with_reducible refine Below.alloc ?_ ?_ _ | with_reducible refine Below.setCell ?_ ?_ _ | with_reducible refine below_step (by assumption) ?_ ?_ | omega | (simp; done) | (simp; omega)))⟩
end Go.Proofs.Ytlndfognkkobaaa
