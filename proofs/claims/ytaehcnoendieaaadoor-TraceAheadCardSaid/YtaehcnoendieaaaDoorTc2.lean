/-
  Right: is an event one that can be; the program's answer.
-/
import Derived.Test.YtaehcnoendieaaaDoorTc1
import Derived.Test.YtaehcnoendieaaaDoorMB
namespace Go.Proofs.YtaehcnoendieaaaDoor
open Go.RowKit
set_option linter.unusedVariables false
set_option linter.unusedSimpArgs false

def G4 : List ByteArray := [⟨#[117, 112]⟩, ⟨#[114, 97, 105, 115, 101]⟩, ⟨#[102, 105, 120]⟩, ⟨#[99, 108, 101, 97, 110]⟩, ⟨#[100, 101, 108, 101, 116, 101]⟩]
def G5 : List ByteArray := [⟨#[117, 112]⟩, ⟨#[114, 97, 105, 115, 101]⟩]
def G6 : List ByteArray := [⟨#[100, 111, 119, 110]⟩]
def G7 : List ByteArray := [⟨#[100, 101, 108, 101, 116, 101]⟩]
def G8 : List ByteArray := [⟨#[107, 101, 101, 112]⟩, ⟨#[115, 116, 111, 112]⟩, ⟨#[103, 111, 110, 101]⟩]
theorem is1_any (now : Int) (what name : ByteArray) (n : Int) (b : Nat) (w : World) (hb : b = w.heap.size) :
    Calls Tryd.prog 27 #[.agg #[.int .i64 now, .string what, .string name, .int .i64 n], .slice (some ⟨b, 0, none⟩) 3 3] (w.alloc (.cells #[.string ⟨#[117, 112]⟩, .string ⟨#[114, 97, 105, 115, 101]⟩, .string ⟨#[102, 105, 120]⟩] 9)) fun r w' => r = .returned (.bool (inB G1 what)) ∧ Below (w.alloc (.cells #[.string ⟨#[117, 112]⟩, .string ⟨#[114, 97, 105, 115, 101]⟩, .string ⟨#[102, 105, 120]⟩] 9)).heap.size (w.alloc (.cells #[.string ⟨#[117, 112]⟩, .string ⟨#[114, 97, 105, 115, 101]⟩, .string ⟨#[102, 105, 120]⟩] 9)) w' := by
  subst hb
  exact is_any ⟨now, what, name, n⟩ G1 (some ⟨w.heap.size, 0, none⟩) 3 _ (RowsAt.new scs_len w G1 9) (by decide)
theorem is2_any (now : Int) (what name : ByteArray) (n : Int) (b : Nat) (w : World) (hb : b = w.heap.size) :
    Calls Tryd.prog 27 #[.agg #[.int .i64 now, .string what, .string name, .int .i64 n], .slice (some ⟨b, 0, none⟩) 9 9] (w.alloc (.cells #[.string ⟨#[99, 108, 101, 97, 110]⟩, .string ⟨#[114, 101, 102, 117, 115, 101, 100]⟩, .string ⟨#[104, 111, 112, 101, 108, 101, 115, 115]⟩, .string ⟨#[101, 118, 105, 99, 116]⟩, .string ⟨#[100, 101, 108, 101, 116, 101]⟩, .string ⟨#[107, 101, 101, 112]⟩, .string ⟨#[115, 116, 111, 112]⟩, .string ⟨#[103, 111, 110, 101]⟩, .string ⟨#[100, 111, 119, 110]⟩] 9)) fun r w' => r = .returned (.bool (inB G2 what)) ∧ Below (w.alloc (.cells #[.string ⟨#[99, 108, 101, 97, 110]⟩, .string ⟨#[114, 101, 102, 117, 115, 101, 100]⟩, .string ⟨#[104, 111, 112, 101, 108, 101, 115, 115]⟩, .string ⟨#[101, 118, 105, 99, 116]⟩, .string ⟨#[100, 101, 108, 101, 116, 101]⟩, .string ⟨#[107, 101, 101, 112]⟩, .string ⟨#[115, 116, 111, 112]⟩, .string ⟨#[103, 111, 110, 101]⟩, .string ⟨#[100, 111, 119, 110]⟩] 9)).heap.size (w.alloc (.cells #[.string ⟨#[99, 108, 101, 97, 110]⟩, .string ⟨#[114, 101, 102, 117, 115, 101, 100]⟩, .string ⟨#[104, 111, 112, 101, 108, 101, 115, 115]⟩, .string ⟨#[101, 118, 105, 99, 116]⟩, .string ⟨#[100, 101, 108, 101, 116, 101]⟩, .string ⟨#[107, 101, 101, 112]⟩, .string ⟨#[115, 116, 111, 112]⟩, .string ⟨#[103, 111, 110, 101]⟩, .string ⟨#[100, 111, 119, 110]⟩] 9)) w' := by
  subst hb
  exact is_any ⟨now, what, name, n⟩ G2 (some ⟨w.heap.size, 0, none⟩) 9 _ (RowsAt.new scs_len w G2 9) (by decide)
theorem is3_any (now : Int) (what name : ByteArray) (n : Int) (b : Nat) (w : World) (hb : b = w.heap.size) :
    Calls Tryd.prog 27 #[.agg #[.int .i64 now, .string what, .string name, .int .i64 n], .slice (some ⟨b, 0, none⟩) 1 1] (w.alloc (.cells #[.string ⟨#[117, 110, 104, 101, 97, 108, 116, 104, 121]⟩] 9)) fun r w' => r = .returned (.bool (inB G3 what)) ∧ Below (w.alloc (.cells #[.string ⟨#[117, 110, 104, 101, 97, 108, 116, 104, 121]⟩] 9)).heap.size (w.alloc (.cells #[.string ⟨#[117, 110, 104, 101, 97, 108, 116, 104, 121]⟩] 9)) w' := by
  subst hb
  exact is_any ⟨now, what, name, n⟩ G3 (some ⟨w.heap.size, 0, none⟩) 1 _ (RowsAt.new scs_len w G3 9) (by decide)
theorem is4_any (now : Int) (what name : ByteArray) (n : Int) (b : Nat) (w : World) (hb : b = w.heap.size) :
    Calls Tryd.prog 27 #[.agg #[.int .i64 now, .string what, .string name, .int .i64 n], .slice (some ⟨b, 0, none⟩) 5 5] (w.alloc (.cells #[.string ⟨#[117, 112]⟩, .string ⟨#[114, 97, 105, 115, 101]⟩, .string ⟨#[102, 105, 120]⟩, .string ⟨#[99, 108, 101, 97, 110]⟩, .string ⟨#[100, 101, 108, 101, 116, 101]⟩] 9)) fun r w' => r = .returned (.bool (inB G4 what)) ∧ Below (w.alloc (.cells #[.string ⟨#[117, 112]⟩, .string ⟨#[114, 97, 105, 115, 101]⟩, .string ⟨#[102, 105, 120]⟩, .string ⟨#[99, 108, 101, 97, 110]⟩, .string ⟨#[100, 101, 108, 101, 116, 101]⟩] 9)).heap.size (w.alloc (.cells #[.string ⟨#[117, 112]⟩, .string ⟨#[114, 97, 105, 115, 101]⟩, .string ⟨#[102, 105, 120]⟩, .string ⟨#[99, 108, 101, 97, 110]⟩, .string ⟨#[100, 101, 108, 101, 116, 101]⟩] 9)) w' := by
  subst hb
  exact is_any ⟨now, what, name, n⟩ G4 (some ⟨w.heap.size, 0, none⟩) 5 _ (RowsAt.new scs_len w G4 9) (by decide)
theorem is5_any (now : Int) (what name : ByteArray) (n : Int) (b : Nat) (w : World) (hb : b = w.heap.size) :
    Calls Tryd.prog 27 #[.agg #[.int .i64 now, .string what, .string name, .int .i64 n], .slice (some ⟨b, 0, none⟩) 2 2] (w.alloc (.cells #[.string ⟨#[117, 112]⟩, .string ⟨#[114, 97, 105, 115, 101]⟩] 9)) fun r w' => r = .returned (.bool (inB G5 what)) ∧ Below (w.alloc (.cells #[.string ⟨#[117, 112]⟩, .string ⟨#[114, 97, 105, 115, 101]⟩] 9)).heap.size (w.alloc (.cells #[.string ⟨#[117, 112]⟩, .string ⟨#[114, 97, 105, 115, 101]⟩] 9)) w' := by
  subst hb
  exact is_any ⟨now, what, name, n⟩ G5 (some ⟨w.heap.size, 0, none⟩) 2 _ (RowsAt.new scs_len w G5 9) (by decide)
theorem is6_any (now : Int) (what name : ByteArray) (n : Int) (b : Nat) (w : World) (hb : b = w.heap.size) :
    Calls Tryd.prog 27 #[.agg #[.int .i64 now, .string what, .string name, .int .i64 n], .slice (some ⟨b, 0, none⟩) 1 1] (w.alloc (.cells #[.string ⟨#[100, 111, 119, 110]⟩] 9)) fun r w' => r = .returned (.bool (inB G6 what)) ∧ Below (w.alloc (.cells #[.string ⟨#[100, 111, 119, 110]⟩] 9)).heap.size (w.alloc (.cells #[.string ⟨#[100, 111, 119, 110]⟩] 9)) w' := by
  subst hb
  exact is_any ⟨now, what, name, n⟩ G6 (some ⟨w.heap.size, 0, none⟩) 1 _ (RowsAt.new scs_len w G6 9) (by decide)
theorem is7_any (now : Int) (what name : ByteArray) (n : Int) (b : Nat) (w : World) (hb : b = w.heap.size) :
    Calls Tryd.prog 27 #[.agg #[.int .i64 now, .string what, .string name, .int .i64 n], .slice (some ⟨b, 0, none⟩) 1 1] (w.alloc (.cells #[.string ⟨#[100, 101, 108, 101, 116, 101]⟩] 9)) fun r w' => r = .returned (.bool (inB G7 what)) ∧ Below (w.alloc (.cells #[.string ⟨#[100, 101, 108, 101, 116, 101]⟩] 9)).heap.size (w.alloc (.cells #[.string ⟨#[100, 101, 108, 101, 116, 101]⟩] 9)) w' := by
  subst hb
  exact is_any ⟨now, what, name, n⟩ G7 (some ⟨w.heap.size, 0, none⟩) 1 _ (RowsAt.new scs_len w G7 9) (by decide)
theorem is8_any (now : Int) (what name : ByteArray) (n : Int) (b : Nat) (w : World) (hb : b = w.heap.size) :
    Calls Tryd.prog 27 #[.agg #[.int .i64 now, .string what, .string name, .int .i64 n], .slice (some ⟨b, 0, none⟩) 3 3] (w.alloc (.cells #[.string ⟨#[107, 101, 101, 112]⟩, .string ⟨#[115, 116, 111, 112]⟩, .string ⟨#[103, 111, 110, 101]⟩] 9)) fun r w' => r = .returned (.bool (inB G8 what)) ∧ Below (w.alloc (.cells #[.string ⟨#[107, 101, 101, 112]⟩, .string ⟨#[115, 116, 111, 112]⟩, .string ⟨#[103, 111, 110, 101]⟩] 9)).heap.size (w.alloc (.cells #[.string ⟨#[107, 101, 101, 112]⟩, .string ⟨#[115, 116, 111, 112]⟩, .string ⟨#[103, 111, 110, 101]⟩] 9)) w' := by
  subst hb
  exact is_any ⟨now, what, name, n⟩ G8 (some ⟨w.heap.size, 0, none⟩) 3 _ (RowsAt.new scs_len w G8 9) (by decide)
set_option maxRecDepth 100000 in
set_option maxHeartbeats 4000000 in
theorem right_any (e : Ev) (w : World) :
    Calls Tryd.prog 14 #[.agg #[.int .i64 e.now, .string e.what, .string e.name, .int .i64 e.n]] w fun r w' => r = .returned (.bool (rightE e)) ∧ Below w.heap.size w w' := by
  obtain ⟨now, what, name, n⟩ := e
  obtain ⟨R, hR⟩ : ∃ R, rightE ⟨now, what, name, n⟩ = R := ⟨_, rfl⟩
  have HR := Lib.hid hR
  rw [hR]
  unfold rightE kindB at hR
  dsimp only at hR ⊢
  by_cases t0 : now < 0
  · have q0 : decide (now < 0) = true := decide_eq_true t0
    obtain rfl : R = false := by rw [← hR, decide_eq_false (by omega)]; rfl
    clear hR t0
    go_enter Tryd.func14, Tryd.ntmps14
    go_wp2
    go_ret
    exact ⟨rfl, by (repeat' (first | with_reducible exact Below.refl _ _ | with_reducible assumption | with_reducible refine Below.drew ?_ | with_reducible refine below_drewN' ?_ _ | with_reducible refine Below.alloc ?_ ?_ _ | with_reducible refine Below.setCell ?_ ?_ _ | with_reducible refine below_step (by assumption) ?_ ?_ | omega | (simp; done) | (simp; omega)))⟩
  by_cases t1 : 1099511627776 < now
  · have q0 : decide (now < 0) = false := decide_eq_false t0
    have q1 : decide (1099511627776 < now) = true := decide_eq_true t1
    obtain rfl : R = false := by rw [← hR, decide_eq_false (by omega)]; rfl
    clear hR t0 t1
    go_enter Tryd.func14, Tryd.ntmps14
    go_wp2
    go_ret
    exact ⟨rfl, by (repeat' (first | with_reducible exact Below.refl _ _ | with_reducible assumption | with_reducible refine Below.drew ?_ | with_reducible refine below_drewN' ?_ _ | with_reducible refine Below.alloc ?_ ?_ _ | with_reducible refine Below.setCell ?_ ?_ _ | with_reducible refine below_step (by assumption) ?_ ?_ | omega | (simp; done) | (simp; omega)))⟩
  have q0 : decide (now < 0) = false := decide_eq_false t0
  have q1 : decide (1099511627776 < now) = false := decide_eq_false t1
  rw [decide_eq_true (show 0 ≤ now ∧ now ≤ 1099511627776 from ⟨by omega, by omega⟩), Bool.true_and] at hR
  clear t0 t1
  cases k1 : inB G1 what
  · cases k2 : inB G2 what
    · cases k3 : inB G3 what
      · rw [k1, k2, k3] at hR
        obtain rfl : R = false := hR.symm
        go_enter Tryd.func14, Tryd.ntmps14
        go_wp2_with (first
          | (go_at_call 27; (with_reducible refine (is1_any _ _ _ _ _ _ (by simp)).mono ?_); rintro e w1 ⟨rfl, hb1⟩; obtain ⟨hc1, hf1⟩ := bcell hb1; have hz1 := hb1.size; (try simp at hz1); have hx1 : w.heap.size < w1.heap.size := by omega)
          | (go_at_call 27; (with_reducible refine (is2_any _ _ _ _ _ _ (by simp)).mono ?_); rintro e w2 ⟨rfl, hb2⟩; obtain ⟨hc2, hf2⟩ := bcell hb2; have hz2 := hb2.size; (try simp at hz2); have hx2 : w.heap.size < w2.heap.size := by omega)
          | (go_at_call 27; (with_reducible refine (is3_any _ _ _ _ _ _ (by simp)).mono ?_); rintro e w3 ⟨rfl, hb3⟩; obtain ⟨hc3, hf3⟩ := bcell hb3; have hz3 := hb3.size; (try simp at hz3); have hx3 : w.heap.size < w3.heap.size := by omega))
        go_ret
        exact ⟨rfl, by (repeat' (first | with_reducible exact Below.refl _ _ | with_reducible assumption | with_reducible refine Below.drew ?_ | with_reducible refine below_drewN' ?_ _ | with_reducible refine Below.alloc ?_ ?_ _ | with_reducible refine Below.setCell ?_ ?_ _ | with_reducible refine below_step (by assumption) ?_ ?_ | omega | (simp; done) | (simp; omega)))⟩
      · rw [k1, k2, k3] at hR
        by_cases h1 : name = emp
        · have p1 := emp_lits h1
          by_cases h2 : n = 0
          · obtain rfl : R = true := hR.symm.trans (decide_eq_true ⟨h1, h2⟩)
            subst h2
            clear hR h1
            go_enter Tryd.func14, Tryd.ntmps14
            go_wp2_with (first
              | (go_at_call 27; (with_reducible refine (is1_any _ _ _ _ _ _ (by simp)).mono ?_); rintro e w1 ⟨rfl, hb1⟩; obtain ⟨hc1, hf1⟩ := bcell hb1; have hz1 := hb1.size; (try simp at hz1); have hx1 : w.heap.size < w1.heap.size := by omega)
              | (go_at_call 27; (with_reducible refine (is2_any _ _ _ _ _ _ (by simp)).mono ?_); rintro e w2 ⟨rfl, hb2⟩; obtain ⟨hc2, hf2⟩ := bcell hb2; have hz2 := hb2.size; (try simp at hz2); have hx2 : w.heap.size < w2.heap.size := by omega)
              | (go_at_call 27; (with_reducible refine (is3_any _ _ _ _ _ _ (by simp)).mono ?_); rintro e w3 ⟨rfl, hb3⟩; obtain ⟨hc3, hf3⟩ := bcell hb3; have hz3 := hb3.size; (try simp at hz3); have hx3 : w.heap.size < w3.heap.size := by omega))
            go_ret
            exact ⟨rfl, by (repeat' (first | with_reducible exact Below.refl _ _ | with_reducible assumption | with_reducible refine Below.drew ?_ | with_reducible refine below_drewN' ?_ _ | with_reducible refine Below.alloc ?_ ?_ _ | with_reducible refine Below.setCell ?_ ?_ _ | with_reducible refine below_step (by assumption) ?_ ?_ | omega | (simp; done) | (simp; omega)))⟩
          · obtain rfl : R = false := hR.symm.trans (decide_eq_false fun h => h2 h.2)
            have p2 : (n == 0) = false := by simpa using h2
            clear hR h1 h2
            go_enter Tryd.func14, Tryd.ntmps14
            go_wp2_with (first
              | (go_at_call 27; (with_reducible refine (is1_any _ _ _ _ _ _ (by simp)).mono ?_); rintro e w1 ⟨rfl, hb1⟩; obtain ⟨hc1, hf1⟩ := bcell hb1; have hz1 := hb1.size; (try simp at hz1); have hx1 : w.heap.size < w1.heap.size := by omega)
              | (go_at_call 27; (with_reducible refine (is2_any _ _ _ _ _ _ (by simp)).mono ?_); rintro e w2 ⟨rfl, hb2⟩; obtain ⟨hc2, hf2⟩ := bcell hb2; have hz2 := hb2.size; (try simp at hz2); have hx2 : w.heap.size < w2.heap.size := by omega)
              | (go_at_call 27; (with_reducible refine (is3_any _ _ _ _ _ _ (by simp)).mono ?_); rintro e w3 ⟨rfl, hb3⟩; obtain ⟨hc3, hf3⟩ := bcell hb3; have hz3 := hb3.size; (try simp at hz3); have hx3 : w.heap.size < w3.heap.size := by omega))
            go_ret
            exact ⟨rfl, by (repeat' (first | with_reducible exact Below.refl _ _ | with_reducible assumption | with_reducible refine Below.drew ?_ | with_reducible refine below_drewN' ?_ _ | with_reducible refine Below.alloc ?_ ?_ _ | with_reducible refine Below.setCell ?_ ?_ _ | with_reducible refine below_step (by assumption) ?_ ?_ | omega | (simp; done) | (simp; omega)))⟩
        · have p1 := emp_litn h1
          obtain rfl : R = false := hR.symm.trans (decide_eq_false fun h => h1 h.1)
          clear hR h1
          go_enter Tryd.func14, Tryd.ntmps14
          go_wp2_with (first
            | (go_at_call 27; (with_reducible refine (is1_any _ _ _ _ _ _ (by simp)).mono ?_); rintro e w1 ⟨rfl, hb1⟩; obtain ⟨hc1, hf1⟩ := bcell hb1; have hz1 := hb1.size; (try simp at hz1); have hx1 : w.heap.size < w1.heap.size := by omega)
            | (go_at_call 27; (with_reducible refine (is2_any _ _ _ _ _ _ (by simp)).mono ?_); rintro e w2 ⟨rfl, hb2⟩; obtain ⟨hc2, hf2⟩ := bcell hb2; have hz2 := hb2.size; (try simp at hz2); have hx2 : w.heap.size < w2.heap.size := by omega)
            | (go_at_call 27; (with_reducible refine (is3_any _ _ _ _ _ _ (by simp)).mono ?_); rintro e w3 ⟨rfl, hb3⟩; obtain ⟨hc3, hf3⟩ := bcell hb3; have hz3 := hb3.size; (try simp at hz3); have hx3 : w.heap.size < w3.heap.size := by omega))
          go_ret
          exact ⟨rfl, by (repeat' (first | with_reducible exact Below.refl _ _ | with_reducible assumption | with_reducible refine Below.drew ?_ | with_reducible refine below_drewN' ?_ _ | with_reducible refine Below.alloc ?_ ?_ _ | with_reducible refine Below.setCell ?_ ?_ _ | with_reducible refine below_step (by assumption) ?_ ?_ | omega | (simp; done) | (simp; omega)))⟩
    · rw [k1, k2] at hR
      cases hw : wordB name
      · obtain rfl : R = false := by rw [← hR, hw]; rfl
        clear hR
        go_enter Tryd.func14, Tryd.ntmps14
        go_wp2_with (first
          | (go_at_call 27; (with_reducible refine (is1_any _ _ _ _ _ _ (by simp)).mono ?_); rintro e w1 ⟨rfl, hb1⟩; obtain ⟨hc1, hf1⟩ := bcell hb1; have hz1 := hb1.size; (try simp at hz1); have hx1 : w.heap.size < w1.heap.size := by omega)
          | (go_at_call 27; (with_reducible refine (is2_any _ _ _ _ _ _ (by simp)).mono ?_); rintro e w2 ⟨rfl, hb2⟩; obtain ⟨hc2, hf2⟩ := bcell hb2; have hz2 := hb2.size; (try simp at hz2); have hx2 : w.heap.size < w2.heap.size := by omega)
          | (go_at_call 28; (with_reducible refine (word_any _ _).mono ?_); rintro e w9 ⟨rfl, hb9⟩; obtain ⟨hc9, hf9⟩ := bcell hb9; have hz9 := hb9.size; (try simp at hz9); have hx9 : w.heap.size < w9.heap.size := by omega))
        go_ret
        exact ⟨rfl, by (repeat' (first | with_reducible exact Below.refl _ _ | with_reducible assumption | with_reducible refine Below.drew ?_ | with_reducible refine below_drewN' ?_ _ | with_reducible refine Below.alloc ?_ ?_ _ | with_reducible refine Below.setCell ?_ ?_ _ | with_reducible refine below_step (by assumption) ?_ ?_ | omega | (simp; done) | (simp; omega)))⟩
      · by_cases h2 : n = 0
        · obtain rfl : R = true := by rw [← hR, hw, decide_eq_true h2]; rfl
          subst h2
          clear hR
          go_enter Tryd.func14, Tryd.ntmps14
          go_wp2_with (first
            | (go_at_call 27; (with_reducible refine (is1_any _ _ _ _ _ _ (by simp)).mono ?_); rintro e w1 ⟨rfl, hb1⟩; obtain ⟨hc1, hf1⟩ := bcell hb1; have hz1 := hb1.size; (try simp at hz1); have hx1 : w.heap.size < w1.heap.size := by omega)
            | (go_at_call 27; (with_reducible refine (is2_any _ _ _ _ _ _ (by simp)).mono ?_); rintro e w2 ⟨rfl, hb2⟩; obtain ⟨hc2, hf2⟩ := bcell hb2; have hz2 := hb2.size; (try simp at hz2); have hx2 : w.heap.size < w2.heap.size := by omega)
            | (go_at_call 28; (with_reducible refine (word_any _ _).mono ?_); rintro e w9 ⟨rfl, hb9⟩; obtain ⟨hc9, hf9⟩ := bcell hb9; have hz9 := hb9.size; (try simp at hz9); have hx9 : w.heap.size < w9.heap.size := by omega))
          go_ret
          exact ⟨rfl, by (repeat' (first | with_reducible exact Below.refl _ _ | with_reducible assumption | with_reducible refine Below.drew ?_ | with_reducible refine below_drewN' ?_ _ | with_reducible refine Below.alloc ?_ ?_ _ | with_reducible refine Below.setCell ?_ ?_ _ | with_reducible refine below_step (by assumption) ?_ ?_ | omega | (simp; done) | (simp; omega)))⟩
        · obtain rfl : R = false := by rw [← hR, hw, decide_eq_false h2]; rfl
          have p2 : (n == 0) = false := by simpa using h2
          clear hR h2
          go_enter Tryd.func14, Tryd.ntmps14
          go_wp2_with (first
            | (go_at_call 27; (with_reducible refine (is1_any _ _ _ _ _ _ (by simp)).mono ?_); rintro e w1 ⟨rfl, hb1⟩; obtain ⟨hc1, hf1⟩ := bcell hb1; have hz1 := hb1.size; (try simp at hz1); have hx1 : w.heap.size < w1.heap.size := by omega)
            | (go_at_call 27; (with_reducible refine (is2_any _ _ _ _ _ _ (by simp)).mono ?_); rintro e w2 ⟨rfl, hb2⟩; obtain ⟨hc2, hf2⟩ := bcell hb2; have hz2 := hb2.size; (try simp at hz2); have hx2 : w.heap.size < w2.heap.size := by omega)
            | (go_at_call 28; (with_reducible refine (word_any _ _).mono ?_); rintro e w9 ⟨rfl, hb9⟩; obtain ⟨hc9, hf9⟩ := bcell hb9; have hz9 := hb9.size; (try simp at hz9); have hx9 : w.heap.size < w9.heap.size := by omega))
          go_ret
          exact ⟨rfl, by (repeat' (first | with_reducible exact Below.refl _ _ | with_reducible assumption | with_reducible refine Below.drew ?_ | with_reducible refine below_drewN' ?_ _ | with_reducible refine Below.alloc ?_ ?_ _ | with_reducible refine Below.setCell ?_ ?_ _ | with_reducible refine below_step (by assumption) ?_ ?_ | omega | (simp; done) | (simp; omega)))⟩
  · rw [k1] at hR
    cases hw : wordB name
    · obtain rfl : R = false := by rw [← hR, hw]; rfl
      clear hR
      go_enter Tryd.func14, Tryd.ntmps14
      go_wp2_with (first
        | (go_at_call 27; (with_reducible refine (is1_any _ _ _ _ _ _ (by simp)).mono ?_); rintro e w1 ⟨rfl, hb1⟩; obtain ⟨hc1, hf1⟩ := bcell hb1; have hz1 := hb1.size; (try simp at hz1); have hx1 : w.heap.size < w1.heap.size := by omega)
        | (go_at_call 28; (with_reducible refine (word_any _ _).mono ?_); rintro e w9 ⟨rfl, hb9⟩; obtain ⟨hc9, hf9⟩ := bcell hb9; have hz9 := hb9.size; (try simp at hz9); have hx9 : w.heap.size < w9.heap.size := by omega))
      go_ret
      exact ⟨rfl, by (repeat' (first | with_reducible exact Below.refl _ _ | with_reducible assumption | with_reducible refine Below.drew ?_ | with_reducible refine below_drewN' ?_ _ | with_reducible refine Below.alloc ?_ ?_ _ | with_reducible refine Below.setCell ?_ ?_ _ | with_reducible refine below_step (by assumption) ?_ ?_ | omega | (simp; done) | (simp; omega)))⟩
    · by_cases h1 : 1 ≤ n
      · have p1 : decide (1 ≤ n) = true := decide_eq_true h1
        by_cases h2 : n ≤ 200
        · have p2 : decide (n ≤ 200) = true := decide_eq_true h2
          obtain rfl : R = true := by rw [← hR, hw, decide_eq_true (show 1 ≤ n ∧ n ≤ 200 from ⟨h1, h2⟩)]; rfl
          clear hR h1 h2
          go_enter Tryd.func14, Tryd.ntmps14
          go_wp2_with (first
            | (go_at_call 27; (with_reducible refine (is1_any _ _ _ _ _ _ (by simp)).mono ?_); rintro e w1 ⟨rfl, hb1⟩; obtain ⟨hc1, hf1⟩ := bcell hb1; have hz1 := hb1.size; (try simp at hz1); have hx1 : w.heap.size < w1.heap.size := by omega)
            | (go_at_call 28; (with_reducible refine (word_any _ _).mono ?_); rintro e w9 ⟨rfl, hb9⟩; obtain ⟨hc9, hf9⟩ := bcell hb9; have hz9 := hb9.size; (try simp at hz9); have hx9 : w.heap.size < w9.heap.size := by omega))
          go_ret
          exact ⟨rfl, by (repeat' (first | with_reducible exact Below.refl _ _ | with_reducible assumption | with_reducible refine Below.drew ?_ | with_reducible refine below_drewN' ?_ _ | with_reducible refine Below.alloc ?_ ?_ _ | with_reducible refine Below.setCell ?_ ?_ _ | with_reducible refine below_step (by assumption) ?_ ?_ | omega | (simp; done) | (simp; omega)))⟩
        · have p2 : decide (n ≤ 200) = false := decide_eq_false h2
          obtain rfl : R = false := by rw [← hR, hw, decide_eq_false (fun h : 1 ≤ n ∧ n ≤ 200 => h2 h.2)]; rfl
          clear hR h1 h2
          go_enter Tryd.func14, Tryd.ntmps14
          go_wp2_with (first
            | (go_at_call 27; (with_reducible refine (is1_any _ _ _ _ _ _ (by simp)).mono ?_); rintro e w1 ⟨rfl, hb1⟩; obtain ⟨hc1, hf1⟩ := bcell hb1; have hz1 := hb1.size; (try simp at hz1); have hx1 : w.heap.size < w1.heap.size := by omega)
            | (go_at_call 28; (with_reducible refine (word_any _ _).mono ?_); rintro e w9 ⟨rfl, hb9⟩; obtain ⟨hc9, hf9⟩ := bcell hb9; have hz9 := hb9.size; (try simp at hz9); have hx9 : w.heap.size < w9.heap.size := by omega))
          go_ret
          exact ⟨rfl, by (repeat' (first | with_reducible exact Below.refl _ _ | with_reducible assumption | with_reducible refine Below.drew ?_ | with_reducible refine below_drewN' ?_ _ | with_reducible refine Below.alloc ?_ ?_ _ | with_reducible refine Below.setCell ?_ ?_ _ | with_reducible refine below_step (by assumption) ?_ ?_ | omega | (simp; done) | (simp; omega)))⟩
      · have p1 : decide (1 ≤ n) = false := decide_eq_false h1
        obtain rfl : R = false := by rw [← hR, hw, decide_eq_false (fun h : 1 ≤ n ∧ n ≤ 200 => h1 h.1)]; rfl
        clear hR h1
        go_enter Tryd.func14, Tryd.ntmps14
        go_wp2_with (first
          | (go_at_call 27; (with_reducible refine (is1_any _ _ _ _ _ _ (by simp)).mono ?_); rintro e w1 ⟨rfl, hb1⟩; obtain ⟨hc1, hf1⟩ := bcell hb1; have hz1 := hb1.size; (try simp at hz1); have hx1 : w.heap.size < w1.heap.size := by omega)
          | (go_at_call 28; (with_reducible refine (word_any _ _).mono ?_); rintro e w9 ⟨rfl, hb9⟩; obtain ⟨hc9, hf9⟩ := bcell hb9; have hz9 := hb9.size; (try simp at hz9); have hx9 : w.heap.size < w9.heap.size := by omega))
        go_ret
        exact ⟨rfl, by (repeat' (first | with_reducible exact Below.refl _ _ | with_reducible assumption | with_reducible refine Below.drew ?_ | with_reducible refine below_drewN' ?_ _ | with_reducible refine Below.alloc ?_ ?_ _ | with_reducible refine Below.setCell ?_ ?_ _ | with_reducible refine below_step (by assumption) ?_ ?_ | omega | (simp; done) | (simp; omega)))⟩
end Go.Proofs.YtaehcnoendieaaaDoor
