/-
  The document's kind and Right.
-/
import Derived.Test.YtaehcnoendieaaaDoorTc2
import Derived.Test.YtaehcnoendieaaaDoorMC
namespace Go.Proofs.YtaehcnoendieaaaDoor
open Go.RowKit
set_option linter.unusedVariables false
set_option linter.unusedSimpArgs false

theorem lit_yes {a : ByteArray} {l : List UInt8} (h : a = ⟨l.toArray⟩) : (a.toList == l) = true := by
  rw [h, ByteArray.toList_eq]
  exact beq_iff_eq.2 rfl
theorem lit_no {a : ByteArray} {l : List UInt8} (h : ¬ a = ⟨l.toArray⟩) : (a.toList == l) = false := by
  rw [beq_eq_false_iff_ne]
  intro e
  rw [ByteArray.toList_eq] at e
  exact h (ByteArray.ext (by rw [← e]))
set_option maxRecDepth 100000 in
set_option maxHeartbeats 4000000 in
theorem rkind_any (what : ByteArray) (w : World) :
    Calls Tryd.prog 29 #[.string what] w fun r w' => r = .returned (.int .i64 (kindB what)) ∧ w' = w := by
  obtain ⟨R, hR⟩ : ∃ R, kindB what = R := ⟨_, rfl⟩
  rw [hR]
  by_cases h0 : what = ⟨#[117, 112]⟩
  · have q0 : (what.toList == [117, 112]) = true := lit_yes h0
    obtain rfl : R = 1 := by rw [← hR, h0]; decide +kernel
    clear hR h0
    go_enter Tryd.func29, Tryd.ntmps29
    go_wp2
    go_ret
    exact ⟨rfl, rfl⟩
  have q0 : (what.toList == [117, 112]) = false := lit_no h0
  by_cases h1 : what = ⟨#[114, 97, 105, 115, 101]⟩
  · have q1 : (what.toList == [114, 97, 105, 115, 101]) = true := lit_yes h1
    obtain rfl : R = 1 := by rw [← hR, h1]; decide +kernel
    clear hR h1
    go_enter Tryd.func29, Tryd.ntmps29
    go_wp2
    go_ret
    exact ⟨rfl, rfl⟩
  have q1 : (what.toList == [114, 97, 105, 115, 101]) = false := lit_no h1
  by_cases h2 : what = ⟨#[102, 105, 120]⟩
  · have q2 : (what.toList == [102, 105, 120]) = true := lit_yes h2
    obtain rfl : R = 1 := by rw [← hR, h2]; decide +kernel
    clear hR h2
    go_enter Tryd.func29, Tryd.ntmps29
    go_wp2
    go_ret
    exact ⟨rfl, rfl⟩
  have q2 : (what.toList == [102, 105, 120]) = false := lit_no h2
  by_cases h3 : what = ⟨#[99, 108, 101, 97, 110]⟩
  · have q3 : (what.toList == [99, 108, 101, 97, 110]) = true := lit_yes h3
    obtain rfl : R = 2 := by rw [← hR, h3]; decide +kernel
    clear hR h3
    go_enter Tryd.func29, Tryd.ntmps29
    go_wp2
    go_ret
    exact ⟨rfl, rfl⟩
  have q3 : (what.toList == [99, 108, 101, 97, 110]) = false := lit_no h3
  by_cases h4 : what = ⟨#[114, 101, 102, 117, 115, 101, 100]⟩
  · have q4 : (what.toList == [114, 101, 102, 117, 115, 101, 100]) = true := lit_yes h4
    obtain rfl : R = 2 := by rw [← hR, h4]; decide +kernel
    clear hR h4
    go_enter Tryd.func29, Tryd.ntmps29
    go_wp2
    go_ret
    exact ⟨rfl, rfl⟩
  have q4 : (what.toList == [114, 101, 102, 117, 115, 101, 100]) = false := lit_no h4
  by_cases h5 : what = ⟨#[104, 111, 112, 101, 108, 101, 115, 115]⟩
  · have q5 : (what.toList == [104, 111, 112, 101, 108, 101, 115, 115]) = true := lit_yes h5
    obtain rfl : R = 2 := by rw [← hR, h5]; decide +kernel
    clear hR h5
    go_enter Tryd.func29, Tryd.ntmps29
    go_wp2
    go_ret
    exact ⟨rfl, rfl⟩
  have q5 : (what.toList == [104, 111, 112, 101, 108, 101, 115, 115]) = false := lit_no h5
  by_cases h6 : what = ⟨#[101, 118, 105, 99, 116]⟩
  · have q6 : (what.toList == [101, 118, 105, 99, 116]) = true := lit_yes h6
    obtain rfl : R = 2 := by rw [← hR, h6]; decide +kernel
    clear hR h6
    go_enter Tryd.func29, Tryd.ntmps29
    go_wp2
    go_ret
    exact ⟨rfl, rfl⟩
  have q6 : (what.toList == [101, 118, 105, 99, 116]) = false := lit_no h6
  by_cases h7 : what = ⟨#[100, 101, 108, 101, 116, 101]⟩
  · have q7 : (what.toList == [100, 101, 108, 101, 116, 101]) = true := lit_yes h7
    obtain rfl : R = 2 := by rw [← hR, h7]; decide +kernel
    clear hR h7
    go_enter Tryd.func29, Tryd.ntmps29
    go_wp2
    go_ret
    exact ⟨rfl, rfl⟩
  have q7 : (what.toList == [100, 101, 108, 101, 116, 101]) = false := lit_no h7
  by_cases h8 : what = ⟨#[107, 101, 101, 112]⟩
  · have q8 : (what.toList == [107, 101, 101, 112]) = true := lit_yes h8
    obtain rfl : R = 2 := by rw [← hR, h8]; decide +kernel
    clear hR h8
    go_enter Tryd.func29, Tryd.ntmps29
    go_wp2
    go_ret
    exact ⟨rfl, rfl⟩
  have q8 : (what.toList == [107, 101, 101, 112]) = false := lit_no h8
  by_cases h9 : what = ⟨#[115, 116, 111, 112]⟩
  · have q9 : (what.toList == [115, 116, 111, 112]) = true := lit_yes h9
    obtain rfl : R = 2 := by rw [← hR, h9]; decide +kernel
    clear hR h9
    go_enter Tryd.func29, Tryd.ntmps29
    go_wp2
    go_ret
    exact ⟨rfl, rfl⟩
  have q9 : (what.toList == [115, 116, 111, 112]) = false := lit_no h9
  by_cases h10 : what = ⟨#[103, 111, 110, 101]⟩
  · have q10 : (what.toList == [103, 111, 110, 101]) = true := lit_yes h10
    obtain rfl : R = 2 := by rw [← hR, h10]; decide +kernel
    clear hR h10
    go_enter Tryd.func29, Tryd.ntmps29
    go_wp2
    go_ret
    exact ⟨rfl, rfl⟩
  have q10 : (what.toList == [103, 111, 110, 101]) = false := lit_no h10
  by_cases h11 : what = ⟨#[100, 111, 119, 110]⟩
  · have q11 : (what.toList == [100, 111, 119, 110]) = true := lit_yes h11
    obtain rfl : R = 2 := by rw [← hR, h11]; decide +kernel
    clear hR h11
    go_enter Tryd.func29, Tryd.ntmps29
    go_wp2
    go_ret
    exact ⟨rfl, rfl⟩
  have q11 : (what.toList == [100, 111, 119, 110]) = false := lit_no h11
  by_cases h12 : what = ⟨#[117, 110, 104, 101, 97, 108, 116, 104, 121]⟩
  · have q12 : (what.toList == [117, 110, 104, 101, 97, 108, 116, 104, 121]) = true := lit_yes h12
    obtain rfl : R = 3 := by rw [← hR, h12]; decide +kernel
    clear hR h12
    go_enter Tryd.func29, Tryd.ntmps29
    go_wp2
    go_ret
    exact ⟨rfl, rfl⟩
  have q12 : (what.toList == [117, 110, 104, 101, 97, 108, 116, 104, 121]) = false := lit_no h12
  obtain rfl : R = 0 := by
    rw [← hR]
    unfold kindB inB G1 G2 G3
    simp only [List.any_cons, List.any_nil, decide_eq_false h0, decide_eq_false h1, decide_eq_false h2, decide_eq_false h3, decide_eq_false h4, decide_eq_false h5, decide_eq_false h6, decide_eq_false h7, decide_eq_false h8, decide_eq_false h9, decide_eq_false h10, decide_eq_false h11, decide_eq_false h12]
    rfl
  clear hR h0 h1 h2 h3 h4 h5 h6 h7 h8 h9 h10 h11 h12
  go_enter Tryd.func29, Tryd.ntmps29
  go_wp2
  go_ret
  exact ⟨rfl, rfl⟩
end Go.Proofs.YtaehcnoendieaaaDoor
