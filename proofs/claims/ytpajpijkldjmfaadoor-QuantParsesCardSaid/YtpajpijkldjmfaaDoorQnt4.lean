/-
  The contracts of quant.unitOf, ratio, exact, value.
-/
import Derived.Test.YtpajpijkldjmfaaDoorQnt3
namespace Go.Proofs.YtpajpijkldjmfaaDoor
open Go.RowKit
set_option linter.unusedVariables false

abbrev uKi : ByteArray := ⟨#[75, 105]⟩
abbrev uMi : ByteArray := ⟨#[77, 105]⟩
abbrev uGi : ByteArray := ⟨#[71, 105]⟩
abbrev uTi : ByteArray := ⟨#[84, 105]⟩
abbrev uk : ByteArray := ⟨#[107]⟩
abbrev uM : ByteArray := ⟨#[77]⟩
abbrev uG : ByteArray := ⟨#[71]⟩
abbrev uT : ByteArray := ⟨#[84]⟩
abbrev um : ByteArray := ⟨#[109]⟩
/-- A unit: whether it divides, and by how much; none: there is none. -/
def uF (r : ByteArray) : Option (Bool × Int) :=
  if r = emp then some (false, 1) else if r = uKi then some (false, 1024) else if r = uMi then some (false, 1048576) else if r = uGi then some (false, 1073741824) else if r = uTi then some (false, 1099511627776)
  else if r = uk then some (false, 1000) else if r = uM then some (false, 1000000) else if r = uG then some (false, 1000000000) else if r = uT then some (false, 1000000000000) else if r = um then some (true, 1000) else none
def uVal : Option (Bool × Int) → Value
  | none => .nilIface
  | some (false, n) => .iface 53 (.int .i64 n)
  | some (true, n) => .iface 54 (.int .i64 n)
theorem eqs_no {r c : ByteArray} (l : List UInt8) (hl : c.data.toList = l) (h : ¬ r = c) : (r.toList == l) = false := by
  rw [← hl, ← ByteArray.toList_eq]
  exact (strB_list r c).trans (decide_eq_false h)
theorem eqs_yes {r c : ByteArray} (l : List UInt8) (hl : c.data.toList = l) (h : r = c) : (r.toList == l) = true := by
  rw [← hl, ← ByteArray.toList_eq]
  exact (strB_list r c).trans (decide_eq_true h)

set_option maxRecDepth 100000 in
set_option maxHeartbeats 4000000 in
theorem unitof_any (r : ByteArray) (w : World) :
    Calls Tryd.prog 28 #[.string r] w fun e w' => e = .returned (uVal (uF r)) ∧ Below w.heap.size w w' := by
  obtain ⟨R, hR⟩ : ∃ R, uF r = R := ⟨_, rfl⟩
  rw [hR]
  unfold uF at hR
  by_cases h0 : r = emp
  · rw [if_pos h0] at hR
    obtain ⟨e1, e2, e3, e4⟩ := emp_lits h0
    subst hR
    clear h0
    go_enter Tryd.func28, Tryd.ntmps28
    go_wp2
    go_ret
    exact ⟨rfl, by (repeat' (first | with_reducible exact Below.refl _ _ | with_reducible assumption | with_reducible refine Below.drew ?_ | with_reducible refine below_drewN' ?_ _ | with_reducible refine Below.alloc ?_ ?_ _ | with_reducible refine Below.setCell ?_ ?_ _ | with_reducible refine below_step (by assumption) ?_ ?_ | omega | (simp; done) | (simp; omega)))⟩
  rw [if_neg h0] at hR
  obtain ⟨e1, e2, e3, e4⟩ := emp_litn h0
  clear h0
  by_cases h1 : r = uKi
  · rw [if_pos h1] at hR
    have g1 := eqs_yes [75, 105] rfl h1
    subst hR
    clear h1
    go_enter Tryd.func28, Tryd.ntmps28
    go_wp2
    go_ret
    exact ⟨rfl, by (repeat' (first | with_reducible exact Below.refl _ _ | with_reducible assumption | with_reducible refine Below.drew ?_ | with_reducible refine below_drewN' ?_ _ | with_reducible refine Below.alloc ?_ ?_ _ | with_reducible refine Below.setCell ?_ ?_ _ | with_reducible refine below_step (by assumption) ?_ ?_ | omega | (simp; done) | (simp; omega)))⟩
  rw [if_neg h1] at hR
  have g1 := eqs_no [75, 105] rfl h1
  clear h1
  by_cases h2 : r = uMi
  · rw [if_pos h2] at hR
    have g2 := eqs_yes [77, 105] rfl h2
    subst hR
    clear h2
    go_enter Tryd.func28, Tryd.ntmps28
    go_wp2
    go_ret
    exact ⟨rfl, by (repeat' (first | with_reducible exact Below.refl _ _ | with_reducible assumption | with_reducible refine Below.drew ?_ | with_reducible refine below_drewN' ?_ _ | with_reducible refine Below.alloc ?_ ?_ _ | with_reducible refine Below.setCell ?_ ?_ _ | with_reducible refine below_step (by assumption) ?_ ?_ | omega | (simp; done) | (simp; omega)))⟩
  rw [if_neg h2] at hR
  have g2 := eqs_no [77, 105] rfl h2
  clear h2
  by_cases h3 : r = uGi
  · rw [if_pos h3] at hR
    have g3 := eqs_yes [71, 105] rfl h3
    subst hR
    clear h3
    go_enter Tryd.func28, Tryd.ntmps28
    go_wp2
    go_ret
    exact ⟨rfl, by (repeat' (first | with_reducible exact Below.refl _ _ | with_reducible assumption | with_reducible refine Below.drew ?_ | with_reducible refine below_drewN' ?_ _ | with_reducible refine Below.alloc ?_ ?_ _ | with_reducible refine Below.setCell ?_ ?_ _ | with_reducible refine below_step (by assumption) ?_ ?_ | omega | (simp; done) | (simp; omega)))⟩
  rw [if_neg h3] at hR
  have g3 := eqs_no [71, 105] rfl h3
  clear h3
  by_cases h4 : r = uTi
  · rw [if_pos h4] at hR
    have g4 := eqs_yes [84, 105] rfl h4
    subst hR
    clear h4
    go_enter Tryd.func28, Tryd.ntmps28
    go_wp2
    go_ret
    exact ⟨rfl, by (repeat' (first | with_reducible exact Below.refl _ _ | with_reducible assumption | with_reducible refine Below.drew ?_ | with_reducible refine below_drewN' ?_ _ | with_reducible refine Below.alloc ?_ ?_ _ | with_reducible refine Below.setCell ?_ ?_ _ | with_reducible refine below_step (by assumption) ?_ ?_ | omega | (simp; done) | (simp; omega)))⟩
  rw [if_neg h4] at hR
  have g4 := eqs_no [84, 105] rfl h4
  clear h4
  by_cases h5 : r = uk
  · rw [if_pos h5] at hR
    have g5 := eqs_yes [107] rfl h5
    subst hR
    clear h5
    go_enter Tryd.func28, Tryd.ntmps28
    go_wp2
    go_ret
    exact ⟨rfl, by (repeat' (first | with_reducible exact Below.refl _ _ | with_reducible assumption | with_reducible refine Below.drew ?_ | with_reducible refine below_drewN' ?_ _ | with_reducible refine Below.alloc ?_ ?_ _ | with_reducible refine Below.setCell ?_ ?_ _ | with_reducible refine below_step (by assumption) ?_ ?_ | omega | (simp; done) | (simp; omega)))⟩
  rw [if_neg h5] at hR
  have g5 := eqs_no [107] rfl h5
  clear h5
  by_cases h6 : r = uM
  · rw [if_pos h6] at hR
    have g6 := eqs_yes [77] rfl h6
    subst hR
    clear h6
    go_enter Tryd.func28, Tryd.ntmps28
    go_wp2
    go_ret
    exact ⟨rfl, by (repeat' (first | with_reducible exact Below.refl _ _ | with_reducible assumption | with_reducible refine Below.drew ?_ | with_reducible refine below_drewN' ?_ _ | with_reducible refine Below.alloc ?_ ?_ _ | with_reducible refine Below.setCell ?_ ?_ _ | with_reducible refine below_step (by assumption) ?_ ?_ | omega | (simp; done) | (simp; omega)))⟩
  rw [if_neg h6] at hR
  have g6 := eqs_no [77] rfl h6
  clear h6
  by_cases h7 : r = uG
  · rw [if_pos h7] at hR
    have g7 := eqs_yes [71] rfl h7
    subst hR
    clear h7
    go_enter Tryd.func28, Tryd.ntmps28
    go_wp2
    go_ret
    exact ⟨rfl, by (repeat' (first | with_reducible exact Below.refl _ _ | with_reducible assumption | with_reducible refine Below.drew ?_ | with_reducible refine below_drewN' ?_ _ | with_reducible refine Below.alloc ?_ ?_ _ | with_reducible refine Below.setCell ?_ ?_ _ | with_reducible refine below_step (by assumption) ?_ ?_ | omega | (simp; done) | (simp; omega)))⟩
  rw [if_neg h7] at hR
  have g7 := eqs_no [71] rfl h7
  clear h7
  by_cases h8 : r = uT
  · rw [if_pos h8] at hR
    have g8 := eqs_yes [84] rfl h8
    subst hR
    clear h8
    go_enter Tryd.func28, Tryd.ntmps28
    go_wp2
    go_ret
    exact ⟨rfl, by (repeat' (first | with_reducible exact Below.refl _ _ | with_reducible assumption | with_reducible refine Below.drew ?_ | with_reducible refine below_drewN' ?_ _ | with_reducible refine Below.alloc ?_ ?_ _ | with_reducible refine Below.setCell ?_ ?_ _ | with_reducible refine below_step (by assumption) ?_ ?_ | omega | (simp; done) | (simp; omega)))⟩
  rw [if_neg h8] at hR
  have g8 := eqs_no [84] rfl h8
  clear h8
  by_cases h9 : r = um
  · rw [if_pos h9] at hR
    have g9 := eqs_yes [109] rfl h9
    subst hR
    clear h9
    go_enter Tryd.func28, Tryd.ntmps28
    go_wp2
    go_ret
    exact ⟨rfl, by (repeat' (first | with_reducible exact Below.refl _ _ | with_reducible assumption | with_reducible refine Below.drew ?_ | with_reducible refine below_drewN' ?_ _ | with_reducible refine Below.alloc ?_ ?_ _ | with_reducible refine Below.setCell ?_ ?_ _ | with_reducible refine below_step (by assumption) ?_ ?_ | omega | (simp; done) | (simp; omega)))⟩
  rw [if_neg h9] at hR
  have g9 := eqs_no [109] rfl h9
  clear h9
  subst hR
  go_enter Tryd.func28, Tryd.ntmps28
  go_wp2
  go_ret
  exact ⟨rfl, by (repeat' (first | with_reducible exact Below.refl _ _ | with_reducible assumption | with_reducible refine Below.drew ?_ | with_reducible refine below_drewN' ?_ _ | with_reducible refine Below.alloc ?_ ?_ _ | with_reducible refine Below.setCell ?_ ?_ _ | with_reducible refine below_step (by assumption) ?_ ?_ | omega | (simp; done) | (simp; omega)))⟩

theorem assert_yes (t xT : TypeId) (q : IntKind) (v : Value) (h : Tryd.prog.underlying t = some (.int q)) (w : World) : (Instr.typeAssert (.iface t v) xT t true).run Tryd.prog w = .ok (.tuple #[v, .bool true]) w := by
  simp [Instr.typeAssert, run_underlying h, go_sem, Result.andThen]
theorem assert_no (t t' xT : TypeId) (q : IntKind) (v z : Value) (h : Tryd.prog.underlying t = some (.int q)) (hne : ¬ t' = t) (hz : ∀ w : World, (zeroValue t).run Tryd.prog w = .ok z w) (w : World) : (Instr.typeAssert (.iface t' v) xT t true).run Tryd.prog w = .ok (.tuple #[z, .bool false]) w := by
  simp [Instr.typeAssert, run_underlying h, go_sem, Result.andThen, hne, hz]
theorem zero_fac (w : World) : (zeroValue 53).run Tryd.prog w = .ok (.int .i64 0) w := by kernel_rfl
theorem zero_fra (w : World) : (zeroValue 54).run Tryd.prog w = .ok (.int .i64 0) w := by kernel_rfl

/-- By how much is multiplied, and divided. -/
def ratV (fr : Bool) (n scale : Int) : Int × Int := if fr then (1, n / scale) else (n * scale, 1)
set_option maxRecDepth 100000 in
set_option maxHeartbeats 4000000 in
theorem ratio_any (fr : Bool) (n scale : Int) (hn : 1 ≤ n ∧ n ≤ 1099511627776) (hs : 1 ≤ scale ∧ scale ≤ 1000) (w : World) :
    Calls Tryd.prog 29 #[uVal (some (fr, n)), .int .i64 scale] w fun e w' => e = .returned (.tuple #[.int .i64 (ratV fr n scale).1, .int .i64 (ratV fr n scale).2]) ∧ Below w.heap.size w w' := by
  cases fr
  · have hp : 0 ≤ n * scale := Int.mul_nonneg (by omega) (by omega)
    have hp2 : n * scale ≤ 1099511627776 * 1000 := Int.mul_le_mul (by omega) (by omega) (by omega) (by omega)
    have w1 : IntKind.i64.wrap (n * scale) = n * scale := wrap_in (by omega) (by omega)
    show Calls _ _ #[.iface 53 (.int .i64 n), .int .i64 scale] w fun e w' => e = .returned (.tuple #[.int .i64 (n * scale), .int .i64 1]) ∧ Below w.heap.size w w'
    clear hp hp2
    have a1 := fun xT v w => assert_yes 53 xT .i64 v Tryd.underlying53 w
    go_enter Tryd.func29, Tryd.ntmps29
    go_wp2
    go_ret2
    exact ⟨rfl, by (repeat' (first | with_reducible exact Below.refl _ _ | with_reducible assumption | with_reducible refine Below.drew ?_ | with_reducible refine below_drewN' ?_ _ | with_reducible refine Below.alloc ?_ ?_ _ | with_reducible refine Below.setCell ?_ ?_ _ | with_reducible refine below_step (by assumption) ?_ ?_ | omega | (simp; done) | (simp; omega)))⟩
  · have hq0 : 0 ≤ n / scale := Int.ediv_nonneg (by omega) (by omega)
    have hq1 : n / scale ≤ n := Int.ediv_le_self scale (by omega)
    have hz : (scale == 0) = false := by rw [beq_eq_false_iff_ne]; omega
    have w0 : Int.tdiv n scale = n / scale := Int.tdiv_eq_ediv_of_nonneg (by omega)
    have w1 : IntKind.i64.wrap (n / scale) = n / scale := wrap_in (by omega) (by omega)
    show Calls _ _ #[.iface 54 (.int .i64 n), .int .i64 scale] w fun e w' => e = .returned (.tuple #[.int .i64 1, .int .i64 (n / scale)]) ∧ Below w.heap.size w w'
    clear hq0 hq1
    have a1 := fun xT v w => assert_no 53 54 xT .i64 v (.int .i64 0) Tryd.underlying53 (by decide) zero_fac w
    have a2 := fun xT v w => assert_yes 54 xT .i64 v Tryd.underlying54 w
    go_enter Tryd.func29, Tryd.ntmps29
    go_wp2
    go_region
    all_goals
      (try go_wp2)
      go_ret2
      exact ⟨rfl, by (repeat' (first | with_reducible exact Below.refl _ _ | with_reducible assumption | with_reducible refine Below.drew ?_ | with_reducible refine below_drewN' ?_ _ | with_reducible refine Below.alloc ?_ ?_ _ | with_reducible refine Below.setCell ?_ ?_ _ | with_reducible refine below_step (by assumption) ?_ ?_ | omega | (simp; done) | (simp; omega)))⟩
end Go.Proofs.YtpajpijkldjmfaaDoor
