/-
  The contracts of expand.Next, triremeref21.Next, expand.strategies, expand.find.
-/
import Derived.Test.YtfaeebbanphbgabBase
import Derived.WalkKit
import Derived.WalkSpells
import Derived.WalkLawsBesides
import Derived.Laws.EntriesVeiled
namespace Go.Proofs.Ytfaeebbanphbgab
open Go.RowKit

def nextF (s : Int) : Int := if 0 ≤ s ∧ s < 2147483648 then (1103515245 * s + 12345) % 2147483648 else 12345
theorem nextF_in (s : Int) (h : 0 ≤ s) (h' : s < 2147483648) : nextF s = (1103515245 * s + 12345) % 2147483648 := if_pos ⟨h, h'⟩
theorem nextF_out (s : Int) (h : ¬ (0 ≤ s ∧ s < 2147483648)) : nextF s = 12345 := if_neg h

set_option maxHeartbeats 400000 in
theorem next_any (s : Int) (w : World) :
    Calls Try.prog 13 #[.int .i64 s] w fun e w' => e = .returned (.int .i64 (nextF s)) ∧ w = w' := by
  by_cases h : s < 0
  · have He := Lib.hid (nextF_out s (by omega))
    go_enter Try.func13, Try.ntmps13
    go_wp2
    go_ret
    exact ⟨by rw [He.out]; rfl, rfl⟩
  by_cases h' : 2147483648 ≤ s
  · have He := Lib.hid (nextF_out s (by omega))
    have h0 : 0 ≤ s := by omega
    clear h
    go_enter Try.func13, Try.ntmps13
    go_wp2
    go_ret
    exact ⟨by rw [He.out]; rfl, rfl⟩
  · have He := Lib.hid (nextF_in s (by omega) (by omega))
    have h0 : 0 ≤ s := by omega
    have h1 : s < 2147483648 := by omega
    clear h h'
    go_enter Try.func13, Try.ntmps13
    go_wp2
    go_ret
    exact ⟨by rw [He.out]; rfl, rfl⟩

set_option maxHeartbeats 400000 in
theorem refnext_any (s : Int) (w : World) :
    Calls Try.prog 14 #[.int .i64 s] w fun e w' => e = .returned (.int .i64 (nextF s)) ∧ w = w' := by
  by_cases h : s < 0
  · have He := Lib.hid (nextF_out s (by omega))
    go_enter Try.func14, Try.ntmps14
    go_wp2
    go_ret
    exact ⟨by rw [He.out]; rfl, rfl⟩
  by_cases h' : 2147483648 ≤ s
  · have He := Lib.hid (nextF_out s (by omega))
    have h0 : 0 ≤ s := by omega
    clear h
    go_enter Try.func14, Try.ntmps14
    go_wp2
    go_ret
    exact ⟨by rw [He.out]; rfl, rfl⟩
  · have He := Lib.hid (nextF_in s (by omega) (by omega))
    have h0 : 0 ≤ s := by omega
    have h1 : s < 2147483648 := by omega
    clear h h'
    go_enter Try.func14, Try.ntmps14
    go_wp2
    go_ret
    exact ⟨by rw [He.out]; rfl, rfl⟩

set_option maxRecDepth 100000 in
set_option maxHeartbeats 1000000 in
theorem find_1 (w : World) :
    Calls Try.prog 15 #[.int .i64 1] w fun e w' => e = .returned (.tuple #[.agg #[.int .i64 1, .func (Fn.func 19) #[] #[]], .bool true]) ∧ Below w.heap.size w w' := by
  go_enter Try.func15, Try.ntmps15
  go_wp2
  refine wp_loop_rounds 5 ?_
  iterate 5
    all_goals (try rw [rounds_succ])
    all_goals (try go_wp2)
  refine bodyPost_ret (v := .tuple #[.agg #[.int .i64 1, .func (Fn.func 19) #[] #[]], .bool true]) (by simp [results, Try.results15, go_sem]) rfl ⟨rfl, ?_⟩
  (repeat' (first | with_reducible exact Below.refl _ _ | with_reducible assumption | with_reducible refine Below.drew ?_ | with_reducible refine below_drewN' ?_ _ | with_reducible refine Below.alloc ?_ ?_ _ | with_reducible refine Below.setCell ?_ ?_ _ | with_reducible refine below_step (by assumption) ?_ ?_ | omega | (simp; done) | (simp; omega)))

set_option maxRecDepth 100000 in
set_option maxHeartbeats 1000000 in
theorem find_2 (w : World) :
    Calls Try.prog 15 #[.int .i64 2] w fun e w' => e = .returned (.tuple #[.agg #[.int .i64 2, .func (Fn.func 20) #[] #[]], .bool true]) ∧ Below w.heap.size w w' := by
  go_enter Try.func15, Try.ntmps15
  go_wp2
  refine wp_loop_rounds 5 ?_
  iterate 5
    all_goals (try rw [rounds_succ])
    all_goals (try go_wp2)
  refine bodyPost_ret (v := .tuple #[.agg #[.int .i64 2, .func (Fn.func 20) #[] #[]], .bool true]) (by simp [results, Try.results15, go_sem]) rfl ⟨rfl, ?_⟩
  (repeat' (first | with_reducible exact Below.refl _ _ | with_reducible assumption | with_reducible refine Below.drew ?_ | with_reducible refine below_drewN' ?_ _ | with_reducible refine Below.alloc ?_ ?_ _ | with_reducible refine Below.setCell ?_ ?_ _ | with_reducible refine below_step (by assumption) ?_ ?_ | omega | (simp; done) | (simp; omega)))

set_option maxRecDepth 100000 in
set_option maxHeartbeats 1000000 in
theorem find_3 (w : World) :
    Calls Try.prog 15 #[.int .i64 3] w fun e w' => e = .returned (.tuple #[.agg #[.int .i64 3, .func (Fn.func 21) #[] #[]], .bool true]) ∧ Below w.heap.size w w' := by
  go_enter Try.func15, Try.ntmps15
  go_wp2
  refine wp_loop_rounds 5 ?_
  iterate 5
    all_goals (try rw [rounds_succ])
    all_goals (try go_wp2)
  refine bodyPost_ret (v := .tuple #[.agg #[.int .i64 3, .func (Fn.func 21) #[] #[]], .bool true]) (by simp [results, Try.results15, go_sem]) rfl ⟨rfl, ?_⟩
  (repeat' (first | with_reducible exact Below.refl _ _ | with_reducible assumption | with_reducible refine Below.drew ?_ | with_reducible refine below_drewN' ?_ _ | with_reducible refine Below.alloc ?_ ?_ _ | with_reducible refine Below.setCell ?_ ?_ _ | with_reducible refine below_step (by assumption) ?_ ?_ | omega | (simp; done) | (simp; omega)))

set_option maxRecDepth 100000 in
set_option maxHeartbeats 1000000 in
theorem find_4 (w : World) :
    Calls Try.prog 15 #[.int .i64 4] w fun e w' => e = .returned (.tuple #[.agg #[.int .i64 4, .func (Fn.func 22) #[] #[]], .bool true]) ∧ Below w.heap.size w w' := by
  go_enter Try.func15, Try.ntmps15
  go_wp2
  refine wp_loop_rounds 5 ?_
  iterate 5
    all_goals (try rw [rounds_succ])
    all_goals (try go_wp2)
  refine bodyPost_ret (v := .tuple #[.agg #[.int .i64 4, .func (Fn.func 22) #[] #[]], .bool true]) (by simp [results, Try.results15, go_sem]) rfl ⟨rfl, ?_⟩
  (repeat' (first | with_reducible exact Below.refl _ _ | with_reducible assumption | with_reducible refine Below.drew ?_ | with_reducible refine below_drewN' ?_ _ | with_reducible refine Below.alloc ?_ ?_ _ | with_reducible refine Below.setCell ?_ ?_ _ | with_reducible refine below_step (by assumption) ?_ ?_ | omega | (simp; done) | (simp; omega)))

set_option maxRecDepth 100000 in
set_option maxHeartbeats 1000000 in
theorem find_no (h : Int) (w : World) (h1 : (1 == h) = false) (h2 : (2 == h) = false) (h3 : (3 == h) = false) (h4 : (4 == h) = false) :
    Calls Try.prog 15 #[.int .i64 h] w fun e w' => e = .returned (.tuple #[.agg #[.int .i64 0, .nilFunc], .bool false]) ∧ Below w.heap.size w w' := by
  go_enter Try.func15, Try.ntmps15
  go_wp2
  refine wp_loop_rounds 5 ?_
  iterate 5
    all_goals (try rw [rounds_succ])
    all_goals (try go_wp2)
  refine bodyPost_ret (v := .tuple #[.agg #[.int .i64 0, .nilFunc], .bool false]) (by simp [results, Try.results15, go_sem]) rfl ⟨rfl, ?_⟩
  (repeat' (first | with_reducible exact Below.refl _ _ | with_reducible assumption | with_reducible refine Below.drew ?_ | with_reducible refine below_drewN' ?_ _ | with_reducible refine Below.alloc ?_ ?_ _ | with_reducible refine Below.setCell ?_ ?_ _ | with_reducible refine below_step (by assumption) ?_ ?_ | omega | (simp; done) | (simp; omega)))
end Go.Proofs.Ytfaeebbanphbgab
