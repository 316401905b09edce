/-
  What happens to an instance in its state: stateOf, tick of each state, and tick through the interface.
-/
import Derived.Test.YtcfdejlbchdciaaGreatDoorMA
import Derived.Test.YtcfdejlbchdciaaGreatDoorClP
namespace Go.Proofs.YtcfdejlbchdciaaGreatDoor
open Go.RowKit
set_option linter.unusedVariables false
set_option linter.unusedSimpArgs false

/-- The type of the state. -/
def stT (st : Int) : TypeId := if st = 1 then 97 else if st = 3 then 98 else if st = 4 then 99 else 100
set_option maxRecDepth 100000 in
set_option maxHeartbeats 1000000 in
theorem stateof_any (nm gp : ByteArray) (st lf si : Int) (w : World) :
    Calls Tryz.prog 40 #[.agg #[.string nm, .string gp, .int .i64 st, .int .i64 lf, .int .i64 si]] w fun e w' => e = .returned (.iface (stT st) (.agg #[])) ∧ Below w.heap.size w w' := by
  unfold stT
  by_cases h1 : st = 1
  · have k1 : (st == 1) = true := by rw [h1]; rfl
    rw [if_pos h1]
    go_enter Tryz.func40, Tryz.ntmps40
    go_wp2
    go_ret
    exact ⟨rfl, by (repeat' (first | with_reducible exact Below.refl _ _ | with_reducible assumption | with_reducible refine Below.drew ?_ | with_reducible refine below_drewN' ?_ _ | with_reducible refine Below.alloc ?_ ?_ _ | with_reducible refine Below.setCell ?_ ?_ _ | with_reducible refine below_step (by assumption) ?_ ?_ | omega | (simp; done) | (simp; omega)))⟩
  · have k1 : (st == 1) = false := by simpa using h1
    rw [if_neg h1]
    by_cases h3 : st = 3
    · have k3 : (st == 3) = true := by rw [h3]; rfl
      rw [if_pos h3]
      go_enter Tryz.func40, Tryz.ntmps40
      go_wp2
      go_ret
      exact ⟨rfl, by (repeat' (first | with_reducible exact Below.refl _ _ | with_reducible assumption | with_reducible refine Below.drew ?_ | with_reducible refine below_drewN' ?_ _ | with_reducible refine Below.alloc ?_ ?_ _ | with_reducible refine Below.setCell ?_ ?_ _ | with_reducible refine below_step (by assumption) ?_ ?_ | omega | (simp; done) | (simp; omega)))⟩
    · have k3 : (st == 3) = false := by simpa using h3
      rw [if_neg h3]
      by_cases h4 : st = 4
      · have k4 : (st == 4) = true := by rw [h4]; rfl
        rw [if_pos h4]
        go_enter Tryz.func40, Tryz.ntmps40
        go_wp2
        go_ret
        exact ⟨rfl, by (repeat' (first | with_reducible exact Below.refl _ _ | with_reducible assumption | with_reducible refine Below.drew ?_ | with_reducible refine below_drewN' ?_ _ | with_reducible refine Below.alloc ?_ ?_ _ | with_reducible refine Below.setCell ?_ ?_ _ | with_reducible refine below_step (by assumption) ?_ ?_ | omega | (simp; done) | (simp; omega)))⟩
      · have k4 : (st == 4) = false := by simpa using h4
        rw [if_neg h4]
        go_enter Tryz.func40, Tryz.ntmps40
        go_wp2
        go_ret
        exact ⟨rfl, by (repeat' (first | with_reducible exact Below.refl _ _ | with_reducible assumption | with_reducible refine Below.drew ?_ | with_reducible refine below_drewN' ?_ _ | with_reducible refine Below.alloc ?_ ?_ _ | with_reducible refine Below.setCell ?_ ?_ _ | with_reducible refine below_step (by assumption) ?_ ?_ | omega | (simp; done) | (simp; omega)))⟩
set_option maxRecDepth 100000 in
set_option maxHeartbeats 1000000 in
theorem leavingtick_any (nm gp : ByteArray) (st lf si : Int) (br : Bool) (w : World) :
    Calls Tryz.prog 121 #[.agg #[], .agg #[.string nm, .string gp, .int .i64 st, .int .i64 lf, .int .i64 si], .bool br] w fun e w' => e = .returned (.tuple #[.agg #[.string ⟨#[]⟩, .string ⟨#[]⟩, .int .i64 0, .int .i64 0, .int .i64 0], .bool false]) ∧ Below w.heap.size w w' := by
  go_enter Tryz.func121, Tryz.ntmps121
  go_wp2
  refine bodyPost_ret (by simp [results, Tryz.results121, go_sem]; rfl) rfl ?_
  exact ⟨rfl, by (repeat' (first | with_reducible exact Below.refl _ _ | with_reducible assumption | with_reducible refine Below.drew ?_ | with_reducible refine below_drewN' ?_ _ | with_reducible refine Below.alloc ?_ ?_ _ | with_reducible refine Below.setCell ?_ ?_ _ | with_reducible refine below_step (by assumption) ?_ ?_ | omega | (simp; done) | (simp; omega)))⟩
set_option maxRecDepth 100000 in
set_option maxHeartbeats 1000000 in
theorem runningtick_any (nm gp : ByteArray) (st lf si : Int) (br : Bool) (w : World) :
    Calls Tryz.prog 123 #[.agg #[], .agg #[.string nm, .string gp, .int .i64 st, .int .i64 lf, .int .i64 si], .bool br] w fun e w' => e = .returned (.tuple #[.agg #[.string nm, .string gp, .int .i64 st, .int .i64 lf, .int .i64 si], .bool true]) ∧ Below w.heap.size w w' := by
  go_enter Tryz.func123, Tryz.ntmps123
  go_wp2
  refine bodyPost_ret (by simp [results, Tryz.results123, go_sem]; rfl) rfl ?_
  exact ⟨rfl, by (repeat' (first | with_reducible exact Below.refl _ _ | with_reducible assumption | with_reducible refine Below.drew ?_ | with_reducible refine below_drewN' ?_ _ | with_reducible refine Below.alloc ?_ ?_ _ | with_reducible refine Below.setCell ?_ ?_ _ | with_reducible refine below_step (by assumption) ?_ ?_ | omega | (simp; done) | (simp; omega)))⟩
set_option maxRecDepth 100000 in
set_option maxHeartbeats 1000000 in
theorem failedtick_any (nm gp : ByteArray) (st lf si : Int) (br : Bool) (w : World) :
    Calls Tryz.prog 122 #[.agg #[], .agg #[.string nm, .string gp, .int .i64 st, .int .i64 lf, .int .i64 si], .bool br] w fun e w' => e = .returned (.tuple #[.agg #[.string nm, .string gp, .int .i64 st, .int .i64 lf, .int .i64 si], .bool true]) ∧ Below w.heap.size w w' := by
  go_enter Tryz.func122, Tryz.ntmps122
  go_wp2
  refine bodyPost_ret (by simp [results, Tryz.results122, go_sem]; rfl) rfl ?_
  exact ⟨rfl, by (repeat' (first | with_reducible exact Below.refl _ _ | with_reducible assumption | with_reducible refine Below.drew ?_ | with_reducible refine below_drewN' ?_ _ | with_reducible refine Below.alloc ?_ ?_ _ | with_reducible refine Below.setCell ?_ ?_ _ | with_reducible refine below_step (by assumption) ?_ ?_ | omega | (simp; done) | (simp; omega)))⟩
/-- A new instance's state and rest behind a tick. -/
def crS (lf : Int) (br : Bool) : Int := if 0 < lf - 1 then 1 else if br then 4 else 2
set_option maxRecDepth 100000 in
set_option maxHeartbeats 2000000 in
theorem creatingtick_any (nm gp : ByteArray) (lf si : Int) (br : Bool) (w : World) (h0 : 0 ≤ lf) (h1 : lf ≤ 1000000) :
    Calls Tryz.prog 120 #[.agg #[], .agg #[.string nm, .string gp, .int .i64 1, .int .i64 lf, .int .i64 si], .bool br] w fun e w' => e = .returned (.tuple #[.agg #[.string nm, .string gp, .int .i64 (crS lf br), .int .i64 (lf - 1), .int .i64 si], .bool true]) ∧ Below w.heap.size w w' := by
  have hw : IntKind.i64.wrap (lf - 1) = lf - 1 := by simp [IntKind.wrap, IntKind.bits, IntKind.signed]; omega
  unfold crS
  by_cases h : 0 < lf - 1
  · have k : decide (0 < lf - 1) = true := decide_eq_true h
    rw [if_pos h]
    go_enter Tryz.func120, Tryz.ntmps120
    go_wp2
    refine bodyPost_ret (by simp [results, Tryz.results120, go_sem]; rfl) rfl ?_
    exact ⟨rfl, by (repeat' (first | with_reducible exact Below.refl _ _ | with_reducible assumption | with_reducible refine Below.drew ?_ | with_reducible refine below_drewN' ?_ _ | with_reducible refine Below.alloc ?_ ?_ _ | with_reducible refine Below.setCell ?_ ?_ _ | with_reducible refine below_step (by assumption) ?_ ?_ | omega | (simp; done) | (simp; omega)))⟩
  · have k : decide (0 < lf - 1) = false := decide_eq_false h
    rw [if_neg h]
    cases br
    all_goals
      go_enter Tryz.func120, Tryz.ntmps120
      go_wp2
      refine bodyPost_ret (by simp [results, Tryz.results120, go_sem]; rfl) rfl ?_
      exact ⟨rfl, by (repeat' (first | with_reducible exact Below.refl _ _ | with_reducible assumption | with_reducible refine Below.drew ?_ | with_reducible refine below_drewN' ?_ _ | with_reducible refine Below.alloc ?_ ?_ _ | with_reducible refine Below.setCell ?_ ?_ _ | with_reducible refine below_step (by assumption) ?_ ?_ | omega | (simp; done) | (simp; omega)))⟩
theorem met_creating (n : Nat) (w : World) : (method (n + 1) 97 (.agg #[]) "trireme/cloud.tick").run Tryz.prog w = .ok (120, .agg #[]) w := by kernel_rfl
theorem met_running (n : Nat) (w : World) : (method (n + 1) 100 (.agg #[]) "trireme/cloud.tick").run Tryz.prog w = .ok (123, .agg #[]) w := by kernel_rfl
theorem met_leaving (n : Nat) (w : World) : (method (n + 1) 98 (.agg #[]) "trireme/cloud.tick").run Tryz.prog w = .ok (121, .agg #[]) w := by kernel_rfl
theorem met_failed (n : Nat) (w : World) : (method (n + 1) 99 (.agg #[]) "trireme/cloud.tick").run Tryz.prog w = .ok (122, .agg #[]) w := by kernel_rfl
theorem ent_creating (args : Array Value) (w : World) : (callFunc 120 args).run Tryz.prog w = .ok (.enter 120 args) w := by kernel_rfl
theorem ent_running (args : Array Value) (w : World) : (callFunc 123 args).run Tryz.prog w = .ok (.enter 123 args) w := by kernel_rfl
theorem ent_leaving (args : Array Value) (w : World) : (callFunc 121 args).run Tryz.prog w = .ok (.enter 121 args) w := by kernel_rfl
theorem ent_failed (args : Array Value) (w : World) : (callFunc 122 args).run Tryz.prog w = .ok (.enter 122 args) w := by kernel_rfl
/-- What becomes of an instance, as the program reckons it: its state, the state's tick. -/
theorem tick_of (x : Ins) (br : Bool) (h1 : x.st = 1 → 1 ≤ x.lf ∧ x.lf ≤ 1000) : ∃ (T : TypeId) (fT : FuncId) (y : Ins) (ok : Bool),
    (∀ V : World, Calls Tryz.prog 40 #[.agg #[.string x.nm, .string x.gp, .int .i64 x.st, .int .i64 x.lf, .int .i64 x.si]] V fun e w' => e = .returned (.iface T (.agg #[])) ∧ Below V.heap.size V w') ∧
    (∀ (n : Nat) (V : World), (method (n + 1) T (.agg #[]) "trireme/cloud.tick").run Tryz.prog V = .ok (fT, .agg #[]) V) ∧
    (∀ V : World, Calls Tryz.prog fT #[.agg #[], .agg #[.string x.nm, .string x.gp, .int .i64 x.st, .int .i64 x.lf, .int .i64 x.si], .bool br] V fun e w' => e = .returned (.tuple #[.agg #[.string y.nm, .string y.gp, .int .i64 y.st, .int .i64 y.lf, .int .i64 y.si], .bool ok]) ∧ Below V.heap.size V w') ∧
    tickI br x = (if ok = true then some y else none) ∧
    (∀ (args : Array Value) (V : World), (callFunc fT args).run Tryz.prog V = .ok (.enter fT args) V) := by
  have hS := fun V => stateof_any x.nm x.gp x.st x.lf x.si V
  by_cases e1 : x.st = 1
  · have ht : stT x.st = 97 := by unfold stT; rw [if_pos e1]
    rw [ht] at hS
    obtain ⟨h2, h3⟩ := h1 e1
    refine ⟨_, _, { x with st := crS x.lf br, lf := x.lf - 1 }, true, hS, met_creating, fun V => ?_, ?_⟩
    · rw [e1]
      exact creatingtick_any x.nm x.gp x.lf x.si br V (by omega) (by omega)
    · refine ⟨?_, ent_creating⟩
      unfold tickI crS
      rw [if_neg (by omega), if_pos e1, if_pos rfl]
      by_cases h4 : x.lf - 1 = 0
      · rw [if_pos h4, if_neg (show ¬ (0 < x.lf - 1) by omega), h4]
      · rw [if_neg h4, if_pos (show 0 < x.lf - 1 by omega), ← e1]
  · by_cases e3 : x.st = 3
    · have ht : stT x.st = 98 := by unfold stT; rw [if_neg e1, if_pos e3]
      rw [ht] at hS
      refine ⟨_, _, ⟨emp, emp, 0, 0, 0⟩, false, hS, met_leaving, fun V => leavingtick_any x.nm x.gp x.st x.lf x.si br V, ?_, ent_leaving⟩
      unfold tickI
      rw [if_pos e3]
      rfl
    · have hk : tickI br x = some x := by
        unfold tickI
        rw [if_neg e3, if_neg e1]
      by_cases e4 : x.st = 4
      · have ht : stT x.st = 99 := by unfold stT; rw [if_neg e1, if_neg e3, if_pos e4]
        rw [ht] at hS
        exact ⟨_, _, x, true, hS, met_failed, fun V => failedtick_any x.nm x.gp x.st x.lf x.si br V, hk, ent_failed⟩
      · have ht : stT x.st = 100 := by unfold stT; rw [if_neg e1, if_neg e3, if_neg e4]
        rw [ht] at hS
        exact ⟨_, _, x, true, hS, met_running, fun V => runningtick_any x.nm x.gp x.st x.lf x.si br V, hk, ent_running⟩
end Go.Proofs.YtcfdejlbchdciaaGreatDoor
