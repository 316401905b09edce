/-
  Quantities.
-/
import Derived.Test.YtccplljbljpjpaaDoorND
namespace Go.Proofs.YtccplljbljpjpaaDoor
namespace Rs
open Go.RowKit
set_option linter.unusedVariables false
set_option linter.unusedSimpArgs false

set_option maxHeartbeats 400000 in
theorem whole_any (a0 a1 a2 a3 a4 : Int) (w : World) :
    Calls Tryd.prog 34 #[.agg #[.int .i64 a0, .int .i64 a1, .int .i64 a2, .int .i64 a3, .int .i64 a4]] w fun e w' => e = .returned (.agg #[.int .i64 a0, .int .i64 a1, .int .i64 a2, .int .i64 a3, .int .i64 a4]) ∧ Below w.heap.size w w' := by
  go_enter Tryd.func34, Tryd.ntmps34
  go_wp2
  refine bodyPost_ret (v := .agg #[.int .i64 a0, .int .i64 a1, .int .i64 a2, .int .i64 a3, .int .i64 a4]) (by simp [results, Tryd.results34, go_sem]) rfl ⟨rfl, ?_⟩
  (repeat' (first | with_reducible exact Below.refl _ _ | with_reducible assumption | with_reducible refine Below.drew ?_ | with_reducible refine below_drewN' ?_ _ | with_reducible refine Below.alloc ?_ ?_ _ | with_reducible refine Below.setCell ?_ ?_ _ | with_reducible refine below_step (by assumption) ?_ ?_ | omega | (simp; done) | (simp; omega)))
theorem right_any (a0 a1 a2 a3 a4 : Int) (w : World) :
    Calls Tryd.prog 26 #[.agg #[.int .i64 a0, .int .i64 a1, .int .i64 a2, .int .i64 a3, .int .i64 a4]] w fun e w' => e = .returned (.bool (rtB a0 a1 a2 a3 a4)) ∧ Below w.heap.size w w' := resright_any a0 a1 a2 a3 a4 w
def sel (e x : Int) : Int := if e = 0 then x else 0
theorem sel_0 (x : Int) : sel 0 x = x := rfl
theorem sel_no (e x : Int) (h : e ≠ 0) : sel e x = 0 := if_neg h

def addE (a0 a1 a2 a3 a4 b0 b1 b2 b3 b4 : Int) : Int :=
  if rtB a0 a1 a2 a3 a4 = true ∧ rtB b0 b1 b2 b3 b4 = true then (if a0 + b0 ≤ 1125899906842624 ∧ a1 + b1 ≤ 1125899906842624 ∧ a2 + b2 ≤ 1125899906842624 ∧ a3 + b3 ≤ 1125899906842624 ∧ a4 + b4 ≤ 1125899906842624 then 0 else 10) else 1
def subE (a0 a1 a2 a3 a4 b0 b1 b2 b3 b4 : Int) : Int :=
  if rtB a0 a1 a2 a3 a4 = true ∧ rtB b0 b1 b2 b3 b4 = true then (if b0 ≤ a0 ∧ b1 ≤ a1 ∧ b2 ≤ a2 ∧ b3 ≤ a3 ∧ b4 ≤ a4 then 0 else 11) else 1

set_option maxHeartbeats 1000000 in
theorem add_no (a0 a1 a2 a3 a4 b0 b1 b2 b3 b4 : Int) (w : World) (h : rtB a0 a1 a2 a3 a4 = false ∨ rtB b0 b1 b2 b3 b4 = false) :
    Calls Tryd.prog 18 #[.agg #[.int .i64 a0, .int .i64 a1, .int .i64 a2, .int .i64 a3, .int .i64 a4], .agg #[.int .i64 b0, .int .i64 b1, .int .i64 b2, .int .i64 b3, .int .i64 b4]] w fun e w' => e = .returned (.tuple #[.agg #[.int .i64 0, .int .i64 0, .int .i64 0, .int .i64 0, .int .i64 0], .int .i64 1]) ∧ Below w.heap.size w w' := by
  cases ha : rtB a0 a1 a2 a3 a4
  · clear h
    go_enter Tryd.func18, Tryd.ntmps18
    go_wp2_with (go_at_call 26; refine (right_any _ _ _ _ _ _).mono ?_; rintro e w1 ⟨rfl, hb1⟩; obtain ⟨hc1, hf1⟩ := bcell hb1; have hz1 := hb1.size; (try simp at hz1); (try have hza : w.heap.size < w1.heap.size := by omega); (try have hzb : w.heap.size + 1 < w1.heap.size := by omega); (try have hzc : w.heap.size + 1 + 1 < w1.heap.size := by omega); (try have hzd : w.heap.size + 1 + 1 + 1 < w1.heap.size := by omega))
    refine bodyPost_ret (v := .tuple #[.agg #[.int .i64 0, .int .i64 0, .int .i64 0, .int .i64 0, .int .i64 0], .int .i64 1]) (by simp [results, Tryd.results18, go_sem, *]) rfl ⟨rfl, ?_⟩
    (repeat' (first | with_reducible exact Below.refl _ _ | with_reducible assumption | with_reducible refine Below.drew ?_ | with_reducible refine below_drewN' ?_ _ | with_reducible refine Below.alloc ?_ ?_ _ | with_reducible refine Below.setCell ?_ ?_ _ | with_reducible refine below_step (by assumption) ?_ ?_ | omega | (simp; done) | (simp; omega)))
  · have hb : rtB b0 b1 b2 b3 b4 = false := by simpa [ha] using h
    clear h
    go_enter Tryd.func18, Tryd.ntmps18
    go_wp2_with (go_at_call 26; refine (right_any _ _ _ _ _ _).mono ?_; rintro e w1 ⟨rfl, hb1⟩; obtain ⟨hc1, hf1⟩ := bcell hb1; have hz1 := hb1.size; (try simp at hz1); (try have hza : w.heap.size < w1.heap.size := by omega); (try have hzb : w.heap.size + 1 < w1.heap.size := by omega); (try have hzc : w.heap.size + 1 + 1 < w1.heap.size := by omega); (try have hzd : w.heap.size + 1 + 1 + 1 < w1.heap.size := by omega))
    refine bodyPost_ret (v := .tuple #[.agg #[.int .i64 0, .int .i64 0, .int .i64 0, .int .i64 0, .int .i64 0], .int .i64 1]) (by simp [results, Tryd.results18, go_sem, *]) rfl ⟨rfl, ?_⟩
    (repeat' (first | with_reducible exact Below.refl _ _ | with_reducible assumption | with_reducible refine Below.drew ?_ | with_reducible refine below_drewN' ?_ _ | with_reducible refine Below.alloc ?_ ?_ _ | with_reducible refine Below.setCell ?_ ?_ _ | with_reducible refine below_step (by assumption) ?_ ?_ | omega | (simp; done) | (simp; omega)))

set_option maxHeartbeats 1000000 in
theorem add_yes (a0 a1 a2 a3 a4 b0 b1 b2 b3 b4 : Int) (w : World) (ha : rtB a0 a1 a2 a3 a4 = true) (hb : rtB b0 b1 b2 b3 b4 = true) :
    Calls Tryd.prog 18 #[.agg #[.int .i64 a0, .int .i64 a1, .int .i64 a2, .int .i64 a3, .int .i64 a4], .agg #[.int .i64 b0, .int .i64 b1, .int .i64 b2, .int .i64 b3, .int .i64 b4]] w fun e w' => e = .returned (.tuple #[.agg #[.int .i64 (sel (addE a0 a1 a2 a3 a4 b0 b1 b2 b3 b4) (a0 + b0)), .int .i64 (sel (addE a0 a1 a2 a3 a4 b0 b1 b2 b3 b4) (a1 + b1)), .int .i64 (sel (addE a0 a1 a2 a3 a4 b0 b1 b2 b3 b4) (a2 + b2)), .int .i64 (sel (addE a0 a1 a2 a3 a4 b0 b1 b2 b3 b4) (a3 + b3)), .int .i64 (sel (addE a0 a1 a2 a3 a4 b0 b1 b2 b3 b4) (a4 + b4))], .int .i64 (addE a0 a1 a2 a3 a4 b0 b1 b2 b3 b4)]) ∧ Below w.heap.size w w' := by
  have He := Lib.hid (show addE a0 a1 a2 a3 a4 b0 b1 b2 b3 b4 = _ from if_pos ⟨ha, hb⟩)
  obtain ⟨⟨al0, au0⟩, ⟨al1, au1⟩, ⟨al2, au2⟩, ⟨al3, au3⟩, ⟨al4, au4⟩⟩ := (rtB_iff _ _ _ _ _).1 ha
  obtain ⟨⟨bl0, bu0⟩, ⟨bl1, bu1⟩, ⟨bl2, bu2⟩, ⟨bl3, bu3⟩, ⟨bl4, bu4⟩⟩ := (rtB_iff _ _ _ _ _).1 hb
  have i0 : ∀ w : World, (Instr.index 62 (.agg #[.int .i64 b0, .int .i64 b1, .int .i64 b2, .int .i64 b3, .int .i64 b4]) (.int .i64 0)).run Tryd.prog w = .ok (.int .i64 b0) w := fun _ => by kernel_rfl
  have i1 : ∀ w : World, (Instr.index 62 (.agg #[.int .i64 b0, .int .i64 b1, .int .i64 b2, .int .i64 b3, .int .i64 b4]) (.int .i64 1)).run Tryd.prog w = .ok (.int .i64 b1) w := fun _ => by kernel_rfl
  have i2 : ∀ w : World, (Instr.index 62 (.agg #[.int .i64 b0, .int .i64 b1, .int .i64 b2, .int .i64 b3, .int .i64 b4]) (.int .i64 2)).run Tryd.prog w = .ok (.int .i64 b2) w := fun _ => by kernel_rfl
  have i3 : ∀ w : World, (Instr.index 62 (.agg #[.int .i64 b0, .int .i64 b1, .int .i64 b2, .int .i64 b3, .int .i64 b4]) (.int .i64 3)).run Tryd.prog w = .ok (.int .i64 b3) w := fun _ => by kernel_rfl
  have i4 : ∀ w : World, (Instr.index 62 (.agg #[.int .i64 b0, .int .i64 b1, .int .i64 b2, .int .i64 b3, .int .i64 b4]) (.int .i64 4)).run Tryd.prog w = .ok (.int .i64 b4) w := fun _ => by kernel_rfl
  go_enter Tryd.func18, Tryd.ntmps18
  go_wp2_with (first | (go_at_call 26; refine (right_any _ _ _ _ _ _).mono ?_; rintro e w1 ⟨rfl, hb1⟩; obtain ⟨hc1, hf1⟩ := bcell hb1; have hz1 := hb1.size; (try simp at hz1); (try have hza : w.heap.size < w1.heap.size := by omega); (try have hzb : w.heap.size + 1 < w1.heap.size := by omega); (try have hzc : w.heap.size + 1 + 1 < w1.heap.size := by omega); (try have hzd : w.heap.size + 1 + 1 + 1 < w1.heap.size := by omega)) | (go_at_call 33; refine (parts_any _ _ _ _ _ _).mono ?_; rintro e w1 ⟨rfl, hb1⟩; obtain ⟨hc1, hf1⟩ := bcell hb1; have hz1 := hb1.size; (try simp at hz1); (try have hza : w.heap.size < w1.heap.size := by omega); (try have hzb : w.heap.size + 1 < w1.heap.size := by omega); (try have hzc : w.heap.size + 1 + 1 < w1.heap.size := by omega); (try have hzd : w.heap.size + 1 + 1 + 1 < w1.heap.size := by omega)))
  refine wp_loop_rounds 6 ?_
  iterate 6
    all_goals (try rw [rounds_succ])
    all_goals (try go_wp2_with (go_at_call 34; refine (whole_any _ _ _ _ _ _).mono ?_; rintro e w1 ⟨rfl, hb1⟩; obtain ⟨hc1, hf1⟩ := bcell hb1; have hz1 := hb1.size; (try simp at hz1); (try have hza : w.heap.size < w1.heap.size := by omega); (try have hzb : w.heap.size + 1 < w1.heap.size := by omega); (try have hzc : w.heap.size + 1 + 1 < w1.heap.size := by omega); (try have hzd : w.heap.size + 1 + 1 + 1 < w1.heap.size := by omega)))
  all_goals first
    | (have he : addE a0 a1 a2 a3 a4 b0 b1 b2 b3 b4 = 0 := He.out.trans (if_pos (by omega)); refine bodyPost_ret (v := .tuple #[.agg #[.int .i64 (sel (addE a0 a1 a2 a3 a4 b0 b1 b2 b3 b4) (a0 + b0)), .int .i64 (sel (addE a0 a1 a2 a3 a4 b0 b1 b2 b3 b4) (a1 + b1)), .int .i64 (sel (addE a0 a1 a2 a3 a4 b0 b1 b2 b3 b4) (a2 + b2)), .int .i64 (sel (addE a0 a1 a2 a3 a4 b0 b1 b2 b3 b4) (a3 + b3)), .int .i64 (sel (addE a0 a1 a2 a3 a4 b0 b1 b2 b3 b4) (a4 + b4))], .int .i64 (addE a0 a1 a2 a3 a4 b0 b1 b2 b3 b4)]) (by simp [results, Tryd.results18, go_sem, *, sel]) rfl ⟨rfl, ?_⟩; (repeat' (first | with_reducible exact Below.refl _ _ | with_reducible assumption | with_reducible refine Below.drew ?_ | with_reducible refine below_drewN' ?_ _ | with_reducible refine Below.alloc ?_ ?_ _ | with_reducible refine Below.setCell ?_ ?_ _ | with_reducible refine below_step (by assumption) ?_ ?_ | omega | (simp; done) | (simp; omega))))
    | (have he : addE a0 a1 a2 a3 a4 b0 b1 b2 b3 b4 = 10 := He.out.trans (if_neg (by omega)); refine bodyPost_ret (v := .tuple #[.agg #[.int .i64 (sel (addE a0 a1 a2 a3 a4 b0 b1 b2 b3 b4) (a0 + b0)), .int .i64 (sel (addE a0 a1 a2 a3 a4 b0 b1 b2 b3 b4) (a1 + b1)), .int .i64 (sel (addE a0 a1 a2 a3 a4 b0 b1 b2 b3 b4) (a2 + b2)), .int .i64 (sel (addE a0 a1 a2 a3 a4 b0 b1 b2 b3 b4) (a3 + b3)), .int .i64 (sel (addE a0 a1 a2 a3 a4 b0 b1 b2 b3 b4) (a4 + b4))], .int .i64 (addE a0 a1 a2 a3 a4 b0 b1 b2 b3 b4)]) (by simp [results, Tryd.results18, go_sem, *, sel]) rfl ⟨rfl, ?_⟩; (repeat' (first | with_reducible exact Below.refl _ _ | with_reducible assumption | with_reducible refine Below.drew ?_ | with_reducible refine below_drewN' ?_ _ | with_reducible refine Below.alloc ?_ ?_ _ | with_reducible refine Below.setCell ?_ ?_ _ | with_reducible refine below_step (by assumption) ?_ ?_ | omega | (simp; done) | (simp; omega))))

theorem add_any (a0 a1 a2 a3 a4 b0 b1 b2 b3 b4 : Int) (w : World) :
    Calls Tryd.prog 18 #[.agg #[.int .i64 a0, .int .i64 a1, .int .i64 a2, .int .i64 a3, .int .i64 a4], .agg #[.int .i64 b0, .int .i64 b1, .int .i64 b2, .int .i64 b3, .int .i64 b4]] w fun e w' => e = .returned (.tuple #[.agg #[.int .i64 (sel (addE a0 a1 a2 a3 a4 b0 b1 b2 b3 b4) (a0 + b0)), .int .i64 (sel (addE a0 a1 a2 a3 a4 b0 b1 b2 b3 b4) (a1 + b1)), .int .i64 (sel (addE a0 a1 a2 a3 a4 b0 b1 b2 b3 b4) (a2 + b2)), .int .i64 (sel (addE a0 a1 a2 a3 a4 b0 b1 b2 b3 b4) (a3 + b3)), .int .i64 (sel (addE a0 a1 a2 a3 a4 b0 b1 b2 b3 b4) (a4 + b4))], .int .i64 (addE a0 a1 a2 a3 a4 b0 b1 b2 b3 b4)]) ∧ Below w.heap.size w w' := by
  cases ha : rtB a0 a1 a2 a3 a4
  · have he : addE a0 a1 a2 a3 a4 b0 b1 b2 b3 b4 = 1 := by simp [addE, ha]
    rw [he]; exact add_no a0 a1 a2 a3 a4 b0 b1 b2 b3 b4 w (Or.inl ha)
  cases hb : rtB b0 b1 b2 b3 b4
  · have he : addE a0 a1 a2 a3 a4 b0 b1 b2 b3 b4 = 1 := by simp [addE, hb]
    rw [he]; exact add_no a0 a1 a2 a3 a4 b0 b1 b2 b3 b4 w (Or.inr hb)
  · exact add_yes a0 a1 a2 a3 a4 b0 b1 b2 b3 b4 w ha hb
def fitsB (a0 a1 a2 a3 a4 b0 b1 b2 b3 b4 : Int) : Bool := decide (subE b0 b1 b2 b3 b4 a0 a1 a2 a3 a4 = 0)

def lesB (a0 a1 a2 a3 a4 b0 b1 b2 b3 b4 : Int) : Bool := rtB a0 a1 a2 a3 a4 && rtB b0 b1 b2 b3 b4 && decide (a0 ≤ b0 ∧ a1 ≤ b1 ∧ a2 ≤ b2 ∧ a3 ≤ b3 ∧ a4 ≤ b4)

set_option maxHeartbeats 1000000 in
theorem refadd_any (a0 a1 a2 a3 a4 b0 b1 b2 b3 b4 : Int) (w : World) :
    Calls Tryd.prog 10 #[.agg #[.int .i64 a0, .int .i64 a1, .int .i64 a2, .int .i64 a3, .int .i64 a4], .agg #[.int .i64 b0, .int .i64 b1, .int .i64 b2, .int .i64 b3, .int .i64 b4]] w fun e w' => e = .returned (.tuple #[.agg #[.int .i64 (sel (addE a0 a1 a2 a3 a4 b0 b1 b2 b3 b4) (a0 + b0)), .int .i64 (sel (addE a0 a1 a2 a3 a4 b0 b1 b2 b3 b4) (a1 + b1)), .int .i64 (sel (addE a0 a1 a2 a3 a4 b0 b1 b2 b3 b4) (a2 + b2)), .int .i64 (sel (addE a0 a1 a2 a3 a4 b0 b1 b2 b3 b4) (a3 + b3)), .int .i64 (sel (addE a0 a1 a2 a3 a4 b0 b1 b2 b3 b4) (a4 + b4))], .int .i64 (addE a0 a1 a2 a3 a4 b0 b1 b2 b3 b4)]) ∧ Below w.heap.size w w' := by
  cases ha : rtB a0 a1 a2 a3 a4
  · have he : addE a0 a1 a2 a3 a4 b0 b1 b2 b3 b4 = 1 := by simp [addE, ha]
    rw [he]
    go_enter Tryd.func10, Tryd.ntmps10
    go_wp2_with (go_at_call 19; refine (refright_any _ _ _ _ _ _).mono ?_; rintro e w1 ⟨rfl, hb1⟩; obtain ⟨hc1, hf1⟩ := bcell hb1; have hz1 := hb1.size; (try simp at hz1); (try have hza : w.heap.size < w1.heap.size := by omega); (try have hzb : w.heap.size + 1 < w1.heap.size := by omega); (try have hzc : w.heap.size + 1 + 1 < w1.heap.size := by omega); (try have hzd : w.heap.size + 1 + 1 + 1 < w1.heap.size := by omega))
    refine bodyPost_ret (v := .tuple #[.agg #[.int .i64 0, .int .i64 0, .int .i64 0, .int .i64 0, .int .i64 0], .int .i64 1]) (by simp [results, Tryd.results10, go_sem, *]) rfl ⟨rfl, ?_⟩; (repeat' (first | with_reducible exact Below.refl _ _ | with_reducible assumption | with_reducible refine Below.drew ?_ | with_reducible refine below_drewN' ?_ _ | with_reducible refine Below.alloc ?_ ?_ _ | with_reducible refine Below.setCell ?_ ?_ _ | with_reducible refine below_step (by assumption) ?_ ?_ | omega | (simp; done) | (simp; omega)))
  cases hb : rtB b0 b1 b2 b3 b4
  · have he : addE a0 a1 a2 a3 a4 b0 b1 b2 b3 b4 = 1 := by simp [addE, hb]
    rw [he]
    go_enter Tryd.func10, Tryd.ntmps10
    go_wp2_with (go_at_call 19; refine (refright_any _ _ _ _ _ _).mono ?_; rintro e w1 ⟨rfl, hb1⟩; obtain ⟨hc1, hf1⟩ := bcell hb1; have hz1 := hb1.size; (try simp at hz1); (try have hza : w.heap.size < w1.heap.size := by omega); (try have hzb : w.heap.size + 1 < w1.heap.size := by omega); (try have hzc : w.heap.size + 1 + 1 < w1.heap.size := by omega); (try have hzd : w.heap.size + 1 + 1 + 1 < w1.heap.size := by omega))
    refine bodyPost_ret (v := .tuple #[.agg #[.int .i64 0, .int .i64 0, .int .i64 0, .int .i64 0, .int .i64 0], .int .i64 1]) (by simp [results, Tryd.results10, go_sem, *]) rfl ⟨rfl, ?_⟩; (repeat' (first | with_reducible exact Below.refl _ _ | with_reducible assumption | with_reducible refine Below.drew ?_ | with_reducible refine below_drewN' ?_ _ | with_reducible refine Below.alloc ?_ ?_ _ | with_reducible refine Below.setCell ?_ ?_ _ | with_reducible refine below_step (by assumption) ?_ ?_ | omega | (simp; done) | (simp; omega)))
  obtain ⟨⟨al0, au0⟩, ⟨al1, au1⟩, ⟨al2, au2⟩, ⟨al3, au3⟩, ⟨al4, au4⟩⟩ := (rtB_iff _ _ _ _ _).1 ha
  obtain ⟨⟨bl0, bu0⟩, ⟨bl1, bu1⟩, ⟨bl2, bu2⟩, ⟨bl3, bu3⟩, ⟨bl4, bu4⟩⟩ := (rtB_iff _ _ _ _ _).1 hb
  cases hc : rtB (a0 + b0) (a1 + b1) (a2 + b2) (a3 + b3) (a4 + b4)
  · have he : addE a0 a1 a2 a3 a4 b0 b1 b2 b3 b4 = 10 := by
      unfold addE; rw [if_pos ⟨ha, hb⟩]; refine if_neg fun h => ?_
      rw [(rtB_iff _ _ _ _ _).2 (by omega)] at hc; cases hc
    rw [he]
    go_enter Tryd.func10, Tryd.ntmps10
    go_wp2_with (go_at_call 19; refine (refright_any _ _ _ _ _ _).mono ?_; rintro e w1 ⟨rfl, hb1⟩; obtain ⟨hc1, hf1⟩ := bcell hb1; have hz1 := hb1.size; (try simp at hz1); (try have hza : w.heap.size < w1.heap.size := by omega); (try have hzb : w.heap.size + 1 < w1.heap.size := by omega); (try have hzc : w.heap.size + 1 + 1 < w1.heap.size := by omega); (try have hzd : w.heap.size + 1 + 1 + 1 < w1.heap.size := by omega))
    refine bodyPost_ret (v := .tuple #[.agg #[.int .i64 0, .int .i64 0, .int .i64 0, .int .i64 0, .int .i64 0], .int .i64 10]) (by simp [results, Tryd.results10, go_sem, *]) rfl ⟨rfl, ?_⟩; (repeat' (first | with_reducible exact Below.refl _ _ | with_reducible assumption | with_reducible refine Below.drew ?_ | with_reducible refine below_drewN' ?_ _ | with_reducible refine Below.alloc ?_ ?_ _ | with_reducible refine Below.setCell ?_ ?_ _ | with_reducible refine below_step (by assumption) ?_ ?_ | omega | (simp; done) | (simp; omega)))
  · have he : addE a0 a1 a2 a3 a4 b0 b1 b2 b3 b4 = 0 := by
      unfold addE; rw [if_pos ⟨ha, hb⟩]; exact if_pos (by have := (rtB_iff _ _ _ _ _).1 hc; omega)
    rw [he]
    go_enter Tryd.func10, Tryd.ntmps10
    go_wp2_with (go_at_call 19; refine (refright_any _ _ _ _ _ _).mono ?_; rintro e w1 ⟨rfl, hb1⟩; obtain ⟨hc1, hf1⟩ := bcell hb1; have hz1 := hb1.size; (try simp at hz1); (try have hza : w.heap.size < w1.heap.size := by omega); (try have hzb : w.heap.size + 1 < w1.heap.size := by omega); (try have hzc : w.heap.size + 1 + 1 < w1.heap.size := by omega); (try have hzd : w.heap.size + 1 + 1 + 1 < w1.heap.size := by omega))
    refine bodyPost_ret (v := .tuple #[.agg #[.int .i64 (a0 + b0), .int .i64 (a1 + b1), .int .i64 (a2 + b2), .int .i64 (a3 + b3), .int .i64 (a4 + b4)], .int .i64 0]) (by simp [results, Tryd.results10, go_sem, *]) rfl ⟨rfl, ?_⟩; (repeat' (first | with_reducible exact Below.refl _ _ | with_reducible assumption | with_reducible refine Below.drew ?_ | with_reducible refine below_drewN' ?_ _ | with_reducible refine Below.alloc ?_ ?_ _ | with_reducible refine Below.setCell ?_ ?_ _ | with_reducible refine below_step (by assumption) ?_ ?_ | omega | (simp; done) | (simp; omega)))
def leastC (a0 a1 a2 a3 a4 b0 b1 b2 b3 b4 x y : Int) : Int := if rtB a0 a1 a2 a3 a4 = true ∧ rtB b0 b1 b2 b3 b4 = true then minI x y else 0

def howS (n a b : Int) : Int := if 0 < a then minI n (b / a) else n
def hv (a0 a1 a2 a3 a4 b0 b1 b2 b3 b4 : Int) : Nat → Int
  | 0 => 400
  | 1 => howS 400 a0 b0
  | 2 => howS (howS 400 a0 b0) a1 b1
  | 3 => howS (howS (howS 400 a0 b0) a1 b1) a2 b2
  | 4 => howS (howS (howS (howS 400 a0 b0) a1 b1) a2 b2) a3 b3
  | _ => howS (howS (howS (howS (howS 400 a0 b0) a1 b1) a2 b2) a3 b3) a4 b4
def howF (a0 a1 a2 a3 a4 b0 b1 b2 b3 b4 : Int) : Int := if rtB a0 a1 a2 a3 a4 = true ∧ rtB b0 b1 b2 b3 b4 = true then hv a0 a1 a2 a3 a4 b0 b1 b2 b3 b4 5 else 0

end Rs
end Go.Proofs.YtccplljbljpjpaaDoor
