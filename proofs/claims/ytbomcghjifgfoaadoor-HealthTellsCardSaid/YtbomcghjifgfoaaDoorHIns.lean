/-
  Instances: lists of them, and whether one is late or coming, on both sides.
-/
import Derived.Test.YtbomcghjifgfoaaDoorTntBase
import Derived.Test.YtbomcghjifgfoaaDoorFilt
namespace Go.Proofs.YtbomcghjifgfoaaDoor
open Go.RowKit
set_option linter.unusedVariables false

structure Ins where
  nm : ByteArray
  gp : ByteArray
  st : Int
  lf : Int
  si : Int
deriving DecidableEq
def irow (x : Ins) : List Value := [.string x.nm, .string x.gp, .int .i64 x.st, .int .i64 x.lf, .int .i64 x.si]
theorem irow_len (x : Ins) : (irow x).length = 5 := rfl
theorem irow_one (x : Ins) : ∀ u ∈ irow x, u.oneCell' = true := by
  intro u hu
  simp only [irow, List.mem_cons, List.not_mem_nil, or_false] at hu
  rcases hu with rfl | rfl | rfl | rfl | rfl <;> rfl
theorem Tryd.info29 : (Tryd.prog.info? 29).map (fun i => (i.zero, i.size, i.bytes)) = some (some (.agg #[.string ⟨#[]⟩, .string ⟨#[]⟩, .int .i64 0, .int .i64 0, .int .i64 0]), 5, 56) := by kernel_rfl
abbrev InsL := RowsAt irow 5
theorem irow_cells {w : World} {b o : Nat} {x : Ins} (h : ∀ r, r < 5 → w.cell? ⟨b, o + r, none⟩ = (irow x)[r]?) :
    w.cell? ⟨b, o, none⟩ = some (.string x.nm) ∧ w.cell? ⟨b, o + 1, none⟩ = some (.string x.gp) ∧ w.cell? ⟨b, o + 2, none⟩ = some (.int .i64 x.st) ∧ w.cell? ⟨b, o + 3, none⟩ = some (.int .i64 x.lf) ∧ w.cell? ⟨b, o + 4, none⟩ = some (.int .i64 x.si) :=
  ⟨h 0 (by decide), h 1 (by decide), h 2 (by decide), h 3 (by decide), h 4 (by decide)⟩

def awB (x : Ins) : Bool := decide (x.st = 1) || decide (x.st = 2)
def odB (now limit : Int) (x : Ins) : Bool := decide (x.si < now - limit)
def lateI (now limit : Int) (x : Ins) : Bool := decide (x.st = 4) || (awB x && odB now limit x)
def comingI (now limit : Int) (x : Ins) : Bool := awB x && !odB now limit x

theorem st_cases (e : Int) : ((e == 4) = true ∧ (e == 1) = false ∧ (e == 2) = false) ∨ ((e == 4) = false ∧ (e == 1) = true ∧ (e == 2) = false) ∨ ((e == 4) = false ∧ (e == 1) = false ∧ (e == 2) = true) ∨ ((e == 4) = false ∧ (e == 1) = false ∧ (e == 2) = false) := by
  by_cases h4 : e = 4 <;> by_cases h1 : e = 1 <;> by_cases h2 : e = 2 <;> simp_all

set_option maxRecDepth 100000 in
theorem awaited_any (x : Ins) (w : World) :
    Calls Tryd.prog 27 #[.agg #[.string (x).nm, .string (x).gp, .int .i64 (x).st, .int .i64 (x).lf, .int .i64 (x).si]] w fun e w' => e = .returned (.bool (awB x)) ∧ Below w.heap.size w w' := by
  have ha : awB x = ((x.st == 1) || (x.st == 2)) := rfl
  obtain ⟨nm, gp, st, lf, si⟩ := x
  simp only at ha
  rw [ha]
  clear ha
  rcases st_cases st with ⟨-, h1, h2⟩ | ⟨-, h1, h2⟩ | ⟨-, h1, h2⟩ | ⟨-, h1, h2⟩
  all_goals
    rw [h1, h2]
    go_enter Tryd.func27, Tryd.ntmps27
    go_wp2
    go_ret
    exact ⟨rfl, by (repeat' (first | with_reducible exact Below.refl _ _ | with_reducible assumption | with_reducible refine Below.drew ?_ | with_reducible refine below_drewN' ?_ _ | with_reducible refine Below.alloc ?_ ?_ _ | with_reducible refine Below.setCell ?_ ?_ _ | with_reducible refine below_step (by assumption) ?_ ?_ | omega | (simp; done) | (simp; omega)))⟩
set_option maxRecDepth 100000 in
theorem overdue_any (x : Ins) (now limit : Int) (h0 : 0 ≤ now) (h1 : now ≤ 1099511627776) (h2 : 0 ≤ limit) (h3 : limit ≤ 1099511627776) (w : World) :
    Calls Tryd.prog 28 #[.agg #[.string (x).nm, .string (x).gp, .int .i64 (x).st, .int .i64 (x).lf, .int .i64 (x).si], .int .i64 now, .int .i64 limit] w fun e w' => e = .returned (.bool (odB now limit x)) ∧ Below w.heap.size w w' := by
  unfold odB
  obtain ⟨nm, gp, st, lf, si⟩ := x
  have k2 : decide (limit < 0) = false := decide_eq_false (by omega)
  have k3 : decide (now < now - limit) = false := decide_eq_false (by omega)
  by_cases hl : 0 < limit
  · have k1 : decide (0 < limit) = true := decide_eq_true hl
    go_enter Tryd.func28, Tryd.ntmps28
    go_wp2
    go_ret
    exact ⟨rfl, by (repeat' (first | with_reducible exact Below.refl _ _ | with_reducible assumption | with_reducible refine Below.drew ?_ | with_reducible refine below_drewN' ?_ _ | with_reducible refine Below.alloc ?_ ?_ _ | with_reducible refine Below.setCell ?_ ?_ _ | with_reducible refine below_step (by assumption) ?_ ?_ | omega | (simp; done) | (simp; omega)))⟩
  · have k1 : decide (0 < limit) = false := decide_eq_false hl
    go_enter Tryd.func28, Tryd.ntmps28
    go_wp2
    go_ret
    exact ⟨rfl, by (repeat' (first | with_reducible exact Below.refl _ _ | with_reducible assumption | with_reducible refine Below.drew ?_ | with_reducible refine below_drewN' ?_ _ | with_reducible refine Below.alloc ?_ ?_ _ | with_reducible refine Below.setCell ?_ ?_ _ | with_reducible refine below_step (by assumption) ?_ ?_ | omega | (simp; done) | (simp; omega)))⟩

set_option maxRecDepth 100000 in
theorem late1_any (x : Ins) (b c : Nat) (now limit : Int) (h0 : 0 ≤ now) (h1 : now ≤ 1099511627776) (h2 : 0 ≤ limit) (h3 : limit ≤ 1099511627776) (w : World) (hb : b < w.heap.size) (hc : c < w.heap.size)
    (e1 : w.cell? ⟨b, 0, none⟩ = some (.int .i64 now)) (e2 : w.cell? ⟨c, 0, none⟩ = some (.int .i64 limit)) :
    Calls Tryd.prog 26 #[.agg #[.string (x).nm, .string (x).gp, .int .i64 (x).st, .int .i64 (x).lf, .int .i64 (x).si], .pointer (some ⟨b, 0, none⟩), .pointer (some ⟨c, 0, none⟩)] w fun e w' => e = .returned (.bool (lateI now limit x)) ∧ Below w.heap.size w w' := by
  have hv : lateI now limit x = ((x.st == 4) || (((x.st == 1) || (x.st == 2)) && odB now limit x)) := rfl
  have A := fun V => awaited_any x V
  have O := fun V => overdue_any x now limit h0 h1 h2 h3 V
  have ha : awB x = ((x.st == 1) || (x.st == 2)) := rfl
  rw [hv]
  rw [ha] at A
  obtain ⟨o, ho⟩ : ∃ o, odB now limit x = o := ⟨_, rfl⟩
  rw [ho] at O ⊢
  obtain ⟨nm, gp, st, lf, si⟩ := x
  simp only at A O ⊢
  clear hv ha ho
  rcases st_cases st with ⟨s4, s1, s2⟩ | ⟨s4, s1, s2⟩ | ⟨s4, s1, s2⟩ | ⟨s4, s1, s2⟩
  all_goals
    rw [s1, s2] at A
    rw [s4, s1, s2]
    simp only [Bool.or_false, Bool.or_true, Bool.false_or, Bool.true_or, Bool.true_and, Bool.false_and] at A ⊢
    have HA := Lib.hid A
    have HO := Lib.hid O
    clear A O
    go_enter Tryd.func26, Tryd.ntmps26
    go_wp2_with (first
      | (go_at_call 27; (with_reducible refine (HA.out _).mono ?_); rintro e w5 ⟨rfl, hb5⟩; obtain ⟨hc5, hf5⟩ := bcell hb5; have hz5 := hb5.size; (try simp at hz5); have z5_0 : w.heap.size < w5.heap.size := (by omega); have y5_0 : w.heap.size ≤ w5.heap.size := (by omega); have z5_1 : b < w5.heap.size := (by omega); have y5_1 : b ≤ w5.heap.size := (by omega); have z5_2 : c < w5.heap.size := (by omega); have y5_2 : c ≤ w5.heap.size := (by omega))
      | (go_at_call 28; (with_reducible refine (HO.out _).mono ?_); rintro e w6 ⟨rfl, hb6⟩; have hz6 := hb6.size))
    go_ret
    exact ⟨rfl, by (repeat' (first | with_reducible exact Below.refl _ _ | with_reducible assumption | with_reducible refine Below.drew ?_ | with_reducible refine below_drewN' ?_ _ | with_reducible refine Below.alloc ?_ ?_ _ | with_reducible refine Below.setCell ?_ ?_ _ | with_reducible refine below_step (by assumption) ?_ ?_ | omega | (simp; done) | (simp; omega)))⟩
set_option maxRecDepth 100000 in
theorem coming1_any (x : Ins) (b c : Nat) (now limit : Int) (h0 : 0 ≤ now) (h1 : now ≤ 1099511627776) (h2 : 0 ≤ limit) (h3 : limit ≤ 1099511627776) (w : World) (hb : b < w.heap.size) (hc : c < w.heap.size)
    (e1 : w.cell? ⟨b, 0, none⟩ = some (.int .i64 now)) (e2 : w.cell? ⟨c, 0, none⟩ = some (.int .i64 limit)) :
    Calls Tryd.prog 30 #[.agg #[.string (x).nm, .string (x).gp, .int .i64 (x).st, .int .i64 (x).lf, .int .i64 (x).si], .pointer (some ⟨b, 0, none⟩), .pointer (some ⟨c, 0, none⟩)] w fun e w' => e = .returned (.bool (comingI now limit x)) ∧ Below w.heap.size w w' := by
  have hv : comingI now limit x = (awB x && !odB now limit x) := rfl
  have A := fun V => awaited_any x V
  have O := fun V => overdue_any x now limit h0 h1 h2 h3 V
  rw [hv]
  obtain ⟨o, ho⟩ : ∃ o, odB now limit x = o := ⟨_, rfl⟩
  obtain ⟨a, ha⟩ : ∃ o, awB x = o := ⟨_, rfl⟩
  rw [ho] at O ⊢
  rw [ha] at A ⊢
  have HA := Lib.hid A
  have HO := Lib.hid O
  clear hv ha ho A O
  obtain ⟨nm, gp, st, lf, si⟩ := x
  cases a
  all_goals
    go_enter Tryd.func30, Tryd.ntmps30
    go_wp2_with (first
      | (go_at_call 27; (with_reducible refine (HA.out _).mono ?_); rintro e w5 ⟨rfl, hb5⟩; obtain ⟨hc5, hf5⟩ := bcell hb5; have hz5 := hb5.size; (try simp at hz5); have z5_0 : w.heap.size < w5.heap.size := (by omega); have y5_0 : w.heap.size ≤ w5.heap.size := (by omega); have z5_1 : b < w5.heap.size := (by omega); have y5_1 : b ≤ w5.heap.size := (by omega); have z5_2 : c < w5.heap.size := (by omega); have y5_2 : c ≤ w5.heap.size := (by omega))
      | (go_at_call 28; (with_reducible refine (HO.out _).mono ?_); rintro e w6 ⟨rfl, hb6⟩; have hz6 := hb6.size))
    go_ret
    exact ⟨by first | rfl | simp, by (repeat' (first | with_reducible exact Below.refl _ _ | with_reducible assumption | with_reducible refine Below.drew ?_ | with_reducible refine below_drewN' ?_ _ | with_reducible refine Below.alloc ?_ ?_ _ | with_reducible refine Below.setCell ?_ ?_ _ | with_reducible refine below_step (by assumption) ?_ ?_ | omega | (simp; done) | (simp; omega)))⟩
set_option maxRecDepth 100000 in
theorem reflate_any (x : Ins) (now limit : Int) (h0 : 0 ≤ now) (h1 : now ≤ 1099511627776) (h2 : 0 ≤ limit) (h3 : limit ≤ 1099511627776) (w : World) :
    Calls Tryd.prog 29 #[.agg #[.string (x).nm, .string (x).gp, .int .i64 (x).st, .int .i64 (x).lf, .int .i64 (x).si], .int .i64 now, .int .i64 limit] w fun e w' => e = .returned (.bool (lateI now limit x)) ∧ Below w.heap.size w w' := by
  have hv : lateI now limit x = ((x.st == 4) || (((x.st == 1) || (x.st == 2)) && decide (x.si < now - limit))) := rfl
  rw [hv]
  clear hv
  obtain ⟨nm, gp, st, lf, si⟩ := x
  rcases st_cases st with ⟨s4, s1, s2⟩ | ⟨s4, s1, s2⟩ | ⟨s4, s1, s2⟩ | ⟨s4, s1, s2⟩
  all_goals
    rw [s4, s1, s2]
    go_enter Tryd.func29, Tryd.ntmps29
    go_wp2
    go_ret
    exact ⟨by simp, by (repeat' (first | with_reducible exact Below.refl _ _ | with_reducible assumption | with_reducible refine Below.drew ?_ | with_reducible refine below_drewN' ?_ _ | with_reducible refine Below.alloc ?_ ?_ _ | with_reducible refine Below.setCell ?_ ?_ _ | with_reducible refine below_step (by assumption) ?_ ?_ | omega | (simp; done) | (simp; omega)))⟩
end Go.Proofs.YtbomcghjifgfoaaDoor
