/-
  The contract of triremeref09.Light at no bound pods.
-/
import Derived.Test.YtbomcghjifgfoaaDoorGRight
import Derived.Test.YtbomcghjifgfoaaDoorMacO
namespace Go.Proofs.YtbomcghjifgfoaaDoor
open Go.RowKit
set_option linter.unusedVariables false

theorem mrow_cells {w : World} {b o : Nat} {m : Mac} (h : ∀ r, r < 10 → w.cell? ⟨b, o + r, none⟩ = (mrow m)[r]?) :
    w.cell? ⟨b, o, none⟩ = some (.string m.nm) ∧ w.cell? ⟨b, o + 1, none⟩ = some (.string m.gp) ∧
    w.cell? ⟨b, o + 2, none⟩ = some (.int .i64 m.r0) ∧ w.cell? ⟨b, o + 3, none⟩ = some (.int .i64 m.r1) ∧ w.cell? ⟨b, o + 4, none⟩ = some (.int .i64 m.r2) ∧ w.cell? ⟨b, o + 5, none⟩ = some (.int .i64 m.r3) ∧ w.cell? ⟨b, o + 6, none⟩ = some (.int .i64 m.r4) ∧
    w.cell? ⟨b, o + 7, none⟩ = some (.slice m.la m.labs.length m.lk) ∧ w.cell? ⟨b, o + 8, none⟩ = some (.slice m.ta m.tnts.length m.tk) ∧ w.cell? ⟨b, o + 9, none⟩ = some (.bool m.rd) :=
  ⟨h 0 (by decide), h 1 (by decide), h 2 (by decide), h 3 (by decide), h 4 (by decide), h 5 (by decide), h 6 (by decide), h 7 (by decide), h 8 (by decide), h 9 (by decide)⟩
def lightY (l : List Mac) : Bool := decide (l.length ≤ 20) && l.all lightM
theorem lightY_iff (l : List Mac) : lightY l = true ↔ l.length ≤ 20 ∧ ∀ m ∈ l, lightM m = true := by
  unfold lightY
  rw [Bool.and_eq_true, decide_eq_true_eq, List.all_eq_true]

set_option maxRecDepth 100000 in
set_option maxHeartbeats 4000000 in
theorem lighty_any (a : Option Addr) (l : List Mac) (ka : Nat) (w : World) (hF : MacL w a l) (hm : l.length ≤ maxLen) (hI : ∀ m ∈ l, MacIn w m) :
    Calls Tryd.prog 6 #[.slice a l.length ka, .slice none 0 0] w fun e w' => e = .returned (.bool (lightY l)) ∧ Below w.heap.size w w' := by
  have HF := Lib.hid hF
  have HI := Lib.hid hI
  clear hF hI
  obtain ⟨n, hln⟩ : ∃ n, l.length = n := ⟨_, rfl⟩
  have Hln := Lib.hid hln
  unfold maxLen at hm
  by_cases h20 : n ≤ 20
  · have hr : lightY l = l.all lightM := by unfold lightY; rw [hln, decide_eq_true h20]; rfl
    rw [hr]
    rw [hln] at hm ⊢
    have k1 : decide ((20 : Int) < (n : Int)) = false := decide_eq_false (by omega)
    clear hr hln
    go_enter Tryd.func6, Tryd.ntmps6
    go_wp2
    go_loopw [5] (fun i wr => ∃ k : Nat, k ≤ n ∧ i = .int .i64 k ∧ l.all lightM = (l.drop k).all lightM ∧ Below w.heap.size w wr) (fun i _ => n - (intOf i).toNat)
    case atStart => exact ⟨0, by omega, rfl, rfl, by (repeat' (first | with_reducible exact Below.refl _ _ | with_reducible assumption | with_reducible refine Below.drew ?_ | with_reducible refine below_drewN' ?_ _ | with_reducible refine Below.alloc ?_ ?_ _ | with_reducible refine Below.setCell ?_ ?_ _ | with_reducible refine below_step (by assumption) ?_ ?_ | omega | (simp; done) | (simp; omega)))⟩
    case round =>
      obtain ⟨j, hj, rfl, hE, hC⟩ := hrel
      obtain ⟨hcC, hfC⟩ := bcell hC
      have hcz := hC.size
      have HE := Lib.hid hE
      have HC := Lib.hid hC
      clear hE
      by_cases hlj : j < n
      · have hkl : j < l.length := by rw [Hln.out]; exact hlj
        obtain ⟨b, off, rfl, hb, hc⟩ := HF.out (by omega)
        have hbw : b < wr.heap.size := by omega
        obtain ⟨c0, c1, c2, c3, c4, c5, c6, c7, c8, c9⟩ := mrow_cells (hc j l[j] (List.getElem?_eq_getElem hkl))
        have hE2 := HE.out
        rw [all_drop hkl] at hE2
        have HIj := Lib.hid ((HI.out l[j] (List.getElem_mem hkl)).mono HC.out)
        obtain ⟨g, hg⟩ : ∃ g, l[j] = g := ⟨_, rfl⟩
        rw [hg] at c0 c1 c2 c3 c4 c5 c6 c7 c8 c9 hE2 HIj
        clear hc hg hkl
        cases h2 : lightM g
        · have Hs := Lib.hid (show l.all lightM = false by rw [hE2, h2, Bool.false_and])
          have H2 := Lib.hid h2
          clear h2 hE2
          go_wp2_with (go_at_call 23; (with_reducible refine (lightm_any g _ HIj.out.here).mono ?_); rw [H2.out]; rintro e w5 ⟨rfl, hb5⟩; have hz5 := hb5.size)
          go_ret
          exact ⟨by rw [Hs.out]; rfl, by (repeat' (first | with_reducible exact Below.refl _ _ | with_reducible assumption | with_reducible refine Below.drew ?_ | with_reducible refine below_drewN' ?_ _ | with_reducible refine Below.alloc ?_ ?_ _ | with_reducible refine Below.setCell ?_ ?_ _ | with_reducible refine below_step (by assumption) ?_ ?_ | omega | (simp; done) | (simp; omega)))⟩
        · have Hs := Lib.hid (show l.all lightM = (l.drop (j + 1)).all lightM by rw [hE2, h2, Bool.true_and])
          have H2 := Lib.hid h2
          clear h2 hE2
          go_wp2_with (go_at_call 23; (with_reducible refine (lightm_any g _ HIj.out.here).mono ?_); rw [H2.out]; rintro e w5 ⟨rfl, hb5⟩; have hz5 := hb5.size)
          go_roundw
          case rel => exact ⟨j + 1, by omega, by go_num, Hs.out, by (repeat' (first | with_reducible exact Below.refl _ _ | with_reducible assumption | with_reducible refine Below.drew ?_ | with_reducible refine below_drewN' ?_ _ | with_reducible refine Below.alloc ?_ ?_ _ | with_reducible refine Below.setCell ?_ ?_ _ | with_reducible refine below_step (by assumption) ?_ ?_ | omega | (simp; done) | (simp; omega)))⟩
          case measure => simp [intOf]; omega
      · obtain rfl : j = n := by omega
        have Hs := Lib.hid (show l.all lightM = true by rw [HE.out, List.drop_eq_nil_of_le (by rw [Hln.out]; exact Nat.le_refl _)]; rfl)
        go_wp2
        go_loopw [6] (fun i wq => i = .int .i64 0 ∧ Below w.heap.size w wq) (fun _ _ => 0)
        case atStart => exact ⟨rfl, by (repeat' (first | with_reducible exact Below.refl _ _ | with_reducible assumption | with_reducible refine Below.drew ?_ | with_reducible refine below_drewN' ?_ _ | with_reducible refine Below.alloc ?_ ?_ _ | with_reducible refine Below.setCell ?_ ?_ _ | with_reducible refine below_step (by assumption) ?_ ?_ | omega | (simp; done) | (simp; omega)))⟩
        case round =>
          obtain ⟨rfl, hD⟩ := hrel
          go_wp2
          go_ret
          exact ⟨by rw [Hs.out]; rfl, by (repeat' (first | with_reducible exact Below.refl _ _ | with_reducible assumption | with_reducible refine Below.drew ?_ | with_reducible refine below_drewN' ?_ _ | with_reducible refine Below.alloc ?_ ?_ _ | with_reducible refine Below.setCell ?_ ?_ _ | with_reducible refine below_step (by assumption) ?_ ?_ | omega | (simp; done) | (simp; omega)))⟩
  · have hr : lightY l = false := by unfold lightY; rw [hln, decide_eq_false h20]; rfl
    rw [hr]
    rw [hln] at hm ⊢
    clear hr hln
    have k1 : decide ((20 : Int) < (n : Int)) = true := decide_eq_true (by omega)
    go_enter Tryd.func6, Tryd.ntmps6
    go_wp2
    go_ret
    exact ⟨rfl, by (repeat' (first | with_reducible exact Below.refl _ _ | with_reducible assumption | with_reducible refine Below.drew ?_ | with_reducible refine below_drewN' ?_ _ | with_reducible refine Below.alloc ?_ ?_ _ | with_reducible refine Below.setCell ?_ ?_ _ | with_reducible refine below_step (by assumption) ?_ ?_ | omega | (simp; done) | (simp; omega)))⟩
end Go.Proofs.YtbomcghjifgfoaaDoor
