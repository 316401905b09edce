/-
  The contracts of taints.borne and taints.Unborne.
-/
import Derived.Test.YtlfjjiepclphiaaTnt2
namespace Go.Proofs.Ytlfjjiepclphiaa
open Go.RowKit
set_option linter.unusedVariables false

abbrev TntsAt := RowsAt tcs 3
abbrev TolsAt := RowsAt ocs 4
theorem tnt_cells {w : World} {b o : Nat} {x : Tnt} (h : ∀ r, r < 3 → w.cell? ⟨b, o + r, none⟩ = (tcs x)[r]?) :
    w.cell? ⟨b, o, none⟩ = some (.string x.key) ∧ w.cell? ⟨b, o + 1, none⟩ = some (.string x.val) ∧ w.cell? ⟨b, o + 2, none⟩ = some (.int .i64 x.eff) := ⟨h 0 (by decide), h 1 (by decide), h 2 (by decide)⟩
theorem tol_cells {w : World} {b o : Nat} {x : Tol} (h : ∀ r, r < 4 → w.cell? ⟨b, o + r, none⟩ = (ocs x)[r]?) :
    w.cell? ⟨b, o, none⟩ = some (.string x.key) ∧ w.cell? ⟨b, o + 1, none⟩ = some (.string x.val) ∧ w.cell? ⟨b, o + 2, none⟩ = some (.bool x.any) ∧ w.cell? ⟨b, o + 3, none⟩ = some (.int .i64 x.eff) := ⟨h 0 (by decide), h 1 (by decide), h 2 (by decide), h 3 (by decide)⟩

/-- Some toleration bears it. -/
def borneB (l : List Tol) (x : Tnt) : Bool := l.any fun t => bearsB t x
theorem borneB_take {l : List Tol} {k : Nat} {t : Tol} {x : Tnt} (h : l[k]? = some t) : borneB (l.take (k + 1)) x = (borneB (l.take k) x || bearsB t x) := by
  unfold borneB
  rw [take_at h, List.any_append]
  simp
theorem borneB_yes {l : List Tol} {k : Nat} {t : Tol} {x : Tnt} (h : l[k]? = some t) (hb : bearsB t x = true) : borneB l x = true := by
  unfold borneB
  rw [List.any_eq_true]
  exact ⟨t, List.mem_of_getElem? h, hb⟩

set_option maxRecDepth 100000 in
set_option maxHeartbeats 2000000 in
theorem borne_any (a : Option Addr) (ka : Nat) (l : List Tol) (x : Tnt) (w : World) (hD : TolsAt w a l) (hn : l.length ≤ 1000000) :
    Calls Try.prog 27 #[.slice a l.length ka, .agg #[.string (x).key, .string (x).val, .int .i64 (x).eff]] w fun e w' => e = .returned (.bool (borneB l x)) ∧ Below w.heap.size w w' := by
  have HD := Lib.hid hD
  clear hD
  obtain ⟨n, hln⟩ : ∃ n, l.length = n := ⟨_, rfl⟩
  rw [hln] at hn ⊢
  have Hln := Lib.hid hln
  clear hln
  go_enter Try.func27, Try.ntmps27
  go_wp2
  go_loopw [9] (fun i wr => ∃ k : Nat, k ≤ n ∧ i = .int .i64 k ∧ borneB (l.take k) x = false ∧ Below (w.heap.size + 1) (w.alloc (.cells #[.string x.key, .string x.val, .int .i64 x.eff] 30)) wr) (fun i _ => n - (intOf i).toNat)
  case atStart => exact ⟨0, by omega, rfl, rfl, by (repeat' (first | with_reducible exact Below.refl _ _ | with_reducible assumption | with_reducible refine Below.drew ?_ | with_reducible refine below_drewN' ?_ _ | with_reducible refine Below.alloc ?_ ?_ _ | with_reducible refine Below.setCell ?_ ?_ _ | with_reducible refine below_step (by assumption) ?_ ?_ | omega | (simp; done) | (simp; omega)))⟩
  case round =>
    obtain ⟨k, hk, rfl, hE, hB⟩ := hrel
    have hB' : Below (w.alloc (.cells #[.string x.key, .string x.val, .int .i64 x.eff] 30)).heap.size (w.alloc (.cells #[.string x.key, .string x.val, .int .i64 x.eff] 30)) wr := by simpa using hB
    obtain ⟨hcB, hfB⟩ := bcell hB'
    have hzB := hB.size
    (try simp at hzB)
    have hz0 : w.heap.size < wr.heap.size := by omega
    have HE := Lib.hid hE
    have hBw : Below w.heap.size w wr := by have := hB'.mono (B' := w.heap.size) (by simp); exact ((Below.refl _ w).alloc (Nat.le_refl _) _).trans this
    clear hE
    by_cases hlt : k < n
    · obtain ⟨t, ht⟩ := mem_at (l := l) (k := k) (by rw [Hln.out]; exact hlt)
      have Ht := Lib.hid ht
      clear ht
      obtain ⟨b, off, rfl, hb, hc⟩ := HD.out (by rw [Hln.out]; omega)
      have hbw : b < wr.heap.size := by omega
      have hbw1 : b < w.heap.size + 1 := by omega
      obtain ⟨c0, c1, c2, c3⟩ := tol_cells (hc k t Ht.out)
      clear hc
      cases hv : bearsB t x
      · have Hs := Lib.hid (show borneB (l.take (k + 1)) x = false by rw [borneB_take Ht.out, HE.out, hv]; rfl)
        have Hv := Lib.hid hv
        clear hv
        go_wp2_with (go_at_call 11; (with_reducible refine (bears_any t x _).mono ?_); rintro e w5 ⟨rfl, hb5⟩; rw [Hv.out]; obtain ⟨hc5, hf5⟩ := bcell hb5; have hz5 := hb5.size; (try simp at hz5))
        go_roundw
        case rel => exact ⟨k + 1, by omega, by go_num, Hs.out, by (repeat' (first | with_reducible exact Below.refl _ _ | with_reducible assumption | with_reducible refine Below.drew ?_ | with_reducible refine below_drewN' ?_ _ | with_reducible refine Below.alloc ?_ ?_ _ | with_reducible refine Below.setCell ?_ ?_ _ | with_reducible refine below_step (by assumption) ?_ ?_ | omega | (simp; done) | (simp; omega)))⟩
        case measure => simp [intOf]; omega
      · have Hs := Lib.hid (borneB_yes Ht.out hv)
        have Hv := Lib.hid hv
        clear hv
        go_wp2_with (go_at_call 11; (with_reducible refine (bears_any t x _).mono ?_); rintro e w5 ⟨rfl, hb5⟩; rw [Hv.out]; obtain ⟨hc5, hf5⟩ := bcell hb5; have hz5 := hb5.size; (try simp at hz5))
        go_ret
        exact ⟨by rw [Hs.out]; rfl, by (repeat' (first | with_reducible exact Below.refl _ _ | with_reducible assumption | with_reducible refine Below.drew ?_ | with_reducible refine below_drewN' ?_ _ | with_reducible refine Below.alloc ?_ ?_ _ | with_reducible refine Below.setCell ?_ ?_ _ | with_reducible refine below_step (by assumption) ?_ ?_ | omega | (simp; done) | (simp; omega)))⟩
    · obtain rfl : k = n := by omega
      have Hs := Lib.hid (show borneB l x = false by rw [← HE.out, ← Hln.out, List.take_length])
      go_wp2
      go_ret
      exact ⟨by rw [Hs.out]; rfl, by (repeat' (first | with_reducible exact Below.refl _ _ | with_reducible assumption | with_reducible refine Below.drew ?_ | with_reducible refine below_drewN' ?_ _ | with_reducible refine Below.alloc ?_ ?_ _ | with_reducible refine Below.setCell ?_ ?_ _ | with_reducible refine below_step (by assumption) ?_ ?_ | omega | (simp; done) | (simp; omega)))⟩
end Go.Proofs.Ytlfjjiepclphiaa
