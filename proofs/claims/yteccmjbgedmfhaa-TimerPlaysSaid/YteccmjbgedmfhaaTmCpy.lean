/-
  Copy.
-/
import Derived.Test.YteccmjbgedmfhaaTmCol
namespace Go.Proofs.Yteccmjbgedmfhaa
open Go.RowKit
set_option linter.unusedVariables false
set_option linter.unusedSimpArgs false

set_option maxRecDepth 100000 in
theorem copy_any (b m : Nat) (T : ByteArray → Option Int) (n : Nat) (w : World) (h : TB w b m T n) :
    Calls Try.prog 13 #[.pointer (some ⟨b, 0, none⟩)] w fun e w' => ∃ b2 m2, e = .returned (.pointer (some ⟨b2, 0, none⟩)) ∧ TB w' b2 m2 T n ∧ w.heap.size ≤ b2 ∧ w.heap.size ≤ m2 ∧ Below w.heap.size w w' := by
  obtain ⟨c0, c1⟩ := h.cells
  have Hh := Lib.hid h
  clear h
  go_enter Try.func13, Try.ntmps13
  go_wp2_with (first
    | (go_at_call 23; (with_reducible refine (made_yes b _ c0).mono ?_); rintro e w1 ⟨rfl, rfl⟩)
    | (go_at_call 29; (with_reducible refine (MapIs.clone (Hh.out.mp.below (by (repeat' (first | with_reducible exact Below.refl _ _ | with_reducible assumption | with_reducible refine Below.drew ?_ | with_reducible refine below_drewN' ?_ _ | with_reducible refine Below.alloc ?_ ?_ _ | with_reducible refine Below.setCell ?_ ?_ _ | with_reducible refine below_step (by assumption) ?_ ?_ | omega | (simp; done) | (simp; omega)))))).mono ?_); rintro e w2 ⟨rfl, hm2, hz2, hb2⟩; have HB2 := Lib.hid hb2; have HM2 := Lib.hid hm2; clear hm2)
    | (go_at_call 22; (with_reducible refine (with_any _ T n _ HM2.out Hh.out.ok).mono ?_); rintro e w3 ⟨rfl, hT3, hb3⟩; have HT3 := Lib.hid hT3; have HB3 := Lib.hid hb3; clear hT3 hb3))
  go_ret
  exact ⟨_, _, rfl, HT3.out, by omega, by omega, HB2.out.trans (HB3.out.mono (by omega))⟩
end Go.Proofs.Yteccmjbgedmfhaa
