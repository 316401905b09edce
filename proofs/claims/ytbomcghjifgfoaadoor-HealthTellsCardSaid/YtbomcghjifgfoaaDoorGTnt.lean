/-
  The contract of taints.Right, by itself (out of taints/XTntA).
-/
import Derived.Test.YtbomcghjifgfoaaDoorRefT
import Derived.Test.YtbomcghjifgfoaaDoorLex2
namespace Go.Proofs.YtbomcghjifgfoaaDoor
open Go.RowKit
set_option linter.unusedVariables false

theorem toList_inj (a b : ByteArray) : a.toList = b.toList ↔ a = b := str_inj a b


def CellsX (x : Tnt) (b : Nat) (w : World) : Prop := b < w.heap.size ∧ w.cell? ⟨b, 0, none⟩ = some (.string x.key) ∧ w.cell? ⟨b, 1, none⟩ = some (.string x.val) ∧ w.cell? ⟨b, 2, none⟩ = some (.int .i64 x.eff)
theorem CellsX.mono {x : Tnt} {b : Nat} {w w' : World} (h : CellsX x b w) (hb : Below w.heap.size w w') : CellsX x b w' := by
  obtain ⟨h0, h1, h2, h3⟩ := h
  have := hb.size
  exact ⟨by omega, by rw [hb.cell (p := ⟨b, 0, none⟩) h0]; exact h1, by rw [hb.cell (p := ⟨b, 1, none⟩) h0]; exact h2, by rw [hb.cell (p := ⟨b, 2, none⟩) h0]; exact h3⟩
theorem CellsX.new (x : Tnt) (w : World) (t : TypeId) : CellsX x w.heap.size (w.alloc (.cells #[.string x.key, .string x.val, .int .i64 x.eff] t)) := ⟨by simp, by simp [go_sem], by simp [go_sem], by simp [go_sem]⟩
end Go.Proofs.YtbomcghjifgfoaaDoor
