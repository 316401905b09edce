/-
  The contract of triremeref01.Digits.
-/
import Derived.Test.YtccplljbljpjpaaDoorMF
import Derived.Test.YtccplljbljpjpaaDoorMC
import Derived.Test.YtccplljbljpjpaaDoorMA
import Derived.Laws.IdiomStrings
namespace Go.Proofs.YtccplljbljpjpaaDoor
open Go.RowKit
set_option linter.unusedVariables false
set_option linter.unusedSimpArgs false

/-- A slice of one byte. -/
def IsByte (k : Int) (v : Value) (w : World) : Prop := ∃ b, v = .slice (some ⟨b, 0, none⟩) 1 1 ∧ b < w.heap.size ∧ w.cell? ⟨b, 0, none⟩ = some (.int .u8 k)
theorem IsByte.stays (k : Int) : Stays (IsByte k) := fun v w w' hb ⟨b, e, h1, h2⟩ => ⟨b, e, by have := hb.size; omega, by rw [hb.cell h1]; exact h2⟩
theorem IsByte.new (k : Int) (w : World) (t : TypeId) : IsByte k (.slice (some ⟨w.heap.size, 0, none⟩) 1 1) (w.alloc (.cells #[.int .u8 k] t)) :=
  ⟨w.heap.size, rfl, by show w.heap.size < (w.heap.push _).size; simp, by rw [World.cell?_alloc_mark]; rfl⟩
theorem IsByte.text {k : Int} (h0 : 0 ≤ k) (h1 : k < 256) {v : Value} {w : World} (h : IsByte k v w) : (convert 96 9 v).run Tryd.prog w = .ok (.string ⟨#[UInt8.ofNat k.toNat]⟩) w := by
  obtain ⟨b, rfl, _, hc⟩ := h
  exact run_convert_bytes_back w 96 9 5 ⟨b, 0, none⟩ 1 [UInt8.ofNat k.toNat] Tryd.underlying96 Tryd.underlying5 Tryd.underlying9 (fun j hj => by
    obtain rfl : j = 0 := by simp at hj; omega
    show w.cell? ⟨b, 0, none⟩ = _
    rw [hc]
    simp only [List.getElem_cons_zero]
    rw [UInt8.toNat_ofNat']
    congr 2
    omega)

end Go.Proofs.YtccplljbljpjpaaDoor
