/-
  A slice that came in, opened row by row, whatever its elements are.
-/
import Derived.Test.YtaipiflbigpniaaFrame
import Derived.Deep.Slices
import Derived.Lib.SmallJoins
namespace Go.Proofs.Ytaipiflbigpniaa
set_option linter.unusedVariables false
set_option linter.unusedSimpArgs false
open Go.ChangeShapes Go.WideShapes Go.ChangeAt Go.RowKit

theorem open_rows {H : Type} {enc : TypeId × Value → H} {P : Program} {W : World} {r : Reach} {base : Nat} {t e : TypeId} {v : Value} {d : DataW H} {p : List MemPlace} {E : Nat}
    (ht : P.underlying t = some (.slice e)) (hE : P.cellsOf e = E) (hE0 : 0 < E)
    (hv : Value.okWide P W r base t v) (h : DataW.Trod enc P W 0 (fun _ => true) true t v d p) :
    v = .slice none 0 0 ∨ (∃ a cap, v = .slice (some a) 0 cap) ∨
    ∃ b off n cap : Nat, v = .slice (some ⟨b, off, none⟩) n cap ∧ 0 < n ∧ n ≤ cap ∧ cap ≤ maxLen ∧ b < W.heap.size ∧
      ∀ i, i < n → ∃ cs : List Value, cs.length = E ∧ (∀ j, j < E → W.cell? ⟨b, off + i * E + j, none⟩ = cs[j]?) ∧ ∃ (fuel : Nat) (y : DataW H × List MemPlace), DataW.trod enc P W 0 (fun _ => true) true fuel e cs = some y := by
  obtain ⟨a0, len, cap, rfl⟩ := okWide_slice ht hv
  obtain ⟨fuel, hf⟩ := h
  rcases Go.Deep.open_slice ht hf with ⟨hcs, _⟩ | ⟨a, len', cap', m, n, D, Pl, hcs, _, hl, hm, hmm, _, hi⟩
  · left; simpa [Value.cells] using hcs
  · right
    have hcs' : Value.slice a0 len cap = .slice (some a) len' cap' := by simpa [Value.cells] using hcs
    rw [hcs']
    rw [hE] at hi
    have hmc : m = cap' := by simpa using hmm
    by_cases h0 : len' = 0
    · left; rw [h0]; exact ⟨_, _, rfl⟩
    · right
      obtain ⟨b, off, spot⟩ := a
      have hrow : ∀ i, i < len' → ∃ cs : List Value, cs.length = E ∧ (∀ j, j < E → W.cell? ((Addr.add ⟨b, off, spot⟩ (i * E)).add j) = cs[j]?) ∧ ∃ (fuel : Nat) (y : DataW H × List MemPlace), DataW.trod enc P W 0 (fun _ => true) true fuel e cs = some y := by
        intro i hil
        obtain ⟨cs', hc, ht'⟩ := hi i (by omega)
        obtain ⟨_, hcl, hat⟩ := World.cells?_some hc
        exact ⟨cs', hcl, hat, _, _, ht'⟩
      obtain ⟨cs0, hcl0, hat0, _⟩ := hrow 0 (by omega)
      have hc0 := hat0 0 hE0
      rw [List.getElem?_eq_getElem (by omega)] at hc0
      have hspot : spot = none := by simpa [Addr.add] using World.cell?_spot hc0
      subst hspot
      have hb : b < W.heap.size := by simpa [Addr.add] using World.block_lt_of_cell? _ _ hc0
      refine ⟨b, off, len', cap', rfl, by omega, hl, hm, hb, fun i hil => ?_⟩
      obtain ⟨cs, hcl, hat, hr⟩ := hrow i hil
      refine ⟨cs, hcl, fun j hj => ?_, hr⟩
      rw [← hat j hj, Go.WideShapes.add_plain, Go.WideShapes.add_plain]
end Go.Proofs.Ytaipiflbigpniaa
