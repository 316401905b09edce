/-
  Labels and terms that came in.
-/
import Derived.Test.YthbpnfpalcgfeaaME
import Derived.Test.YthbpnfpalcgfeaaLab12
namespace Go.Proofs.Ythbpnfpalcgfeaa
namespace Lb
set_option linter.unusedSimpArgs false
open Go.ChangeShapes Go.WideShapes Go.ChangeAt Go.RowKit
set_option linter.unusedVariables false

set_option maxRecDepth 100000 in
theorem open_labs {H : Type} {enc : TypeId × Value → H} {W : World} {base : Nat} {v : Value} {d : DataW H} {p : List MemPlace}
    (hv : Value.okWide Try.prog W .any base 32 v) (h : DataW.Trod enc Try.prog W 0 (fun _ => true) true 32 v d p) :
    ∃ (a : Option Addr) (l : List Lab) (k : Nat), v = .slice a l.length k ∧ NilOk a l.length k ∧ LabL W a l ∧ l.length ≤ maxLen ∧ l.length ≤ k :=
  open_list Try.underlying32 Try.cells71 (by decide) (fun cs fuel y hl h => lab_open hl h) hv h

theorem sameL_self (l : List Lab) : sameL l l = true := decide_eq_true rfl
theorem sorted_of {l : List Lab} (h : labsB l = true) : Sorted l := by
  unfold labsB at h
  rw [Bool.and_eq_true] at h
  refine List.pairwise_iff_getElem.2 fun i j hi hj hij => ?_
  exact all_less (labsTo_le h.2 hj) (List.getElem?_eq_getElem hj) _ (by
    rw [List.mem_take_iff_getElem]
    exact ⟨i, by omega, rfl⟩)
theorem IsL.rows {l : List Lab} {a : Option Addr} {k n : Nat} {w : World} (h : IsL kcs 2 l (.slice a n k) w) : LabL w a l := by
  obtain ⟨a', k', e, _, hr⟩ := h
  simp only [Value.slice.injEq] at e
  rw [e.1]
  exact hr
theorem own_cell {w : World} {base g cap n K : Nat} {e : TypeId} {xs : List Value} (h : w.ownsRow base e K (.slice (some ⟨g, 0, none⟩) n cap) n xs) (j : Nat) (hj : j < n * K) : ∃ u, w.cell? ⟨g, j, none⟩ = some u := by
  have h1 := World.ownsRow.cellAt h j hj
  rw [List.getElem?_eq_getElem (by rw [h.1]; exact hj)] at h1
  exact ⟨_, h1⟩
end Lb
end Go.Proofs.Ythbpnfpalcgfeaa
