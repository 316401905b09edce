/-
  What a call's own rows keep while it writes into its own boxes: the blocks from B up to C are as they were.
-/
import Derived.Test.YtbomcghjifgfoaaDoorLst
namespace Go.Proofs.YtbomcghjifgfoaaDoor
open Go.RowKit

def Keep (B C : Nat) (w w' : World) : Prop := ∀ j, B ≤ j → j < C → w'.heap[j]? = w.heap[j]?
theorem Keep.refl (B C : Nat) (w : World) : Keep B C w w := fun _ _ _ => rfl
theorem Keep.setCell {B C : Nat} {a w : World} (h : Keep B C a w) {p : Addr} (hp : p.block < B ∨ C ≤ p.block) (u : Value) : Keep B C a (w.setCell p u) := fun j h1 h2 => by
  rw [← h j h1 h2]
  exact Below.heap_setCell _ _ _ _ (by rcases hp with hp | hp <;> omega)
theorem Keep.alloc {B C : Nat} {a w : World} (h : Keep B C a w) (hs : C ≤ w.heap.size) (o : Obj) : Keep B C a (w.alloc o) := fun j h1 h2 => by
  rw [← h j h1 h2]
  exact ((Below.refl w.heap.size w).alloc (Nat.le_refl _) o).block j (by omega)
theorem Keep.step {B C : Nat} {a W w : World} (hb : Below W.heap.size W w) (h : Keep B C a W) (hs : C ≤ W.heap.size) : Keep B C a w := fun j h1 h2 => by
  rw [← h j h1 h2]
  exact hb.block j (by omega)
theorem Keep.drew {B C : Nat} {a w : World} (h : Keep B C a w) : Keep B C a w.drew := h
theorem Keep.drewN {B C : Nat} {a w : World} (h : Keep B C a w) (n : Nat) : Keep B C a (w.drewN n) := h
theorem own_keep {w w1 : World} {B base : Nat} {v : Value} {n k : Nat} {e : TypeId} {xs : List Value} (h : w.ownsRow base e k v n xs) (hb : Keep B w.heap.size w w1) (hB : B ≤ base) : w1.ownsRow base e k v n xs := by
  obtain ⟨hl, hv | ⟨g, cap, cur, rfl, hg, hh, r⟩⟩ := h
  · exact ⟨hl, .inl hv⟩
  · refine ⟨hl, .inr ⟨g, cap, cur, rfl, hg, ?_, r⟩⟩
    rw [hb g (by omega) (Array.getElem?_eq_some_iff.1 hh).1]
    exact hh
end Go.Proofs.YtbomcghjifgfoaaDoor
