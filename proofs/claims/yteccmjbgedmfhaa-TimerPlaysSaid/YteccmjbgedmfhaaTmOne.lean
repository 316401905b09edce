/-
  Names in the order of their times are one list.
-/
import Derived.Test.YteccmjbgedmfhaaTmGrp
namespace Go.Proofs.Yteccmjbgedmfhaa
open Go.RowKit
set_option linter.unusedVariables false
set_option linter.unusedSimpArgs false

theorem ordered_one {T : ByteArray → Option Int} : ∀ {l l' : List ByteArray}, (∀ s, s ∈ l ↔ s ∈ l') → l.Pairwise (fun x y => ltT T x y) → l'.Pairwise (fun x y => ltT T x y) → l = l'
  | [], [], _, _, _ => rfl
  | [], y :: l', h, _, _ => absurd ((h y).2 (by simp)) (by simp)
  | x :: l, [], h, _, _ => absurd ((h x).1 (by simp)) (by simp)
  | x :: l, y :: l', h, h1, h2 => by
    rw [List.pairwise_cons] at h1 h2
    have e : x = y := by
      by_cases e : x = y
      · exact e
      · exfalso
        have hx : x ∈ l' := by
          rcases List.mem_cons.1 ((h x).1 (by simp)) with h | h
          · exact absurd h e
          · exact h
        have hy : y ∈ l := by
          rcases List.mem_cons.1 ((h y).2 (by simp)) with h | h
          · exact absurd h.symm e
          · exact h
        exact ltT_irrefl T x (ltT_trans (h1.1 y hy) (h2.1 x hx))
    subst e
    refine congrArg (x :: ·) (ordered_one (fun s => ?_) h1.2 h2.2)
    have n1 : ¬ x ∈ l := fun hx => ltT_irrefl T x (h1.1 x hx)
    have n2 : ¬ x ∈ l' := fun hx => ltT_irrefl T x (h2.1 x hx)
    constructor
    · intro hs
      rcases List.mem_cons.1 ((h s).1 (List.mem_cons_of_mem _ hs)) with e | h
      · subst e; exact absurd hs n1
      · exact h
    · intro hs
      rcases List.mem_cons.1 ((h s).2 (List.mem_cons_of_mem _ hs)) with e | h
      · subst e; exact absurd hs n2
      · exact h
theorem ord_one {T : ByteArray → Option Int} {l l' : List ByteArray} (h : Ordered T l) (h' : Ordered T l') : l = l' := ordered_one (fun s => by rw [h.mem, h'.mem]) h.asc h'.asc

end Go.Proofs.Yteccmjbgedmfhaa
