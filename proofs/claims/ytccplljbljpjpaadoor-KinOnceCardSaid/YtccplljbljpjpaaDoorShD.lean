/-
  A pod as text, the document's way: triremeref07.ShowPod.
-/
import Derived.Test.YtccplljbljpjpaaDoorShC
namespace Go.Proofs.YtccplljbljpjpaaDoor
open Go.RowKit
set_option linter.unusedVariables false
set_option linter.unusedSimpArgs false

theorem fold_size {α : Type} (f : ByteArray → α → ByteArray) (c : Nat) : ∀ (l : List α) (s : ByteArray), (∀ s, ∀ x ∈ l, (f s x).size ≤ s.size + c) → (l.foldl f s).size ≤ s.size + l.length * c
  | [], s, _ => by simp
  | x :: l, s, h => by
    have h1 := h s x List.mem_cons_self
    have ih := fold_size f c l (f s x) fun s y hy => h s y (List.mem_cons_of_mem _ hy)
    rw [List.foldl_cons, List.length_cons, Nat.succ_mul]
    omega
theorem prB_size {nm : ByteArray} {l : List Lab} (hl : l.length ≤ 40) (h : nm.size ≤ 100) (hs : ∀ x ∈ l, x.key.size ≤ 300 ∧ x.val.size ≤ 300) : (prB nm l).size ≤ 40000 := by
  have h9 := fold_size (prS nm) 1000 l emp fun s x hx => by
    have h1 := hs x hx
    have h2 := atB_size h1.2
    unfold prS
    simp only [ByteArray.size_append]
    have a1 : (⟨#[32, 40]⟩ : ByteArray).size ≤ 2 := by decide
    have a2 : (⟨#[32]⟩ : ByteArray).size ≤ 1 := by decide
    have a3 : (⟨#[41]⟩ : ByteArray).size ≤ 1 := by decide
    omega
  have h0 : (emp : ByteArray).size = 0 := by decide
  unfold prB
  omega
end Go.Proofs.YtccplljbljpjpaaDoor
