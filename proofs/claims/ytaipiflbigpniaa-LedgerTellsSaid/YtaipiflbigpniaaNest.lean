/-
  A slice that lies inside what came in, opened as a list.
-/
import Derived.Test.YtaipiflbigpniaaLst
namespace Go.Proofs.Ytaipiflbigpniaa
open Go.ChangeShapes Go.WideShapes Go.ChangeAt Go.RowKit
set_option linter.unusedVariables false
set_option linter.unusedSimpArgs false

section
variable {α : Type} {enc : α → List Value} {K : Nat}
theorem open_nested {H : Type} {ec : TypeId × Value → H} {P : Program} {W : World} {t e : TypeId} {fuel : Nat} {a : Option Addr} {len cap : Nat} {y : DataW H × List MemPlace}
    (ht : P.underlying t = some (.slice e)) (hE : P.cellsOf e = K) (hE0 : 0 < K)
    (hdec : ∀ (cs : List Value) (fuel : Nat) (y : DataW H × List MemPlace), cs.length = K → DataW.trod ec P W 0 (fun _ => true) true fuel e cs = some y → ∃ x, cs = enc x)
    (h : DataW.trod ec P W 0 (fun _ => true) true fuel t [.slice a len cap] = some y) :
    ∃ l : List α, l.length = len ∧ RowsAt enc K W a l ∧ len ≤ maxLen := by
  rcases Go.Deep.open_slice ht h with ⟨hcs, _⟩ | ⟨a', len', cap', m, n, D, Pl, hcs, _, hl, hm, hmm, _, hi⟩
  · have e1 : a = none ∧ len = 0 ∧ cap = 0 := by simpa using hcs
    obtain ⟨rfl, rfl, rfl⟩ := e1
    exact ⟨[], rfl, RowsAt.nil, Nat.zero_le _⟩
  · have e1 : a = some a' ∧ len = len' ∧ cap = cap' := by simpa using hcs
    obtain ⟨rfl, rfl, rfl⟩ := e1
    rw [hE] at hi
    have hmc : m = cap := by simpa using hmm
    by_cases h0 : len = 0
    · subst h0
      exact ⟨[], rfl, RowsAt.nil, Nat.zero_le _⟩
    · obtain ⟨b, off, spot⟩ := a'
      have hrow : ∀ i, i < len → ∃ x : α, ∀ j, j < K → W.cell? ((Addr.add ⟨b, off, spot⟩ (i * K)).add j) = (enc x)[j]? := by
        intro i hil
        obtain ⟨cs', hc, ht'⟩ := hi i (by omega)
        obtain ⟨_, hcl, hat⟩ := World.cells?_some hc
        obtain ⟨x, rfl⟩ := hdec cs' _ _ hcl ht'
        exact ⟨x, hat⟩
      have hone : ∃ cs' : List Value, cs'.length = K ∧ ∀ j, j < K → W.cell? ((Addr.add ⟨b, off, spot⟩ (0 * K)).add j) = cs'[j]? := by
        obtain ⟨cs', hc, ht'⟩ := hi 0 (by omega)
        obtain ⟨_, hcl, hat⟩ := World.cells?_some hc
        exact ⟨cs', hcl, hat⟩
      obtain ⟨cs0, hcl0, hat0⟩ := hone
      have hc0 := hat0 0 hE0
      rw [List.getElem?_eq_getElem (by omega)] at hc0
      have hspot : spot = none := by simpa [Addr.add] using World.cell?_spot hc0
      subst hspot
      have hb : b < W.heap.size := by simpa [Addr.add] using World.block_lt_of_cell? _ _ hc0
      have hD : ∀ m, m ≤ len → ∃ l : List α, l.length = m ∧ ∀ i x, l[i]? = some x → ∀ j, j < K → W.cell? ⟨b, off + i * K + j, none⟩ = (enc x)[j]? := by
        intro m
        induction m with
        | zero => exact fun _ => ⟨[], rfl, fun i x hx => by simp at hx⟩
        | succ m ih =>
          intro hm
          obtain ⟨l, hl, hc⟩ := ih (by omega)
          obtain ⟨x, hcs⟩ := hrow m (by omega)
          refine ⟨l ++ [x], by simp [hl], fun i z hz j hj => ?_⟩
          by_cases hi : i < l.length
          · rw [List.getElem?_append_left hi] at hz
            exact hc i z hz j hj
          · rw [List.getElem?_append_right (by omega)] at hz
            have h0 : i - l.length = 0 := by
              have := (List.getElem?_eq_some_iff.1 hz).1
              simp at this
              omega
            rw [h0] at hz
            obtain rfl : x = z := by simpa using hz
            obtain rfl : i = m := by omega
            rw [← hcs j hj, Go.WideShapes.add_plain, Go.WideShapes.add_plain]
      obtain ⟨l, hl', hc⟩ := hD len (Nat.le_refl _)
      exact ⟨l, hl', fun _ => ⟨b, off, rfl, hb, hc⟩, by unfold maxLen at *; omega⟩
end
end Go.Proofs.Ytaipiflbigpniaa
