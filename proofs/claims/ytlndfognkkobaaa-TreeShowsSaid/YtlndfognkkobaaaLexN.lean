/-
  Tokens in memory that a call has made.
-/
import Derived.Test.YtlndfognkkobaaaLexK
namespace Go.Proofs.Ytlndfognkkobaaa
open Go.RowKit
set_option linter.unusedVariables false
set_option linter.unusedSimpArgs false

/-- Tokens of its own, in plain cells. -/
theorem own_tks {w : World} {B n : Nat} {v : Value} {l : List Tk} (h : w.ownsRow B 59 5 v l.length (l.flatMap tkrow)) (h0 : 0 < l.length) : ∃ g k, v = .slice (some ⟨g, 0, none⟩) l.length k ∧ B ≤ g ∧ g < w.heap.size ∧ TkL w (some ⟨g, 0, none⟩) l := by
  obtain ⟨a, k, e, hc⟩ := own_rows tkrow_len h (by decide)
  obtain ⟨g, e1, h1, h2, h3⟩ := hc h0
  subst e1
  exact ⟨g, k, e, h1, h2, fun _ => ⟨g, 0, rfl, h2, h3⟩⟩
theorem tk_at {w : World} {g : Nat} {l : List Tk} {i : Nat} {t : Tk} (h : TkL w (some ⟨g, 0, none⟩) l) (hi : l[i]? = some t) : ∀ r, r < 5 → w.cell? ⟨g, i * 5 + r, none⟩ = (tkrow t)[r]? := by
  obtain ⟨b, o, e, _, hc⟩ := h (by have := (List.getElem?_eq_some_iff.1 hi).1; omega)
  obtain ⟨rfl, rfl⟩ : b = g ∧ o = 0 := by
    injection e with e
    injection e with e1 e2
    exact ⟨e1.symm, e2.symm⟩
  intro r hr
  have := hc i t hi r hr
  rw [Nat.zero_add] at this
  exact this
def kt (t : Tk) : Int × ByteArray := (t.kd, t.tx)
/-- An own slice of tokens, empty or not. -/
theorem own_slice {w : World} {B : Nat} {v : Value} {l : List Tk} (h : w.ownsRow B 59 5 v l.length (l.flatMap tkrow)) : ∃ a k, v = .slice a l.length k ∧ (a = none → l.length = 0 ∧ k = 0) ∧ TkL w a l := by
  obtain ⟨a, k, e, hc⟩ := own_rows tkrow_len h (by decide)
  refine ⟨a, k, e, fun hn => ?_, fun h0 => ?_⟩
  · subst hn
    rcases h.2 with ⟨e2, h0⟩ | ⟨g, c, cur, e2, _⟩
    · rw [e] at e2
      injection e2 with _ h1 h2
      exact ⟨h1, h2⟩
    · rw [e] at e2
      injection e2 with h1
      cases h1
  · obtain ⟨g, e1, _, h2, h3⟩ := hc h0
    exact ⟨g, 0, e1, h2, h3⟩
theorem kt_at {l m : List Tk} (h : l.map kt = m.map kt) {i : Nat} {x y : Tk} (hx : l[i]? = some x) (hy : m[i]? = some y) : x.kd = y.kd ∧ x.tx = y.tx := by
  have e : (l.map kt)[i]? = (m.map kt)[i]? := by rw [h]
  rw [List.getElem?_map, List.getElem?_map, hx, hy] at e
  have e : kt x = kt y := by injection e
  exact Prod.mk.inj e
end Go.Proofs.Ytlndfognkkobaaa
