/-
  How many tokens there are at most; what stands behind no error.
-/
import Derived.Test.YtlndfognkkobaaaLexG
import Derived.Test.YtlndfognkkobaaaLexX
namespace Go.Proofs.Ytlndfognkkobaaa
open Go.RowKit
set_option linter.unusedVariables false
set_option linter.unusedSimpArgs false

theorem endR_facts (s : SC) (src : ByteArray) : (endR (s.fin src)).1.length ≤ s.tk.length + 1 ∧ ((endR (s.fin src)).2.1 = 0 → (endR (s.fin src)).2.2 = 0) := by
  unfold SC.fin
  split
  · refine ⟨?_, fun _ => rfl⟩
    show (s.tk ++ [_]).length ≤ _
    rw [List.length_append]
    exact Nat.le_refl _
  split
  · refine ⟨Nat.zero_le _, fun e => ?_⟩
    have e : (3 : Int) = 0 := e
    cases e
  split
  · refine ⟨Nat.zero_le _, fun e => ?_⟩
    have e : (2 : Int) = 0 := e
    cases e
  · exact ⟨Nat.le_succ _, fun _ => rfl⟩
theorem scanF_facts (src : ByteArray) : ∀ (f pos : Nat) (s : SC), Bd s pos → pos ≤ src.size + 3 → (scanF src f pos s).1.length ≤ 2 * src.size + 9 ∧ ((scanF src f pos s).2.1 = 0 → (scanF src f pos s).2.2 = 0)
  | 0, pos, s, hB, hp => by
    obtain ⟨h1, h2⟩ := endR_facts s src
    have := hB.1
    exact ⟨by show (endR (s.fin src)).1.length ≤ _; omega, h2⟩
  | f + 1, pos, s, hB, hp => by
    rw [scanF_succ]
    by_cases hlt : pos < src.size
    · rw [if_pos hlt]
      split
      · have := dec_w4 src pos hlt
        exact scanF_facts src f _ _ (hB.step hlt) (by omega)
      · rename_i he
        exact ⟨Nat.zero_le _, fun e => absurd e he⟩
    · rw [if_neg hlt]
      obtain ⟨h1, h2⟩ := endR_facts s src
      have := hB.1
      exact ⟨by omega, h2⟩
theorem scanB_facts {src : ByteArray} (h : src.size ≤ 65536) : (scanB src).1.length ≤ 2 * src.size + 9 ∧ ((scanB src).2.1 = 0 → (scanB src).2.2 = 0) := by
  rw [scanB_at h]
  exact scanF_facts src _ 0 sc0 ⟨Nat.zero_le _, Nat.zero_le _, (by decide), (by decide), (by decide), (by decide)⟩ (Nat.zero_le _)
end Go.Proofs.Ytlndfognkkobaaa
