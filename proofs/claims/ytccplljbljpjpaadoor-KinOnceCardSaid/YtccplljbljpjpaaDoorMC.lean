/-
  Words of the document.
-/
import Derived.Test.YtccplljbljpjpaaDoorMB
namespace Go.Proofs.YtccplljbljpjpaaDoor
open Go.RowKit
set_option linter.unusedVariables false
set_option linter.unusedSimpArgs false

theorem wrap_in {x : Int} (h : -9223372036854775808 ≤ x) (h' : x < 9223372036854775808) : IntKind.i64.wrap x = x := by simp [IntKind.wrap, IntKind.bits, IntKind.signed]; omega
theorem str_ixk (s : ByteArray) (p k b : Nat) (h : p + k < s.size) (hb : (s.get! (p + k)).toNat = b) (w : World) : (Instr.index 9 (.string s) (.int .i64 ((p : Int) + (k : Int)))).run Tryd.prog w = .ok (.int .u8 (b : Int)) w := by
  have := str_ix s (p + k) h w
  rw [hb, Int.natCast_add] at this
  exact this
/-- Where the document's scan stands: it goes on till the end. -/
theorem WordSt.more {s : ByteArray} {pos f n : Nat} (h : WordSt s pos f n) (hn : 64 < n) : wordB s = false := by
  unfold wordB
  rw [h.1]
  cases hx : wordFrom s f pos with
  | none => rfl
  | some k =>
    simp only [Option.map_some]
    exact decide_eq_false (by omega)
theorem WordSt.fin {s : ByteArray} {pos fuel n : Nat} (h : WordSt s pos fuel n) (hp : ¬ pos < s.size) : wordB s = decide (1 ≤ n ∧ n ≤ 64) := by
  have e : wordFrom s fuel pos = some 0 := by
    cases fuel with
    | zero => rfl
    | succ f => rw [wordFrom, if_neg hp]
  unfold wordB
  rw [h.1, e]
  simp
theorem rune_wid {s : ByteArray} {p : Nat} (h : badAt s p = false) : runeW s p = ((Utf8.decode s p).2 : Int) ∧ runeC s p = ((Utf8.decode s p).1 : Int) := by
  unfold runeW runeC
  rw [h]
  exact ⟨rfl, rfl⟩
theorem rune_wid0 {s : ByteArray} {p : Nat} (h : badAt s p = true) : runeW s p = 0 := by
  unfold runeW
  rw [h]
  rfl
theorem decode_end (s : ByteArray) (p : Nat) (hp : p < s.size) : p + (Utf8.decode s p).2 ≤ s.size := by
  rw [decode_dec]
  unfold dec
  split
  · simp only; omega
  · split
    · split <;> (simp only; omega)
    · split
      · split <;> (simp only; omega)
      · split
        · split <;> (simp only; omega)
        · simp only; omega

end Go.Proofs.YtccplljbljpjpaaDoor
