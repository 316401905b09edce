/-
  A word, and signs of ASCII behind it: plain.
-/
import Derived.Test.YtgdankihfnnpaaaDoorDec
namespace Go.Proofs.YtgdankihfnnpaaaDoor
open Go.RowKit
set_option linter.unusedVariables false

theorem decu_more {l m pos b0 b1 b2 b3 c1 c2 c3 : Nat} (hm : l ≤ m) (h1 : pos + 1 < l → c1 = b1) (h2 : pos + 2 < l → c2 = b2) (h3 : pos + 3 < l → c3 = b3) (hp : pos < l) (hb : ¬ ((dec l pos b0 b1 b2 b3).1 = 65533 ∧ (dec l pos b0 b1 b2 b3).2 = 1)) :
    dec m pos b0 c1 c2 c3 = dec l pos b0 b1 b2 b3 ∧ pos + (dec l pos b0 b1 b2 b3).2 ≤ l := by
  by_cases a0 : b0 < 128
  · have e1 : dec m pos b0 c1 c2 c3 = (b0, 1) := by unfold dec; rw [if_pos a0]
    have e2 : dec l pos b0 b1 b2 b3 = (b0, 1) := by unfold dec; rw [if_pos a0]
    rw [e1, e2]
    exact ⟨rfl, hp⟩
  by_cases a1 : b0 / 32 = 6 ∧ pos + 1 < l ∧ b1 / 64 = 2
  · have c1' := h1 a1.2.1
    have q : b0 / 32 = 6 ∧ pos + 1 < m ∧ c1 / 64 = 2 := ⟨a1.1, by omega, by rw [c1']; exact a1.2.2⟩
    have e1 : dec m pos b0 c1 c2 c3 = (if 128 ≤ b0 % 32 * 64 + b1 % 64 then (b0 % 32 * 64 + b1 % 64, 2) else (65533, 1)) := by unfold dec; rw [if_neg a0, if_pos q, c1']
    have e2 : dec l pos b0 b1 b2 b3 = (if 128 ≤ b0 % 32 * 64 + b1 % 64 then (b0 % 32 * 64 + b1 % 64, 2) else (65533, 1)) := by unfold dec; rw [if_neg a0, if_pos a1]
    rw [e1, e2]
    refine ⟨rfl, ?_⟩
    split
    · show pos + 2 ≤ l
      omega
    · show pos + 1 ≤ l
      omega
  by_cases a2 : b0 / 16 = 14 ∧ (pos + 1 < l ∧ b1 / 64 = 2) ∧ pos + 2 < l ∧ b2 / 64 = 2
  · have c1' := h1 a2.2.1.1
    have c2' := h2 a2.2.2.1
    have n1 : ¬ (b0 / 32 = 6 ∧ pos + 1 < m ∧ c1 / 64 = 2) := fun h => by have := h.1; have := a2.1; omega
    have q : b0 / 16 = 14 ∧ (pos + 1 < m ∧ c1 / 64 = 2) ∧ pos + 2 < m ∧ c2 / 64 = 2 := ⟨a2.1, ⟨by omega, by rw [c1']; exact a2.2.1.2⟩, by omega, by rw [c2']; exact a2.2.2.2⟩
    have e : dec m pos b0 c1 c2 c3 = dec l pos b0 b1 b2 b3 := by
      unfold dec
      rw [if_neg a0, if_neg n1, if_pos q, if_neg a0, if_neg a1, if_pos a2, c1', c2']
    refine ⟨e, ?_⟩
    unfold dec
    rw [if_neg a0, if_neg a1, if_pos a2]
    split
    · show pos + 3 ≤ l
      omega
    · show pos + 1 ≤ l
      omega
  by_cases a3 : b0 / 8 = 30 ∧ (pos + 1 < l ∧ b1 / 64 = 2) ∧ (pos + 2 < l ∧ b2 / 64 = 2) ∧ pos + 3 < l ∧ b3 / 64 = 2
  · have c1' := h1 a3.2.1.1
    have c2' := h2 a3.2.2.1.1
    have c3' := h3 a3.2.2.2.1
    have n1 : ¬ (b0 / 32 = 6 ∧ pos + 1 < m ∧ c1 / 64 = 2) := fun h => by have := h.1; have := a3.1; omega
    have n2 : ¬ (b0 / 16 = 14 ∧ (pos + 1 < m ∧ c1 / 64 = 2) ∧ pos + 2 < m ∧ c2 / 64 = 2) := fun h => by have := h.1; have := a3.1; omega
    have q : b0 / 8 = 30 ∧ (pos + 1 < m ∧ c1 / 64 = 2) ∧ (pos + 2 < m ∧ c2 / 64 = 2) ∧ pos + 3 < m ∧ c3 / 64 = 2 := ⟨a3.1, ⟨by omega, by rw [c1']; exact a3.2.1.2⟩, ⟨by omega, by rw [c2']; exact a3.2.2.1.2⟩, by omega, by rw [c3']; exact a3.2.2.2.2⟩
    have e : dec m pos b0 c1 c2 c3 = dec l pos b0 b1 b2 b3 := by
      unfold dec
      rw [if_neg a0, if_neg n1, if_neg n2, if_pos q, if_neg a0, if_neg a1, if_neg a2, if_pos a3, c1', c2', c3']
    refine ⟨e, ?_⟩
    unfold dec
    rw [if_neg a0, if_neg a1, if_neg a2, if_pos a3]
    split
    · show pos + 4 ≤ l
      omega
    · show pos + 1 ≤ l
      omega
  · refine absurd ?_ hb
    unfold dec
    rw [if_neg a0, if_neg a1, if_neg a2, if_neg a3]
    exact ⟨rfl, rfl⟩

theorem app_get_l (s t : ByteArray) (i : Nat) (h : i < s.size) : (s ++ t).get! i = s.get! i := by
  have h2 : i < (s ++ t).size := by rw [ByteArray.size_append]; omega
  rw [get_bang _ _ h2, get_bang _ _ h, ByteArray.getElem_append_left h]
theorem decode_app (s t : ByteArray) (pos : Nat) (hp : pos < s.size) (hb : badAt s pos = false) : Utf8.decode (s ++ t) pos = Utf8.decode s pos ∧ pos + (Utf8.decode s pos).2 ≤ s.size := by
  unfold badAt at hb
  rw [decide_eq_false_iff_not, decode_dec] at hb
  rw [decode_dec, decode_dec, app_get_l s t pos hp]
  exact decu_more (by rw [ByteArray.size_append]; omega) (fun h => by rw [app_get_l s t _ h]) (fun h => by rw [app_get_l s t _ h]) (fun h => by rw [app_get_l s t _ h]) hp hb
theorem bad_app (s t : ByteArray) (pos : Nat) (hp : pos < s.size) (hb : badAt s pos = false) : badAt (s ++ t) pos = false := by
  unfold badAt
  rw [(decode_app s t pos hp hb).1]
  exact hb
theorem wordFrom_le (s : ByteArray) : ∀ f pos n, wordFrom s f pos = some n → n ≤ f
  | 0, pos, n, h => by
    rw [wordFrom] at h
    have := Option.some.inj h
    omega
  | f + 1, pos, n, h => by
    rw [wordFrom] at h
    split at h
    · split at h
      · cases hx : wordFrom s f (pos + (Utf8.decode s pos).2) with
        | none => rw [hx] at h; cases h
        | some k =>
          rw [hx] at h
          have := wordFrom_le s f _ k hx
          simp only [Option.map_some, Option.some.injEq] at h
          omega
      · cases h
    · have := Option.some.inj h
      omega
/-- The scan of a text that begins with a word. -/
theorem word_app (s t : ByteArray) : ∀ f pos n k F, pos ≤ s.size → s.size ≤ pos + f → wordFrom s f pos = some n → WordSt (s ++ t) pos F k → ∃ F', WordSt (s ++ t) s.size F' (k + n)
  | 0, pos, n, k, F, h1, h2, h, hw => by
    rw [wordFrom] at h
    have e1 := Option.some.inj h
    have e2 : pos = s.size := by omega
    subst e2
    exact ⟨F, by rw [← e1]; exact hw⟩
  | f + 1, pos, n, k, F, h1, h2, h, hw => by
    rw [wordFrom] at h
    by_cases hp : pos < s.size
    · rw [if_pos hp] at h
      split at h
      · rename_i hi
        obtain ⟨d1, d2⟩ := decode_app s t pos hp hi.2
        have hp2 : pos < (s ++ t).size := by rw [ByteArray.size_append]; omega
        obtain ⟨F0, rfl⟩ := hw.fuel hp2
        have hs := hw.step hp2 (by rw [d1]; exact hi.1) (bad_app s t pos hp hi.2)
        rw [d1] at hs
        have hwd := Lib.decode_width_pos s pos hp
        cases hx : wordFrom s f (pos + (Utf8.decode s pos).2) with
        | none => rw [hx] at h; cases h
        | some j =>
          rw [hx] at h
          simp only [Option.map_some, Option.some.injEq] at h
          have e1 := h
          obtain ⟨F', hF⟩ := word_app s t f _ j (k + 1) F0 d2 (by omega) hx hs
          exact ⟨F', by rw [← e1, show k + (j + 1) = k + 1 + j by omega]; exact hF⟩
      · cases h
    · rw [if_neg hp] at h
      have e1 := Option.some.inj h
      have e2 : pos = s.size := by omega
      subst e2
      exact ⟨F, by rw [← e1]; exact hw⟩
/-- A sign of ASCII that may stand in a word. -/
def ascW (c : UInt8) : Prop := c.toNat < 128 ∧ inW (c.toNat : Int) = true
theorem asc_step {s : ByteArray} {pos F k : Nat} {c : UInt8} (hp : pos < s.size) (hc : s.get! pos = c) (ha : ascW c) (hw : WordSt s pos F k) : ∃ F', WordSt s (pos + 1) F' (k + 1) := by
  have hd : Utf8.decode s pos = (c.toNat, 1) := by
    rw [decode_dec, hc]
    unfold dec
    rw [if_pos ha.1]
  obtain ⟨F0, rfl⟩ := hw.fuel hp
  have hs := hw.step hp (by rw [hd]; exact ha.2) (by
    unfold badAt
    rw [hd]
    refine decide_eq_false fun h => ?_
    have := h.1
    have := ha.1
    simp only at *
    omega)
  rw [hd] at hs
  exact ⟨F0, hs⟩
theorem asc_run (s : ByteArray) (ds : List UInt8) (hd : ∀ c ∈ ds, ascW c) : ∀ j, j ≤ ds.length → ∀ F k, WordSt (s ++ lsB ds) s.size F k → ∃ F', WordSt (s ++ lsB ds) (s.size + j) F' (k + j)
  | 0, _, F, k, h => ⟨F, h⟩
  | j + 1, hj, F, k, h => by
    obtain ⟨F', h'⟩ := asc_run s ds hd j (by omega) F k h
    have hjl : j < ds.length := by omega
    have h1 : s.size + j < (s ++ lsB ds).size := by rw [ByteArray.size_append, ls_size]; omega
    have hg : (s ++ lsB ds).get! (s.size + j) = ds[j] := by
      rw [get_bang _ _ h1, ByteArray.getElem_append_right (Nat.le_add_right _ _)]
      simp only [Nat.add_sub_cancel_left]
      rfl
    exact asc_step h1 hg (hd _ (List.getElem_mem hjl)) h'
/-- A short word with such signs behind it is a word. -/
theorem word_tail {s : ByteArray} {ds : List UInt8} (hs : wordB s = true) (hd : ∀ c ∈ ds, ascW c) (hn : s.size + ds.length ≤ 64) : wordB (s ++ lsB ds) = true := by
  unfold wordB at hs
  cases hx : wordFrom s s.size 0 with
  | none => rw [hx] at hs; cases hs
  | some n =>
    rw [hx] at hs
    have hn1 : 1 ≤ n ∧ n ≤ 64 := of_decide_eq_true hs
    have hle := wordFrom_le s _ _ _ hx
    obtain ⟨F1, h1⟩ := word_app s (lsB ds) s.size 0 n 0 _ (Nat.zero_le _) (by omega) hx (WordSt.start _)
    obtain ⟨F2, h2⟩ := asc_run s ds hd ds.length (Nat.le_refl _) F1 _ h1
    rw [h2.done (by rw [ByteArray.size_append, ls_size]; omega) (by omega)]
    exact decide_eq_true (by omega)
end Go.Proofs.YtgdankihfnnpaaaDoor
