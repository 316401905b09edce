/-
  Yards: what is left, in plain words.
-/
import Derived.Test.YthbpnfpalcgfeaaYd7
import Derived.Test.YthbpnfpalcgfeaaRes4
namespace Go.Proofs.Ythbpnfpalcgfeaa
open Go.RowKit
set_option linter.unusedVariables false
set_option linter.unusedSimpArgs false

def rt5 (r : R5) : Bool := rtB r.r0 r.r1 r.r2 r.r3 r.r4
theorem addP_right (r : R5) (p : Pd) : rt5 (addP r p) = true := by
  unfold rt5 addP
  by_cases h : addEP r p = 0
  · rw [h]
    simp only [Rs.sel_0]
    unfold addEP Rs.addE at h
    split at h
    · rename_i h1
      split at h
      · rename_i h2
        have ha := (rtB_iff _ _ _ _ _).1 h1.1
        have hb := (rtB_iff _ _ _ _ _).1 h1.2
        rw [rtB_iff]
        omega
      · omega
    · omega
  · simp only [Rs.sel_no _ _ h]
    decide
theorem usB_right (nm : ByteArray) : ∀ (l : List Bd) (e : Int) (r : R5), rt5 r = true → (usB nm l e r).1 = 0 → rt5 (usB nm l e r).2 = true
  | [], e, r, h, _ => h
  | b :: l, e, r, h, h0 => by
    unfold usB at h0 ⊢
    split
    · rename_i h1
      rw [if_pos h1] at h0
      split
      · rename_i h2
        rw [if_pos h2] at h0
        split
        · rename_i h3
          rw [if_pos h3] at h0
          exact usB_right nm l _ _ (addP_right r b.p) h0
        · rename_i h3
          rw [if_neg h3] at h0
          exact usB_right nm l e r h h0
      · rename_i h2
        rw [if_neg h2] at h0
        cases h0
    · rename_i h1
      rw [if_neg h1] at h0
      exact usB_right nm l e r h h0
theorem usedY_right {bs : List Bd} {nm : ByteArray} (h : (usedY bs nm).1 = 0) : rt5 (usedY bs nm).2 = true := usB_right nm bs 0 R5.z (by decide) h
/-- What is left of h where u is used: right, not more than h, and with u it is h, if u fits. -/
theorem left_plain {h u : R5} (hh : rt5 h = true) (hu : rt5 u = true) :
    subP h (lstP h u) = ⟨h.r0 - minI h.r0 u.r0, h.r1 - minI h.r1 u.r1, h.r2 - minI h.r2 u.r2, h.r3 - minI h.r3 u.r3, h.r4 - minI h.r4 u.r4⟩ := by
  have hl : lstP h u = ⟨minI h.r0 u.r0, minI h.r1 u.r1, minI h.r2 u.r2, minI h.r3 u.r3, minI h.r4 u.r4⟩ := by
    unfold lstP Rs.leastC
    unfold rt5 at hh hu
    simp only [hh, hu, and_self, if_true]
  rw [hl]
  have ha := (rtB_iff _ _ _ _ _).1 hh
  have hb := (rtB_iff _ _ _ _ _).1 hu
  have m0 := minI_le h.r0 u.r0
  have m1 := minI_le h.r1 u.r1
  have m2 := minI_le h.r2 u.r2
  have m3 := minI_le h.r3 u.r3
  have m4 := minI_le h.r4 u.r4
  have hz : subEP h ⟨minI h.r0 u.r0, minI h.r1 u.r1, minI h.r2 u.r2, minI h.r3 u.r3, minI h.r4 u.r4⟩ = 0 := by
    unfold subEP Rs.subE
    rw [if_pos ⟨hh, (rtB_iff _ _ _ _ _).2 (by dsimp only; omega)⟩, if_pos (by dsimp only; omega)]
  unfold subP
  rw [hz]
  rfl
end Go.Proofs.Ythbpnfpalcgfeaa
