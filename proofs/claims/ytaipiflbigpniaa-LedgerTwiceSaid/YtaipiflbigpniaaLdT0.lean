/-
  LedgerTwice: what the accounts are behind i ticks of the same list.
-/
import Derived.Test.YtaipiflbigpniaaLdF
import Derived.Test.YtaipiflbigpniaaLd3
import Derived.Test.YtaipiflbigpniaaLd4
namespace Go.Proofs.Ytaipiflbigpniaa
open Go.RowKit
set_option linter.unusedVariables false
set_option linter.unusedSimpArgs false

/-- Behind i ticks, i at least 1. -/
def acI (L : List Ins) (i : Nat) (g : Gp) : Ac := ⟨g.nm, g.pr, (i : Int) * (cntI L g.nm : Int), (cntI L g.nm : Int)⟩
theorem acI_first (L : List Ins) (l : List Gp) : (l.map acN).map (addA L) = l.map (acI L 1) := by
  rw [List.map_map]
  apply List.map_congr_left
  intro g _
  show (⟨g.nm, g.pr, 0 + (cntI L g.nm : Int), max 0 (cntI L g.nm : Int)⟩ : Ac) = ⟨g.nm, g.pr, (1 : Nat) * (cntI L g.nm : Int), (cntI L g.nm : Int)⟩
  rw [Int.zero_add, Int.max_eq_right (Int.natCast_nonneg _)]
  simp
theorem acI_next (L : List Ins) (l : List Gp) (i : Nat) : (l.map (acI L i)).map (addA L) = l.map (acI L (i + 1)) := by
  rw [List.map_map]
  apply List.map_congr_left
  intro g _
  show (⟨g.nm, g.pr, (i : Int) * (cntI L g.nm : Int) + (cntI L g.nm : Int), max (cntI L g.nm : Int) (cntI L g.nm : Int)⟩ : Ac) = ⟨g.nm, g.pr, ((i + 1 : Nat) : Int) * (cntI L g.nm : Int), (cntI L g.nm : Int)⟩
  rw [Int.max_self, Int.natCast_add, Int.add_mul]
  simp
theorem acI_find (L : List Ins) (i : Nat) : ∀ (l : List Gp) (s : ByteArray), (∃ g ∈ l, g.nm = s) → ∃ g ∈ l, ∀ i, findAc (l.map (acI L i)) s = acI L i g
  | [], s, h => by
    obtain ⟨g, hg, _⟩ := h
    simp at hg
  | x :: l, s, h => by
    by_cases hx : x.nm = s
    · exact ⟨x, List.mem_cons_self, fun i => if_pos hx⟩
    · obtain ⟨g, hg, hgs⟩ := h
      have hg' : g ∈ l := by
        rcases List.mem_cons.1 hg with rfl | h
        · exact absurd hgs hx
        · exact h
      obtain ⟨y, hy, hf⟩ := acI_find L i l s ⟨g, hg', hgs⟩
      refine ⟨y, List.mem_cons_of_mem _ hy, fun i => ?_⟩
      rw [List.map_cons]
      unfold findAc
      rw [if_neg (show ¬ (acI L i x).nm = s from hx)]
      exact hf i
theorem okA_acI {L : List Ins} {i : Nat} {g : Gp} (hi : i ≤ 20) (hL : L.length ≤ 60) (h0 : 0 ≤ g.pr) (h1 : g.pr ≤ 1125899906842624) : okA (acI L i g) := by
  have hc := cnt_le L g.nm
  refine ⟨h0, h1, Int.mul_nonneg (Int.natCast_nonneg _) (Int.natCast_nonneg _), ?_⟩
  show (i : Int) * (cntI L g.nm : Int) ≤ _
  have : i * cntI L g.nm ≤ 20 * 60 := Nat.mul_le_mul hi (by omega)
  have : ((i * cntI L g.nm : Nat) : Int) ≤ ((20 * 60 : Nat) : Int) := Int.ofNat_le.2 this
  rw [Int.natCast_mul] at this
  omega
/-- The sum of i ticks is the sum of one, as often. -/
theorem cost_twice {L : List Ins} {i : Nat} {g : Gp} (hi0 : 1 ≤ i) (hi : i ≤ 20) (hL : L.length ≤ 60) (h0 : 0 ≤ g.pr) (h1 : g.pr ≤ 1125899906842624) : costA (acI L i g) = min (costA (acI L 1 g) * (i : Int)) 1125899906842624 := by
  rw [costA_min (okA_acI hi hL h0 h1), costA_min (okA_acI (i := 1) (by omega) hL h0 h1)]
  show min (g.pr * ((i : Int) * (cntI L g.nm : Int))) 1125899906842624 = min (min (g.pr * (((1 : Nat) : Int) * (cntI L g.nm : Int))) 1125899906842624 * (i : Int)) 1125899906842624
  obtain ⟨q, hq⟩ : ∃ q : Int, q = g.pr * (cntI L g.nm : Int) := ⟨_, rfl⟩
  have hq0 : 0 ≤ q := by rw [hq]; exact Int.mul_nonneg h0 (Int.natCast_nonneg _)
  have e1 : g.pr * ((i : Int) * (cntI L g.nm : Int)) = q * (i : Int) := by rw [hq, Int.mul_comm (i : Int), ← Int.mul_assoc]
  have e2 : g.pr * (((1 : Nat) : Int) * (cntI L g.nm : Int)) = q := by rw [hq]; simp
  rw [e1, e2]
  by_cases hm : q ≤ 1125899906842624
  · rw [Int.min_eq_left hm]
  · have h2 : (1125899906842624 : Int) ≤ q := by omega
    rw [Int.min_eq_right h2]
    have h3 : (1125899906842624 : Int) * 1 ≤ 1125899906842624 * (i : Int) := Int.mul_le_mul_of_nonneg_left (by omega) (by decide)
    have h4 : q * 1 ≤ q * (i : Int) := Int.mul_le_mul_of_nonneg_left (by omega) hq0
    omega
theorem mean_twice {L : List Ins} {i : Nat} {g : Gp} (hi0 : 1 ≤ i) (hi : i ≤ 20) (hL : L.length ≤ 60) : ∃ r, floatBits .quo .f64 (floatOfInt .f64 (acI L i g).su) (floatOfInt .f64 (i : Int)) = some r ∧ floatBits .quo .f64 (floatOfInt .f64 (acI L 1 g).su) (floatOfInt .f64 1) = some r ∧ FloatKind.f64.format.order r r = some .eq := by
  have hc := cnt_le L g.nm
  obtain ⟨h1, h2⟩ := mean_all ⟨i, by omega⟩ ⟨cntI L g.nm, by omega⟩ hi0
  dsimp only at h1 h2
  obtain ⟨r, hr, h3⟩ := Option.map_eq_some_iff.1 h2
  refine ⟨r, ?_, ?_, by simpa using h3⟩
  · show floatBits .quo .f64 (floatOfInt .f64 ((i : Int) * (cntI L g.nm : Int))) _ = _
    rw [← Int.natCast_mul, h1]
    exact hr
  · show floatBits .quo .f64 (floatOfInt .f64 (((1 : Nat) : Int) * (cntI L g.nm : Int))) _ = _
    have e : ((1 : Nat) : Int) * (cntI L g.nm : Int) = (cntI L g.nm : Int) := by simp
    rw [e]
    exact hr
end Go.Proofs.Ytaipiflbigpniaa
