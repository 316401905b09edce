/-
  What is shared is even: the plain part.
-/
import Derived.Test.YtlgbbfaeclaghaaSimShares
namespace Go.Proofs.Ytlgbbfaeclaghaa
open Go.RowKit
set_option linter.unusedVariables false

theorem smF_min (D S F : Nat → Int) (n k : Nat) (hk : k < n) (h : D k + S k < F k) : 0 ≤ smF D S F n ∧ D (smF D S F n).toNat + S (smF D S F n).toNat ≤ D k + S k := by
  induction n with
  | zero => omega
  | succ n ih =>
    obtain ⟨g1, g2⟩ := smF_lt D S F n
    by_cases hc : D n + S n < F n ∧ (smF D S F n < 0 ∨ D n + S n < D (smF D S F n).toNat + S (smF D S F n).toNat)
    · rw [smF_yes D S F n hc.1 hc.2]
      refine ⟨by omega, ?_⟩
      simp only [Int.toNat_natCast]
      by_cases e : k = n
      · subst e; omega
      · obtain ⟨i1, i2⟩ := ih (by omega)
        rcases hc.2 with h2 | h2 <;> omega
    · have hn : smF D S F (n + 1) = smF D S F n := if_neg hc
      rw [hn]
      by_cases e : k = n
      · subst e
        have h3 : ¬ (smF D S F k < 0 ∨ D k + S k < D (smF D S F k).toNat + S (smF D S F k).toNat) := fun t => hc ⟨h, t⟩
        omega
      · exact ih (by omega)

theorem shF_cases (D F : Nat → Int) (n k : Nat) : (smF D (shF D F n k) F n < 0 ∧ shF D F n (k + 1) = shF D F n k) ∨ ∃ p : Nat, p < n ∧ smF D (shF D F n k) F n = p ∧ ∀ j, shF D F n (k + 1) j = if j = p then shF D F n k j + 1 else shF D F n k j := by
  by_cases h : smF D (shF D F n k) F n < 0
  · exact .inl ⟨h, by have := shF_done D F n k h 1; exact this⟩
  · obtain ⟨g1, g2⟩ := smF_lt D (shF D F n k) F n
    refine .inr ⟨(smF D (shF D F n k) F n).toNat, by omega, by omega, fun j => shF_succ D F n k _ (by omega) j⟩

theorem shF_even (D F : Nat → Int) (n : Nat) (bD : ∀ i, i < n → 0 ≤ D i ∧ D i ≤ 200) (bF : ∀ i, i < n → 0 ≤ F i ∧ F i ≤ 200) (t : Nat) : ∀ i k, i < n → k < n → 0 < shF D F n t i → D k + shF D F n t k < F k → D i + shF D F n t i ≤ D k + shF D F n t k + 1 := by
  induction t with
  | zero => intro i k _ _ h; simp [shF] at h
  | succ t ih =>
    intro i k hi hk h0 h1
    rcases shF_cases D F n t with ⟨_, he⟩ | ⟨p, hp, he, hs⟩
    · rw [he] at h0 h1 ⊢
      exact ih i k hi hk h0 h1
    · have hmin := fun k hk h => (smF_min D (shF D F n t) F n k hk h).2
      rw [he] at hmin
      simp only [Int.toNat_natCast] at hmin
      have hroom := smF_room D (shF D F n t) F n (by rw [he]; omega)
      rw [he] at hroom
      simp only [Int.toNat_natCast] at hroom
      rw [hs] at h0 h1
      rw [hs, hs]
      by_cases ei : i = p
      · subst ei
        rw [if_pos rfl]
        by_cases ek : k = i
        · subst ek; rw [if_pos rfl]; omega
        · rw [if_neg ek] at h1 ⊢
          have := hmin k hk h1
          omega
      · rw [if_neg ei] at h0 ⊢
        by_cases ek : k = p
        · subst ek
          rw [if_pos rfl] at h1 ⊢
          have := ih i k hi hk h0 hroom
          omega
        · rw [if_neg ek] at h1 ⊢
          exact ih i k hi hk h0 h1

def sumI (S : Nat → Int) : Nat → Int
  | 0 => 0
  | k + 1 => sumI S k + S k
def roomI (D F : Nat → Int) : Nat → Int
  | 0 => 0
  | k + 1 => roomI D F k + max 0 (F k - D k)

theorem sumI_put (S T : Nat → Int) (p : Nat) (h : ∀ j, T j = if j = p then S j + 1 else S j) (n : Nat) : sumI T n = sumI S n + if p < n then 1 else 0 := by
  induction n with
  | zero => simp [sumI]
  | succ n ih =>
    unfold sumI
    rw [ih, h n]
    by_cases e : n = p
    · subst e; simp; omega
    · rw [if_neg e]
      by_cases h1 : p < n
      · rw [if_pos h1, if_pos (by omega)]; omega
      · rw [if_neg h1, if_neg (by omega)]; omega
theorem sumI_congr (S T : Nat → Int) (n : Nat) (h : ∀ j, j < n → S j = T j) : sumI S n = sumI T n := by
  induction n with
  | zero => rfl
  | succ n ih => unfold sumI; rw [ih (fun j hj => h j (by omega)), h n (by omega)]

theorem sumI_zero : ∀ n, sumI (fun _ => 0) n = ((0 : Nat) : Int)
  | 0 => rfl
  | n + 1 => by unfold sumI; rw [sumI_zero n]; rfl
theorem sum_room (D F S : Nat → Int) (n : Nat) (h : ∀ j, j < n → 0 ≤ S j ∧ (0 < S j → D j + S j ≤ F j)) : sumI S n ≤ roomI D F n ∧ ((∀ j, j < n → ¬ D j + S j < F j) → sumI S n = roomI D F n) := by
  induction n with
  | zero => simp [sumI, roomI]
  | succ n ih =>
    obtain ⟨i1, i2⟩ := ih (fun j hj => h j (by omega))
    obtain ⟨h1, h2⟩ := h n (by omega)
    unfold sumI roomI
    refine ⟨by omega, fun hf => ?_⟩
    have := i2 (fun j hj => hf j (by omega))
    have := hf n (by omega)
    omega

theorem shF_sum (D F : Nat → Int) (n : Nat) (bD : ∀ i, i < n → 0 ≤ D i ∧ D i ≤ 200) (bF : ∀ i, i < n → 0 ≤ F i ∧ F i ≤ 200) (t : Nat) : sumI (shF D F n t) n = min (t : Int) (roomI D F n) := by
  have hb := fun k => sum_room D F (shF D F n k) n (fun j hj => shF_bd D F n bD bF k j hj)
  have hfull : ∀ k, smF D (shF D F n k) F n < 0 → sumI (shF D F n k) n = roomI D F n := fun k h => (hb k).2 fun j hj hlt => by
    have := (smF_min D (shF D F n k) F n j hj hlt).1
    omega
  have hP : ∀ k : Nat, sumI (shF D F n k) n = k ∨ (sumI (shF D F n k) n ≤ k ∧ smF D (shF D F n k) F n < 0) := by
    intro k
    induction k with
    | zero => exact .inl ((sumI_congr _ (fun _ => 0) n (fun j _ => rfl)).trans (sumI_zero n))
    | succ k ih =>
      rcases shF_cases D F n k with ⟨h0, he⟩ | ⟨p, hp, he, hs⟩
      · rw [he]
        rcases ih with h | ⟨h, h'⟩
        · exact .inr ⟨by omega, h0⟩
        · exact .inr ⟨by omega, h0⟩
      · rcases ih with h | ⟨h, h'⟩
        · left
          rw [sumI_put _ _ p hs, if_pos hp, h]
          omega
        · omega
  have h1 := (hb t).1
  rcases hP t with h | ⟨h, h'⟩
  · omega
  · have := hfull t h'
    omega
theorem roomI_bd (D F : Nat → Int) (n : Nat) (bD : ∀ i, i < n → 0 ≤ D i ∧ D i ≤ 200) (bF : ∀ i, i < n → 0 ≤ F i ∧ F i ≤ 200) : 0 ≤ roomI D F n ∧ roomI D F n ≤ 200 * n := by
  induction n with
  | zero => simp [roomI]
  | succ n ih =>
    have := ih (fun i hi => bD i (by omega)) (fun i hi => bF i (by omega))
    have := bD n (by omega)
    have := bF n (by omega)
    unfold roomI
    omega
theorem sumI_bd (S : Nat → Int) (n : Nat) (b : ∀ i, i < n → 0 ≤ S i ∧ S i ≤ 200) : 0 ≤ sumI S n ∧ sumI S n ≤ 200 * n := by
  induction n with
  | zero => simp [sumI]
  | succ n ih =>
    have := ih (fun i hi => b i (by omega))
    have := b n (by omega)
    unfold sumI
    omega
end Go.Proofs.Ytlgbbfaeclaghaa
