/-
  QuantParses: an amount as the document multiplies it is the program's.
-/
import Derived.Test.YtpajpijkldjmfaaDoorQPar0
namespace Go.Proofs.YtpajpijkldjmfaaDoor
open Go.RowKit
set_option linter.unusedVariables false

theorem tw_imp (f : UInt8 → Bool) : ∀ (l : List UInt8) (c : UInt8), c ∈ l.takeWhile f → f c = true
  | [], c, h => by cases h
  | x :: l, c, h => by
    rw [List.takeWhile_cons] at h
    split at h
    next hx =>
      rcases List.mem_cons.1 h with rfl | h
      · exact hx
      · exact tw_imp f l c h
    next => cases h
/-- A text is digits, and what ends them. -/
theorem split_digits (s : ByteArray) : ∃ (A : List UInt8) (r : ByteArray), s = lsB A ++ r ∧ allIs A ∧ endN r := by
  have hb : ∀ c : UInt8, (fun c : UInt8 => decide (48 ≤ c.toNat) && decide (c.toNat ≤ 57)) c = true ↔ isD c := fun c => by simp [isD]
  refine ⟨s.data.toList.takeWhile (fun c => decide (48 ≤ c.toNat) && decide (c.toNat ≤ 57)), lsB (s.data.toList.dropWhile (fun c => decide (48 ≤ c.toNat) && decide (c.toNat ≤ 57))), ?_, ?_, ?_⟩
  · have h := List.takeWhile_append_dropWhile (p := fun c : UInt8 => decide (48 ≤ c.toNat) && decide (c.toNat ≤ 57)) (l := s.data.toList)
    refine ByteArray.ext (Array.toList_inj.1 ?_)
    rw [ByteArray.data_append, Array.toList_append]
    exact h.symm
  · intro c hc
    exact (hb c).1 (tw_imp _ _ c hc)
  · obtain ⟨l, hl⟩ : ∃ l, s.data.toList.dropWhile (fun c => decide (48 ≤ c.toNat) && decide (c.toNat ≤ 57)) = l := ⟨_, rfl⟩
    rw [hl]
    cases l with
    | nil => exact .inl rfl
    | cons c l =>
      refine .inr ⟨by rw [ls_size]; exact Nat.succ_pos _, ?_⟩
      have e : (lsB (c :: l)).get! 0 = c := by
        have := (ls_get (c :: l) (lsB []) 0 c rfl).2
        have e2 : lsB (c :: l) ++ lsB [] = lsB (c :: l) := ByteArray.append_empty
        rw [e2] at this
        exact this
      rw [e]
      intro hc
      have h := List.head?_dropWhile_not (fun c : UInt8 => decide (48 ≤ c.toNat) && decide (c.toNat ≤ 57)) s.data.toList
      rw [hl] at h
      simp only [List.head?_cons] at h
      have h2 := (hb c).2 hc
      dsimp only at h2
      rw [h2] at h
      cases h
theorem ls_pre (ds : List UInt8) (t : ByteArray) : (lsB ds ++ t).extract 0 ds.length = lsB ds := by
  have hs : (lsB ds ++ t).size = (lsB ds).size + t.size := ByteArray.size_append
  have h0 := ls_size ds
  refine ByteArray.ext_getElem ?_ fun i hi hj => ?_
  · rw [ByteArray.size_extract, hs]
    omega
  · rw [ByteArray.getElem_extract, ByteArray.getElem_append_left (by omega)]
    simp only [Nat.zero_add]
theorem ls_add (a b : List UInt8) : lsB a ++ lsB b = lsB (a ++ b) := by
  refine ByteArray.ext (Array.toList_inj.1 ?_)
  rw [ByteArray.data_append, Array.toList_append]
  show a.toArray.toList ++ b.toArray.toList = (a ++ b).toArray.toList
  simp

/-- What the document's text of a product comes to, cut. -/
def Z6 : List UInt8 := [48, 48, 48, 48, 48, 48]
theorem cut_num (l : List UInt8) (k : Nat) (hk : k ≤ l.length) (h : allIs l) : numL (l.take (l.length - k)) = numL l / 10 ^ k ∧ numL (l.drop (l.length - k)) = numL l % 10 ^ k := by
  have e := List.take_append_drop (l.length - k) l
  have h1 := numL_append (l.take (l.length - k)) (l.drop (l.length - k))
  have h2 : (l.drop (l.length - k)).length = k := by rw [List.length_drop]; omega
  have h3 := numL_lt (l := l.drop (l.length - k)) (fun c hc => h c (List.mem_of_mem_drop hc))
  rw [e, h2] at h1
  rw [h2] at h3
  have hp : 0 < 10 ^ k := Nat.pow_pos (by decide)
  rw [h1]
  constructor
  · rw [Nat.mul_comm, Nat.mul_add_div hp, Nat.div_eq_of_lt h3]
    omega
  · rw [Nat.mul_comm, Nat.mul_add_mod, Nat.mod_eq_of_lt h3]

/-- An amount by the document: M thousandths, a unit's worth in thousandths, so many noughts. -/
def amE (M U k : Nat) : Int × Int := if M * U % 10 ^ k ≠ 0 then (0, 8) else if 1125899906842624 < M * U / 10 ^ k then (0, 10) else (((M * U / 10 ^ k : Nat) : Int), 0)
def uR (q : ByteArray) : Nat := match uF q with
  | none => 0
  | some (false, f) => 1000 * f.toNat
  | some (true, _) => 1
def lastOf (scale : Int) : Nat := if scale = 1 then 6 else 3

theorem am_factor (N p : Nat) (f x : Int) (hp : p < 1000) (hf : 1 ≤ f ∧ f ≤ 1099511627776) (hx : (x = (N : Int) ∧ N ≤ 1125899906842624009) ∨ (x = 1127025806749466624 ∧ 1125899906842624010 ≤ N)) (l : Int) (scale : Int) (hs : scale = 1 ∨ scale = 1000) :
    (if exactB l (p : Int) (f * scale) 1 = true then valV x (p : Int) (f * scale) 1 else (0, 8)) = amE (N * 1000 + p) (1000 * f.toNat) (lastOf scale) := by
  obtain ⟨F, rfl⟩ := Int.eq_ofNat_of_zero_le (show 0 ≤ f by omega)
  rw [Int.toNat_natCast]
  have hN : (N * 1000 + p) * (1000 * F) = 1000000 * (N * F) + 1000 * (p * F) := by
    rw [Nat.add_mul, Nat.mul_comm N 1000, Nat.mul_assoc 1000, Nat.mul_left_comm N, Nat.mul_left_comm p]
    omega
  have hge : N ≤ N * F := Nat.le_mul_of_pos_right _ (by omega)
  have hpF : p * F ≤ 999 * F := Nat.mul_le_mul_right _ (by omega)
  unfold amE valV exactB
  rw [hN, Int.emod_one, Int.ediv_one]
  obtain ⟨a, ha⟩ : ∃ a, N * F = a := ⟨_, rfl⟩
  obtain ⟨b, hb⟩ : ∃ b, p * F = b := ⟨_, rfl⟩
  have ha' : (N : Int) * (F : Int) = (a : Int) := by rw [← ha]; exact (Int.natCast_mul N F).symm
  have hb' : (p : Int) * (F : Int) = (b : Int) := by rw [← hb]; exact (Int.natCast_mul p F).symm
  rcases hs with rfl | rfl
  · have hl : lastOf 1 = 6 := rfl
    rw [hl, Int.mul_one, hb']
    rw [ha, hb]
    rw [ha] at hge
    by_cases hz : b % 1000 = 0
    · rw [if_pos (show (decide ((b : Int) % 1000 = 0) && decide ((0 : Int) = 0)) = true by simp; omega), if_neg (show ¬ (1000000 * a + 1000 * b) % 10 ^ 6 ≠ 0 by show ¬ (1000000 * a + 1000 * b) % 1000000 ≠ 0; omega)]
      have hv : (1000000 * a + 1000 * b) / 10 ^ 6 = a + b / 1000 := by show (1000000 * a + 1000 * b) / 1000000 = _; omega
      rw [hv]
      rcases hx with ⟨rfl, hx⟩ | ⟨rfl, hx⟩
      · by_cases h : 1125899906842624 / (F : Int) < (N : Int)
        · rw [if_pos h, if_pos]
          have h2 : ¬ (N : Int) * (F : Int) ≤ 1125899906842624 := fun h3 => by
            have := (Int.le_ediv_iff_mul_le (by omega)).2 h3
            omega
          omega
        · rw [if_neg h]
          unfold overB
          rw [ha']
          have e : (a : Int) + (b : Int) / 1000 = ((a + b / 1000 : Nat) : Int) := by omega
          rw [e]
          by_cases h4 : 1125899906842624 < a + b / 1000
          · rw [if_pos (by omega), if_pos h4]
          · rw [if_neg (by omega), if_neg h4]
      · have h : (1125899906842624 : Int) / (F : Int) ≤ 1125899906842624 := Int.ediv_le_self _ (by decide)
        rw [if_pos (by omega), if_pos (by omega)]
    · rw [if_neg (show ¬ (decide ((b : Int) % 1000 = 0) && decide ((0 : Int) = 0)) = true by simp; omega), if_pos (show (1000000 * a + 1000 * b) % 10 ^ 6 ≠ 0 by show (1000000 * a + 1000 * b) % 1000000 ≠ 0; omega)]
  · have hl : lastOf 1000 = 3 := rfl
    have hb2 : (p : Int) * ((F : Int) * 1000) = (b : Int) * 1000 := by rw [← hb', Int.mul_assoc]
    rw [hl, hb2]
    rw [ha, hb]
    rw [ha] at hge
    rw [if_pos (show (decide ((b : Int) * 1000 % 1000 = 0) && decide ((0 : Int) = 0)) = true by simp), if_neg (show ¬ (1000000 * a + 1000 * b) % 10 ^ 3 ≠ 0 by show ¬ (1000000 * a + 1000 * b) % 1000 ≠ 0; omega)]
    have hv : (1000000 * a + 1000 * b) / 10 ^ 3 = 1000 * a + b := by show (1000000 * a + 1000 * b) / 1000 = _; omega
    rw [hv]
    rcases hx with ⟨rfl, hx⟩ | ⟨rfl, hx⟩
    · by_cases h : 1125899906842624 / ((F : Int) * 1000) < (N : Int)
      · rw [if_pos h, if_pos]
        have h2 : ¬ (N : Int) * ((F : Int) * 1000) ≤ 1125899906842624 := fun h3 => by
          have := (Int.le_ediv_iff_mul_le (by omega)).2 h3
          omega
        rw [← Int.mul_assoc, ha'] at h2
        omega
      · rw [if_neg h]
        unfold overB
        rw [← Int.mul_assoc, ha', Int.mul_ediv_cancel _ (by decide)]
        have e : (a : Int) * 1000 + (b : Int) = ((1000 * a + b : Nat) : Int) := by omega
        rw [e]
        by_cases h4 : 1125899906842624 < 1000 * a + b
        · rw [if_pos (by omega), if_pos h4]
        · rw [if_neg (by omega), if_neg h4]
    · have h : (1125899906842624 : Int) / ((F : Int) * 1000) ≤ 1125899906842624 := Int.ediv_le_self _ (by decide)
      rw [if_pos (by omega), if_pos (by omega)]
theorem am_milli (N p : Nat) (x : Int) (hp : p < 1000) (hx : (x = (N : Int) ∧ N ≤ 1125899906842624009) ∨ (x = 1127025806749466624 ∧ 1125899906842624010 ≤ N)) (scale : Int) (hs : scale = 1 ∨ scale = 1000) :
    (if exactB ((N % 1000 : Nat) : Int) (p : Int) 1 (1000 / scale) = true then valV x (p : Int) 1 (1000 / scale) else (0, 8)) = amE (N * 1000 + p) 1 (lastOf scale) := by
  unfold amE valV exactB overB
  rw [Nat.mul_one, Int.mul_one, Int.mul_one, Int.ediv_one]
  rcases hs with rfl | rfl
  · have hl : lastOf 1 = 6 := rfl
    have h6 : 10 ^ 6 = 1000000 := rfl
    have hd : (1000 : Int) / 1 = 1000 := rfl
    rw [hl, h6, hd]
    by_cases h1 : (N * 1000 + p) % 1000000 = 0
    · rw [if_pos (show (decide ((p : Int) % 1000 = 0) && decide (((N % 1000 : Nat) : Int) % 1000 = 0)) = true by simp; omega), if_neg (show ¬ (N * 1000 + p) % 1000000 ≠ 0 from fun h => h h1)]
      rcases hx with ⟨rfl, hx⟩ | ⟨rfl, hx⟩ <;> split <;> (try split) <;> (try split) <;> (try (exfalso; omega)) <;> (try rfl) <;> (refine Prod.ext ?_ rfl; show _ = _; omega)
    · rw [if_neg (show ¬ (decide ((p : Int) % 1000 = 0) && decide (((N % 1000 : Nat) : Int) % 1000 = 0)) = true by simp; omega), if_pos (show (N * 1000 + p) % 1000000 ≠ 0 from h1)]
  · have hl : lastOf 1000 = 3 := rfl
    have h3 : 10 ^ 3 = 1000 := rfl
    have hd : (1000 : Int) / 1000 = 1 := rfl
    rw [hl, h3, hd, Int.emod_one, Int.ediv_one]
    by_cases h1 : (N * 1000 + p) % 1000 = 0
    · rw [if_pos (show (decide ((p : Int) % 1000 = 0) && decide ((0 : Int) = 0)) = true by simp; omega), if_neg (show ¬ (N * 1000 + p) % 1000 ≠ 0 from fun h => h h1)]
      rcases hx with ⟨rfl, hx⟩ | ⟨rfl, hx⟩ <;> split <;> (try split) <;> (try split) <;> (try (exfalso; omega)) <;> (try rfl) <;> (refine Prod.ext ?_ rfl; show _ = _; omega)
    · rw [if_neg (show ¬ (decide ((p : Int) % 1000 = 0) && decide ((0 : Int) = 0)) = true by simp; omega), if_pos (show (N * 1000 + p) % 1000 ≠ 0 from h1)]
end Go.Proofs.YtpajpijkldjmfaaDoor
