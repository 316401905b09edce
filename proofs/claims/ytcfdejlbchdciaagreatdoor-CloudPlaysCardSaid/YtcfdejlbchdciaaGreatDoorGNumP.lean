/-
  The number of a machine's name: plain.
-/
import Derived.Test.YtcfdejlbchdciaaGreatDoorGMach
namespace Go.Proofs.YtcfdejlbchdciaaGreatDoor
open Go.RowKit
set_option linter.unusedVariables false
set_option linter.unusedSimpArgs false

def isDb (c : UInt8) : Bool := decide (48 ≤ c.toNat ∧ c.toNat ≤ 57)
/-- What a name's rest tells. -/
def numR (l : List UInt8) : Nat := if l.length ≤ 9 ∧ l.all isDb = true ∧ l.head? ≠ some 48 then numL l else 0
theorem numR_long {l : List UInt8} (h : 9 < l.length) : numR l = 0 := if_neg fun ⟨h1, _⟩ => by omega
theorem numR_bad {l : List UInt8} {k : Nat} {c : UInt8} (hc : l[k]? = some c) (h : isDb c = false) : numR l = 0 := if_neg fun ⟨_, h1, _⟩ => by
  rw [List.all_eq_true] at h1
  rw [h1 c (List.mem_of_getElem? hc)] at h
  cases h
theorem numR_zero {l : List UInt8} (hc : l[0]? = some 48) : numR l = 0 := if_neg fun ⟨_, _, h1⟩ => by
  cases l with
  | nil => cases hc
  | cons x r => exact h1 (by simpa using hc)
theorem numR_ok {l : List UInt8} {n : Nat} (hn : l.length = n) (h1 : n ≤ 9) (h2 : (l.take n).all isDb = true) (h3 : 0 < n → l[0]? ≠ some 48) : numR l = numL (l.take n) := by
  rw [← hn, List.take_length] at h2 ⊢
  refine if_pos ⟨by omega, h2, ?_⟩
  cases l with
  | nil => intro h; cases h
  | cons x r =>
    intro h
    exact h3 (by rw [← hn]; simp) (by simpa using h)
theorem isDb_all {l : List UInt8} (h : l.all isDb = true) : allIs l := fun c hc => by
  have := List.all_eq_true.1 h c hc
  unfold isDb at this
  rw [decide_eq_true_eq] at this
  exact this
theorem numL_take {l : List UInt8} {k : Nat} {c : UInt8} (hc : l[k]? = some c) : numL (l.take (k + 1)) = numL (l.take k) * 10 + (c.toNat - 48) := by
  rw [take_at hc, numL_snoc]
theorem numL_small {l : List UInt8} {k : Nat} (hk : k ≤ 8) (h : (l.take k).all isDb = true) : numL (l.take k) < 100000000 := by
  have h1 := numL_lt (isDb_all h)
  have h2 : (l.take k).length ≤ 8 := Nat.le_trans (List.length_take_le _ _) hk
  have h3 : 10 ^ (l.take k).length ≤ 10 ^ 8 := Nat.pow_le_pow_right (by decide) h2
  omega
theorem numL_posK {l : List UInt8} {k : Nat} (hk : 0 < k) (hl : k ≤ l.length) (h : (l.take k).all isDb = true) (h0 : l[0]? ≠ some 48) : 1 ≤ numL (l.take k) := by
  refine Nat.pos_of_ne_zero fun hz => ?_
  have := (numL_zero (isDb_all h)).1 hz
  cases l with
  | nil => simp at hl; omega
  | cons x r =>
    obtain ⟨k, rfl⟩ : ∃ j, k = j + 1 := ⟨k - 1, by omega⟩
    rw [List.take_succ_cons] at this
    exact h0 (by rw [this x List.mem_cons_self]; rfl)
/-- A number whose name it is. -/
theorem back_num {l : List UInt8} (h9 : l.length ≤ 9) (hl : 0 < l.length) (h : l.all isDb = true) : (numL l < 1 ∧ numR l = 0) ∨ (1 ≤ numL l ∧ numL l ≤ 999999999 ∧ Lib.decDigits (numL l) ≠ l ∧ numR l = 0) ∨ (1 ≤ numL l ∧ numL l ≤ 999999999 ∧ Lib.decDigits (numL l) = l ∧ numR l = numL l) := by
  have h1 := numL_lt (isDb_all h)
  have h3 : 10 ^ l.length ≤ 10 ^ 9 := Nat.pow_le_pow_right (by decide) h9
  have h4 : numL l ≤ 999999999 := by omega
  by_cases h0 : l.head? = some 48
  · have hz : numR l = 0 := if_neg fun ⟨_, _, h1⟩ => h1 h0
    by_cases hp : numL l < 1
    · exact .inl ⟨hp, hz⟩
    · refine .inr (.inl ⟨by omega, h4, fun e => ?_, hz⟩)
      obtain ⟨c, r, e2, hc⟩ := dec_head (numL l) (by omega)
      rw [e] at e2
      rw [e2] at h0
      exact hc (by simpa using h0)
  · have hz : numR l = numL l := if_pos ⟨h9, h, h0⟩
    cases l with
    | nil => simp at hl
    | cons x r =>
      have hd := dec_of_num (x :: r) (isDb_all h) ⟨x, r, rfl, fun e => h0 (by rw [e]; rfl)⟩
      exact .inr (.inr ⟨hd.2, h4, hd.1, hz⟩)
/-- Whether a text begins so. -/
def hasP (s p : ByteArray) : Bool := decide (p.size ≤ s.size ∧ s.extract 0 p.size = p)
/-- The number in a group of a machine of that name. -/
def numG (nm name : ByteArray) : Nat := if hasP name (nm ++ dash) then numR (name.extract (nm ++ dash).size name.size).data.toList else 0
theorem app_get (P : ByteArray) (l : List UInt8) (j : Nat) (h : j < l.length) : P.size + j < (P ++ lsB l).size ∧ (P ++ lsB l).get! (P.size + j) = l[j] := by
  have h1 : P.size + j < (P ++ lsB l).size := by rw [ByteArray.size_append, ls_size]; omega
  refine ⟨h1, ?_⟩
  rw [get_bang _ _ h1, ByteArray.getElem_append_right (Nat.le_add_right _ _)]
  simp only [Nat.add_sub_cancel_left]
  rfl
theorem app_ext (P : ByteArray) (t : ByteArray) : (P ++ t).extract 0 P.size = P ∧ (P ++ t).extract P.size (P ++ t).size = t := by
  have e : P = lsB P.data.toList := rfl
  rw [e]
  have h1 := ls_pre P.data.toList t
  have h2 := ls_ext P.data.toList t
  rw [← ls_size] at h1 h2
  exact ⟨h1, h2⟩
theorem hasP_iff (s p : ByteArray) : hasP s p = true ↔ ∃ l, s = p ++ lsB l := by
  unfold hasP
  rw [decide_eq_true_eq]
  constructor
  · rintro ⟨h1, h2⟩
    refine ⟨(s.extract p.size s.size).data.toList, ?_⟩
    show s = p ++ (s.extract p.size s.size)
    rw [← h2]
    refine ByteArray.ext_getElem ?_ fun i hi hj => ?_
    · rw [ByteArray.size_append, h2, ByteArray.size_extract]
      omega
    · by_cases hp : i < p.size
      · rw [ByteArray.getElem_append_left (by rw [h2]; exact hp), ByteArray.getElem_extract]
        simp only [Nat.zero_add]
      · rw [ByteArray.getElem_append_right (by rw [h2]; omega), ByteArray.getElem_extract]
        congr 1
        rw [h2]
        omega
  · rintro ⟨l, rfl⟩
    exact ⟨by rw [ByteArray.size_append]; omega, (app_ext p (lsB l)).1⟩
theorem numG_yes (nm : ByteArray) (l : List UInt8) : numG nm ((nm ++ dash) ++ lsB l) = numR l := by
  unfold numG
  rw [if_pos ((hasP_iff _ _).2 ⟨l, rfl⟩), (app_ext (nm ++ dash) (lsB l)).2]
  congr 1
theorem numG_no {nm name : ByteArray} (h : hasP name (nm ++ dash) = false) : numG nm name = 0 := if_neg (by rw [h]; decide)
end Go.Proofs.YtcfdejlbchdciaaGreatDoor
