/-
  QuantUnits: digits with a unit, with a point or without: what they come to.
-/
import Derived.Test.YtpajpijkldjmfaaDoorQDig
namespace Go.Proofs.YtpajpijkldjmfaaDoor
open Go.RowKit
set_option linter.unusedVariables false

def lsB (ds : List UInt8) : ByteArray := ⟨ds.toArray⟩
theorem ls_size (ds : List UInt8) : (lsB ds).size = ds.length := by
  show ds.toArray.size = _
  simp
theorem ls_get (ds : List UInt8) (t : ByteArray) (j : Nat) (c : UInt8) (h : ds[j]? = some c) : j < (lsB ds ++ t).size ∧ (lsB ds ++ t).get! j = c := by
  obtain ⟨hj, rfl⟩ := List.getElem?_eq_some_iff.1 h
  have h1 : j < (lsB ds).size := by rw [ls_size]; exact hj
  have h2 : j < (lsB ds ++ t).size := by rw [ByteArray.size_append]; omega
  refine ⟨h2, ?_⟩
  rw [get_bang _ _ h2, ByteArray.getElem_append_left h1]
  rfl
/-- What ends digits. -/
def endN (t : ByteArray) : Prop := t.size = 0 ∨ (0 < t.size ∧ ¬ isD (t.get! 0))
theorem endD.n {t : ByteArray} (h : endD t) : endN t := h.elim .inl fun h => .inr ⟨h.1, h.2.1⟩
theorem ls_int (ds : List UInt8) (hd : ∀ c ∈ ds, isD c) (t : ByteArray) (ht : endN t) : intV (lsB ds ++ t) = (ds.foldl stepD (0, 0), ds.length) := by
  unfold intV
  have hs : (lsB ds ++ t).size = (lsB ds).size + t.size := ByteArray.size_append
  rw [intF_run (lsB ds ++ t) ds _ 0 (0, 0) (fun j c hj => by
    rw [Nat.zero_add]
    obtain ⟨a, b⟩ := ls_get ds t j c hj
    exact ⟨a, b, hd c (List.mem_of_getElem? hj)⟩) (by rw [hs, ls_size]; omega), ← ls_size, Nat.zero_add]
  refine intF_end _ _ _ ?_
  unfold digB
  refine decide_eq_false ?_
  rintro ⟨h1, h2, h3⟩
  rcases ht with ht | ⟨ht, hn⟩
  · omega
  · have e : (lsB ds ++ t).get! (lsB ds).size = t.get! 0 := by
      rw [get_bang _ _ h1, get_bang t 0 ht, ByteArray.getElem_append_right (Nat.le_refl _)]
      simp only [Nat.sub_self]
    rw [e] at h2 h3
    exact hn ⟨h2, h3⟩
theorem ls_ext (ds : List UInt8) (t : ByteArray) : (lsB ds ++ t).extract ds.length (lsB ds ++ t).size = t := by
  have hs : (lsB ds ++ t).size = (lsB ds).size + t.size := ByteArray.size_append
  rw [← ls_size]
  refine ByteArray.ext_getElem ?_ fun i hi hj => ?_
  · rw [ByteArray.size_extract, hs]
    omega
  · rw [ByteArray.getElem_extract, ByteArray.getElem_append_right (Nat.le_add_right _ _)]
    simp only [Nat.add_sub_cancel_left]

/-- Three digits. -/
def d3 (p : Nat) : List UInt8 := [UInt8.ofNat (48 + p / 100), UInt8.ofNat (48 + p / 10 % 10), UInt8.ofNat (48 + p % 10)]
theorem d3_digits (p : Nat) (hp : p < 1000) : ∀ c ∈ d3 p, isD c := by
  intro c hc
  simp only [d3, List.mem_cons, List.not_mem_nil, or_false] at hc
  unfold isD
  rcases hc with rfl | rfl | rfl <;> (rw [UInt8.toNat_ofNat']; omega)
theorem d3_fold (p : Nat) (hp : p < 1000) : ((d3 p).foldl stepD (0, 0)).1 = (p : Int) := by
  show (stepD (stepD (stepD (0, 0) _) _) _).1 = _
  unfold stepD addD
  rw [UInt8.toNat_ofNat', UInt8.toNat_ofNat', UInt8.toNat_ofNat']
  dsimp only
  repeat rw [if_neg (by omega)]
  omega
/-- The digits of a thousand and more, behind the first. -/
theorem d3_cut (p : Nat) (hp : p < 1000) : (dgB (1000 + p)).size = 4 ∧ (dgB (1000 + p)).extract 1 (dgB (1000 + p)).size = lsB (d3 p) := by
  have e : dgB (1000 + p) = lsB [49] ++ lsB (d3 p) := by
    unfold dgB d3
    rw [dec_more (1000 + p) (by omega), dec_more ((1000 + p) / 10) (by omega), dec_more ((1000 + p) / 10 / 10) (by omega), dec_one ((1000 + p) / 10 / 10 / 10) (by omega),
      show (1000 + p) / 10 / 10 / 10 = 1 by omega, show (1000 + p) / 10 / 10 % 10 = p / 100 by omega, show (1000 + p) / 10 % 10 = p / 10 % 10 by omega, show (1000 + p) % 10 = p % 10 by omega]
    exact ByteArray.ext rfl
  rw [e]
  refine ⟨?_, ls_ext [49] (lsB (d3 p))⟩
  rw [ByteArray.size_append, ls_size, ls_size]
  rfl

theorem dg_ls (m : Nat) : dgB m = lsB (Lib.decDigits m) := rfl
/-- A number with a point and three digits behind it. -/
theorem point_num (m p : Nat) (hm : m ≤ 1125899906842624000) (hp : p < 1000) (t : ByteArray) (ht : endN t) : numP (dgB m ++ (lsB [46] ++ (lsB (d3 p) ++ t))) = (((m : Int), ((m % 1000 : Nat) : Int), (p : Int)), t, 0) := by
  obtain ⟨r, hr⟩ : ∃ r, lsB [46] ++ (lsB (d3 p) ++ t) = r := ⟨_, rfl⟩
  have hr0 : r.get! 0 = 46 := by
    rw [← hr]
    exact (ls_get [46] (lsB (d3 p) ++ t) 0 46 rfl).2
  have hrs : 0 < r.size := by
    rw [← hr]
    exact (ls_get [46] (lsB (d3 p) ++ t) 0 46 rfl).1
  have hre : r.extract 1 r.size = lsB (d3 p) ++ t := by
    rw [← hr]
    exact ls_ext [46] _
  have hrn : endN r := .inr ⟨hrs, by rw [hr0]; unfold isD; decide⟩
  rw [hr]
  unfold numP
  rw [dg_ls, ls_int _ (dec_digits m) r hrn]
  have h0 : ¬ (Lib.decDigits m).length = 0 := by
    have := dec_pos m
    omega
  rw [if_neg h0]
  show tailP _ ((lsB (Lib.decDigits m) ++ r).extract (Lib.decDigits m).length (lsB (Lib.decDigits m) ++ r).size) = _
  rw [ls_ext, dec_fold m hm]
  unfold tailP
  have hne : ¬ (r = emp ∨ (r.get! 0).toNat ≠ 46) := by
    rintro (h | h)
    · rw [h] at hrs
      exact absurd hrs (by decide)
    · rw [hr0] at h
      exact h rfl
  rw [if_neg hne, hre, ls_int _ (d3_digits p hp) t ht]
  have hl : (d3 p).length = 3 := rfl
  rw [if_pos (by show 1 ≤ (d3 p).length ∧ (d3 p).length ≤ 3; rw [hl]; decide)]
  have hx := ls_ext (d3 p) t
  show (((m : Int), ((m % 1000 : Nat) : Int), ((d3 p).foldl stepD (0, 0)).1 * p10 (3 - (d3 p).length)), (lsB (d3 p) ++ t).extract (d3 p).length (lsB (d3 p) ++ t).size, 0) = _
  rw [hx, d3_fold p hp, hl, show p10 (3 - 3) = 1 from rfl, Int.mul_one]

/-- So many of a unit, and thousandths of it. -/
theorem point_sc (m p : Nat) (hm : m ≤ 65535) (hp : p < 1000) (t : ByteArray) (ht : endN t) (u : Int) (hu : uF t = some (false, u)) (hu1 : 1 ≤ u) (hu2 : u ≤ 1048576) :
    scV (dgB m ++ (lsB [46] ++ (lsB (d3 p) ++ t))) 1000 = ((1000 * (m : Int) + (p : Int)) * u, 0) := by
  unfold scV
  rw [point_num m p (by omega) hp t ht]
  dsimp only
  rw [if_neg (by decide), hu]
  dsimp only
  have hr : ratV false u 1000 = (u * 1000, 1) := rfl
  rw [hr]
  dsimp only
  have hpu : (p : Int) * (u * 1000) = ((p : Int) * u) * 1000 := by rw [Int.mul_assoc]
  have he : exactB ((m % 1000 : Nat) : Int) (p : Int) (u * 1000) 1 = true := by
    unfold exactB
    rw [hpu, Int.mul_emod_left, Int.emod_one]
    rfl
  rw [he, if_pos rfl]
  unfold valV
  have hmu : (m : Int) * u ≤ 65535 * 1048576 := Int.mul_le_mul (by omega) hu2 (by omega) (by omega)
  have hpm : (p : Int) * u ≤ 1000 * 1048576 := Int.mul_le_mul (by omega) hu2 (by omega) (by omega)
  have hmu2 : (m : Int) * (u * 1000) = ((m : Int) * u) * 1000 := by rw [Int.mul_assoc]
  have hq : (m : Int) ≤ 1125899906842624 / (u * 1000) := (Int.le_ediv_iff_mul_le (by omega)).2 (by rw [hmu2]; omega)
  rw [Int.ediv_one, if_neg (by omega), hpu, hmu2, Int.mul_ediv_cancel _ (by decide)]
  have e : (1000 * (m : Int) + (p : Int)) * u = (m : Int) * u * 1000 + (p : Int) * u := by rw [Int.add_mul, Int.mul_assoc, Int.mul_comm 1000]
  rw [e]
  exact over_id (by omega)
theorem plain_sc (m : Nat) (hm : m ≤ 65535) (t : ByteArray) (ht : endD t) (u : Int) (hu : uF t = some (false, u)) (hu1 : 1 ≤ u) (hu2 : u ≤ 1048576) : scV (dgB m ++ t) 1 = ((m : Int) * u, 0) := by
  have hmu : (m : Int) * u ≤ 65535 * 1048576 := Int.mul_le_mul (by omega) hu2 (by omega) (by omega)
  rw [dg_sc m (by omega) t ht false u 1 (u * 1) hu rfl (by rw [Int.mul_one]; exact (Int.le_ediv_iff_mul_le (by omega)).2 (by omega)), Int.mul_one]
  exact over_id (by omega)
theorem endk : endD uk := .inr ⟨by decide, by unfold isD; decide, by decide⟩
theorem endM : endD uM := .inr ⟨by decide, by unfold isD; decide, by decide⟩
end Go.Proofs.YtpajpijkldjmfaaDoor
