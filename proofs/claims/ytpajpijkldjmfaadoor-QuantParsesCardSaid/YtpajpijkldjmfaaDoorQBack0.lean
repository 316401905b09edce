/-
  QuantBack: an amount that is shown is read as it was: the walk.
-/
import Derived.Test.YtpajpijkldjmfaaDoorQnt8
namespace Go.Proofs.YtpajpijkldjmfaaDoor
open Go.RowKit
set_option linter.unusedVariables false

def dgB (m : Nat) : ByteArray := ⟨(Lib.decDigits m).toArray⟩
def isD (c : UInt8) : Prop := 48 ≤ c.toNat ∧ c.toNat ≤ 57
theorem dec_digits (m : Nat) : ∀ c ∈ Lib.decDigits m, isD c := by
  induction m using Nat.strongRecOn with
  | ind m ih =>
    intro c hc
    by_cases h : m < 10
    · rw [dec_one m h] at hc
      obtain rfl := List.mem_singleton.1 hc
      unfold isD
      rw [UInt8.toNat_ofNat']
      omega
    · rw [dec_more m h] at hc
      rcases List.mem_append.1 hc with hc | hc
      · exact ih (m / 10) (by omega) c hc
      · obtain rfl := List.mem_singleton.1 hc
        unfold isD
        rw [UInt8.toNat_ofNat']
        omega
def stepD (d : Int × Int) (c : UInt8) : Int × Int := addD d ((c.toNat : Int) - 48)
theorem dec_fold (m : Nat) (hm : m ≤ 1125899906842624000) : (Lib.decDigits m).foldl stepD (0, 0) = ((m : Int), ((m % 1000 : Nat) : Int)) := by
  induction m using Nat.strongRecOn with
  | ind m ih =>
    by_cases h : m < 10
    · rw [dec_one m h]
      show stepD (0, 0) _ = _
      unfold stepD addD
      rw [UInt8.toNat_ofNat']
      dsimp only
      rw [if_neg (by omega)]
      refine Prod.ext ?_ ?_
      · show (0 : Int) * 10 + _ = _
        omega
      · show ((0 : Int) * 10 + _) % 1000 = _
        omega
    · rw [dec_more m h, List.foldl_append, ih (m / 10) (by omega) (by omega)]
      show stepD _ _ = _
      unfold stepD addD
      rw [UInt8.toNat_ofNat']
      dsimp only
      rw [if_neg (by omega)]
      refine Prod.ext ?_ ?_
      · show ((m / 10 : Nat) : Int) * 10 + _ = _
        omega
      · show (((m / 10 % 1000 : Nat) : Int) * 10 + _) % 1000 = _
        omega
theorem dec_pos (m : Nat) : 0 < (Lib.decDigits m).length := by
  by_cases h : m < 10
  · rw [dec_one m h]
    exact Nat.zero_lt_one
  · rw [dec_more m h, List.length_append]
    show 0 < _ + 1
    omega
theorem intF_run (s : ByteArray) : ∀ (ds : List UInt8) (f i : Nat) (d : Int × Int), (∀ j c, ds[j]? = some c → i + j < s.size ∧ s.get! (i + j) = c ∧ isD c) → ds.length ≤ f → intF s f i d = intF s (f - ds.length) (i + ds.length) (ds.foldl stepD d) := by
  intro ds
  induction ds with
  | nil => intro f i d _ _; rfl
  | cons c ds ih =>
    intro f i d h hf
    obtain ⟨f, rfl⟩ : ∃ g, f = g + 1 := ⟨f - 1, by simp at hf; omega⟩
    obtain ⟨h1, h2, h3⟩ := h 0 c rfl
    rw [Nat.add_zero] at h1 h2
    have hd : digB s i = true := by
      unfold digB
      rw [h2]
      exact decide_eq_true ⟨h1, h3⟩
    rw [intF, hd, if_pos rfl, h2, ih f (i + 1) _ (fun j c' hj => by
      have := h (j + 1) c' (by simpa using hj)
      rw [show i + (j + 1) = i + 1 + j by omega] at this
      exact this) (by simp at hf; omega)]
    rw [List.length_cons, List.foldl_cons, show f + 1 - (ds.length + 1) = f - ds.length by omega, show i + (ds.length + 1) = i + 1 + ds.length by omega]
    rfl
theorem dg_size (m : Nat) : (dgB m).size = (Lib.decDigits m).length := by
  show (Lib.decDigits m).toArray.size = _
  simp
theorem dg_get (m : Nat) (t : ByteArray) (j : Nat) (c : UInt8) (h : (Lib.decDigits m)[j]? = some c) : j < (dgB m ++ t).size ∧ (dgB m ++ t).get! j = c := by
  obtain ⟨hj, rfl⟩ := List.getElem?_eq_some_iff.1 h
  have h1 : j < (dgB m).size := by rw [dg_size]; exact hj
  have h2 : j < (dgB m ++ t).size := by rw [ByteArray.size_append]; omega
  refine ⟨h2, ?_⟩
  rw [get_bang _ _ h2, ByteArray.getElem_append_left h1]
  rfl
/-- What ends digits: nothing, or what is no digit. -/
def endD (t : ByteArray) : Prop := t.size = 0 ∨ (0 < t.size ∧ ¬ isD (t.get! 0) ∧ (t.get! 0).toNat ≠ 46)
theorem dg_int (m : Nat) (hm : m ≤ 1125899906842624000) (t : ByteArray) (ht : endD t) : intV (dgB m ++ t) = (((m : Int), ((m % 1000 : Nat) : Int)), (dgB m).size) := by
  unfold intV
  have hs : (dgB m ++ t).size = (dgB m).size + t.size := ByteArray.size_append
  rw [intF_run (dgB m ++ t) (Lib.decDigits m) _ 0 (0, 0) (fun j c hj => by
    rw [Nat.zero_add]
    obtain ⟨a, b⟩ := dg_get m t j c hj
    exact ⟨a, b, dec_digits m c (List.mem_of_getElem? hj)⟩) (by rw [hs, dg_size]; omega), dec_fold m hm, ← dg_size, Nat.zero_add]
  refine intF_end _ _ _ ?_
  unfold digB
  refine decide_eq_false ?_
  rintro ⟨h1, h2, h3⟩
  rcases ht with ht | ⟨ht, hd, _⟩
  · omega
  · have e : (dgB m ++ t).get! (dgB m).size = t.get! 0 := by
      rw [get_bang _ _ h1, get_bang t 0 ht, ByteArray.getElem_append_right (Nat.le_refl _)]
      simp only [Nat.sub_self]
    rw [e] at h2 h3
    exact hd ⟨h2, h3⟩
theorem dg_ext (m : Nat) (t : ByteArray) : (dgB m ++ t).extract (dgB m).size (dgB m ++ t).size = t := by
  have hs : (dgB m ++ t).size = (dgB m).size + t.size := ByteArray.size_append
  refine ByteArray.ext_getElem ?_ fun i hi hj => ?_
  · rw [ByteArray.size_extract, hs]
    omega
  · rw [ByteArray.getElem_extract, ByteArray.getElem_append_right (Nat.le_add_right _ _)]
    simp only [Nat.add_sub_cancel_left]
theorem dg_num (m : Nat) (hm : m ≤ 1125899906842624000) (t : ByteArray) (ht : endD t) : numP (dgB m ++ t) = (((m : Int), ((m % 1000 : Nat) : Int), 0), t, 0) := by
  unfold numP
  rw [dg_int m hm t ht]
  have h0 : ¬ (dgB m).size = 0 := by
    rw [dg_size]
    have := dec_pos m
    omega
  rw [if_neg h0]
  show tailP _ ((dgB m ++ t).extract (dgB m).size (dgB m ++ t).size) = _
  rw [dg_ext]
  unfold tailP
  rw [if_pos]
  rcases ht with ht | ⟨_, _, h⟩
  · exact .inl (ByteArray.ext (by rw [show emp.data = #[] from rfl]; exact Array.eq_empty_of_size_eq_zero ht))
  · exact .inr h
/-- An amount in digits and a unit, where nothing is divided. -/
theorem dg_sc (m : Nat) (hm : m ≤ 1125899906842624000) (t : ByteArray) (ht : endD t) (fr : Bool) (u scale mm : Int) (hu : uF t = some (fr, u)) (hr : ratV fr u scale = (mm, 1)) (hle : (m : Int) ≤ 1125899906842624 / mm) : scV (dgB m ++ t) scale = overB ((m : Int) * mm) := by
  unfold scV
  rw [dg_num m hm t ht]
  dsimp only
  rw [if_neg (by decide), hu]
  dsimp only
  rw [hr]
  dsimp only
  have he : exactB ((m % 1000 : Nat) : Int) 0 mm 1 = true := by
    unfold exactB
    rw [Int.zero_mul, Int.emod_one]
    rfl
  rw [he, if_pos rfl]
  unfold valV
  rw [Int.ediv_one, if_neg (by omega), Int.zero_mul]
  congr 1
  omega
theorem over_id {n : Int} (h : n ≤ 1125899906842624) : overB n = (n, 0) := if_neg (by omega)

theorem endKi : endD uKi := .inr ⟨by decide, by unfold isD; decide, by decide⟩
theorem endMi : endD uMi := .inr ⟨by decide, by unfold isD; decide, by decide⟩
theorem endGi : endD uGi := .inr ⟨by decide, by unfold isD; decide, by decide⟩
theorem endTi : endD uTi := .inr ⟨by decide, by unfold isD; decide, by decide⟩
theorem endm : endD um := .inr ⟨by decide, by unfold isD; decide, by decide⟩
theorem end0 : endD emp := .inl rfl
theorem itoa_dg {x : Int} (h : 0 ≤ x) : itoaB x = dgB x.toNat := by
  obtain ⟨k, rfl⟩ := Int.eq_ofNat_of_zero_le h
  exact itoa_nat k
theorem dg_emp (m : Nat) : dgB m = dgB m ++ emp := by
  have e : emp = ByteArray.empty := rfl
  rw [e, ByteArray.append_empty]

/-- What is shown is read. -/
theorem show_back {n : Int} (h0 : 0 ≤ n) (h1 : n ≤ 1125899906842624) : scV (showV n) 1 = (n, 0) := by
  have key : ∀ (q u : Int) (t : ByteArray), 0 ≤ q → endD t → uF t = some (false, u) → q * u = n → 1 ≤ u → scV (itoaB q ++ t) 1 = (n, 0) := by
    intro q u t hq ht hu hn hu1
    have hqn : q ≤ n := by
      have := Int.mul_le_mul_of_nonneg_left hu1 hq
      omega
    rw [itoa_dg hq, dg_sc q.toNat (by omega) t ht false u 1 (u * 1) hu rfl (by
      rw [Int.mul_one, Int.toNat_of_nonneg hq]
      exact (Int.le_ediv_iff_mul_le (by omega)).2 (by omega))]
    rw [Int.toNat_of_nonneg hq, Int.mul_one, hn]
    exact over_id h1
  unfold showV
  rw [if_neg (by omega)]
  by_cases hz : n = 0
  · rw [if_pos hz, hz]
    decide +kernel
  rw [if_neg hz]
  by_cases hT : n % 1099511627776 = 0
  · rw [if_pos hT]
    exact key _ 1099511627776 uTi (by omega) endTi (by decide +kernel) (by omega) (by decide)
  rw [if_neg hT]
  by_cases hG : n % 1073741824 = 0
  · rw [if_pos hG]
    exact key _ 1073741824 uGi (by omega) endGi (by decide +kernel) (by omega) (by decide)
  rw [if_neg hG]
  by_cases hM : n % 1048576 = 0
  · rw [if_pos hM]
    exact key _ 1048576 uMi (by omega) endMi (by decide +kernel) (by omega) (by decide)
  rw [if_neg hM]
  by_cases hK : n % 1024 = 0
  · rw [if_pos hK]
    exact key _ 1024 uKi (by omega) endKi (by decide +kernel) (by omega) (by decide)
  rw [if_neg hK]
  have h := key n 1 emp h0 end0 (by decide +kernel) (by omega) (by decide)
  rw [itoa_dg h0, ← dg_emp] at h
  rw [itoa_dg h0]
  exact h
theorem showm_back {n : Int} (h0 : 0 ≤ n) (h1 : n ≤ 1125899906842624) : scV (showM n) 1000 = (n, 0) := by
  unfold showM
  rw [if_neg (by omega)]
  by_cases hz : n % 1000 = 0
  · rw [if_pos hz, itoa_dg (show 0 ≤ n / 1000 by omega), dg_emp, dg_sc (n / 1000).toNat (by omega) emp end0 false 1 1000 1000 (by decide +kernel) (by decide) (by omega)]
    rw [Int.toNat_of_nonneg (by omega), show n / 1000 * 1000 = n by omega]
    exact over_id h1
  · rw [if_neg hz, itoa_dg h0, dg_sc n.toNat (by omega) um endm true 1000 1000 1 (by decide +kernel) (by decide) (by omega)]
    rw [Int.toNat_of_nonneg h0, Int.mul_one]
    exact over_id h1
end Go.Proofs.YtpajpijkldjmfaaDoor
