/-
  Decimal digits, as lists and as texts: plain.
-/
import Derived.Test.YtbomcghjifgfoaaDoorLexP
import Derived.Test.YtbomcghjifgfoaaDoorBase
import Derived.Lib.ItoaLen
namespace Go.Proofs.YtbomcghjifgfoaaDoor
open Go.RowKit
set_option linter.unusedVariables false

def itoaB (n : Int) : ByteArray := ⟨(Lib.itoa n).toArray⟩
theorem itoaB_size (n : Int) (h0 : -9223372036854775808 ≤ n) (h1 : n ≤ 9223372036854775807) : (itoaB n).size ≤ 21 := by
  have := Lib.itoa_length_le n h0 h1
  show (Lib.itoa n).toArray.size ≤ 21
  simpa using this
theorem cat_run (a b : ByteArray) (h : a.size + b.size ≤ 1000000) (w : World) : (Op.stringOp .add a b).run Tryd.prog w = .ok (.string (a ++ b)) w := run_string_add_sum w a b (by omega)
theorem dec_one (n : Nat) (h : n < 10) : Lib.decDigits n = [UInt8.ofNat (48 + n)] := by rw [Lib.decDigits, dif_pos h]
theorem dec_more (n : Nat) (h : ¬ n < 10) : Lib.decDigits n = Lib.decDigits (n / 10) ++ [UInt8.ofNat (48 + n % 10)] := by rw [Lib.decDigits, dif_neg h]
theorem itoa_nat (n : Nat) : itoaB (n : Int) = ⟨(Lib.decDigits n).toArray⟩ := by
  unfold itoaB Lib.itoa
  rw [if_neg (by omega)]
  rfl
def dgB (m : Nat) : ByteArray := ⟨(Lib.decDigits m).toArray⟩
def isD (c : UInt8) : Prop := 48 ≤ c.toNat ∧ c.toNat ≤ 57
theorem dec_digits (m : Nat) : ∀ c ∈ Lib.decDigits m, isD c := by
  induction m using Nat.strongRecOn with
  | ind m ih =>
    intro c hc
    by_cases h : m < 10
    · rw [dec_one m h] at hc
      obtain rfl := List.mem_singleton.1 hc
      unfold isD
      rw [UInt8.toNat_ofNat']
      omega
    · rw [dec_more m h] at hc
      rcases List.mem_append.1 hc with hc | hc
      · exact ih (m / 10) (by omega) c hc
      · obtain rfl := List.mem_singleton.1 hc
        unfold isD
        rw [UInt8.toNat_ofNat']
        omega
theorem dec_pos (m : Nat) : 0 < (Lib.decDigits m).length := by
  by_cases h : m < 10
  · rw [dec_one m h]
    exact Nat.zero_lt_one
  · rw [dec_more m h, List.length_append]
    show 0 < _ + 1
    omega
theorem dg_size (m : Nat) : (dgB m).size = (Lib.decDigits m).length := by
  show (Lib.decDigits m).toArray.size = _
  simp
theorem itoa_dg {x : Int} (h : 0 ≤ x) : itoaB x = dgB x.toNat := by
  obtain ⟨k, rfl⟩ := Int.eq_ofNat_of_zero_le h
  exact itoa_nat k
def lsB (ds : List UInt8) : ByteArray := ⟨ds.toArray⟩
theorem ls_size (ds : List UInt8) : (lsB ds).size = ds.length := by
  show ds.toArray.size = _
  simp
theorem ls_get (ds : List UInt8) (t : ByteArray) (j : Nat) (c : UInt8) (h : ds[j]? = some c) : j < (lsB ds ++ t).size ∧ (lsB ds ++ t).get! j = c := by
  obtain ⟨hj, rfl⟩ := List.getElem?_eq_some_iff.1 h
  have h1 : j < (lsB ds).size := by rw [ls_size]; exact hj
  have h2 : j < (lsB ds ++ t).size := by rw [ByteArray.size_append]; omega
  refine ⟨h2, ?_⟩
  rw [get_bang _ _ h2, ByteArray.getElem_append_left h1]
  rfl
theorem ls_ext (ds : List UInt8) (t : ByteArray) : (lsB ds ++ t).extract ds.length (lsB ds ++ t).size = t := by
  have hs : (lsB ds ++ t).size = (lsB ds).size + t.size := ByteArray.size_append
  rw [← ls_size]
  refine ByteArray.ext_getElem ?_ fun i hi hj => ?_
  · rw [ByteArray.size_extract, hs]
    omega
  · rw [ByteArray.getElem_extract, ByteArray.getElem_append_right (Nat.le_add_right _ _)]
    simp only [Nat.add_sub_cancel_left]
def numL (l : List UInt8) : Nat := l.foldl (fun a c => a * 10 + (c.toNat - 48)) 0
theorem numL_acc (l : List UInt8) : ∀ x : Nat, l.foldl (fun a c => a * 10 + (c.toNat - 48)) x = x * 10 ^ l.length + numL l := by
  induction l with
  | nil => intro x; simp [numL]
  | cons c l ih =>
    intro x
    unfold numL
    rw [List.foldl_cons, List.foldl_cons, ih, ih (0 * 10 + (c.toNat - 48)), List.length_cons, Nat.pow_succ, Nat.zero_mul, Nat.zero_add, Nat.add_mul, Nat.mul_assoc, Nat.mul_comm 10, Nat.add_assoc]
theorem numL_append (a b : List UInt8) : numL (a ++ b) = numL a * 10 ^ b.length + numL b := by
  unfold numL
  rw [List.foldl_append]
  exact numL_acc b _
theorem numL_cons (c : UInt8) (l : List UInt8) : numL (c :: l) = (c.toNat - 48) * 10 ^ l.length + numL l := by
  show numL ([c] ++ l) = _
  rw [numL_append]
  simp [numL]
theorem numL_snoc (l : List UInt8) (c : UInt8) : numL (l ++ [c]) = numL l * 10 + (c.toNat - 48) := by
  rw [numL_append]
  simp [numL]
def allIs (l : List UInt8) : Prop := ∀ c ∈ l, isD c
theorem numL_lt {l : List UInt8} (h : allIs l) : numL l < 10 ^ l.length := by
  induction l with
  | nil => decide
  | cons c l ih =>
    have h1 := ih (fun x hx => h x (List.mem_cons_of_mem _ hx))
    have h2 := h c (List.mem_cons_self ..)
    unfold isD at h2
    rw [numL_cons, List.length_cons, Nat.pow_succ]
    have h3 : (c.toNat - 48) * 10 ^ l.length ≤ 9 * 10 ^ l.length := Nat.mul_le_mul_right _ (by omega)
    omega
theorem numL_zero {l : List UInt8} (h : allIs l) : numL l = 0 ↔ ∀ c ∈ l, c = 48 := by
  induction l with
  | nil => simp [numL]
  | cons c l ih =>
    have h1 := ih (fun x hx => h x (List.mem_cons_of_mem _ hx))
    have h2 := h c (List.mem_cons_self ..)
    unfold isD at h2
    rw [numL_cons]
    have hp : 0 < 10 ^ l.length := Nat.pow_pos (by decide)
    constructor
    · intro h3 x hx
      have h4 : (c.toNat - 48) * 10 ^ l.length = 0 := by omega
      have h5 : c.toNat - 48 = 0 := by
        rcases Nat.mul_eq_zero.1 h4 with h | h
        · exact h
        · omega
      rcases List.mem_cons.1 hx with rfl | hx
      · exact UInt8.toNat_inj.1 (by show x.toNat = 48; omega)
      · exact h1.1 (by omega) x hx
    · intro h3
      have h4 : c = 48 := h3 c (List.mem_cons_self ..)
      rw [h4, h1.2 (fun x hx => h3 x (List.mem_cons_of_mem _ hx))]
      simp
def decK (k : Nat) : List UInt8 := if k = 0 then [] else Lib.decDigits k
theorem decK_step (k : Nat) (h : 0 < k) : decK k = decK (k / 10) ++ [UInt8.ofNat (48 + k % 10)] := by
  unfold decK
  rw [if_neg (by omega)]
  by_cases h1 : k < 10
  · rw [if_pos (by omega), dec_one k h1, Nat.mod_eq_of_lt h1]
    rfl
  · rw [if_neg (by omega), dec_more k h1]
theorem decK_is (k : Nat) : allIs (decK k) := by
  unfold decK
  split
  · intro c hc; cases hc
  · exact dec_digits k
theorem dig_nat (x : Nat) (h : x < 10) : (UInt8.ofNat (48 + x)).toNat - 48 = x := by
  rw [UInt8.toNat_ofNat']
  omega
theorem dig_is (x : Nat) (h : x < 10) : isD (UInt8.ofNat (48 + x)) := by
  unfold isD
  rw [UInt8.toNat_ofNat']
  omega
theorem decK_num (k : Nat) : numL (decK k) = k := by
  induction k using Nat.strongRecOn with
  | ind k ih =>
    by_cases h : k = 0
    · rw [h]; rfl
    · rw [decK_step k (by omega), numL_snoc, ih (k / 10) (by omega), dig_nat _ (by omega)]
      omega
theorem ls_pre (ds : List UInt8) (t : ByteArray) : (lsB ds ++ t).extract 0 ds.length = lsB ds := by
  have hs : (lsB ds ++ t).size = (lsB ds).size + t.size := ByteArray.size_append
  have h0 := ls_size ds
  refine ByteArray.ext_getElem ?_ fun i hi hj => ?_
  · rw [ByteArray.size_extract, hs]
    omega
  · rw [ByteArray.getElem_extract, ByteArray.getElem_append_left (by omega)]
    simp only [Nat.zero_add]
theorem ls_add (a b : List UInt8) : lsB a ++ lsB b = lsB (a ++ b) := by
  refine ByteArray.ext (Array.toList_inj.1 ?_)
  rw [ByteArray.data_append, Array.toList_append]
  show a.toArray.toList ++ b.toArray.toList = (a ++ b).toArray.toList
  simp
theorem ls_at (l : List UInt8) (k : Nat) (h : k < l.length) : (lsB l).get! k = l[k] := by
  have := (ls_get l (lsB []) k l[k] (List.getElem?_eq_getElem h)).2
  have e2 : lsB l ++ lsB [] = lsB l := ByteArray.append_empty
  rw [e2] at this
  exact this
theorem ls_mid (a b : List UInt8) (t : ByteArray) : (lsB a ++ (lsB b ++ t)).extract a.length (a.length + b.length) = lsB b := by
  have hs : (lsB a ++ (lsB b ++ t)).size = a.length + (b.length + t.size) := by rw [ByteArray.size_append, ByteArray.size_append, ls_size, ls_size]
  have ha := ls_size a
  have hb := ls_size b
  refine ByteArray.ext_getElem ?_ fun i hi hj => ?_
  · rw [ByteArray.size_extract, hs]
    omega
  · rw [ByteArray.getElem_extract, ByteArray.getElem_append_right (by omega), ByteArray.getElem_append_left (by omega)]
    simp only [ha, Nat.add_sub_cancel_left]

/-- Digits that do not begin with a nought are those of their number. -/
theorem dec_of_num : ∀ (l : List UInt8), allIs l → (∃ c r, l = c :: r ∧ c ≠ 48) → Lib.decDigits (numL l) = l ∧ 1 ≤ numL l := by
  have key : ∀ (n : Nat) (l : List UInt8), l.length = n → allIs l → (∃ c r, l = c :: r ∧ c ≠ 48) → Lib.decDigits (numL l) = l ∧ 1 ≤ numL l := by
    intro n
    induction n with
    | zero =>
      intro l hn _ ⟨c, r, e, _⟩
      rw [e] at hn
      cases hn
    | succ n ih =>
      intro l hn hl ⟨c, r, e, hc⟩
      have hne : l ≠ [] := by rw [e]; exact List.cons_ne_nil _ _
      have hs := List.dropLast_concat_getLast hne
      obtain ⟨m, hm⟩ : ∃ m, l.dropLast = m := ⟨_, rfl⟩
      obtain ⟨z, hz⟩ : ∃ z, l.getLast hne = z := ⟨_, rfl⟩
      rw [hm, hz] at hs
      have hzd : isD z := hl z (by rw [← hs]; exact List.mem_append_right _ (List.mem_singleton.2 rfl))
      unfold isD at hzd
      have hzz : UInt8.ofNat (48 + (z.toNat - 48)) = z := UInt8.toNat_inj.1 (by rw [UInt8.toNat_ofNat']; omega)
      rw [← hs, numL_snoc]
      cases m with
      | nil =>
        have hn0 : numL [] = 0 := rfl
        have hz48 : z ≠ 48 := by
          rw [List.nil_append] at hs
          rw [← hs] at e
          cases e
          exact hc
        have h1 : 1 ≤ z.toNat - 48 := by
          rcases Nat.lt_or_ge 48 z.toNat with h | h
          · omega
          · exact absurd (UInt8.toNat_inj.1 (show z.toNat = (48 : UInt8).toNat by show z.toNat = 48; omega)) hz48
        rw [hn0, Nat.zero_mul, Nat.zero_add, dec_one _ (by omega), hzz]
        exact ⟨rfl, h1⟩
      | cons c' m =>
        have hcc : c' = c := by
          rw [← hs] at e
          cases e
          rfl
        obtain ⟨h1, h2⟩ := ih (c' :: m) (by
          have := congrArg List.length hs
          rw [List.length_append, hn] at this
          simpa using this) (fun x hx => hl x (by rw [← hs]; exact List.mem_append_left _ hx)) ⟨c', m, rfl, by rw [hcc]; exact hc⟩
        refine ⟨?_, by omega⟩
        rw [dec_more _ (by omega), show (numL (c' :: m) * 10 + (z.toNat - 48)) / 10 = numL (c' :: m) by omega, show (numL (c' :: m) * 10 + (z.toNat - 48)) % 10 = z.toNat - 48 by omega, h1, hzz]
  intro l hl h
  exact key l.length l rfl hl h
/-- The digits of a number that is not nought do not begin with one. -/
theorem dec_head (k : Nat) (h : 1 ≤ k) : ∃ c r, Lib.decDigits k = c :: r ∧ c ≠ 48 := by
  induction k using Nat.strongRecOn with
  | ind k ih =>
    by_cases h1 : k < 10
    · rw [dec_one k h1]
      refine ⟨_, [], rfl, fun e => ?_⟩
      have := congrArg UInt8.toNat e
      rw [UInt8.toNat_ofNat'] at this
      have e48 : (48 : UInt8).toNat = 48 := rfl
      omega
    · obtain ⟨c, r, e, hc⟩ := ih (k / 10) (by omega) (by omega)
      rw [dec_more k h1, e]
      exact ⟨c, r ++ _, rfl, hc⟩
theorem dec_num (k : Nat) (h : 1 ≤ k) : numL (Lib.decDigits k) = k := by
  have := decK_num k
  unfold decK at this
  rw [if_neg (by omega)] at this
  exact this
end Go.Proofs.YtbomcghjifgfoaaDoor
