/-
  Decimal digits.
-/
import Derived.Test.YtmkdfcggjlhcpaaMB
import Derived.Test.YtmkdfcggjlhcpaaMA
import Derived.Lib.ItoaLen
namespace Go.Proofs.Ytmkdfcggjlhcpaa
open Go.RowKit
set_option linter.unusedVariables false
set_option linter.unusedSimpArgs false

def itoaB (n : Int) : ByteArray := ⟨(Lib.itoa n).toArray⟩
theorem itoaB_size (n : Int) (h0 : -9223372036854775808 ≤ n) (h1 : n ≤ 9223372036854775807) : (itoaB n).size ≤ 21 := by
  have := Lib.itoa_length_le n h0 h1
  show (Lib.itoa n).toArray.size ≤ 21
  simpa using this
theorem cat_run (a b : ByteArray) (h : a.size + b.size ≤ 1000000) (w : World) : (Op.stringOp .add a b).run Try.prog w = .ok (.string (a ++ b)) w := run_string_add_sum w a b (by omega)
theorem dec_one (n : Nat) (h : n < 10) : Lib.decDigits n = [UInt8.ofNat (48 + n)] := by rw [Lib.decDigits, dif_pos h]
theorem dec_more (n : Nat) (h : ¬ n < 10) : Lib.decDigits n = Lib.decDigits (n / 10) ++ [UInt8.ofNat (48 + n % 10)] := by rw [Lib.decDigits, dif_neg h]
theorem itoa_nat (n : Nat) : itoaB (n : Int) = ⟨(Lib.decDigits n).toArray⟩ := by
  unfold itoaB Lib.itoa
  rw [if_neg (by omega)]
  rfl
def dgB (m : Nat) : ByteArray := ⟨(Lib.decDigits m).toArray⟩
def isD (c : UInt8) : Prop := 48 ≤ c.toNat ∧ c.toNat ≤ 57
theorem dec_digits (m : Nat) : ∀ c ∈ Lib.decDigits m, isD c := by
  induction m using Nat.strongRecOn with
  | ind m ih =>
    intro c hc
    by_cases h : m < 10
    · rw [dec_one m h] at hc
      obtain rfl := List.mem_singleton.1 hc
      unfold isD
      rw [UInt8.toNat_ofNat']
      omega
    · rw [dec_more m h] at hc
      rcases List.mem_append.1 hc with hc | hc
      · exact ih (m / 10) (by omega) c hc
      · obtain rfl := List.mem_singleton.1 hc
        unfold isD
        rw [UInt8.toNat_ofNat']
        omega
theorem dec_pos (m : Nat) : 0 < (Lib.decDigits m).length := by
  by_cases h : m < 10
  · rw [dec_one m h]
    exact Nat.zero_lt_one
  · rw [dec_more m h, List.length_append]
    show 0 < _ + 1
    omega
theorem dg_size (m : Nat) : (dgB m).size = (Lib.decDigits m).length := by
  show (Lib.decDigits m).toArray.size = _
  simp
theorem itoa_dg {x : Int} (h : 0 ≤ x) : itoaB x = dgB x.toNat := by
  obtain ⟨k, rfl⟩ := Int.eq_ofNat_of_zero_le h
  exact itoa_nat k
def lsB (ds : List UInt8) : ByteArray := ⟨ds.toArray⟩
theorem ls_size (ds : List UInt8) : (lsB ds).size = ds.length := by
  show ds.toArray.size = _
  simp
theorem ls_get (ds : List UInt8) (t : ByteArray) (j : Nat) (c : UInt8) (h : ds[j]? = some c) : j < (lsB ds ++ t).size ∧ (lsB ds ++ t).get! j = c := by
  obtain ⟨hj, rfl⟩ := List.getElem?_eq_some_iff.1 h
  have h1 : j < (lsB ds).size := by rw [ls_size]; exact hj
  have h2 : j < (lsB ds ++ t).size := by rw [ByteArray.size_append]; omega
  refine ⟨h2, ?_⟩
  rw [get_bang _ _ h2, ByteArray.getElem_append_left h1]
  rfl
theorem ls_ext (ds : List UInt8) (t : ByteArray) : (lsB ds ++ t).extract ds.length (lsB ds ++ t).size = t := by
  have hs : (lsB ds ++ t).size = (lsB ds).size + t.size := ByteArray.size_append
  rw [← ls_size]
  refine ByteArray.ext_getElem ?_ fun i hi hj => ?_
  · rw [ByteArray.size_extract, hs]
    omega
  · rw [ByteArray.getElem_extract, ByteArray.getElem_append_right (Nat.le_add_right _ _)]
    simp only [Nat.add_sub_cancel_left]
def numL (l : List UInt8) : Nat := l.foldl (fun a c => a * 10 + (c.toNat - 48)) 0
theorem numL_acc (l : List UInt8) : ∀ x : Nat, l.foldl (fun a c => a * 10 + (c.toNat - 48)) x = x * 10 ^ l.length + numL l := by
  induction l with
  | nil => intro x; simp [numL]
  | cons c l ih =>
    intro x
    unfold numL
    rw [List.foldl_cons, List.foldl_cons, ih, ih (0 * 10 + (c.toNat - 48)), List.length_cons, Nat.pow_succ, Nat.zero_mul, Nat.zero_add, Nat.add_mul, Nat.mul_assoc, Nat.mul_comm 10, Nat.add_assoc]
theorem numL_append (a b : List UInt8) : numL (a ++ b) = numL a * 10 ^ b.length + numL b := by
  unfold numL
  rw [List.foldl_append]
  exact numL_acc b _
theorem numL_cons (c : UInt8) (l : List UInt8) : numL (c :: l) = (c.toNat - 48) * 10 ^ l.length + numL l := by
  show numL ([c] ++ l) = _
  rw [numL_append]
  simp [numL]
theorem numL_snoc (l : List UInt8) (c : UInt8) : numL (l ++ [c]) = numL l * 10 + (c.toNat - 48) := by
  rw [numL_append]
  simp [numL]
def allIs (l : List UInt8) : Prop := ∀ c ∈ l, isD c
theorem numL_lt {l : List UInt8} (h : allIs l) : numL l < 10 ^ l.length := by
  induction l with
  | nil => decide
  | cons c l ih =>
    have h1 := ih (fun x hx => h x (List.mem_cons_of_mem _ hx))
    have h2 := h c (List.mem_cons_self ..)
    unfold isD at h2
    rw [numL_cons, List.length_cons, Nat.pow_succ]
    have h3 : (c.toNat - 48) * 10 ^ l.length ≤ 9 * 10 ^ l.length := Nat.mul_le_mul_right _ (by omega)
    omega
theorem numL_zero {l : List UInt8} (h : allIs l) : numL l = 0 ↔ ∀ c ∈ l, c = 48 := by
  induction l with
  | nil => simp [numL]
  | cons c l ih =>
    have h1 := ih (fun x hx => h x (List.mem_cons_of_mem _ hx))
    have h2 := h c (List.mem_cons_self ..)
    unfold isD at h2
    rw [numL_cons]
    have hp : 0 < 10 ^ l.length := Nat.pow_pos (by decide)
    constructor
    · intro h3 x hx
      have h4 : (c.toNat - 48) * 10 ^ l.length = 0 := by omega
      have h5 : c.toNat - 48 = 0 := by
        rcases Nat.mul_eq_zero.1 h4 with h | h
        · exact h
        · omega
      rcases List.mem_cons.1 hx with rfl | hx
      · exact UInt8.toNat_inj.1 (by show x.toNat = 48; omega)
      · exact h1.1 (by omega) x hx
    · intro h3
      have h4 : c = 48 := h3 c (List.mem_cons_self ..)
      rw [h4, h1.2 (fun x hx => h3 x (List.mem_cons_of_mem _ hx))]
      simp
def decK (k : Nat) : List UInt8 := if k = 0 then [] else Lib.decDigits k
theorem decK_step (k : Nat) (h : 0 < k) : decK k = decK (k / 10) ++ [UInt8.ofNat (48 + k % 10)] := by
  unfold decK
  rw [if_neg (by omega)]
  by_cases h1 : k < 10
  · rw [if_pos (by omega), dec_one k h1, Nat.mod_eq_of_lt h1]
    rfl
  · rw [if_neg (by omega), dec_more k h1]
theorem decK_is (k : Nat) : allIs (decK k) := by
  unfold decK
  split
  · intro c hc; cases hc
  · exact dec_digits k
theorem dig_nat (x : Nat) (h : x < 10) : (UInt8.ofNat (48 + x)).toNat - 48 = x := by
  rw [UInt8.toNat_ofNat']
  omega
theorem dig_is (x : Nat) (h : x < 10) : isD (UInt8.ofNat (48 + x)) := by
  unfold isD
  rw [UInt8.toNat_ofNat']
  omega
theorem decK_num (k : Nat) : numL (decK k) = k := by
  induction k using Nat.strongRecOn with
  | ind k ih =>
    by_cases h : k = 0
    · rw [h]; rfl
    · rw [decK_step k (by omega), numL_snoc, ih (k / 10) (by omega), dig_nat _ (by omega)]
      omega
theorem ls_pre (ds : List UInt8) (t : ByteArray) : (lsB ds ++ t).extract 0 ds.length = lsB ds := by
  have hs : (lsB ds ++ t).size = (lsB ds).size + t.size := ByteArray.size_append
  have h0 := ls_size ds
  refine ByteArray.ext_getElem ?_ fun i hi hj => ?_
  · rw [ByteArray.size_extract, hs]
    omega
  · rw [ByteArray.getElem_extract, ByteArray.getElem_append_left (by omega)]
    simp only [Nat.zero_add]
theorem ls_add (a b : List UInt8) : lsB a ++ lsB b = lsB (a ++ b) := by
  refine ByteArray.ext (Array.toList_inj.1 ?_)
  rw [ByteArray.data_append, Array.toList_append]
  show a.toArray.toList ++ b.toArray.toList = (a ++ b).toArray.toList
  simp
theorem ls_at (l : List UInt8) (k : Nat) (h : k < l.length) : (lsB l).get! k = l[k] := by
  have := (ls_get l (lsB []) k l[k] (List.getElem?_eq_getElem h)).2
  have e2 : lsB l ++ lsB [] = lsB l := ByteArray.append_empty
  rw [e2] at this
  exact this
theorem ls_mid (a b : List UInt8) (t : ByteArray) : (lsB a ++ (lsB b ++ t)).extract a.length (a.length + b.length) = lsB b := by
  have hs : (lsB a ++ (lsB b ++ t)).size = a.length + (b.length + t.size) := by rw [ByteArray.size_append, ByteArray.size_append, ls_size, ls_size]
  have ha := ls_size a
  have hb := ls_size b
  refine ByteArray.ext_getElem ?_ fun i hi hj => ?_
  · rw [ByteArray.size_extract, hs]
    omega
  · rw [ByteArray.getElem_extract, ByteArray.getElem_append_right (by omega), ByteArray.getElem_append_left (by omega)]
    simp only [ha, Nat.add_sub_cancel_left]

/-- Digits that do not begin with a nought are those of their number. -/
theorem dec_of_num : ∀ (l : List UInt8), allIs l → (∃ c r, l = c :: r ∧ c ≠ 48) → Lib.decDigits (numL l) = l ∧ 1 ≤ numL l := by
  have key : ∀ (n : Nat) (l : List UInt8), l.length = n → allIs l → (∃ c r, l = c :: r ∧ c ≠ 48) → Lib.decDigits (numL l) = l ∧ 1 ≤ numL l := by
    intro n
    induction n with
    | zero =>
      intro l hn _ ⟨c, r, e, _⟩
      rw [e] at hn
      cases hn
    | succ n ih =>
      intro l hn hl ⟨c, r, e, hc⟩
      have hne : l ≠ [] := by rw [e]; exact List.cons_ne_nil _ _
      have hs := List.dropLast_concat_getLast hne
      obtain ⟨m, hm⟩ : ∃ m, l.dropLast = m := ⟨_, rfl⟩
      obtain ⟨z, hz⟩ : ∃ z, l.getLast hne = z := ⟨_, rfl⟩
      rw [hm, hz] at hs
      have hzd : isD z := hl z (by rw [← hs]; exact List.mem_append_right _ (List.mem_singleton.2 rfl))
      unfold isD at hzd
      have hzz : UInt8.ofNat (48 + (z.toNat - 48)) = z := UInt8.toNat_inj.1 (by rw [UInt8.toNat_ofNat']; omega)
      rw [← hs, numL_snoc]
      cases m with
      | nil =>
        have hn0 : numL [] = 0 := rfl
        have hz48 : z ≠ 48 := by
          rw [List.nil_append] at hs
          rw [← hs] at e
          cases e
          exact hc
        have h1 : 1 ≤ z.toNat - 48 := by
          rcases Nat.lt_or_ge 48 z.toNat with h | h
          · omega
          · exact absurd (UInt8.toNat_inj.1 (show z.toNat = (48 : UInt8).toNat by show z.toNat = 48; omega)) hz48
        rw [hn0, Nat.zero_mul, Nat.zero_add, dec_one _ (by omega), hzz]
        exact ⟨rfl, h1⟩
      | cons c' m =>
        have hcc : c' = c := by
          rw [← hs] at e
          cases e
          rfl
        obtain ⟨h1, h2⟩ := ih (c' :: m) (by
          have := congrArg List.length hs
          rw [List.length_append, hn] at this
          simpa using this) (fun x hx => hl x (by rw [← hs]; exact List.mem_append_left _ hx)) ⟨c', m, rfl, by rw [hcc]; exact hc⟩
        refine ⟨?_, by omega⟩
        rw [dec_more _ (by omega), show (numL (c' :: m) * 10 + (z.toNat - 48)) / 10 = numL (c' :: m) by omega, show (numL (c' :: m) * 10 + (z.toNat - 48)) % 10 = z.toNat - 48 by omega, h1, hzz]
  intro l hl h
  exact key l.length l rfl hl h
/-- The digits of a number that is not nought do not begin with one. -/
theorem dec_head (k : Nat) (h : 1 ≤ k) : ∃ c r, Lib.decDigits k = c :: r ∧ c ≠ 48 := by
  induction k using Nat.strongRecOn with
  | ind k ih =>
    by_cases h1 : k < 10
    · rw [dec_one k h1]
      refine ⟨_, [], rfl, fun e => ?_⟩
      have := congrArg UInt8.toNat e
      rw [UInt8.toNat_ofNat'] at this
      have e48 : (48 : UInt8).toNat = 48 := rfl
      omega
    · obtain ⟨c, r, e, hc⟩ := ih (k / 10) (by omega) (by omega)
      rw [dec_more k h1, e]
      exact ⟨c, r ++ _, rfl, hc⟩
theorem dec_num (k : Nat) (h : 1 ≤ k) : numL (Lib.decDigits k) = k := by
  have := decK_num k
  unfold decK at this
  rw [if_neg (by omega)] at this
  exact this
theorem decu_more {l m pos b0 b1 b2 b3 c1 c2 c3 : Nat} (hm : l ≤ m) (h1 : pos + 1 < l → c1 = b1) (h2 : pos + 2 < l → c2 = b2) (h3 : pos + 3 < l → c3 = b3) (hp : pos < l) (hb : ¬ ((dec l pos b0 b1 b2 b3).1 = 65533 ∧ (dec l pos b0 b1 b2 b3).2 = 1)) :
    dec m pos b0 c1 c2 c3 = dec l pos b0 b1 b2 b3 ∧ pos + (dec l pos b0 b1 b2 b3).2 ≤ l := by
  by_cases a0 : b0 < 128
  · have e1 : dec m pos b0 c1 c2 c3 = (b0, 1) := by unfold dec; rw [if_pos a0]
    have e2 : dec l pos b0 b1 b2 b3 = (b0, 1) := by unfold dec; rw [if_pos a0]
    rw [e1, e2]
    exact ⟨rfl, hp⟩
  by_cases a1 : b0 / 32 = 6 ∧ pos + 1 < l ∧ b1 / 64 = 2
  · have c1' := h1 a1.2.1
    have q : b0 / 32 = 6 ∧ pos + 1 < m ∧ c1 / 64 = 2 := ⟨a1.1, by omega, by rw [c1']; exact a1.2.2⟩
    have e1 : dec m pos b0 c1 c2 c3 = (if 128 ≤ b0 % 32 * 64 + b1 % 64 then (b0 % 32 * 64 + b1 % 64, 2) else (65533, 1)) := by unfold dec; rw [if_neg a0, if_pos q, c1']
    have e2 : dec l pos b0 b1 b2 b3 = (if 128 ≤ b0 % 32 * 64 + b1 % 64 then (b0 % 32 * 64 + b1 % 64, 2) else (65533, 1)) := by unfold dec; rw [if_neg a0, if_pos a1]
    rw [e1, e2]
    refine ⟨rfl, ?_⟩
    split
    · show pos + 2 ≤ l
      omega
    · show pos + 1 ≤ l
      omega
  by_cases a2 : b0 / 16 = 14 ∧ (pos + 1 < l ∧ b1 / 64 = 2) ∧ pos + 2 < l ∧ b2 / 64 = 2
  · have c1' := h1 a2.2.1.1
    have c2' := h2 a2.2.2.1
    have n1 : ¬ (b0 / 32 = 6 ∧ pos + 1 < m ∧ c1 / 64 = 2) := fun h => by have := h.1; have := a2.1; omega
    have q : b0 / 16 = 14 ∧ (pos + 1 < m ∧ c1 / 64 = 2) ∧ pos + 2 < m ∧ c2 / 64 = 2 := ⟨a2.1, ⟨by omega, by rw [c1']; exact a2.2.1.2⟩, by omega, by rw [c2']; exact a2.2.2.2⟩
    have e : dec m pos b0 c1 c2 c3 = dec l pos b0 b1 b2 b3 := by
      unfold dec
      rw [if_neg a0, if_neg n1, if_pos q, if_neg a0, if_neg a1, if_pos a2, c1', c2']
    refine ⟨e, ?_⟩
    unfold dec
    rw [if_neg a0, if_neg a1, if_pos a2]
    split
    · show pos + 3 ≤ l
      omega
    · show pos + 1 ≤ l
      omega
  by_cases a3 : b0 / 8 = 30 ∧ (pos + 1 < l ∧ b1 / 64 = 2) ∧ (pos + 2 < l ∧ b2 / 64 = 2) ∧ pos + 3 < l ∧ b3 / 64 = 2
  · have c1' := h1 a3.2.1.1
    have c2' := h2 a3.2.2.1.1
    have c3' := h3 a3.2.2.2.1
    have n1 : ¬ (b0 / 32 = 6 ∧ pos + 1 < m ∧ c1 / 64 = 2) := fun h => by have := h.1; have := a3.1; omega
    have n2 : ¬ (b0 / 16 = 14 ∧ (pos + 1 < m ∧ c1 / 64 = 2) ∧ pos + 2 < m ∧ c2 / 64 = 2) := fun h => by have := h.1; have := a3.1; omega
    have q : b0 / 8 = 30 ∧ (pos + 1 < m ∧ c1 / 64 = 2) ∧ (pos + 2 < m ∧ c2 / 64 = 2) ∧ pos + 3 < m ∧ c3 / 64 = 2 := ⟨a3.1, ⟨by omega, by rw [c1']; exact a3.2.1.2⟩, ⟨by omega, by rw [c2']; exact a3.2.2.1.2⟩, by omega, by rw [c3']; exact a3.2.2.2.2⟩
    have e : dec m pos b0 c1 c2 c3 = dec l pos b0 b1 b2 b3 := by
      unfold dec
      rw [if_neg a0, if_neg n1, if_neg n2, if_pos q, if_neg a0, if_neg a1, if_neg a2, if_pos a3, c1', c2', c3']
    refine ⟨e, ?_⟩
    unfold dec
    rw [if_neg a0, if_neg a1, if_neg a2, if_pos a3]
    split
    · show pos + 4 ≤ l
      omega
    · show pos + 1 ≤ l
      omega
  · refine absurd ?_ hb
    unfold dec
    rw [if_neg a0, if_neg a1, if_neg a2, if_neg a3]
    exact ⟨rfl, rfl⟩

theorem app_get_l (s t : ByteArray) (i : Nat) (h : i < s.size) : (s ++ t).get! i = s.get! i := by
  have h2 : i < (s ++ t).size := by rw [ByteArray.size_append]; omega
  rw [get_bang _ _ h2, get_bang _ _ h, ByteArray.getElem_append_left h]
theorem decode_app (s t : ByteArray) (pos : Nat) (hp : pos < s.size) (hb : badAt s pos = false) : Utf8.decode (s ++ t) pos = Utf8.decode s pos ∧ pos + (Utf8.decode s pos).2 ≤ s.size := by
  unfold badAt at hb
  rw [decide_eq_false_iff_not, decode_dec] at hb
  rw [decode_dec, decode_dec, app_get_l s t pos hp]
  exact decu_more (by rw [ByteArray.size_append]; omega) (fun h => by rw [app_get_l s t _ h]) (fun h => by rw [app_get_l s t _ h]) (fun h => by rw [app_get_l s t _ h]) hp hb
theorem bad_app (s t : ByteArray) (pos : Nat) (hp : pos < s.size) (hb : badAt s pos = false) : badAt (s ++ t) pos = false := by
  unfold badAt
  rw [(decode_app s t pos hp hb).1]
  exact hb
theorem wordFrom_le (s : ByteArray) : ∀ f pos n, wordFrom s f pos = some n → n ≤ f
  | 0, pos, n, h => by
    rw [wordFrom] at h
    have := Option.some.inj h
    omega
  | f + 1, pos, n, h => by
    rw [wordFrom] at h
    split at h
    · split at h
      · cases hx : wordFrom s f (pos + (Utf8.decode s pos).2) with
        | none => rw [hx] at h; cases h
        | some k =>
          rw [hx] at h
          have := wordFrom_le s f _ k hx
          simp only [Option.map_some, Option.some.injEq] at h
          omega
      · cases h
    · have := Option.some.inj h
      omega
/-- The scan of a text that begins with a word. -/
theorem word_app (s t : ByteArray) : ∀ f pos n k F, pos ≤ s.size → s.size ≤ pos + f → wordFrom s f pos = some n → WordSt (s ++ t) pos F k → ∃ F', WordSt (s ++ t) s.size F' (k + n)
  | 0, pos, n, k, F, h1, h2, h, hw => by
    rw [wordFrom] at h
    have e1 := Option.some.inj h
    have e2 : pos = s.size := by omega
    subst e2
    exact ⟨F, by rw [← e1]; exact hw⟩
  | f + 1, pos, n, k, F, h1, h2, h, hw => by
    rw [wordFrom] at h
    by_cases hp : pos < s.size
    · rw [if_pos hp] at h
      split at h
      · rename_i hi
        obtain ⟨d1, d2⟩ := decode_app s t pos hp hi.2
        have hp2 : pos < (s ++ t).size := by rw [ByteArray.size_append]; omega
        obtain ⟨F0, rfl⟩ := hw.fuel hp2
        have hs := hw.step hp2 (by rw [d1]; exact hi.1) (bad_app s t pos hp hi.2)
        rw [d1] at hs
        have hwd := Lib.decode_width_pos s pos hp
        cases hx : wordFrom s f (pos + (Utf8.decode s pos).2) with
        | none => rw [hx] at h; cases h
        | some j =>
          rw [hx] at h
          simp only [Option.map_some, Option.some.injEq] at h
          have e1 := h
          obtain ⟨F', hF⟩ := word_app s t f _ j (k + 1) F0 d2 (by omega) hx hs
          exact ⟨F', by rw [← e1, show k + (j + 1) = k + 1 + j by omega]; exact hF⟩
      · cases h
    · rw [if_neg hp] at h
      have e1 := Option.some.inj h
      have e2 : pos = s.size := by omega
      subst e2
      exact ⟨F, by rw [← e1]; exact hw⟩
/-- A sign of ASCII that may stand in a word. -/
def ascW (c : UInt8) : Prop := c.toNat < 128 ∧ inW (c.toNat : Int) = true
theorem asc_step {s : ByteArray} {pos F k : Nat} {c : UInt8} (hp : pos < s.size) (hc : s.get! pos = c) (ha : ascW c) (hw : WordSt s pos F k) : ∃ F', WordSt s (pos + 1) F' (k + 1) := by
  have hd : Utf8.decode s pos = (c.toNat, 1) := by
    rw [decode_dec, hc]
    unfold dec
    rw [if_pos ha.1]
  obtain ⟨F0, rfl⟩ := hw.fuel hp
  have hs := hw.step hp (by rw [hd]; exact ha.2) (by
    unfold badAt
    rw [hd]
    refine decide_eq_false fun h => ?_
    have := h.1
    have := ha.1
    simp only at *
    omega)
  rw [hd] at hs
  exact ⟨F0, hs⟩
theorem asc_run (s : ByteArray) (ds : List UInt8) (hd : ∀ c ∈ ds, ascW c) : ∀ j, j ≤ ds.length → ∀ F k, WordSt (s ++ lsB ds) s.size F k → ∃ F', WordSt (s ++ lsB ds) (s.size + j) F' (k + j)
  | 0, _, F, k, h => ⟨F, h⟩
  | j + 1, hj, F, k, h => by
    obtain ⟨F', h'⟩ := asc_run s ds hd j (by omega) F k h
    have hjl : j < ds.length := by omega
    have h1 : s.size + j < (s ++ lsB ds).size := by rw [ByteArray.size_append, ls_size]; omega
    have hg : (s ++ lsB ds).get! (s.size + j) = ds[j] := by
      rw [get_bang _ _ h1, ByteArray.getElem_append_right (Nat.le_add_right _ _)]
      simp only [Nat.add_sub_cancel_left]
      rfl
    exact asc_step h1 hg (hd _ (List.getElem_mem hjl)) h'
/-- A short word with such signs behind it is a word. -/
theorem word_tail {s : ByteArray} {ds : List UInt8} (hs : wordB s = true) (hd : ∀ c ∈ ds, ascW c) (hn : s.size + ds.length ≤ 64) : wordB (s ++ lsB ds) = true := by
  unfold wordB at hs
  cases hx : wordFrom s s.size 0 with
  | none => rw [hx] at hs; cases hs
  | some n =>
    rw [hx] at hs
    have hn1 : 1 ≤ n ∧ n ≤ 64 := of_decide_eq_true hs
    have hle := wordFrom_le s _ _ _ hx
    obtain ⟨F1, h1⟩ := word_app s (lsB ds) s.size 0 n 0 _ (Nat.zero_le _) (by omega) hx (WordSt.start _)
    obtain ⟨F2, h2⟩ := asc_run s ds hd ds.length (Nat.le_refl _) F1 _ h1
    rw [h2.done (by rw [ByteArray.size_append, ls_size]; omega) (by omega)]
    exact decide_eq_true (by omega)
end Go.Proofs.Ytmkdfcggjlhcpaa
