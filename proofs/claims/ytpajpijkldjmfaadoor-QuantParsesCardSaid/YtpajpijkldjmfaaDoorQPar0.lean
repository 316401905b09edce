/-
  QuantParses: the document's long multiplication, as lists of digits.
-/
import Derived.Test.YtpajpijkldjmfaaDoorQUnit0
import Derived.Test.YtpajpijkldjmfaaDoorQRef2
namespace Go.Proofs.YtpajpijkldjmfaaDoor
open Go.RowKit
set_option linter.unusedVariables false

def numL (l : List UInt8) : Nat := l.foldl (fun a c => a * 10 + (c.toNat - 48)) 0
theorem numL_acc (l : List UInt8) : ∀ x : Nat, l.foldl (fun a c => a * 10 + (c.toNat - 48)) x = x * 10 ^ l.length + numL l := by
  induction l with
  | nil => intro x; simp [numL]
  | cons c l ih =>
    intro x
    unfold numL
    rw [List.foldl_cons, List.foldl_cons, ih, ih (0 * 10 + (c.toNat - 48)), List.length_cons, Nat.pow_succ, Nat.zero_mul, Nat.zero_add, Nat.add_mul, Nat.mul_assoc, Nat.mul_comm 10, Nat.add_assoc]
theorem numL_append (a b : List UInt8) : numL (a ++ b) = numL a * 10 ^ b.length + numL b := by
  unfold numL
  rw [List.foldl_append]
  exact numL_acc b _
theorem numL_cons (c : UInt8) (l : List UInt8) : numL (c :: l) = (c.toNat - 48) * 10 ^ l.length + numL l := by
  show numL ([c] ++ l) = _
  rw [numL_append]
  simp [numL]
theorem numL_snoc (l : List UInt8) (c : UInt8) : numL (l ++ [c]) = numL l * 10 + (c.toNat - 48) := by
  rw [numL_append]
  simp [numL]
def allIs (l : List UInt8) : Prop := ∀ c ∈ l, isD c
theorem numL_lt {l : List UInt8} (h : allIs l) : numL l < 10 ^ l.length := by
  induction l with
  | nil => decide
  | cons c l ih =>
    have h1 := ih (fun x hx => h x (List.mem_cons_of_mem _ hx))
    have h2 := h c (List.mem_cons_self ..)
    unfold isD at h2
    rw [numL_cons, List.length_cons, Nat.pow_succ]
    have h3 : (c.toNat - 48) * 10 ^ l.length ≤ 9 * 10 ^ l.length := Nat.mul_le_mul_right _ (by omega)
    omega
theorem numL_zero {l : List UInt8} (h : allIs l) : numL l = 0 ↔ ∀ c ∈ l, c = 48 := by
  induction l with
  | nil => simp [numL]
  | cons c l ih =>
    have h1 := ih (fun x hx => h x (List.mem_cons_of_mem _ hx))
    have h2 := h c (List.mem_cons_self ..)
    unfold isD at h2
    rw [numL_cons]
    have hp : 0 < 10 ^ l.length := Nat.pow_pos (by decide)
    constructor
    · intro h3 x hx
      have h4 : (c.toNat - 48) * 10 ^ l.length = 0 := by omega
      have h5 : c.toNat - 48 = 0 := by
        rcases Nat.mul_eq_zero.1 h4 with h | h
        · exact h
        · omega
      rcases List.mem_cons.1 hx with rfl | hx
      · exact UInt8.toNat_inj.1 (by show x.toNat = 48; omega)
      · exact h1.1 (by omega) x hx
    · intro h3
      have h4 : c = 48 := h3 c (List.mem_cons_self ..)
      rw [h4, h1.2 (fun x hx => h3 x (List.mem_cons_of_mem _ hx))]
      simp
/-- The digits of a number: none of nought. -/
def decK (k : Nat) : List UInt8 := if k = 0 then [] else Lib.decDigits k
theorem decK_step (k : Nat) (h : 0 < k) : decK k = decK (k / 10) ++ [UInt8.ofNat (48 + k % 10)] := by
  unfold decK
  rw [if_neg (by omega)]
  by_cases h1 : k < 10
  · rw [if_pos (by omega), dec_one k h1, Nat.mod_eq_of_lt h1]
    rfl
  · rw [if_neg (by omega), dec_more k h1]
theorem decK_is (k : Nat) : allIs (decK k) := by
  unfold decK
  split
  · intro c hc; cases hc
  · exact dec_digits k
theorem dig_nat (x : Nat) (h : x < 10) : (UInt8.ofNat (48 + x)).toNat - 48 = x := by
  rw [UInt8.toNat_ofNat']
  omega
theorem dig_is (x : Nat) (h : x < 10) : isD (UInt8.ofNat (48 + x)) := by
  unfold isD
  rw [UInt8.toNat_ofNat']
  omega
theorem decK_num (k : Nat) : numL (decK k) = k := by
  induction k using Nat.strongRecOn with
  | ind k ih =>
    by_cases h : k = 0
    · rw [h]; rfl
    · rw [decK_step k (by omega), numL_snoc, ih (k / 10) (by omega), dig_nat _ (by omega)]
      omega
theorem decK_len (k : Nat) (h : k ≤ 9223372036854775807) : (decK k).length ≤ 21 := by
  unfold decK
  split
  · decide
  · have h2 := itoaB_size (k : Int) (by omega) (by omega)
    rw [itoa_nat] at h2
    have h3 : (⟨(Lib.decDigits k).toArray⟩ : ByteArray).size = (Lib.decDigits k).length := dg_size k
    omega

/-- Digits, the last one first, times a number, and what is carried: the digits ahead of what is there. -/
def prodE (u : Nat) : List UInt8 → Nat → List UInt8 → List UInt8
  | [], k, out => decK k ++ out
  | c :: rs, k, out => prodE u rs ((k + (c.toNat - 48) * u) / 10) (UInt8.ofNat (48 + (k + (c.toNat - 48) * u) % 10) :: out)
theorem prodE_nil (u k : Nat) (out : List UInt8) (h : 0 < k) : prodE u [] k out = prodE u [] (k / 10) (UInt8.ofNat (48 + k % 10) :: out) := by
  rw [prodE, prodE, decK_step k h, List.append_assoc]
  rfl
theorem prodE_num (u : Nat) (rs : List UInt8) : ∀ (k : Nat) (out : List UInt8), numL (prodE u rs k out) = (numL rs.reverse * u + k) * 10 ^ out.length + numL out := by
  induction rs with
  | nil =>
    intro k out
    rw [prodE, numL_append, decK_num]
    simp [numL]
  | cons c rs ih =>
    intro k out
    rw [prodE, ih, numL_cons, List.length_cons, Nat.pow_succ, List.reverse_cons, numL_snoc, dig_nat _ (Nat.mod_lt _ (by decide))]
    obtain ⟨t, ht⟩ : ∃ t, k + (c.toNat - 48) * u = t := ⟨_, rfl⟩
    obtain ⟨p, hp⟩ : ∃ p, 10 ^ out.length = p := ⟨_, rfl⟩
    obtain ⟨n, hn⟩ : ∃ n, numL rs.reverse = n := ⟨_, rfl⟩
    rw [ht, hp, hn]
    have e1 : (n * 10 + (c.toNat - 48)) * u + k = n * u * 10 + t := by
      rw [Nat.add_mul, Nat.mul_right_comm]
      omega
    rw [e1]
    have e2 : (n * u + t / 10) * (p * 10) = (n * u * 10 + t / 10 * 10) * p := by
      rw [Nat.mul_comm p 10, ← Nat.mul_assoc, Nat.add_mul (n * u)]
    rw [e2, ← Nat.add_assoc, ← Nat.add_mul]
    congr 2
    omega
theorem prodE_is (u : Nat) (rs : List UInt8) : ∀ (k : Nat) (out : List UInt8), allIs out → allIs (prodE u rs k out) := by
  induction rs with
  | nil =>
    intro k out h c hc
    rcases List.mem_append.1 hc with hc | hc
    · exact decK_is k c hc
    · exact h c hc
  | cons c rs ih =>
    intro k out h
    refine ih _ _ fun x hx => ?_
    rcases List.mem_cons.1 hx with rfl | hx
    · exact dig_is _ (Nat.mod_lt _ (by decide))
    · exact h x hx
theorem prodE_ge (u : Nat) (rs : List UInt8) : ∀ (k : Nat) (out : List UInt8), out.length ≤ (prodE u rs k out).length := by
  induction rs with
  | nil =>
    intro k out
    rw [prodE, List.length_append]
    omega
  | cons c rs ih =>
    intro k out
    have := ih ((k + (c.toNat - 48) * u) / 10) (UInt8.ofNat (48 + (k + (c.toNat - 48) * u) % 10) :: out)
    rw [List.length_cons] at this
    rw [prodE]
    omega
theorem prod_step {u k : Nat} {c : UInt8} (hu : u ≤ 1099511627776000) (hk : k ≤ 10000000000000000) (hc : isD c) : (k + (c.toNat - 48) * u) / 10 ≤ 10000000000000000 ∧ k + (c.toNat - 48) * u ≤ 100000000000000000 ∧ (c.toNat - 48) * u ≤ 9900000000000000 := by
  unfold isD at hc
  have h : (c.toNat - 48) * u ≤ 9 * 1099511627776000 := Nat.mul_le_mul (by omega) hu
  omega
theorem prodE_le (u : Nat) (hu : u ≤ 1099511627776000) (rs : List UInt8) : ∀ (k : Nat) (out : List UInt8), k ≤ 10000000000000000 → allIs rs → (prodE u rs k out).length ≤ rs.length + 21 + out.length := by
  induction rs with
  | nil =>
    intro k out h _
    rw [prodE, List.length_append]
    have := decK_len k (by omega)
    simp
    omega
  | cons c rs ih =>
    intro k out h hrs
    have h1 := prod_step hu h (hrs c (List.mem_cons_self ..))
    have := ih ((k + (c.toNat - 48) * u) / 10) (UInt8.ofNat (48 + (k + (c.toNat - 48) * u) % 10) :: out) h1.1 (fun x hx => hrs x (List.mem_cons_of_mem _ hx))
    rw [List.length_cons] at this
    rw [prodE, List.length_cons]
    omega

/-- What the program's digits come to. -/
theorem fold_sat (l : List UInt8) (h : allIs l) : (((l.foldl stepD (0, 0)).1 = (numL l : Int) ∧ numL l ≤ 1125899906842624009) ∨ ((l.foldl stepD (0, 0)).1 = 1127025806749466624 ∧ 1125899906842624010 ≤ numL l)) ∧ (l.foldl stepD (0, 0)).2 = ((numL l % 1000 : Nat) : Int) := by
  have key : ∀ (l : List UInt8), allIs l → ∀ (d : Int × Int) (n : Nat), ((d.1 = (n : Int) ∧ n ≤ 1125899906842624009) ∨ (d.1 = 1127025806749466624 ∧ 1125899906842624010 ≤ n)) → d.2 = ((n % 1000 : Nat) : Int) →
      (((l.foldl stepD d).1 = (l.foldl (fun a c => a * 10 + (c.toNat - 48)) n : Nat) ∧ l.foldl (fun a c => a * 10 + (c.toNat - 48)) n ≤ 1125899906842624009) ∨ ((l.foldl stepD d).1 = 1127025806749466624 ∧ 1125899906842624010 ≤ l.foldl (fun a c => a * 10 + (c.toNat - 48)) n)) ∧ (l.foldl stepD d).2 = ((l.foldl (fun a c => a * 10 + (c.toNat - 48)) n % 1000 : Nat) : Int) := by
    intro l
    induction l with
    | nil => intro _ d n h1 h2; exact ⟨h1, h2⟩
    | cons c l ih =>
      intro h d n h1 h2
      have hc := h c (List.mem_cons_self ..)
      unfold isD at hc
      rw [List.foldl_cons, List.foldl_cons]
      refine ih (fun x hx => h x (List.mem_cons_of_mem _ hx)) _ _ ?_ ?_
      · unfold stepD addD
        dsimp only
        rcases h1 with ⟨a, b⟩ | ⟨a, b⟩
        · by_cases hb : 112589990684262400 < d.1
          · rw [if_pos hb]
            exact .inr ⟨rfl, by omega⟩
          · rw [if_neg hb]
            exact .inl ⟨by omega, by omega⟩
        · rw [if_pos (by omega)]
          exact .inr ⟨rfl, by omega⟩
      · unfold stepD addD
        dsimp only
        rw [h2]
        omega
  exact key l h (0, 0) 0 (.inl ⟨rfl, by decide⟩) rfl
theorem fold_cap (l : List UInt8) (h : allIs l) : RefQ.capM (l.foldl stepD (0, 0)).1 = if 1125899906842624 < numL l then 1125899906842625 else (numL l : Int) := by
  obtain ⟨h1, _⟩ := fold_sat l h
  unfold RefQ.capM
  split <;> split <;> omega
end Go.Proofs.YtpajpijkldjmfaaDoor
