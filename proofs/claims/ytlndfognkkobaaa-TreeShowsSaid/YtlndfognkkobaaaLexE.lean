/-
  A right rune's bytes are what encodes it.
-/
import Derived.Test.YtlndfognkkobaaaLexU
namespace Go.Proofs.Ytlndfognkkobaaa
open Go.RowKit
set_option linter.unusedVariables false
set_option linter.unusedSimpArgs false

theorem enc_byte (n : Nat) (x : UInt8) (h : n = x.toNat) : UInt8.ofNat n = x := by rw [h]; simp
theorem valid_of {r : Nat} (h : r < 55296 ∨ (57344 ≤ r ∧ r ≤ 1114111)) : Utf8.valid (r : Int) = true := by
  unfold Utf8.valid
  simp only [Bool.or_eq_true, Bool.and_eq_true, decide_eq_true_eq]
  omega
set_option maxRecDepth 100000 in
theorem Rn.enc {b : List UInt8} {r : Nat} (h : Rn b r) : Utf8.encode (r : Int) = ⟨b.toArray⟩ := by
  obtain ⟨hd, ho, hn⟩ := h
  cases b with
  | nil => exact absurd rfl hn
  | cons b0 u =>
    have hd' := hd
    have hlen : (b0 :: u).length = u.length + 1 := rfl
    have hd : dec (u.length + 1) 0 b0.toNat (u.getD 0 0).toNat (u.getD 1 0).toNat (u.getD 2 0).toNat = (r, (b0 :: u).length) := hd'
    unfold badL at ho
    rw [hd'] at ho
    have l0 := b0.toNat_lt
    rcases dec_cases (u.length + 1) 0 b0.toNat (u.getD 0 0).toNat (u.getD 1 0).toNat (u.getD 2 0).toNat with ⟨c, e⟩ | ⟨c0, c1, c2, e⟩ | ⟨c0, c1, c2, c3, e⟩ | ⟨c0, c1, c2, c3, c4, e⟩ | ⟨c, e⟩
    · rw [e] at hd
      obtain ⟨h1, h2⟩ := Prod.mk.inj hd
      obtain rfl : u = [] := List.eq_nil_of_length_eq_zero (by rw [hlen] at h2; omega)
      unfold Utf8.encode
      dsimp only
      rw [if_pos (valid_of (by omega)), Int.toNat_natCast, if_pos (by omega), enc_byte r b0 (by omega)]
    · rw [e] at hd
      obtain ⟨h1, h2⟩ := Prod.mk.inj hd
      rw [hlen] at h2
      match u, h2 with
      | [x1], _ =>
        simp only [List.getD_cons_zero] at c1 c2 h1
        have l1 := x1.toNat_lt
        unfold Utf8.encode
        dsimp only
        rw [if_pos (valid_of (by omega)), Int.toNat_natCast, if_neg (by omega), if_pos (by omega), enc_byte (0xC0 + r / 64) b0 (by omega), enc_byte (0x80 + r % 64) x1 (by omega)]
    · rw [e] at hd
      obtain ⟨h1, h2⟩ := Prod.mk.inj hd
      rw [hlen] at h2
      match u, h2 with
      | [x1, x2], _ =>
        simp only [List.getD_cons_zero, List.getD_cons_succ] at c2 c3 h1
        have l1 := x1.toNat_lt
        have l2 := x2.toNat_lt
        unfold Utf8.encode
        dsimp only
        rw [if_pos (valid_of (by omega)), Int.toNat_natCast, if_neg (by omega), if_neg (by omega), if_pos (by omega), enc_byte (0xE0 + r / 4096) b0 (by omega), enc_byte (0x80 + r / 64 % 64) x1 (by omega), enc_byte (0x80 + r % 64) x2 (by omega)]
    · rw [e] at hd
      obtain ⟨h1, h2⟩ := Prod.mk.inj hd
      rw [hlen] at h2
      match u, h2 with
      | [x1, x2, x3], _ =>
        simp only [List.getD_cons_zero, List.getD_cons_succ] at c3 c4 h1
        have l1 := x1.toNat_lt
        have l2 := x2.toNat_lt
        have l3 := x3.toNat_lt
        unfold Utf8.encode
        dsimp only
        rw [if_pos (valid_of (by omega)), Int.toNat_natCast, if_neg (by omega), if_neg (by omega), if_neg (by omega), enc_byte (0xF0 + r / 262144) b0 (by omega), enc_byte (0x80 + r / 4096 % 64) x1 (by omega), enc_byte (0x80 + r / 64 % 64) x2 (by omega), enc_byte (0x80 + r % 64) x3 (by omega)]
    · rw [e] at hd
      obtain ⟨h1, h2⟩ := Prod.mk.inj hd
      rw [← h1, ← h2] at ho
      exact absurd ho (by decide)
end Go.Proofs.Ytlndfognkkobaaa
