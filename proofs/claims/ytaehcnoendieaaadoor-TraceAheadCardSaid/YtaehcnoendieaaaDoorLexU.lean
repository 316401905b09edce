/-
  Runes over lists of bytes: what stands at the head of a list, whatever stands behind it.
-/
import Derived.Test.YtaehcnoendieaaaDoorLexS
namespace Go.Proofs.YtaehcnoendieaaaDoor
open Go.RowKit
set_option linter.unusedVariables false
set_option linter.unusedSimpArgs false

/-- The rune at a list's head, and how many bytes it has. -/
def decL : List UInt8 → Nat × Nat
  | [] => (65533, 1)
  | b :: t => dec (t.length + 1) 0 b.toNat (t.getD 0 0).toNat (t.getD 1 0).toNat (t.getD 2 0).toNat
def badL (l : List UInt8) : Bool := decide ((decL l).1 = 65533 ∧ (decL l).2 = 1)
theorem dec_shift (l pos b0 b1 b2 b3 : Nat) (h : pos < l) : dec l pos b0 b1 b2 b3 = dec (l - pos) 0 b0 b1 b2 b3 := by
  unfold dec
  have e1 : (pos + 1 < l) = (0 + 1 < l - pos) := by rw [eq_iff_iff]; omega
  have e2 : (pos + 2 < l) = (0 + 2 < l - pos) := by rw [eq_iff_iff]; omega
  have e3 : (pos + 3 < l) = (0 + 3 < l - pos) := by rw [eq_iff_iff]; omega
  simp only [e1, e2, e3]
theorem get_drop (s : ByteArray) (p k : Nat) : s.get! (p + k) = (s.toList.drop p).getD k 0 := by
  rw [List.getD_eq_getElem?_getD, List.getElem?_drop, ByteArray.toList_eq]
  show s.data[p + k]! = _
  rw [Array.getElem!_eq_getD, Array.getD_eq_getD_getElem?, Array.getElem?_toList]
  rfl
theorem toList_len (s : ByteArray) : s.toList.length = s.size := by rw [ByteArray.toList_eq]; simp
theorem decode_drop (s : ByteArray) (p : Nat) (h : p < s.size) : Utf8.decode s p = decL (s.toList.drop p) := by
  rw [decode_dec, dec_shift _ _ _ _ _ _ h]
  have hl := toList_len s
  have g0 := get_drop s p 0
  have g1 := get_drop s p 1
  have g2 := get_drop s p 2
  have g3 := get_drop s p 3
  cases hd : s.toList.drop p with
  | nil =>
    have := List.length_drop (i := p) (l := s.toList)
    rw [hd, List.length_nil] at this
    omega
  | cons b t =>
    rw [hd] at g0 g1 g2 g3
    rw [Nat.add_zero] at g0
    have hlen : s.size - p = t.length + 1 := by
      have := List.length_drop (i := p) (l := s.toList)
      rw [hd, List.length_cons] at this
      omega
    rw [g0, g1, g2, g3, hlen]
    rfl
/-- The cases of decoding. -/
theorem dec_cases (l pos b0 b1 b2 b3 : Nat) :
    (b0 < 128 ∧ dec l pos b0 b1 b2 b3 = (b0, 1)) ∨
    (¬ b0 < 128 ∧ (b0 / 32 = 6 ∧ pos + 1 < l ∧ b1 / 64 = 2) ∧ 128 ≤ b0 % 32 * 64 + b1 % 64 ∧ dec l pos b0 b1 b2 b3 = (b0 % 32 * 64 + b1 % 64, 2)) ∨
    (¬ b0 < 128 ∧ b0 / 32 ≠ 6 ∧ (b0 / 16 = 14 ∧ (pos + 1 < l ∧ b1 / 64 = 2) ∧ pos + 2 < l ∧ b2 / 64 = 2) ∧ (2048 ≤ b0 % 16 * 4096 + b1 % 64 * 64 + b2 % 64 ∧ ¬ (55296 ≤ b0 % 16 * 4096 + b1 % 64 * 64 + b2 % 64 ∧ b0 % 16 * 4096 + b1 % 64 * 64 + b2 % 64 < 57344)) ∧ dec l pos b0 b1 b2 b3 = (b0 % 16 * 4096 + b1 % 64 * 64 + b2 % 64, 3)) ∨
    (¬ b0 < 128 ∧ b0 / 32 ≠ 6 ∧ b0 / 16 ≠ 14 ∧ (b0 / 8 = 30 ∧ (pos + 1 < l ∧ b1 / 64 = 2) ∧ (pos + 2 < l ∧ b2 / 64 = 2) ∧ pos + 3 < l ∧ b3 / 64 = 2) ∧ (65536 ≤ b0 % 8 * 262144 + b1 % 64 * 4096 + b2 % 64 * 64 + b3 % 64 ∧ b0 % 8 * 262144 + b1 % 64 * 4096 + b2 % 64 * 64 + b3 % 64 ≤ 1114111) ∧ dec l pos b0 b1 b2 b3 = (b0 % 8 * 262144 + b1 % 64 * 4096 + b2 % 64 * 64 + b3 % 64, 4)) ∨
    (¬ b0 < 128 ∧ dec l pos b0 b1 b2 b3 = (65533, 1)) := by
  by_cases h0 : b0 < 128
  · exact .inl ⟨h0, by unfold dec; rw [if_pos h0]⟩
  by_cases h1 : b0 / 32 = 6 ∧ pos + 1 < l ∧ b1 / 64 = 2
  · by_cases h2 : 128 ≤ b0 % 32 * 64 + b1 % 64
    · exact .inr (.inl ⟨h0, h1, h2, by unfold dec; rw [if_neg h0, if_pos h1, if_pos h2]⟩)
    · exact .inr (.inr (.inr (.inr ⟨h0, by unfold dec; rw [if_neg h0, if_pos h1, if_neg h2]⟩)))
  by_cases h2 : b0 / 16 = 14 ∧ (pos + 1 < l ∧ b1 / 64 = 2) ∧ pos + 2 < l ∧ b2 / 64 = 2
  · by_cases h3 : 2048 ≤ b0 % 16 * 4096 + b1 % 64 * 64 + b2 % 64 ∧ ¬ (55296 ≤ b0 % 16 * 4096 + b1 % 64 * 64 + b2 % 64 ∧ b0 % 16 * 4096 + b1 % 64 * 64 + b2 % 64 < 57344)
    · exact .inr (.inr (.inl ⟨h0, by omega, h2, h3, by unfold dec; rw [if_neg h0, if_neg h1, if_pos h2, if_pos h3]⟩))
    · exact .inr (.inr (.inr (.inr ⟨h0, by unfold dec; rw [if_neg h0, if_neg h1, if_pos h2, if_neg h3]⟩)))
  by_cases h3 : b0 / 8 = 30 ∧ (pos + 1 < l ∧ b1 / 64 = 2) ∧ (pos + 2 < l ∧ b2 / 64 = 2) ∧ pos + 3 < l ∧ b3 / 64 = 2
  · by_cases h4 : 65536 ≤ b0 % 8 * 262144 + b1 % 64 * 4096 + b2 % 64 * 64 + b3 % 64 ∧ b0 % 8 * 262144 + b1 % 64 * 4096 + b2 % 64 * 64 + b3 % 64 ≤ 1114111
    · exact .inr (.inr (.inr (.inl ⟨h0, by omega, by omega, h3, h4, by unfold dec; rw [if_neg h0, if_neg h1, if_neg h2, if_pos h3, if_pos h4]⟩)))
    · exact .inr (.inr (.inr (.inr ⟨h0, by unfold dec; rw [if_neg h0, if_neg h1, if_neg h2, if_pos h3, if_neg h4]⟩)))
  · exact .inr (.inr (.inr (.inr ⟨h0, by unfold dec; rw [if_neg h0, if_neg h1, if_neg h2, if_neg h3]⟩)))
/-- A chunk: the bytes of one right rune. -/
structure Rn (b : List UInt8) (r : Nat) : Prop where
  d : decL b = (r, b.length)
  ok : badL b = false
  ne : b ≠ []
theorem getD_app {a t : List UInt8} {k : Nat} (h : k < a.length) : (a ++ t).getD k 0 = a.getD k 0 := by
  rw [List.getD_eq_getElem?_getD, List.getD_eq_getElem?_getD, List.getElem?_append_left h]
theorem Rn.app {b : List UInt8} {r : Nat} (h : Rn b r) (t : List UInt8) : decL (b ++ t) = (r, b.length) := by
  obtain ⟨hd, ho, hn⟩ := h
  cases b with
  | nil => exact absurd rfl hn
  | cons b0 u =>
    have hd' := hd
    have hd : dec (u.length + 1) 0 b0.toNat (u.getD 0 0).toNat (u.getD 1 0).toNat (u.getD 2 0).toNat = (r, (b0 :: u).length) := hd'
    show dec ((u ++ t).length + 1) 0 b0.toNat ((u ++ t).getD 0 0).toNat ((u ++ t).getD 1 0).toNat ((u ++ t).getD 2 0).toNat = _
    unfold badL at ho
    rw [hd'] at ho
    rw [← hd]
    have hlen : (b0 :: u).length = u.length + 1 := rfl
    rcases dec_cases (u.length + 1) 0 b0.toNat (u.getD 0 0).toNat (u.getD 1 0).toNat (u.getD 2 0).toNat with ⟨c, e⟩ | ⟨c0, c1, c2, e⟩ | ⟨c0, c1, c2, c3, e⟩ | ⟨c0, c1, c2, c3, c4, e⟩ | ⟨c, e⟩
    · rw [e]
      unfold dec
      rw [if_pos c]
    · rw [e] at hd ⊢
      injection hd with h1 h2
      rw [hlen] at h2
      rw [getD_app (by omega : 0 < u.length), List.length_append]
      unfold dec
      rw [if_neg c0, if_pos ⟨c1.1, by omega, c1.2.2⟩, if_pos c2]
    · rw [e] at hd ⊢
      injection hd with h1 h2
      rw [hlen] at h2
      rw [getD_app (by omega : 0 < u.length), getD_app (by omega : 1 < u.length), List.length_append]
      unfold dec
      rw [if_neg c0, if_neg (fun x => c1 x.1), if_pos ⟨c2.1, ⟨by omega, c2.2.1.2⟩, by omega, c2.2.2.2⟩, if_pos c3]
    · rw [e] at hd ⊢
      injection hd with h1 h2
      rw [hlen] at h2
      rw [getD_app (by omega : 0 < u.length), getD_app (by omega : 1 < u.length), getD_app (by omega : 2 < u.length), List.length_append]
      unfold dec
      rw [if_neg c0, if_neg (fun x => c1 x.1), if_neg (fun x => c2 x.1), if_pos ⟨c3.1, ⟨by omega, c3.2.1.2⟩, ⟨by omega, c3.2.2.1.2⟩, by omega, c3.2.2.2.2⟩, if_pos c4]
    · rw [e] at hd
      injection hd with h1 h2
      rw [← h1, ← h2] at ho
      exact absurd ho (by decide)
theorem Rn.bad_app {b : List UInt8} {r : Nat} (h : Rn b r) (t : List UInt8) : badL (b ++ t) = false := by
  have h1 := h.ok
  unfold badL at h1 ⊢
  rw [h.app t]
  rw [h.d] at h1
  exact h1
/-- What is at the head of a list that is not bad is a chunk. -/
theorem Rn.head {l : List UInt8} (hl : l ≠ []) (h : badL l = false) : Rn (l.take (decL l).2) (decL l).1 ∧ (decL l).2 ≤ l.length ∧ 0 < (decL l).2 := by
  cases l with
  | nil => exact absurd rfl hl
  | cons b0 u =>
    have hlen : (b0 :: u).length = u.length + 1 := rfl
    have hx : ∀ _ : Nat, decL (b0 :: u) = dec (u.length + 1) 0 b0.toNat (u.getD 0 0).toNat (u.getD 1 0).toNat (u.getD 2 0).toNat := fun _ => rfl
    have gt : ∀ n k, k < n → (u.take n).getD k 0 = u.getD k 0 := fun n k hk => by
      rw [List.getD_eq_getElem?_getD, List.getD_eq_getElem?_getD, List.getElem?_take, if_pos hk]
    have key : ∀ (w : Nat) (r : Nat), decL (b0 :: u) = (r, w + 1) → w ≤ u.length → dec ((u.take w).length + 1) 0 b0.toNat ((u.take w).getD 0 0).toNat ((u.take w).getD 1 0).toNat ((u.take w).getD 2 0).toNat = (r, w + 1) → Rn ((b0 :: u).take (decL (b0 :: u)).2) (decL (b0 :: u)).1 ∧ (decL (b0 :: u)).2 ≤ (b0 :: u).length ∧ 0 < (decL (b0 :: u)).2 := fun w r e hw ed => by
      have ew : (u.take w).length = w := by rw [List.length_take]; omega
      rw [e]
      refine ⟨⟨?_, ?_, by simp⟩, by rw [hlen]; show w + 1 ≤ _; omega, by show 0 < w + 1; omega⟩
      · show dec ((u.take w).length + 1) 0 _ _ _ _ = (r, (u.take w).length + 1)
        rw [ed, ew]
      · unfold badL at h ⊢
        rw [e] at h
        show decide ((dec ((u.take w).length + 1) 0 _ _ _ _).1 = 65533 ∧ (dec ((u.take w).length + 1) 0 _ _ _ _).2 = 1) = false
        rw [ed]
        exact h
    rcases dec_cases (u.length + 1) 0 b0.toNat (u.getD 0 0).toNat (u.getD 1 0).toNat (u.getD 2 0).toNat with ⟨c, e⟩ | ⟨c0, c1, c2, e⟩ | ⟨c0, c1, c2, c3, e⟩ | ⟨c0, c1, c2, c3, c4, e⟩ | ⟨c, e⟩
    · refine key 0 _ e (Nat.zero_le _) ?_
      unfold dec
      rw [if_pos c]
    · refine key 1 _ e (by omega) ?_
      rw [gt 1 0 (by decide), List.length_take]
      unfold dec
      rw [if_neg c0, if_pos ⟨c1.1, by omega, c1.2.2⟩, if_pos c2]
    · refine key 2 _ e (by omega) ?_
      rw [gt 2 0 (by decide), gt 2 1 (by decide), List.length_take]
      unfold dec
      rw [if_neg c0, if_neg (fun x => c1 x.1), if_pos ⟨c2.1, ⟨by omega, c2.2.1.2⟩, by omega, c2.2.2.2⟩, if_pos c3]
    · refine key 3 _ e (by omega) ?_
      rw [gt 3 0 (by decide), gt 3 1 (by decide), gt 3 2 (by decide), List.length_take]
      unfold dec
      rw [if_neg c0, if_neg (fun x => c1 x.1), if_neg (fun x => c2 x.1), if_pos ⟨c3.1, ⟨by omega, c3.2.1.2⟩, ⟨by omega, c3.2.2.1.2⟩, by omega, c3.2.2.2.2⟩, if_pos c4]
    · unfold badL at h
      rw [hx 0, e] at h
      exact absurd h (by decide)
theorem Rn.one (b : UInt8) (h : b.toNat < 128) : Rn [b] b.toNat := by
  have e : decL [b] = (b.toNat, 1) := by
    show dec 1 0 b.toNat _ _ _ = _
    unfold dec
    rw [if_pos h]
  refine ⟨e, ?_, by simp⟩
  unfold badL
  rw [e]
  exact decide_eq_false (fun x => by have := x.1; simp only at this; omega)
set_option maxRecDepth 100000 in
/-- A chunk is one byte below 128, or all of its bytes are above. -/
theorem Rn.bytes {b : List UInt8} {r : Nat} (h : Rn b r) : (∃ x : UInt8, b = [x] ∧ x.toNat = r ∧ r < 128) ∨ (128 ≤ r ∧ ∀ x ∈ b, 128 ≤ x.toNat) := by
  obtain ⟨hd, ho, hn⟩ := h
  cases b with
  | nil => exact absurd rfl hn
  | cons b0 u =>
    have hd' := hd
    have hlen : (b0 :: u).length = u.length + 1 := rfl
    have hd : dec (u.length + 1) 0 b0.toNat (u.getD 0 0).toNat (u.getD 1 0).toNat (u.getD 2 0).toNat = (r, (b0 :: u).length) := hd'
    unfold badL at ho
    rw [hd'] at ho
    rcases dec_cases (u.length + 1) 0 b0.toNat (u.getD 0 0).toNat (u.getD 1 0).toNat (u.getD 2 0).toNat with ⟨c, e⟩ | ⟨c0, c1, c2, e⟩ | ⟨c0, c1, c2, c3, e⟩ | ⟨c0, c1, c2, c3, c4, e⟩ | ⟨c, e⟩
    · rw [e] at hd
      injection hd with h1 h2
      obtain rfl : u = [] := List.eq_nil_of_length_eq_zero (by rw [hlen] at h2; omega)
      exact .inl ⟨b0, rfl, h1, by omega⟩
    · rw [e] at hd
      injection hd with h1 h2
      rw [hlen] at h2
      match u, h2 with
      | [x1], _ =>
        simp only [List.getD_cons_zero] at c1
        exact .inr ⟨by omega, fun x hx => by rcases List.mem_cons.1 hx with rfl | hx; omega; rcases List.mem_cons.1 hx with rfl | hx; omega; cases hx⟩
    · rw [e] at hd
      injection hd with h1 h2
      rw [hlen] at h2
      match u, h2 with
      | [x1, x2], _ =>
        simp only [List.getD_cons_zero, List.getD_cons_succ] at c2
        exact .inr ⟨by omega, fun x hx => by rcases List.mem_cons.1 hx with rfl | hx; omega; rcases List.mem_cons.1 hx with rfl | hx; omega; rcases List.mem_cons.1 hx with rfl | hx; omega; cases hx⟩
    · rw [e] at hd
      injection hd with h1 h2
      rw [hlen] at h2
      match u, h2 with
      | [x1, x2, x3], _ =>
        simp only [List.getD_cons_zero, List.getD_cons_succ] at c3
        exact .inr ⟨by omega, fun x hx => by rcases List.mem_cons.1 hx with rfl | hx; omega; rcases List.mem_cons.1 hx with rfl | hx; omega; rcases List.mem_cons.1 hx with rfl | hx; omega; rcases List.mem_cons.1 hx with rfl | hx; omega; cases hx⟩
    · rw [e] at hd
      injection hd with h1 h2
      rw [← h1, ← h2] at ho
      exact absurd ho (by decide)
end Go.Proofs.YtaehcnoendieaaaDoor
