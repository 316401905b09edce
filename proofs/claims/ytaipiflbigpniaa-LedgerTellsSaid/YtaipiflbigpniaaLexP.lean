/-
  Runes and words, in plain Lean.
-/
import Derived.Test.YtaipiflbigpniaaLst
import Derived.Test.YtaipiflbigpniaaTail
import Derived.Lib.OthersKept
import Derived.Lib.RuneCount
namespace Go.Proofs.Ytaipiflbigpniaa
open Go.RowKit
set_option linter.unusedVariables false
set_option linter.unusedSimpArgs false

/-- What may stand in a word. -/
def inW (r : Int) : Bool := decide (32 < r ∧ r ≠ 127 ∧ r ≠ 40 ∧ r ≠ 41 ∧ r ≠ 34 ∧ r ≠ 59)

theorem inW_cases (r : Int) : (decide (32 < r) = false ∧ inW r = false) ∨ (decide (32 < r) = true ∧ (r != 127) = false ∧ inW r = false) ∨ (decide (32 < r) = true ∧ (r != 127) = true ∧ (r != 40) = false ∧ inW r = false) ∨
    (decide (32 < r) = true ∧ (r != 127) = true ∧ (r != 40) = true ∧ (r != 41) = false ∧ inW r = false) ∨ (decide (32 < r) = true ∧ (r != 127) = true ∧ (r != 40) = true ∧ (r != 41) = true ∧ (r != 34) = false ∧ inW r = false) ∨
    (decide (32 < r) = true ∧ (r != 127) = true ∧ (r != 40) = true ∧ (r != 41) = true ∧ (r != 34) = true ∧ (r != 59) = false ∧ inW r = false) ∨
    (decide (32 < r) = true ∧ (r != 127) = true ∧ (r != 40) = true ∧ (r != 41) = true ∧ (r != 34) = true ∧ (r != 59) = true ∧ inW r = true) := by
  unfold inW
  by_cases h1 : 32 < r <;> by_cases h2 : r = 127 <;> by_cases h3 : r = 40 <;> by_cases h4 : r = 41 <;> by_cases h5 : r = 34 <;> by_cases h6 : r = 59 <;> simp [h1, h2, h3, h4, h5, h6]

def fffd : ByteArray := ⟨#[239, 191, 189]⟩
/-- The text begins with U+FFFD. -/
def preF (s : ByteArray) : Bool := decide (3 ≤ s.size ∧ s.extract 0 3 = fffd)

/-- No rune begins here. -/
def badAt (s : ByteArray) (pos : Nat) : Bool := decide ((Utf8.decode s pos).1 = 65533 ∧ (Utf8.decode s pos).2 = 1)

theorem get_bang (s : ByteArray) (i : Nat) (h : i < s.size) : s.get! i = s[i]'h := by
  have := get_at s i h
  simpa using this
theorem pre_at (s : ByteArray) (pos : Nat) : preF (s.extract pos s.size) = decide (pos + 2 < s.size ∧ (s.get! pos).toNat = 239 ∧ (s.get! (pos + 1)).toNat = 191 ∧ (s.get! (pos + 2)).toNat = 189) := by
  unfold preF
  rw [decide_eq_decide, ByteArray.size_extract]
  by_cases h : pos + 2 < s.size
  · rw [get_bang s pos (by omega), get_bang s (pos + 1) (by omega), get_bang s (pos + 2) (by omega)]
    have ex : ((s.extract pos s.size).extract 0 3) = ⟨#[s[pos]'(by omega), s[pos + 1]'(by omega), s[pos + 2]'(by omega)]⟩ := by
      refine ByteArray.ext_getElem ?_ fun i hi hj => ?_
      · rw [ByteArray.size_extract, ByteArray.size_extract]
        show _ = 3
        omega
      · have hi3 : i < 3 := hj
        rw [ByteArray.getElem_extract, ByteArray.getElem_extract]
        rcases (show i = 0 ∨ i = 1 ∨ i = 2 by omega) with rfl | rfl | rfl <;> rfl
    rw [ex]
    unfold fffd
    constructor
    · rintro ⟨_, h2⟩
      simp only [ByteArray.mk.injEq, Array.mk.injEq, List.cons.injEq, and_true] at h2
      obtain ⟨a, b, c⟩ := h2
      refine ⟨h, ?_, ?_, ?_⟩ <;> simp [a, b, c]
    · rintro ⟨_, a, b, c⟩
      refine ⟨by omega, ?_⟩
      have a' : s[pos]'(by omega) = 239 := UInt8.toNat_inj.1 a
      have b' : s[pos + 1]'(by omega) = 191 := UInt8.toNat_inj.1 b
      have c' : s[pos + 2]'(by omega) = 189 := UInt8.toNat_inj.1 c
      rw [a', b', c']
  · constructor
    · rintro ⟨h1, _⟩; omega
    · rintro ⟨h1, _⟩; omega

/-- The model's decoding over plain numbers: the text's length, the place, four bytes. -/
def dec (l pos b0 b1 b2 b3 : Nat) : Nat × Nat :=
  if b0 < 128 then (b0, 1)
  else if b0 / 32 = 6 ∧ pos + 1 < l ∧ b1 / 64 = 2 then (if 128 ≤ b0 % 32 * 64 + b1 % 64 then (b0 % 32 * 64 + b1 % 64, 2) else (65533, 1))
  else if b0 / 16 = 14 ∧ (pos + 1 < l ∧ b1 / 64 = 2) ∧ pos + 2 < l ∧ b2 / 64 = 2 then
    (if 2048 ≤ b0 % 16 * 4096 + b1 % 64 * 64 + b2 % 64 ∧ ¬ (55296 ≤ b0 % 16 * 4096 + b1 % 64 * 64 + b2 % 64 ∧ b0 % 16 * 4096 + b1 % 64 * 64 + b2 % 64 < 57344) then (b0 % 16 * 4096 + b1 % 64 * 64 + b2 % 64, 3) else (65533, 1))
  else if b0 / 8 = 30 ∧ (pos + 1 < l ∧ b1 / 64 = 2) ∧ (pos + 2 < l ∧ b2 / 64 = 2) ∧ pos + 3 < l ∧ b3 / 64 = 2 then
    (if 65536 ≤ b0 % 8 * 262144 + b1 % 64 * 4096 + b2 % 64 * 64 + b3 % 64 ∧ b0 % 8 * 262144 + b1 % 64 * 4096 + b2 % 64 * 64 + b3 % 64 ≤ 1114111 then (b0 % 8 * 262144 + b1 % 64 * 4096 + b2 % 64 * 64 + b3 % 64, 4) else (65533, 1))
  else (65533, 1)
theorem ite_iff {α : Type} {p q : Prop} [Decidable p] [Decidable q] {a b c d : α} (h : p ↔ q) (h1 : q → a = c) (h2 : ¬ q → b = d) : (if p then a else b) = if q then c else d := by
  by_cases hq : q
  · rw [if_pos (h.2 hq), if_pos hq, h1 hq]
  · rw [if_neg (fun x => hq (h.1 x)), if_neg hq, h2 hq]
set_option maxRecDepth 100000 in
theorem decode_dec (s : ByteArray) (pos : Nat) : Utf8.decode s pos = dec s.size pos (s.get! pos).toNat (s.get! (pos + 1)).toNat (s.get! (pos + 2)).toNat (s.get! (pos + 3)).toNat := by
  unfold Utf8.decode Utf8.runeError dec
  dsimp only
  refine ite_iff Iff.rfl (fun _ => rfl) fun _ => ite_iff ?_ (fun _ => ite_iff Iff.rfl (fun _ => rfl) fun _ => rfl) fun _ => ite_iff ?_ (fun _ => ite_iff ?_ (fun _ => rfl) fun _ => rfl) fun _ => ite_iff ?_ (fun _ => ite_iff ?_ (fun _ => rfl) fun _ => rfl) fun _ => rfl
  · simp only [Nat.add_zero, Bool.and_eq_true, beq_iff_eq, decide_eq_true_eq]
  · simp only [Nat.add_zero, Bool.and_eq_true, beq_iff_eq, decide_eq_true_eq, and_assoc]
  · unfold Utf8.valid
    simp only [Nat.add_zero, Bool.and_eq_true, Bool.or_eq_true, decide_eq_true_eq, ge_iff_le]
    omega
  · simp only [Nat.add_zero, Bool.and_eq_true, beq_iff_eq, decide_eq_true_eq, and_assoc]
  · unfold Utf8.valid
    simp only [Nat.add_zero, Bool.and_eq_true, Bool.or_eq_true, decide_eq_true_eq, ge_iff_le]
    omega

theorem dec_fffd {l pos b0 b1 b2 b3 : Nat} (h0 : b0 < 256) (h1 : b1 < 256) (h2 : b2 < 256) : ((dec l pos b0 b1 b2 b3).1 ≠ 65533 ∨ (pos + 2 < l ∧ b0 = 239 ∧ b1 = 191 ∧ b2 = 189)) ↔ ¬ ((dec l pos b0 b1 b2 b3).1 = 65533 ∧ (dec l pos b0 b1 b2 b3).2 = 1) := by
  have key : ∀ d : Nat × Nat, (d.1 = 65533 ∧ ((d.2 = 1 ∧ ¬ (pos + 2 < l ∧ b0 = 239 ∧ b1 = 191 ∧ b2 = 189)) ∨ (d.2 ≠ 1 ∧ (pos + 2 < l ∧ b0 = 239 ∧ b1 = 191 ∧ b2 = 189)))) ∨ d.1 ≠ 65533 → ((d.1 ≠ 65533 ∨ (pos + 2 < l ∧ b0 = 239 ∧ b1 = 191 ∧ b2 = 189)) ↔ ¬ (d.1 = 65533 ∧ d.2 = 1)) := by
    rintro ⟨x, y⟩ h
    simp only at h ⊢
    rcases h with ⟨h, ⟨h1, h2⟩ | ⟨h1, h2⟩⟩ | h
    · exact ⟨fun k => absurd (k.resolve_left fun n => n h) h2, fun k => absurd ⟨h, h1⟩ k⟩
    · exact ⟨fun _ k => h1 k.2, fun _ => .inr h2⟩
    · exact ⟨fun _ k => h k.1, fun _ => .inl h⟩
  refine key _ ?_
  unfold dec
  split
  · refine .inr ?_
    simp only; omega
  · split
    · split
      · refine .inr ?_
        simp only; omega
      · refine .inl ⟨rfl, .inl ⟨rfl, ?_⟩⟩
        omega
    · split
      · split
        · by_cases e : b0 % 16 * 4096 + b1 % 64 * 64 + b2 % 64 = 65533
          · refine .inl ⟨e, .inr ⟨by simp, ?_⟩⟩
            omega
          · exact .inr e
        · refine .inl ⟨rfl, .inl ⟨rfl, ?_⟩⟩
          omega
      · split
        · split
          · refine .inr ?_
            simp only; omega
          · refine .inl ⟨rfl, .inl ⟨rfl, ?_⟩⟩
            omega
        · refine .inl ⟨rfl, .inl ⟨rfl, ?_⟩⟩
          omega

theorem decode_fffd (s : ByteArray) (pos : Nat) : ((((Utf8.decode s pos).1 : Nat) : Int) != 65533 || preF (s.extract pos s.size)) = !badAt s pos := by
  rw [pre_at]
  unfold badAt
  have h := dec_fffd (l := s.size) (pos := pos) (b3 := (s.get! (pos + 3)).toNat) (s.get! pos).toNat_lt (s.get! (pos + 1)).toNat_lt (s.get! (pos + 2)).toNat_lt
  rw [← decode_dec] at h
  rw [show ∀ x : Nat, (((x : Nat) : Int) != 65533) = decide (x ≠ 65533) from fun x => by
    by_cases e : x = 65533
    · subst e; rfl
    · rw [decide_eq_true e, bne_iff_ne]; omega]
  rw [← Bool.decide_or, ← decide_not]
  exact decide_eq_decide.2 h
/-- How many runes stand from a place on, all of which may stand in a word. -/
def wordFrom (s : ByteArray) : Nat → Nat → Option Nat
  | 0, _ => some 0
  | f + 1, pos => if pos < s.size then (if inW (Utf8.decode s pos).1 = true ∧ badAt s pos = false then (wordFrom s f (pos + (Utf8.decode s pos).2)).map (· + 1) else none) else some 0
def wordB (s : ByteArray) : Bool := match wordFrom s s.size 0 with
  | some n => decide (1 ≤ n ∧ n ≤ 64)
  | none => false
/-- Where the scan stands. -/
def WordSt (s : ByteArray) (pos fuel n : Nat) : Prop := wordFrom s s.size 0 = (wordFrom s fuel pos).map (· + n) ∧ s.size ≤ pos + fuel
theorem WordSt.start (s : ByteArray) : WordSt s 0 s.size 0 := ⟨by cases wordFrom s s.size 0 <;> rfl, by omega⟩
theorem WordSt.fuel {s : ByteArray} {pos fuel n : Nat} (h : WordSt s pos fuel n) (hp : pos < s.size) : ∃ f, fuel = f + 1 := ⟨fuel - 1, by have := h.2; omega⟩
theorem WordSt.step {s : ByteArray} {pos f n : Nat} (h : WordSt s pos (f + 1) n) (hp : pos < s.size) (h1 : inW (Utf8.decode s pos).1 = true) (h2 : badAt s pos = false) : WordSt s (pos + (Utf8.decode s pos).2) f (n + 1) := by
  obtain ⟨h, hf⟩ := h
  have hw := Lib.decode_width_pos s pos hp
  refine ⟨?_, by omega⟩
  rw [h, wordFrom, if_pos hp, if_pos ⟨h1, h2⟩]
  cases wordFrom s f (pos + (Utf8.decode s pos).2)
  · rfl
  · simp only [Option.map_some]
    congr 1
    omega
theorem WordSt.odd {s : ByteArray} {pos f n : Nat} (h : WordSt s pos (f + 1) n) (hp : pos < s.size) (h1 : ¬ (inW (Utf8.decode s pos).1 = true ∧ badAt s pos = false)) : wordB s = false := by
  unfold wordB
  rw [h.1, wordFrom, if_pos hp, if_neg h1]
  rfl
theorem WordSt.long {s : ByteArray} {pos f : Nat} (h : WordSt s pos (f + 1) 64) (hp : pos < s.size) : wordB s = false := by
  unfold wordB
  rw [h.1, wordFrom, if_pos hp]
  split
  · rename_i n he
    split at he
    · cases hx : wordFrom s f (pos + (Utf8.decode s pos).2) with
      | none => rw [hx] at he; cases he
      | some k =>
        rw [hx] at he
        simp only [Option.map_some, Option.some.injEq] at he
        exact decide_eq_false (by omega)
    · cases he
  · rfl
theorem WordSt.done {s : ByteArray} {pos fuel n : Nat} (h : WordSt s pos fuel n) (hp : ¬ pos < s.size) (hn : n ≤ 64) : wordB s = decide (0 < n) := by
  unfold wordB
  have e : wordFrom s fuel pos = some 0 := by
    cases fuel with
    | zero => rfl
    | succ f => rw [wordFrom, if_neg hp]
  rw [h.1, e]
  simp only [Option.map_some, Nat.zero_add]
  exact decide_eq_decide.2 (by omega)

end Go.Proofs.Ytaipiflbigpniaa
