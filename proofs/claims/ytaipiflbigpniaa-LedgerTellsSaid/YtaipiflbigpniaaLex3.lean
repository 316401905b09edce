/-
  The contracts of triremeref01.more, Rune, plain.
-/
import Derived.Test.YtaipiflbigpniaaLexP
namespace Go.Proofs.Ytaipiflbigpniaa
open Go.RowKit
set_option linter.unusedVariables false
set_option linter.unusedSimpArgs false

theorem str_ix (s : ByteArray) (n : Nat) (h : n < s.size) (w : World) : (Instr.index 9 (.string s) (.int .i64 (n : Int))).run Try.prog w = .ok (.int .u8 (((s.get! n).toNat : Nat) : Int)) w := by
  rw [run_index_string w 9 s .i64 n Try.underlying9, dif_pos ⟨by omega, by omega⟩, get_bang s n h]
  rfl

/-- A byte that goes on with a rune. -/
def moreB (s : ByteArray) (n : Nat) : Bool := decide (n < s.size ∧ (s.get! n).toNat / 64 = 2)

set_option maxRecDepth 100000 in
theorem more_any (s : ByteArray) (n : Nat) (w : World) :
    Calls Try.prog 56 #[.string s, .int .i64 (n : Int)] w fun e w' => e = .returned (.bool (moreB s n)) ∧ Below w.heap.size w w' := by
  by_cases h : n < s.size
  · have hx := str_ix s n h
    obtain ⟨b, hb⟩ : ∃ b, (s.get! n).toNat = b := ⟨_, rfl⟩
    have hm : moreB s n = decide (b / 64 = 2) := by unfold moreB; rw [hb]; simp [h]
    rw [hm]
    rw [hb] at hx
    clear hm hb
    by_cases h1 : b < 128
    · have e : decide (b / 64 = 2) = false := decide_eq_false (by omega)
      rw [e]
      clear e
      go_enter Try.func56, Try.ntmps56
      go_wp2
      go_ret
      exact ⟨by first | rfl | (simp; omega), by (repeat' (first | with_reducible exact Below.refl _ _ | with_reducible assumption | with_reducible refine Below.drew ?_ | with_reducible refine below_drewN' ?_ _ | with_reducible refine Below.alloc ?_ ?_ _ | with_reducible refine Below.setCell ?_ ?_ _ | with_reducible refine below_step (by assumption) ?_ ?_ | omega | (simp; done) | (simp; omega)))⟩
    · by_cases h2 : b < 192
      · have e : decide (b / 64 = 2) = true := decide_eq_true (by omega)
        rw [e]
        clear e
        have h1' : 128 ≤ b := by omega
        go_enter Try.func56, Try.ntmps56
        go_wp2
        go_ret
        exact ⟨by first | rfl | (simp; omega), by (repeat' (first | with_reducible exact Below.refl _ _ | with_reducible assumption | with_reducible refine Below.drew ?_ | with_reducible refine below_drewN' ?_ _ | with_reducible refine Below.alloc ?_ ?_ _ | with_reducible refine Below.setCell ?_ ?_ _ | with_reducible refine below_step (by assumption) ?_ ?_ | omega | (simp; done) | (simp; omega)))⟩
      · have e : decide (b / 64 = 2) = false := decide_eq_false (by omega)
        rw [e]
        clear e
        have h1' : 128 ≤ b := by omega
        go_enter Try.func56, Try.ntmps56
        go_wp2
        go_ret
        exact ⟨by first | rfl | (simp; omega), by (repeat' (first | with_reducible exact Below.refl _ _ | with_reducible assumption | with_reducible refine Below.drew ?_ | with_reducible refine below_drewN' ?_ _ | with_reducible refine Below.alloc ?_ ?_ _ | with_reducible refine Below.setCell ?_ ?_ _ | with_reducible refine below_step (by assumption) ?_ ?_ | omega | (simp; done) | (simp; omega)))⟩
  · have hm : moreB s n = false := decide_eq_false fun x => h x.1
    rw [hm]
    go_enter Try.func56, Try.ntmps56
    go_wp2
    go_ret
    exact ⟨by first | rfl | (simp; omega), by (repeat' (first | with_reducible exact Below.refl _ _ | with_reducible assumption | with_reducible refine Below.drew ?_ | with_reducible refine below_drewN' ?_ _ | with_reducible refine Below.alloc ?_ ?_ _ | with_reducible refine Below.setCell ?_ ?_ _ | with_reducible refine below_step (by assumption) ?_ ?_ | omega | (simp; done) | (simp; omega)))⟩
set_option maxRecDepth 100000 in
theorem plain_any (r : Int) (w : World) :
    Calls Try.prog 45 #[.int .i64 r] w fun e w' => e = .returned (.bool (inW r)) ∧ Below w.heap.size w w' := by
  rcases inW_cases r with ⟨h1, h⟩ | ⟨h1, h2, h⟩ | ⟨h1, h2, h3, h⟩ | ⟨h1, h2, h3, h4, h⟩ | ⟨h1, h2, h3, h4, h5, h⟩ | ⟨h1, h2, h3, h4, h5, h6, h⟩ | ⟨h1, h2, h3, h4, h5, h6, h⟩
  all_goals
    rw [h]
    clear h
    go_enter Try.func45, Try.ntmps45
    go_wp2
    go_ret
    exact ⟨rfl, by (repeat' (first | with_reducible exact Below.refl _ _ | with_reducible assumption | with_reducible refine Below.drew ?_ | with_reducible refine below_drewN' ?_ _ | with_reducible refine Below.alloc ?_ ?_ _ | with_reducible refine Below.setCell ?_ ?_ _ | with_reducible refine below_step (by assumption) ?_ ?_ | omega | (simp; done) | (simp; omega)))⟩

/-- A rune and how many bytes it has; none: no bytes. -/
def runeC (s : ByteArray) (p : Nat) : Int := if badAt s p then 0 else ((Utf8.decode s p).1 : Int)
def runeW (s : ByteArray) (p : Nat) : Int := if badAt s p then 0 else ((Utf8.decode s p).2 : Int)
theorem rune_bad {s : ByteArray} {p : Nat} (h : Utf8.decode s p = (65533, 1)) : runeC s p = 0 ∧ runeW s p = 0 := by
  have : badAt s p = true := by unfold badAt; rw [h]; rfl
  unfold runeC runeW
  rw [this]
  exact ⟨rfl, rfl⟩
theorem rune_good {s : ByteArray} {p c n : Nat} (h : Utf8.decode s p = (c, n)) (hn : n ≠ 1 ∨ c ≠ 65533) : runeC s p = (c : Int) ∧ runeW s p = (n : Int) := by
  have : badAt s p = false := by
    unfold badAt
    rw [h]
    exact decide_eq_false (by simp only; omega)
  unfold runeC runeW
  rw [this, h]
  exact ⟨rfl, rfl⟩
/-- Which way Rune goes. -/
theorem rune_cases (s : ByteArray) (p b0 b1 b2 b3 : Nat) (e0 : (s.get! p).toNat = b0) (e1 : (s.get! (p + 1)).toNat = b1) (e2 : (s.get! (p + 2)).toNat = b2) (e3 : (s.get! (p + 3)).toNat = b3) :
    (b0 < 128 ∧ runeC s p = b0 ∧ runeW s p = 1) ∨
    (128 ≤ b0 ∧ b0 < 192 ∧ runeC s p = 0 ∧ runeW s p = 0) ∨
    (192 ≤ b0 ∧ b0 < 224 ∧ moreB s (p + 1) = false ∧ runeC s p = 0 ∧ runeW s p = 0) ∨
    (192 ≤ b0 ∧ b0 < 224 ∧ moreB s (p + 1) = true ∧ 128 ≤ b1 ∧ b1 < 192 ∧ p + 1 < s.size ∧ (b0 - 192 : Int) * 64 + b1 - 128 < 128 ∧ runeC s p = 0 ∧ runeW s p = 0) ∨
    (192 ≤ b0 ∧ b0 < 224 ∧ moreB s (p + 1) = true ∧ 128 ≤ b1 ∧ b1 < 192 ∧ p + 1 < s.size ∧ 128 ≤ (b0 - 192 : Int) * 64 + b1 - 128 ∧ runeC s p = (b0 - 192 : Int) * 64 + b1 - 128 ∧ runeW s p = 2) ∨
    (224 ≤ b0 ∧ b0 < 240 ∧ moreB s (p + 1) = false ∧ runeC s p = 0 ∧ runeW s p = 0) ∨
    (224 ≤ b0 ∧ b0 < 240 ∧ moreB s (p + 1) = true ∧ moreB s (p + 2) = false ∧ runeC s p = 0 ∧ runeW s p = 0) ∨
    (224 ≤ b0 ∧ b0 < 240 ∧ moreB s (p + 1) = true ∧ moreB s (p + 2) = true ∧ 128 ≤ b1 ∧ b1 < 192 ∧ 128 ≤ b2 ∧ b2 < 192 ∧ p + 2 < s.size ∧ (∃ v : Int, (b0 - 224 : Int) * 4096 + (b1 - 128 : Int) * 64 + b2 - 128 = v ∧
      ((v < 2048 ∧ runeC s p = 0 ∧ runeW s p = 0) ∨ (2048 ≤ v ∧ v < 55296 ∧ runeC s p = v ∧ runeW s p = 3) ∨ (2048 ≤ v ∧ 55296 ≤ v ∧ 57343 < v ∧ runeC s p = v ∧ runeW s p = 3) ∨ (2048 ≤ v ∧ 55296 ≤ v ∧ v ≤ 57343 ∧ runeC s p = 0 ∧ runeW s p = 0)))) ∨
    (240 ≤ b0 ∧ b0 < 248 ∧ moreB s (p + 1) = false ∧ runeC s p = 0 ∧ runeW s p = 0) ∨
    (240 ≤ b0 ∧ b0 < 248 ∧ moreB s (p + 1) = true ∧ moreB s (p + 2) = false ∧ runeC s p = 0 ∧ runeW s p = 0) ∨
    (240 ≤ b0 ∧ b0 < 248 ∧ moreB s (p + 1) = true ∧ moreB s (p + 2) = true ∧ moreB s (p + 3) = false ∧ runeC s p = 0 ∧ runeW s p = 0) ∨
    (240 ≤ b0 ∧ b0 < 248 ∧ moreB s (p + 1) = true ∧ moreB s (p + 2) = true ∧ moreB s (p + 3) = true ∧ 128 ≤ b1 ∧ b1 < 192 ∧ 128 ≤ b2 ∧ b2 < 192 ∧ 128 ≤ b3 ∧ b3 < 192 ∧ p + 3 < s.size ∧ (∃ v : Int, (b0 - 240 : Int) * 262144 + (b1 - 128 : Int) * 4096 + (b2 - 128 : Int) * 64 + b3 - 128 = v ∧
      ((v < 65536 ∧ runeC s p = 0 ∧ runeW s p = 0) ∨ (65536 ≤ v ∧ v ≤ 1114111 ∧ runeC s p = v ∧ runeW s p = 4) ∨ (65536 ≤ v ∧ 1114111 < v ∧ runeC s p = 0 ∧ runeW s p = 0)))) ∨
    (248 ≤ b0 ∧ b0 < 256 ∧ runeC s p = 0 ∧ runeW s p = 0) := by
  have hd := decode_dec s p
  rw [e0, e1, e2, e3] at hd
  have q0 : b0 < 256 := by rw [← e0]; exact (s.get! p).toNat_lt
  have m1 : moreB s (p + 1) = decide (p + 1 < s.size ∧ b1 / 64 = 2) := by unfold moreB; rw [e1]
  have m2 : moreB s (p + 2) = decide (p + 2 < s.size ∧ b2 / 64 = 2) := by unfold moreB; rw [e2]
  have m3 : moreB s (p + 3) = decide (p + 3 < s.size ∧ b3 / 64 = 2) := by unfold moreB; rw [e3]
  by_cases h0 : b0 < 128
  · left
    rw [dec, if_pos h0] at hd
    exact ⟨h0, (rune_good hd (.inr (by omega))).1, (rune_good hd (.inr (by omega))).2⟩
  rw [dec, if_neg h0] at hd
  by_cases h1 : b0 < 192
  · right; left
    rw [if_neg (by omega), if_neg (by omega), if_neg (by omega)] at hd
    exact ⟨by omega, h1, rune_bad hd⟩
  by_cases h2 : b0 < 224
  · by_cases k1 : p + 1 < s.size ∧ b1 / 64 = 2
    · rw [if_pos ⟨by omega, k1⟩] at hd
      by_cases v1 : 128 ≤ b0 % 32 * 64 + b1 % 64
      · rw [if_pos v1] at hd
        obtain ⟨g1, g2⟩ := rune_good hd (.inl (by omega))
        exact .inr (.inr (.inr (.inr (.inl ⟨by omega, h2, by rw [m1]; exact decide_eq_true k1, by omega, by omega, k1.1, by omega, by rw [g1]; omega, by rw [g2]; rfl⟩))))
      · rw [if_neg v1] at hd
        exact .inr (.inr (.inr (.inl ⟨by omega, h2, by rw [m1]; exact decide_eq_true k1, by omega, by omega, k1.1, by omega, rune_bad hd⟩)))
    · rw [if_neg (fun x => k1 x.2), if_neg (by omega), if_neg (by omega)] at hd
      exact .inr (.inr (.inl ⟨by omega, h2, by rw [m1]; exact decide_eq_false k1, rune_bad hd⟩))
  rw [if_neg (by omega)] at hd
  by_cases h3 : b0 < 240
  · by_cases k1 : p + 1 < s.size ∧ b1 / 64 = 2
    · by_cases k2 : p + 2 < s.size ∧ b2 / 64 = 2
      · rw [if_pos ⟨by omega, k1, k2⟩] at hd
        refine .inr (.inr (.inr (.inr (.inr (.inr (.inr (.inl ⟨by omega, h3, by rw [m1]; exact decide_eq_true k1, by rw [m2]; exact decide_eq_true k2, by omega, by omega, by omega, by omega, k2.1, _, rfl, ?_⟩)))))))
        by_cases v1 : 2048 ≤ b0 % 16 * 4096 + b1 % 64 * 64 + b2 % 64 ∧ ¬ (55296 ≤ b0 % 16 * 4096 + b1 % 64 * 64 + b2 % 64 ∧ b0 % 16 * 4096 + b1 % 64 * 64 + b2 % 64 < 57344)
        · rw [if_pos v1] at hd
          obtain ⟨g1, g2⟩ := rune_good hd (.inl (by omega))
          by_cases v2 : b0 % 16 * 4096 + b1 % 64 * 64 + b2 % 64 < 55296
          · exact .inr (.inl ⟨by omega, by omega, by rw [g1]; omega, by rw [g2]; rfl⟩)
          · exact .inr (.inr (.inl ⟨by omega, by omega, by omega, by rw [g1]; omega, by rw [g2]; rfl⟩))
        · rw [if_neg v1] at hd
          obtain ⟨g1, g2⟩ := rune_bad hd
          by_cases v2 : b0 % 16 * 4096 + b1 % 64 * 64 + b2 % 64 < 2048
          · exact .inl ⟨by omega, g1, g2⟩
          · exact .inr (.inr (.inr ⟨by omega, by omega, by omega, g1, g2⟩))
      · rw [if_neg (fun x => k2 x.2.2), if_neg (by omega)] at hd
        exact .inr (.inr (.inr (.inr (.inr (.inr (.inl ⟨by omega, h3, by rw [m1]; exact decide_eq_true k1, by rw [m2]; exact decide_eq_false k2, rune_bad hd⟩))))))
    · rw [if_neg (fun x => k1 x.2.1), if_neg (by omega)] at hd
      exact .inr (.inr (.inr (.inr (.inr (.inl ⟨by omega, h3, by rw [m1]; exact decide_eq_false k1, rune_bad hd⟩)))))
  rw [if_neg (by omega)] at hd
  by_cases h4 : b0 < 248
  · refine .inr (.inr (.inr (.inr (.inr (.inr (.inr (.inr ?_)))))))
    by_cases k1 : p + 1 < s.size ∧ b1 / 64 = 2
    · by_cases k2 : p + 2 < s.size ∧ b2 / 64 = 2
      · by_cases k3 : p + 3 < s.size ∧ b3 / 64 = 2
        · rw [if_pos ⟨by omega, k1, k2, k3⟩] at hd
          refine .inr (.inr (.inr (.inl ⟨by omega, h4, by rw [m1]; exact decide_eq_true k1, by rw [m2]; exact decide_eq_true k2, by rw [m3]; exact decide_eq_true k3, by omega, by omega, by omega, by omega, by omega, by omega, k3.1, _, rfl, ?_⟩)))
          by_cases v1 : 65536 ≤ b0 % 8 * 262144 + b1 % 64 * 4096 + b2 % 64 * 64 + b3 % 64 ∧ b0 % 8 * 262144 + b1 % 64 * 4096 + b2 % 64 * 64 + b3 % 64 ≤ 1114111
          · rw [if_pos v1] at hd
            obtain ⟨g1, g2⟩ := rune_good hd (.inl (by omega))
            exact .inr (.inl ⟨by omega, by omega, by rw [g1]; omega, by rw [g2]; rfl⟩)
          · rw [if_neg v1] at hd
            obtain ⟨g1, g2⟩ := rune_bad hd
            by_cases v2 : b0 % 8 * 262144 + b1 % 64 * 4096 + b2 % 64 * 64 + b3 % 64 < 65536
            · exact .inl ⟨by omega, g1, g2⟩
            · exact .inr (.inr ⟨by omega, by omega, g1, g2⟩)
        · rw [if_neg (fun x => k3 x.2.2.2)] at hd
          exact .inr (.inr (.inl ⟨by omega, h4, by rw [m1]; exact decide_eq_true k1, by rw [m2]; exact decide_eq_true k2, by rw [m3]; exact decide_eq_false k3, rune_bad hd⟩))
      · rw [if_neg (fun x => k2 x.2.2.1)] at hd
        exact .inr (.inl ⟨by omega, h4, by rw [m1]; exact decide_eq_true k1, by rw [m2]; exact decide_eq_false k2, rune_bad hd⟩)
    · rw [if_neg (fun x => k1 x.2.1)] at hd
      exact .inl ⟨by omega, h4, by rw [m1]; exact decide_eq_false k1, rune_bad hd⟩
  · rw [if_neg (by omega)] at hd
    exact .inr (.inr (.inr (.inr (.inr (.inr (.inr (.inr (.inr (.inr (.inr (.inr ⟨by omega, q0, rune_bad hd⟩)))))))))))
end Go.Proofs.Ytaipiflbigpniaa
