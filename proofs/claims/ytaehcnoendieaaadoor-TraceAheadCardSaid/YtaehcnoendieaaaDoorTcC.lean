/-
  The document's number, read.
-/
import Derived.Test.YtaehcnoendieaaaDoorTcB
namespace Go.Proofs.YtaehcnoendieaaaDoor
open Go.RowKit
set_option linter.unusedVariables false
set_option linter.unusedSimpArgs false

def foldF (l : List UInt8) : Nat := l.foldl (fun a c => if isDq c = true then 10 * a + (c.toNat - 48) else a) 0
theorem foldF_snoc (l : List UInt8) (c : UInt8) : foldF (l ++ [c]) = if isDq c = true then 10 * foldF l + (c.toNat - 48) else foldF l := by
  unfold foldF
  rw [List.foldl_append]
  rfl
theorem fold_lt : ∀ (l : List UInt8) (a m : Nat), a < 10 ^ m → l.foldl (fun a c => if isDq c = true then 10 * a + (c.toNat - 48) else a) a < 10 ^ (m + l.length)
  | [], a, m, h => h
  | c :: l, a, m, h => by
    rw [List.foldl_cons, List.length_cons, show m + (l.length + 1) = m + 1 + l.length by omega]
    refine fold_lt l _ (m + 1) ?_
    rw [Nat.pow_succ]
    split
    · next h =>
      have := (of_decide_eq_true h : 48 ≤ c.toNat ∧ c.toNat ≤ 57).2
      omega
    · omega
theorem foldF_lt (l : List UInt8) : foldF l < 10 ^ l.length := by
  have := fold_lt l 0 0 (by decide)
  rw [Nat.zero_add] at this
  exact this
theorem foldF_small {l : List UInt8} (h : l.length ≤ 12) : foldF l < 1000000000000 := by
  have h1 := foldF_lt l
  have h2 : 10 ^ l.length ≤ 10 ^ 12 := Nat.pow_le_pow_right (by decide) h
  have h3 : (10 : Nat) ^ 12 = 1000000000000 := by decide
  omega
theorem numT_lt (l : List UInt8) : numT l < 10000000000000 := by
  have h1 := foldF_lt (l.take 13)
  have h2 : 10 ^ (l.take 13).length ≤ 10 ^ 13 := Nat.pow_le_pow_right (by decide) (List.length_take_le _ _)
  have h3 : (10 : Nat) ^ 13 = 10000000000000 := by decide
  show foldF (l.take 13) < _
  omega
set_option maxRecDepth 100000 in
set_option maxHeartbeats 8000000 in
theorem rnum_any (s : ByteArray) (hs : s.size ≤ 1000000) (w : World) :
    Calls Tryd.prog 42 #[.string s] w fun r w' => r = .returned (.int .i64 (numT (dl s))) ∧ Below w.heap.size w w' := by
  obtain ⟨R, hR⟩ : ∃ R, numT (dl s) = R := ⟨_, rfl⟩
  have HR := Lib.hid (show foldF ((dl s).take 13) = R from hR)
  rw [hR]
  obtain ⟨n, hn⟩ : ∃ n, s.size = n := ⟨_, rfl⟩
  have HN := Lib.hid hn
  rw [hn] at hs
  clear hR
  go_enter Tryd.func42, Tryd.ntmps42
  go_wp2
  go_loopw [3, 4] (fun vn vi wr => ∃ i : Nat, i ≤ n ∧ i ≤ 13 ∧ vn = .int .i64 (foldF ((dl s).take i)) ∧ vi = .int .i64 i ∧ wr = w) (fun _ vi _ => n - (intOf vi).toNat)
  case atStart => exact ⟨0, Nat.zero_le _, Nat.zero_le _, rfl, rfl, rfl⟩
  case round =>
    obtain ⟨i, hi, h13, rfl, rfl, rfl⟩ := hrel
    have hsz := HN.out
    by_cases hlt : i < n
    · have g1 : decide ((i : Int) < (n : Int)) = true := decide_eq_true (by omega)
      by_cases hlt2 : i < 13
      · have g2 : decide ((i : Int) < 13) = true := decide_eq_true (by omega)
        have hx := str_ix s i (by rw [HN.out]; exact hlt)
        have hc : (dl s).take (i + 1) = (dl s).take i ++ [s.get! i] := by
          have h9 := drop_get (s := s) (i := i) (by rw [HN.out]; exact hlt)
          rw [List.take_add_one]
          have : (dl s)[i]? = some (s.get! i) := by
            have := congrArg List.head? h9
            rw [List.head?_drop] at this
            exact this
          rw [this]
          rfl
        have hst := foldF_snoc ((dl s).take i) (s.get! i)
        rw [← hc] at hst
        have hsm := foldF_small (l := (dl s).take i) (Nat.le_trans (List.length_take_le _ _) (by omega))
        have hp256 : (s.get! i).toNat < 256 := UInt8.toNat_lt _
        obtain ⟨M, hM⟩ : ∃ M, foldF ((dl s).take i) = M := ⟨_, rfl⟩
        rw [hM] at hst hsm ⊢
        by_cases hd : isDq (s.get! i) = true
        · have h2 : 48 ≤ (s.get! i).toNat ∧ (s.get! i).toNat ≤ 57 := of_decide_eq_true hd
          rw [if_pos hd] at hst
          obtain ⟨p, hp⟩ : ∃ p, (s.get! i).toNat = p := ⟨_, rfl⟩
          rw [hp] at hx h2 hst hp256
          have k1 : decide (48 ≤ (p : Int)) = true := decide_eq_true (by omega)
          have k2 : decide ((p : Int) ≤ 57) = true := decide_eq_true (by omega)
          have f1 : IntKind.u8.wrap ((p : Int) - 48) = (p : Int) - 48 := by rw [IntKind.wrap_u8]; omega
          have f2 : IntKind.i64.wrap ((p : Int) - 48) = (p : Int) - 48 := wrap_in (by omega) (by omega)
          have f3 : IntKind.i64.wrap (10 * (M : Int)) = 10 * (M : Int) := wrap_in (by omega) (by omega)
          have f4 : IntKind.i64.wrap (10 * (M : Int) + ((p : Int) - 48)) = 10 * (M : Int) + ((p : Int) - 48) := wrap_in (by omega) (by omega)
          have Hst := Lib.hid (show (10 * (M : Int) + ((p : Int) - 48)) = ((foldF ((dl s).take (i + 1)) : Nat) : Int) by rw [hst]; omega)
          clear hst hM hp hd hc HR
          go_wp2
          go_roundw
          case rel => exact ⟨i + 1, by omega, by omega, by rw [Hst.out], by go_num, by trivial⟩
          case measure => simp [intOf]; omega
        · rw [if_neg hd] at hst
          have h2 : ¬ (48 ≤ (s.get! i).toNat ∧ (s.get! i).toNat ≤ 57) := fun h => hd (decide_eq_true h)
          obtain ⟨p, hp⟩ : ∃ p, (s.get! i).toNat = p := ⟨_, rfl⟩
          rw [hp] at hx h2 hp256
          have Hst := Lib.hid (show M = foldF ((dl s).take (i + 1)) from hst.symm)
          clear hst hM hp hd hc HR
          by_cases h48 : 48 ≤ p
          · have k1 : decide (48 ≤ (p : Int)) = true := decide_eq_true (by omega)
            have k2 : decide ((p : Int) ≤ 57) = false := decide_eq_false (by omega)
            go_wp2
            go_roundw
            case rel => exact ⟨i + 1, by omega, by omega, by rw [← Hst.out], by go_num, by trivial⟩
            case measure => simp [intOf]; omega
          · have k1 : decide (48 ≤ (p : Int)) = false := decide_eq_false (by omega)
            go_wp2
            go_roundw
            case rel => exact ⟨i + 1, by omega, by omega, by rw [← Hst.out], by go_num, by trivial⟩
            case measure => simp [intOf]; omega
      · obtain rfl : i = 13 := by omega
        have g2 : decide ((13 : Int) < 13) = false := by decide
        rw [HR.out]
        go_wp2
        go_ret
        exact ⟨rfl, Below.refl _ _⟩
    · obtain rfl : i = n := by omega
      have g1 : decide ((i : Int) < (i : Int)) = false := decide_eq_false (by omega)
      have h9 : (dl s).take i = (dl s).take 13 := by
        rw [List.take_of_length_le (by rw [dl_size, HN.out]; exact Nat.le_refl _), List.take_of_length_le (by rw [dl_size, HN.out]; omega)]
      rw [h9, HR.out]
      go_wp2
      go_ret
      exact ⟨rfl, Below.refl _ _⟩
end Go.Proofs.YtaehcnoendieaaaDoor
