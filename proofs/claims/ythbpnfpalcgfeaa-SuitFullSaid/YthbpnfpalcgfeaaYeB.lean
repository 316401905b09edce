/-
  Yards: the contracts of triremeref09.Find, Place.
-/
import Derived.Test.YthbpnfpalcgfeaaYd3
namespace Go.Proofs.Ythbpnfpalcgfeaa
open Go.RowKit
set_option linter.unusedVariables false
set_option linter.unusedSimpArgs false

set_option maxRecDepth 100000 in
set_option maxHeartbeats 2000000 in
theorem rfind_any (a : Option Addr) (ka : Nat) (ms : List Mac) (nm : ByteArray) (w : World) (hF : MacL w a ms) (hl : ms.length ≤ 1000000) :
    Calls Try.prog 51 #[.slice a ms.length ka, .string nm] w fun e w' => e = .returned (.int .i64 (findN (ms.map Mac.nm) nm 0)) ∧ Below w.heap.size w w' := by
  obtain ⟨n, hn⟩ : ∃ n, ms.length = n := ⟨_, rfl⟩
  obtain ⟨N, hN⟩ : ∃ N, ms.map Mac.nm = N := ⟨_, rfl⟩
  have HN := Lib.hid hn
  have HM := Lib.hid hN
  have HL := Lib.hid (show N.length = n by rw [← hN, List.length_map, hn])
  obtain ⟨R, hR⟩ : ∃ R, findN N nm 0 = R := ⟨_, rfl⟩
  have HR := Lib.hid (show findN (N.drop 0) nm 0 = R from hR)
  have HF := Lib.hid hF
  rw [hn] at hl ⊢
  rw [hN, hR]
  clear hn hN hR hF
  go_enter Try.func51, Try.ntmps51
  go_wp2
  go_loopw [5] (fun vi wr => ∃ k : Nat, k ≤ n ∧ vi = .int .i64 k ∧ findN (N.drop k) nm k = R ∧ wr = w) (fun vi _ => n - (intOf vi).toNat)
  case atStart => exact ⟨0, Nat.zero_le _, rfl, HR.out, rfl⟩
  case round =>
    clear HR
    obtain ⟨k, hk, rfl, hE, rfl⟩ := hrel
    have HE := Lib.hid hE
    clear hE
    by_cases hlt : k < n
    · obtain ⟨m, hm⟩ := mem_at (l := ms) (k := k) (by rw [HN.out]; exact hlt)
      obtain ⟨b, o, rfl, hb, hc⟩ := HF.out (by rw [HN.out]; omega)
      have c0 : wr.cell? ⟨b, o + k * 10, none⟩ = some (.string (Mac.nm m)) := hc k m hm 0 (by decide)
      have hmN := nm_at hm
      rw [HM.out] at hmN
      obtain ⟨y, hy⟩ : ∃ y, Mac.nm m = y := ⟨_, rfl⟩
      rw [hy] at c0 hmN
      have HNx := Lib.hid ((findN_at (x := nm) hmN).symm.trans HE.out)
      clear hc hm hmN hy
      by_cases he : y = nm
      · have q := str_yes he
        obtain rfl : R = (k : Int) := by have := HNx.out; rw [if_pos he] at this; exact this.symm
        clear he
        go_wp2
        go_ret
        exact ⟨rfl, Below.refl _ _⟩
      · have q := str_no he
        have HNy := Lib.hid (show findN (N.drop (k + 1)) nm (k + 1) = R by have := HNx.out; rw [if_neg he] at this; exact this)
        clear he
        go_wp2
        go_roundw
        case rel => exact ⟨k + 1, by omega, by go_num, HNy.out, by trivial⟩
        case measure => simp [intOf]; omega
    · obtain rfl : k = n := by omega
      obtain rfl : R = -1 := by
        rw [← HE.out, List.drop_of_length_le (by rw [HL.out]; exact Nat.le_refl _)]
        rfl
      go_wp2
      go_ret
      exact ⟨rfl, Below.refl _ _⟩
set_option maxRecDepth 100000 in
set_option maxHeartbeats 2000000 in
theorem rplace_any (a : Option Addr) (ka : Nat) (bs : List Bd) (nm : ByteArray) (w : World) (hF : BndL w a bs) (hl : bs.length ≤ 1000000) :
    Calls Try.prog 28 #[.slice a bs.length ka, .string nm] w fun e w' => e = .returned (.int .i64 (findN (bs.map pnm) nm 0)) ∧ Below w.heap.size w w' := by
  obtain ⟨n, hn⟩ : ∃ n, bs.length = n := ⟨_, rfl⟩
  obtain ⟨N, hN⟩ : ∃ N, bs.map pnm = N := ⟨_, rfl⟩
  have HN := Lib.hid hn
  have HM := Lib.hid hN
  have HL := Lib.hid (show N.length = n by rw [← hN, List.length_map, hn])
  obtain ⟨R, hR⟩ : ∃ R, findN N nm 0 = R := ⟨_, rfl⟩
  have HR := Lib.hid (show findN (N.drop 0) nm 0 = R from hR)
  have HF := Lib.hid hF
  rw [hn] at hl ⊢
  rw [hN, hR]
  clear hn hN hR hF
  go_enter Try.func28, Try.ntmps28
  go_wp2
  go_loopw [5] (fun vi wr => ∃ k : Nat, k ≤ n ∧ vi = .int .i64 k ∧ findN (N.drop k) nm k = R ∧ wr = w) (fun vi _ => n - (intOf vi).toNat)
  case atStart => exact ⟨0, Nat.zero_le _, rfl, HR.out, rfl⟩
  case round =>
    clear HR
    obtain ⟨k, hk, rfl, hE, rfl⟩ := hrel
    have HE := Lib.hid hE
    clear hE
    by_cases hlt : k < n
    · obtain ⟨m, hm⟩ := mem_at (l := bs) (k := k) (by rw [HN.out]; exact hlt)
      obtain ⟨b, o, rfl, hb, hc⟩ := HF.out (by rw [HN.out]; omega)
      have c0 : wr.cell? ⟨b, o + k * 21, none⟩ = some (.string (pnm m)) := hc k m hm 0 (by decide)
      have hmN := pnm_at hm
      rw [HM.out] at hmN
      obtain ⟨y, hy⟩ : ∃ y, pnm m = y := ⟨_, rfl⟩
      rw [hy] at c0 hmN
      have HNx := Lib.hid ((findN_at (x := nm) hmN).symm.trans HE.out)
      clear hc hm hmN hy
      by_cases he : y = nm
      · have q := str_yes he
        obtain rfl : R = (k : Int) := by have := HNx.out; rw [if_pos he] at this; exact this.symm
        clear he
        go_wp2
        go_ret
        exact ⟨rfl, Below.refl _ _⟩
      · have q := str_no he
        have HNy := Lib.hid (show findN (N.drop (k + 1)) nm (k + 1) = R by have := HNx.out; rw [if_neg he] at this; exact this)
        clear he
        go_wp2
        go_roundw
        case rel => exact ⟨k + 1, by omega, by go_num, HNy.out, by trivial⟩
        case measure => simp [intOf]; omega
    · obtain rfl : k = n := by omega
      obtain rfl : R = -1 := by
        rw [← HE.out, List.drop_of_length_le (by rw [HL.out]; exact Nat.le_refl _)]
        rfl
      go_wp2
      go_ret
      exact ⟨rfl, Below.refl _ _⟩
end Go.Proofs.Ythbpnfpalcgfeaa
