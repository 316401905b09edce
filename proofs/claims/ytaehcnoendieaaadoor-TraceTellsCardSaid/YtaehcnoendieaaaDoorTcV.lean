/-
  The document's state and Check.
-/
import Derived.Test.YtaehcnoendieaaaDoorTcU
namespace Go.Proofs.YtaehcnoendieaaaDoor
open Go.RowKit
set_option linter.unusedVariables false
set_option linter.unusedSimpArgs false

set_option maxRecDepth 100000 in
set_option maxHeartbeats 8000000 in
theorem rstate_any (l : List Ev) (a : Option Addr) (c n : Nat) (nm : ByteArray) (w : World) (hF : EvL w a l) (hl : l.length ≤ 200) (hn : n ≤ l.length) :
    Calls Tryd.prog 37 #[.slice a l.length c, .int .i64 n, .string nm] w fun r w' => r = .returned (.int .i64 (stateB (l.take n) nm)) ∧ w' = w := by
  have HF := Lib.hid hF
  obtain ⟨z, hz⟩ : ∃ z, l.length = z := ⟨_, rfl⟩
  have HZ := Lib.hid hz
  rw [hz] at hl hn ⊢
  clear hz hF
  go_enter Tryd.func37, Tryd.ntmps37
  go_wp2
  go_loopw [7, 8] (fun vs vi wr => ∃ k : Nat, k ≤ n ∧ vs = .int .i64 (stateB (l.take k) nm) ∧ vi = .int .i64 k ∧ wr = w) (fun _ vi _ => n - (intOf vi).toNat)
  case atStart => exact ⟨0, by omega, rfl, rfl, rfl⟩
  case round =>
    obtain ⟨k, hk, rfl, rfl, rfl⟩ := hrel
    by_cases hlt : k < n
    · obtain ⟨e, he⟩ := mem_at (l := l) (k := k) (by rw [HZ.out]; omega)
      have hkz : k < z := by omega
      have hst := state_take he nm
      obtain ⟨b, o, rfl, hb, hcc⟩ := HF.out (by rw [HZ.out]; omega)
      obtain ⟨c0, c1, c2, c3⟩ := ev_cells (hcc k e he)
      obtain ⟨now, what, name, en⟩ := e
      unfold stF at hst
      dsimp only at c0 c1 c2 c3 hst
      clear hcc he
      by_cases hnm : name = nm
      · have p := tnt_str hnm
        rw [if_pos hnm] at hst
        clear hnm
        by_cases w0 : what = ⟨#[100, 111, 119, 110]⟩
        · have q0 : (what.toList == [100, 111, 119, 110]) = true := lit_yes w0
          have hph : phB what = 1 := by rw [w0]; decide +kernel
          rw [hph] at hst
          have Hst := Lib.hid hst
          clear hst hph w0
          go_wp2
          go_roundw
          case rel => exact ⟨k + 1, by omega, by rw [Hst.out]; rfl, by go_num, by trivial⟩
          case measure => simp [intOf]; omega
        have q0 : (what.toList == [100, 111, 119, 110]) = false := lit_no w0
        by_cases w1 : what = ⟨#[100, 101, 108, 101, 116, 101]⟩
        · have q1 : (what.toList == [100, 101, 108, 101, 116, 101]) = true := lit_yes w1
          have hph : phB what = 2 := by rw [w1]; decide +kernel
          rw [hph] at hst
          have Hst := Lib.hid hst
          clear hst hph w0 w1
          go_wp2
          go_roundw
          case rel => exact ⟨k + 1, by omega, by rw [Hst.out]; rfl, by go_num, by trivial⟩
          case measure => simp [intOf]; omega
        have q1 : (what.toList == [100, 101, 108, 101, 116, 101]) = false := lit_no w1
        by_cases w2 : what = ⟨#[107, 101, 101, 112]⟩
        · have q2 : (what.toList == [107, 101, 101, 112]) = true := lit_yes w2
          have hph : phB what = 3 := by rw [w2]; decide +kernel
          rw [hph] at hst
          have Hst := Lib.hid hst
          clear hst hph w0 w1 w2
          go_wp2
          go_roundw
          case rel => exact ⟨k + 1, by omega, by rw [Hst.out]; rfl, by go_num, by trivial⟩
          case measure => simp [intOf]; omega
        have q2 : (what.toList == [107, 101, 101, 112]) = false := lit_no w2
        by_cases w3 : what = ⟨#[115, 116, 111, 112]⟩
        · have q3 : (what.toList == [115, 116, 111, 112]) = true := lit_yes w3
          have hph : phB what = 3 := by rw [w3]; decide +kernel
          rw [hph] at hst
          have Hst := Lib.hid hst
          clear hst hph w0 w1 w2 w3
          go_wp2
          go_roundw
          case rel => exact ⟨k + 1, by omega, by rw [Hst.out]; rfl, by go_num, by trivial⟩
          case measure => simp [intOf]; omega
        have q3 : (what.toList == [115, 116, 111, 112]) = false := lit_no w3
        by_cases w4 : what = ⟨#[103, 111, 110, 101]⟩
        · have q4 : (what.toList == [103, 111, 110, 101]) = true := lit_yes w4
          have hph : phB what = 3 := by rw [w4]; decide +kernel
          rw [hph] at hst
          have Hst := Lib.hid hst
          clear hst hph w0 w1 w2 w3 w4
          go_wp2
          go_roundw
          case rel => exact ⟨k + 1, by omega, by rw [Hst.out]; rfl, by go_num, by trivial⟩
          case measure => simp [intOf]; omega
        have q4 : (what.toList == [103, 111, 110, 101]) = false := lit_no w4
        have hph : phB what = 0 := by unfold phB inB G6 G7 G8; simp [w0, w1, w2, w3, w4]
        rw [hph] at hst
        have Hst := Lib.hid hst
        clear hst hph w0 w1 w2 w3 w4
        go_wp2
        go_roundw
        case rel => exact ⟨k + 1, by omega, by rw [Hst.out]; rfl, by go_num, by trivial⟩
        case measure => simp [intOf]; omega
      · have p := tnt_strn hnm
        rw [if_neg hnm] at hst
        have Hst := Lib.hid hst
        clear hst hnm
        go_wp2
        go_roundw
        case rel => exact ⟨k + 1, by omega, by rw [Hst.out], by go_num, by trivial⟩
        case measure => simp [intOf]; omega
    · obtain rfl : k = n := by omega
      go_wp2
      go_ret
      exact ⟨rfl, by trivial⟩
end Go.Proofs.YtaehcnoendieaaaDoor
