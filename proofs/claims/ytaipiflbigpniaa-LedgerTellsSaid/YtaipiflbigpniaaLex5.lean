/-
  The contract of triremeref01.Word.
-/
import Derived.Test.YtaipiflbigpniaaLex4
namespace Go.Proofs.Ytaipiflbigpniaa
open Go.RowKit
set_option linter.unusedVariables false
set_option linter.unusedSimpArgs false

/-- Where the document's scan stands: it goes on till the end. -/
theorem WordSt.more {s : ByteArray} {pos f n : Nat} (h : WordSt s pos f n) (hn : 64 < n) : wordB s = false := by
  unfold wordB
  rw [h.1]
  cases hx : wordFrom s f pos with
  | none => rfl
  | some k =>
    simp only [Option.map_some]
    exact decide_eq_false (by omega)
theorem WordSt.fin {s : ByteArray} {pos fuel n : Nat} (h : WordSt s pos fuel n) (hp : ¬ pos < s.size) : wordB s = decide (1 ≤ n ∧ n ≤ 64) := by
  have e : wordFrom s fuel pos = some 0 := by
    cases fuel with
    | zero => rfl
    | succ f => rw [wordFrom, if_neg hp]
  unfold wordB
  rw [h.1, e]
  simp
theorem rune_wid {s : ByteArray} {p : Nat} (h : badAt s p = false) : runeW s p = ((Utf8.decode s p).2 : Int) ∧ runeC s p = ((Utf8.decode s p).1 : Int) := by
  unfold runeW runeC
  rw [h]
  exact ⟨rfl, rfl⟩
theorem rune_wid0 {s : ByteArray} {p : Nat} (h : badAt s p = true) : runeW s p = 0 := by
  unfold runeW
  rw [h]
  rfl
theorem decode_end (s : ByteArray) (p : Nat) (hp : p < s.size) : p + (Utf8.decode s p).2 ≤ s.size := by
  rw [decode_dec]
  unfold dec
  split
  · simp only; omega
  · split
    · split <;> (simp only; omega)
    · split
      · split <;> (simp only; omega)
      · split
        · split <;> (simp only; omega)
        · simp only; omega

set_option maxRecDepth 100000 in
set_option maxHeartbeats 2000000 in
theorem refword_any (s : ByteArray) (hs : s.size ≤ 1000000000) (w : World) :
    Calls Try.prog 38 #[.string s] w fun e w' => e = .returned (.bool (wordB s)) ∧ Below w.heap.size w w' := by
  go_enter Try.func38, Try.ntmps38
  go_wp2
  go_loopw [3, 4] (fun v u wr => ∃ pos fuel n : Nat, v = .int .i64 n ∧ u = .int .i64 pos ∧ n ≤ pos ∧ pos ≤ s.size ∧ WordSt s pos fuel n ∧ Below w.heap.size w wr) (fun _ u _ => s.size - (intOf u).toNat)
  case atStart => exact ⟨0, s.size, 0, rfl, rfl, Nat.le_refl _, Nat.zero_le _, WordSt.start s, by (repeat' (first | with_reducible exact Below.refl _ _ | with_reducible assumption | with_reducible refine Below.drew ?_ | with_reducible refine below_drewN' ?_ _ | with_reducible refine Below.alloc ?_ ?_ _ | with_reducible refine Below.setCell ?_ ?_ _ | with_reducible refine below_step (by assumption) ?_ ?_ | omega | (simp; done) | (simp; omega)))⟩
  case round =>
    obtain ⟨pos, fuel, n, rfl, rfl, hn, hpe, hst, hB⟩ := hrel
    have hbz := hB.size
    have Hst := Lib.hid hst
    clear hst
    by_cases hp : pos < s.size
    · have hwd := Lib.decode_width_pos s pos hp
      have hde := decode_end s pos hp
      obtain ⟨f, rfl⟩ := Hst.out.fuel hp
      cases h2 : badAt s pos
      · obtain ⟨r2, r1⟩ := rune_wid h2
        have R1 := Lib.hid r1
        have R2 := Lib.hid r2
        cases h1 : inW (Utf8.decode s pos).1
        · have hr := Hst.out.odd hp (fun x => by rw [h1] at x; cases x.1)
          have H1 := Lib.hid h1
          clear h1 h2 r1 r2
          go_wp2_with (first | (go_at_call 44; (with_reducible refine (refrune_any s pos hp hs _).mono ?_); rw [R1.out, R2.out]; rintro e w5 ⟨rfl, hb5⟩; have hz5 := hb5.size) | (go_at_call 45; (with_reducible refine (plain_any _ _).mono ?_); rw [H1.out]; rintro e w6 ⟨rfl, hb6⟩; have hz6 := hb6.size))
          go_ret
          exact ⟨by rw [hr]; rfl, by (repeat' (first | with_reducible exact Below.refl _ _ | with_reducible assumption | with_reducible refine Below.drew ?_ | with_reducible refine below_drewN' ?_ _ | with_reducible refine Below.alloc ?_ ?_ _ | with_reducible refine Below.setCell ?_ ?_ _ | with_reducible refine below_step (by assumption) ?_ ?_ | omega | (simp; done) | (simp; omega)))⟩
        · have hs2 := Hst.out.step hp h1 h2
          have Hs2 := Lib.hid hs2
          have H1 := Lib.hid h1
          clear h1 h2 hs2 r1 r2
          have hw0 : (((Utf8.decode s pos).2 : Nat) : Int) ≠ 0 := by omega
          go_wp2_with (first | (go_at_call 44; (with_reducible refine (refrune_any s pos hp hs _).mono ?_); rw [R1.out, R2.out]; rintro e w5 ⟨rfl, hb5⟩; have hz5 := hb5.size) | (go_at_call 45; (with_reducible refine (plain_any _ _).mono ?_); rw [H1.out]; rintro e w6 ⟨rfl, hb6⟩; have hz6 := hb6.size))
          go_roundw
          case rel => exact ⟨pos + (Utf8.decode s pos).2, f, n + 1, by go_num, by rw [Int.natCast_add], by omega, hde, Hs2.out, by (repeat' (first | with_reducible exact Below.refl _ _ | with_reducible assumption | with_reducible refine Below.drew ?_ | with_reducible refine below_drewN' ?_ _ | with_reducible refine Below.alloc ?_ ?_ _ | with_reducible refine Below.setCell ?_ ?_ _ | with_reducible refine below_step (by assumption) ?_ ?_ | omega | (simp; done) | (simp; omega)))⟩
          case measure => simp [intOf]; omega
      · have r2 := rune_wid0 h2
        have hr := Hst.out.odd hp (fun x => by rw [h2] at x; cases x.2)
        have R2 := Lib.hid r2
        clear h2 r2
        go_wp2_with (go_at_call 44; (with_reducible refine (refrune_any s pos hp hs _).mono ?_); rw [R2.out]; rintro e w5 ⟨rfl, hb5⟩; have hz5 := hb5.size)
        go_ret
        exact ⟨by rw [hr]; rfl, by (repeat' (first | with_reducible exact Below.refl _ _ | with_reducible assumption | with_reducible refine Below.drew ?_ | with_reducible refine below_drewN' ?_ _ | with_reducible refine Below.alloc ?_ ?_ _ | with_reducible refine Below.setCell ?_ ?_ _ | with_reducible refine below_step (by assumption) ?_ ?_ | omega | (simp; done) | (simp; omega)))⟩
    · have hr := Hst.out.fin hp
      have hn1 : (1 ≤ n ∧ n ≤ 64) ∨ ¬ (1 ≤ n ∧ n ≤ 64) := Decidable.em _
      rcases hn1 with h1 | h1
      · obtain ⟨h2, h3⟩ := h1
        rw [decide_eq_true (show 1 ≤ n ∧ n ≤ 64 from ⟨h2, h3⟩)] at hr
        have Hr := Lib.hid hr
        clear hr
        go_wp2
        go_ret
        exact ⟨by rw [Hr.out]; first | rfl | (simp; omega), hB⟩
      · rw [decide_eq_false h1] at hr
        have Hr := Lib.hid hr
        clear hr
        have h2 : n = 0 ∨ 64 < n := by omega
        clear h1
        rcases h2 with h2 | h2
        · subst h2
          go_wp2
          go_ret
          exact ⟨by rw [Hr.out]; first | rfl | (simp; omega), hB⟩
        · have h3 : 1 ≤ n := by omega
          go_wp2
          go_ret
          exact ⟨by rw [Hr.out]; first | rfl | (simp; omega), hB⟩
end Go.Proofs.Ytaipiflbigpniaa
