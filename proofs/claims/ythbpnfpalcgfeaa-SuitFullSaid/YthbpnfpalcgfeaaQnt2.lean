/-
  The contracts of triremeref03.digits, value, Number.
-/
import Derived.Test.YthbpnfpalcgfeaaQnt1
namespace Go.Proofs.Ythbpnfpalcgfeaa
namespace Lb
set_option linter.unusedSimpArgs false
open Go.RowKit
set_option linter.unusedVariables false

set_option maxRecDepth 100000 in
theorem digit_any (p : Nat) (w : World) :
    Calls Try.prog 135 #[.int .u8 (p : Int)] w fun e w' => e = .returned (.bool (decide (48 ≤ p ∧ p ≤ 57))) ∧ Below w.heap.size w w' := by
  by_cases h48 : 48 ≤ p
  · by_cases h57 : p ≤ 57
    · rw [decide_eq_true (⟨h48, h57⟩ : 48 ≤ p ∧ p ≤ 57)]
      go_enter Try.func135, Try.ntmps135
      go_wp2
      go_ret
      exact ⟨by first | rfl | (simp; omega), by (repeat' (first | with_reducible exact Below.refl _ _ | with_reducible assumption | with_reducible refine Below.drew ?_ | with_reducible refine below_drewN' ?_ _ | with_reducible refine Below.alloc ?_ ?_ _ | with_reducible refine Below.setCell ?_ ?_ _ | with_reducible refine below_step (by assumption) ?_ ?_ | omega | (simp; done) | (simp; omega)))⟩
    · rw [decide_eq_false (fun h => h57 h.2)]
      go_enter Try.func135, Try.ntmps135
      go_wp2
      go_ret
      exact ⟨by first | rfl | (simp; omega), by (repeat' (first | with_reducible exact Below.refl _ _ | with_reducible assumption | with_reducible refine Below.drew ?_ | with_reducible refine below_drewN' ?_ _ | with_reducible refine Below.alloc ?_ ?_ _ | with_reducible refine Below.setCell ?_ ?_ _ | with_reducible refine below_step (by assumption) ?_ ?_ | omega | (simp; done) | (simp; omega)))⟩
  · rw [decide_eq_false (fun h => h48 h.1)]
    go_enter Try.func135, Try.ntmps135
    go_wp2
    go_ret
    exact ⟨by first | rfl | (simp; omega), by (repeat' (first | with_reducible exact Below.refl _ _ | with_reducible assumption | with_reducible refine Below.drew ?_ | with_reducible refine below_drewN' ?_ _ | with_reducible refine Below.alloc ?_ ?_ _ | with_reducible refine Below.setCell ?_ ?_ _ | with_reducible refine below_step (by assumption) ?_ ?_ | omega | (simp; done) | (simp; omega)))⟩

set_option maxRecDepth 100000 in
set_option maxHeartbeats 4000000 in
theorem digits_any (s : ByteArray) (hs : s.size ≤ 1000000000) (w : World) :
    Calls Try.prog 114 #[.string s] w fun e w' => e = .returned (.int .i64 (intV s).2) ∧ Below w.heap.size w w' := by
  go_enter Try.func114, Try.ntmps114
  go_wp2
  go_loopw [3] (fun i wr => ∃ (k f : Nat) (D : Int × Int), k ≤ s.size ∧ s.size ≤ k + f ∧ i = .int .i64 k ∧ intV s = intF s f k D ∧ Below w.heap.size w wr) (fun i _ => s.size - (intOf i).toNat)
  case atStart => exact ⟨0, s.size, (0, 0), Nat.zero_le _, by omega, rfl, rfl, by (repeat' (first | with_reducible exact Below.refl _ _ | with_reducible assumption | with_reducible refine Below.drew ?_ | with_reducible refine below_drewN' ?_ _ | with_reducible refine Below.alloc ?_ ?_ _ | with_reducible refine Below.setCell ?_ ?_ _ | with_reducible refine below_step (by assumption) ?_ ?_ | omega | (simp; done) | (simp; omega)))⟩
  case round =>
    obtain ⟨k, f, D, hk, hf, rfl, hE, hB⟩ := hrel
    have HE := Lib.hid hE
    have HB := Lib.hid hB
    have hbz := hB.size
    clear hE
    by_cases hlt : k < s.size
    · have hx := str_ix s k hlt
      obtain ⟨p, hp⟩ : ∃ p, (s.get! k).toNat = p := ⟨_, rfl⟩
      have hdg : digB s k = decide (48 ≤ p ∧ p ≤ 57) := by unfold digB; rw [hp]; simp [hlt]
      rw [hp] at hx
      obtain ⟨f, rfl⟩ : ∃ g, f = g + 1 := ⟨f - 1, by omega⟩
      have hE2 := HE.out
      rw [intF, hp, hdg] at hE2
      clear hp hdg
      cases hd : decide (48 ≤ p ∧ p ≤ 57)
      · rw [hd, if_neg (by decide)] at hE2
        have H2 := Lib.hid hE2
        have Hd := Lib.hid hd
        clear hE2 hd
        go_wp2_with (go_at_call 135; (with_reducible refine (digit_any p _).mono ?_); rw [Hd.out]; rintro e w1 ⟨rfl, hb1⟩; have hz1 := hb1.size)
        go_ret
        exact ⟨by rw [H2.out]; rfl, by (repeat' (first | with_reducible exact Below.refl _ _ | with_reducible assumption | with_reducible refine Below.drew ?_ | with_reducible refine below_drewN' ?_ _ | with_reducible refine Below.alloc ?_ ?_ _ | with_reducible refine Below.setCell ?_ ?_ _ | with_reducible refine below_step (by assumption) ?_ ?_ | omega | (simp; done) | (simp; omega)))⟩
      · rw [hd, if_pos rfl] at hE2
        have H2 := Lib.hid hE2
        have Hd := Lib.hid hd
        clear hE2 hd
        go_wp2_with (go_at_call 135; (with_reducible refine (digit_any p _).mono ?_); rw [Hd.out]; rintro e w1 ⟨rfl, hb1⟩; have hz1 := hb1.size)
        go_roundw
        case rel => exact ⟨k + 1, f, _, by omega, by omega, by go_num, H2.out, by (repeat' (first | with_reducible exact Below.refl _ _ | with_reducible assumption | with_reducible refine Below.drew ?_ | with_reducible refine below_drewN' ?_ _ | with_reducible refine Below.alloc ?_ ?_ _ | with_reducible refine Below.setCell ?_ ?_ _ | with_reducible refine below_step (by assumption) ?_ ?_ | omega | (simp; done) | (simp; omega)))⟩
        case measure => simp [intOf]; omega
    · have H2 := Lib.hid (HE.out.trans (intF_end f k D (by unfold digB; simp [hlt])))
      go_wp2
      go_ret
      exact ⟨by rw [H2.out]; rfl, by (repeat' (first | with_reducible exact Below.refl _ _ | with_reducible assumption | with_reducible refine Below.drew ?_ | with_reducible refine below_drewN' ?_ _ | with_reducible refine Below.alloc ?_ ?_ _ | with_reducible refine Below.setCell ?_ ?_ _ | with_reducible refine below_step (by assumption) ?_ ?_ | omega | (simp; done) | (simp; omega)))⟩

/-- A number, but one more than can be, if it is more. -/
def capM (x : Int) : Int := if 1125899906842625 < x then 1125899906842625 else x
def allD (s : ByteArray) : Prop := ∀ i, i < s.size → digB s i = true
theorem capM_step {D : Int × Int} {d : Int} (h1 : 0 ≤ D.1 ∧ D.1 ≤ 1127025806749466624) (hd : 0 ≤ d ∧ d ≤ 9) : capM (addD D d).1 = if 1125899906842625 < 10 * capM D.1 + d then 1125899906842625 else 10 * capM D.1 + d := by
  unfold capM addD
  dsimp only
  repeat' split
  all_goals omega

set_option maxRecDepth 100000 in
set_option maxHeartbeats 4000000 in
theorem value_any (s : ByteArray) (hs : s.size ≤ 1000000000) (ha : allD s) (w : World) :
    Calls Try.prog 115 #[.string s] w fun e w' => e = .returned (.int .i64 (capM (intV s).1.1)) ∧ Below w.heap.size w w' := by
  have Ha := Lib.hid ha
  clear ha
  go_enter Try.func115, Try.ntmps115
  go_wp2
  go_loopw [3, 4] (fun v i wr => ∃ (k f : Nat) (D : Int × Int), k ≤ s.size ∧ s.size ≤ k + f ∧ i = .int .i64 k ∧ v = .int .i64 (capM D.1) ∧ intV s = intF s f k D ∧ (0 ≤ D.1 ∧ D.1 ≤ 1127025806749466624) ∧ (0 ≤ D.2 ∧ D.2 < 1000) ∧ Below w.heap.size w wr) (fun _ i _ => s.size - (intOf i).toNat)
  case atStart => exact ⟨0, s.size, (0, 0), Nat.zero_le _, by omega, rfl, rfl, rfl, by decide, by decide, by (repeat' (first | with_reducible exact Below.refl _ _ | with_reducible assumption | with_reducible refine Below.drew ?_ | with_reducible refine below_drewN' ?_ _ | with_reducible refine Below.alloc ?_ ?_ _ | with_reducible refine Below.setCell ?_ ?_ _ | with_reducible refine below_step (by assumption) ?_ ?_ | omega | (simp; done) | (simp; omega)))⟩
  case round =>
    obtain ⟨k, f, D, hk, hf, rfl, rfl, hE, hD1, hD2, hB⟩ := hrel
    have HE := Lib.hid hE
    have HB := Lib.hid hB
    have hbz := hB.size
    clear hE
    by_cases hlt : k < s.size
    · have hx := str_ix s k hlt
      have hdg := Ha.out k hlt
      obtain ⟨f, rfl⟩ : ∃ g, f = g + 1 := ⟨f - 1, by omega⟩
      have hE2 := HE.out
      rw [intF, hdg, if_pos rfl] at hE2
      obtain ⟨p, hp⟩ : ∃ p, (s.get! k).toNat = p := ⟨_, rfl⟩
      have hpd : 48 ≤ p ∧ p ≤ 57 := by unfold digB at hdg; rw [hp] at hdg; simp at hdg; omega
      rw [hp] at hx hE2
      clear hp hdg
      have H2 := Lib.hid hE2
      have hd : 0 ≤ ((p : Int) - 48) ∧ ((p : Int) - 48) ≤ 9 := by omega
      have Hst := Lib.hid (capM_step hD1 hd)
      obtain ⟨b1, b2⟩ := addD_bd hD1 hD2 hd
      have hc : 0 ≤ capM D.1 ∧ capM D.1 ≤ 1125899906842625 := by unfold capM; split <;> omega
      obtain ⟨c, hcc⟩ : ∃ c, capM D.1 = c := ⟨_, rfl⟩
      have Hcc := Lib.hid hcc
      rw [hcc] at hc ⊢
      have w1 : IntKind.u8.wrap ((p : Int) - 48) = (p : Int) - 48 := by simp [IntKind.wrap, IntKind.bits, IntKind.signed]; omega
      have w2 : IntKind.i64.wrap ((p : Int) - 48) = (p : Int) - 48 := wrap_in (by omega) (by omega)
      have w3 : IntKind.i64.wrap (10 * c) = 10 * c := wrap_in (by omega) (by omega)
      have w4 : IntKind.i64.wrap (10 * c + ((p : Int) - 48)) = 10 * c + ((p : Int) - 48) := wrap_in (by omega) (by omega)
      clear hE2 hcc
      by_cases hbig : 1125899906842625 < 10 * c + ((p : Int) - 48)
      · have Hc := Lib.hid (show capM (addD D ((p : Int) - 48)).1 = 1125899906842625 by rw [Hst.out, Hcc.out, if_pos hbig])
        go_wp2
        go_roundw
        case rel => exact ⟨k + 1, f, _, by omega, by omega, by go_num, by rw [Hc.out], H2.out, b1, b2, by (repeat' (first | with_reducible exact Below.refl _ _ | with_reducible assumption | with_reducible refine Below.drew ?_ | with_reducible refine below_drewN' ?_ _ | with_reducible refine Below.alloc ?_ ?_ _ | with_reducible refine Below.setCell ?_ ?_ _ | with_reducible refine below_step (by assumption) ?_ ?_ | omega | (simp; done) | (simp; omega)))⟩
        case measure => simp [intOf]; omega
      · have Hc := Lib.hid (show capM (addD D ((p : Int) - 48)).1 = 10 * c + ((p : Int) - 48) by rw [Hst.out, Hcc.out, if_neg hbig])
        go_wp2
        go_roundw
        case rel => exact ⟨k + 1, f, _, by omega, by omega, by go_num, by rw [Hc.out], H2.out, b1, b2, by (repeat' (first | with_reducible exact Below.refl _ _ | with_reducible assumption | with_reducible refine Below.drew ?_ | with_reducible refine below_drewN' ?_ _ | with_reducible refine Below.alloc ?_ ?_ _ | with_reducible refine Below.setCell ?_ ?_ _ | with_reducible refine below_step (by assumption) ?_ ?_ | omega | (simp; done) | (simp; omega)))⟩
        case measure => simp [intOf]; omega
    · have H2 := Lib.hid (HE.out.trans (intF_end f k D (by unfold digB; simp [hlt])))
      go_wp2
      go_ret
      exact ⟨by rw [H2.out]; rfl, by (repeat' (first | with_reducible exact Below.refl _ _ | with_reducible assumption | with_reducible refine Below.drew ?_ | with_reducible refine below_drewN' ?_ _ | with_reducible refine Below.alloc ?_ ?_ _ | with_reducible refine Below.setCell ?_ ?_ _ | with_reducible refine below_step (by assumption) ?_ ?_ | omega | (simp; done) | (simp; omega)))⟩

/-- What has digits alone. -/
theorem intF_all (s : ByteArray) : ∀ f i d, s.size ≤ i + f → (intF s f i d).2 = s.size → ∀ j, i ≤ j → j < s.size → digB s j = true := by
  intro f
  induction f with
  | zero => intro i d h1 h2 j h3 h4; omega
  | succ f ih =>
    intro i d h1 h2 j h3 h4
    rw [intF] at h2
    cases hd : digB s i
    · rw [hd, if_neg (by decide)] at h2
      have h2' : i = s.size := h2
      omega
    · rw [hd, if_pos rfl] at h2
      by_cases e : i = j
      · rw [← e]; exact hd
      · exact ih (i + 1) _ (by omega) h2 j (by omega) h4

set_option maxRecDepth 100000 in
set_option maxHeartbeats 4000000 in
theorem refnumber_any (s : ByteArray) (hs : s.size ≤ 1000000000) (w : World) :
    Calls Try.prog 88 #[.string s] w fun e w' => e = .returned (.tuple #[.int .i64 (numV s).1, .int .i64 (numV s).2]) ∧ Below w.heap.size w w' := by
  have hle : (intV s).2 ≤ s.size := intF_le s _ _ _ (Nat.zero_le _)
  have hem : s = emp ↔ s.size = 0 := by
    constructor
    · rintro rfl; rfl
    · intro h; exact ByteArray.ext (by rw [show emp.data = #[] from rfl]; exact Array.eq_empty_of_size_eq_zero h)
  unfold numV
  by_cases h1 : s.size = 0
  · have g1 : ((s.size : Int) == 0) = true := by rw [h1]; rfl
    rw [if_pos (.inl (hem.2 h1))]
    clear hem
    go_enter Try.func88, Try.ntmps88
    go_wp2
    go_ret2
    exact ⟨rfl, by (repeat' (first | with_reducible exact Below.refl _ _ | with_reducible assumption | with_reducible refine Below.drew ?_ | with_reducible refine below_drewN' ?_ _ | with_reducible refine Below.alloc ?_ ?_ _ | with_reducible refine Below.setCell ?_ ?_ _ | with_reducible refine below_step (by assumption) ?_ ?_ | omega | (simp; done) | (simp; omega)))⟩
  · have g1 : ((s.size : Int) == 0) = false := by rw [beq_eq_false_iff_ne]; omega
    have A := fun V => digits_any s hs V
    by_cases h2 : (intV s).2 < s.size
    · rw [if_pos (.inr h2)]
      obtain ⟨k, hk⟩ : ∃ k, (intV s).2 = k := ⟨_, rfl⟩
      rw [hk] at A h2
      have HA := Lib.hid A
      clear hem A hk hle
      go_enter Try.func88, Try.ntmps88
      go_wp2_with (go_at_call 114; (with_reducible refine (HA.out _).mono ?_); rintro e w1 ⟨rfl, hb1⟩; have hz1 := hb1.size)
      go_ret2
      exact ⟨rfl, by (repeat' (first | with_reducible exact Below.refl _ _ | with_reducible assumption | with_reducible refine Below.drew ?_ | with_reducible refine below_drewN' ?_ _ | with_reducible refine Below.alloc ?_ ?_ _ | with_reducible refine Below.setCell ?_ ?_ _ | with_reducible refine below_step (by assumption) ?_ ?_ | omega | (simp; done) | (simp; omega)))⟩
    · have hk : (intV s).2 = s.size := by omega
      have B := fun V => value_any s hs (fun i hi => intF_all s s.size 0 (0, 0) (by omega) hk i (Nat.zero_le _) hi) V
      rw [if_neg (fun h => h.elim (fun h => h1 (hem.1 h)) h2)]
      rw [hk] at A
      obtain ⟨x, hx⟩ : ∃ x, (intV s).1.1 = x := ⟨_, rfl⟩
      rw [hx] at B ⊢
      have HA := Lib.hid A
      have HB := Lib.hid B
      clear hem A B hk hle h2 hx
      unfold overB
      by_cases h3 : 1125899906842624 < x
      · have hc : 1125899906842624 < capM x := by unfold capM; split <;> omega
        rw [if_pos h3]
        go_enter Try.func88, Try.ntmps88
        go_wp2_with (first | (go_at_call 114; (with_reducible refine (HA.out _).mono ?_); rintro e w1 ⟨rfl, hb1⟩; have hz1 := hb1.size) | (go_at_call 115; (with_reducible refine (HB.out _).mono ?_); rintro e w2 ⟨rfl, hb2⟩; have hz2 := hb2.size))
        go_ret2
        exact ⟨rfl, by (repeat' (first | with_reducible exact Below.refl _ _ | with_reducible assumption | with_reducible refine Below.drew ?_ | with_reducible refine below_drewN' ?_ _ | with_reducible refine Below.alloc ?_ ?_ _ | with_reducible refine Below.setCell ?_ ?_ _ | with_reducible refine below_step (by assumption) ?_ ?_ | omega | (simp; done) | (simp; omega)))⟩
      · have hc : capM x = x := by unfold capM; split <;> omega
        rw [hc] at HB
        rw [if_neg h3]
        clear hc
        go_enter Try.func88, Try.ntmps88
        go_wp2_with (first | (go_at_call 114; (with_reducible refine (HA.out _).mono ?_); rintro e w1 ⟨rfl, hb1⟩; have hz1 := hb1.size) | (go_at_call 115; (with_reducible refine (HB.out _).mono ?_); rintro e w2 ⟨rfl, hb2⟩; have hz2 := hb2.size))
        go_ret2
        exact ⟨rfl, by (repeat' (first | with_reducible exact Below.refl _ _ | with_reducible assumption | with_reducible refine Below.drew ?_ | with_reducible refine below_drewN' ?_ _ | with_reducible refine Below.alloc ?_ ?_ _ | with_reducible refine Below.setCell ?_ ?_ _ | with_reducible refine below_step (by assumption) ?_ ?_ | omega | (simp; done) | (simp; omega)))⟩
end Lb
end Go.Proofs.Ythbpnfpalcgfeaa
