/-
  QuantZeros: a nought ahead of digits makes no difference: the walk.
-/
import Derived.Test.YtpajpijkldjmfaaDoorQnt8
namespace Go.Proofs.YtpajpijkldjmfaaDoor
open Go.RowKit
set_option linter.unusedVariables false
namespace quantZeros

abbrev z1 : ByteArray := ⟨#[48]⟩
abbrev z2 : ByteArray := ⟨#[48, 48]⟩
theorem z_size (s : ByteArray) : (z1 ++ s).size = s.size + 1 := by rw [ByteArray.size_append]; show 1 + s.size = _; omega
theorem z_get (s : ByteArray) (i : Nat) (h : i < s.size) : (z1 ++ s).get! (i + 1) = s.get! i := by
  rw [get_bang _ _ (by rw [z_size]; omega), get_bang s i h, ByteArray.getElem_append_right (by show 1 ≤ i + 1; omega)]
  rfl
theorem z_get0 (s : ByteArray) : (z1 ++ s).get! 0 = 48 := by
  rw [get_bang _ _ (by rw [z_size]; omega), ByteArray.getElem_append_left (by show 0 < 1; omega)]
  rfl
theorem z_dig (s : ByteArray) (i : Nat) : digB (z1 ++ s) (i + 1) = digB s i := by
  unfold digB
  rw [z_size]
  by_cases h : i < s.size
  · rw [z_get s i h]
    simp [h]
  · simp [h]
theorem z_intF (s : ByteArray) : ∀ f i d, intF (z1 ++ s) f (i + 1) d = ((intF s f i d).1, (intF s f i d).2 + 1) := by
  intro f
  induction f with
  | zero => intro i d; rfl
  | succ f ih =>
    intro i d
    rw [intF, intF, z_dig]
    cases hd : digB s i
    · rfl
    · rw [if_pos rfl, if_pos rfl, z_get s i (by unfold digB at hd; simp at hd; omega), ih]
theorem z_int (s : ByteArray) : intV (z1 ++ s) = ((intV s).1, (intV s).2 + 1) := by
  unfold intV
  rw [z_size, intF]
  have hd : digB (z1 ++ s) 0 = true := by
    unfold digB
    rw [z_size, z_get0]
    simp
  rw [hd, if_pos rfl, z_get0]
  have e : addD (0, 0) (((48 : UInt8).toNat : Int) - 48) = (0, 0) := by decide
  rw [e]
  exact z_intF s s.size 0 (0, 0)
theorem z_ext (s : ByteArray) (k : Nat) (hk : k ≤ s.size) : (z1 ++ s).extract (k + 1) (z1 ++ s).size = s.extract k s.size := by
  refine ByteArray.ext_getElem ?_ fun i hi hj => ?_
  · rw [ByteArray.size_extract, ByteArray.size_extract, z_size]
    omega
  · have hj2 : k + i < s.size := by rw [ByteArray.size_extract] at hj; omega
    rw [ByteArray.getElem_extract, ByteArray.getElem_extract]
    have h1 := z_get s (k + i) hj2
    rw [get_bang _ _ (by rw [z_size]; omega), get_bang s _ hj2] at h1
    have e : k + 1 + i = k + i + 1 := by omega
    simp only [e]
    exact h1
theorem z_emp (s : ByteArray) : ¬ (z1 ++ s = emp) := fun h => by
  have := congrArg ByteArray.size h
  rw [z_size] at this
  have e : emp.size = 0 := rfl
  omega
theorem z_num (s : ByteArray) (h : ¬ s = emp) : numV (z1 ++ s) = numV s := by
  unfold numV
  rw [z_int, z_size]
  have h1 := z_emp s
  by_cases h2 : (intV s).2 < s.size
  · rw [if_pos (.inr (by show (intV s).2 + 1 < s.size + 1; omega)), if_pos (.inr h2)]
  · rw [if_neg (fun h3 => h3.elim h1 (fun h4 => h2 (by have h5 : (intV s).2 + 1 < s.size + 1 := h4; omega))), if_neg (fun h3 => h3.elim h h2)]
theorem z_numP (s : ByteArray) (h : ¬ (intV s).2 = 0) : numP (z1 ++ s) = numP s := by
  unfold numP
  rw [z_int]
  have hle : (intV s).2 ≤ s.size := intF_le s _ _ _ (Nat.zero_le _)
  rw [if_neg (by show ¬ (intV s).2 + 1 = 0; omega), if_neg h]
  show tailP (intV s).1 ((z1 ++ s).extract ((intV s).2 + 1) (z1 ++ s).size) = _
  rw [z_ext s _ hle]
theorem z_sc (s : ByteArray) (c : Int) (h : ¬ (intV s).2 = 0) : scV (z1 ++ s) c = scV s c := by
  unfold scV
  rw [z_numP s h]
theorem z_two (s : ByteArray) : z2 ++ s = z1 ++ (z1 ++ s) := by
  rw [← ByteArray.append_assoc]
  rfl
theorem int_pos {s : ByteArray} (h : digB s 0 = true) (hs : 0 < s.size) : ¬ (intV s).2 = 0 := by
  obtain ⟨f, hf⟩ : ∃ f, s.size = f + 1 := ⟨s.size - 1, by omega⟩
  unfold intV
  rw [hf, intF, h, if_pos rfl]
  exact Nat.ne_of_gt (Nat.lt_of_lt_of_le Nat.zero_lt_one (intF_ge s f (0 + 1) _))

set_option maxRecDepth 100000 in
set_option maxHeartbeats 8000000 in
theorem walk_no (s : ByteArray) (w : World) (hT : Tab10 w) (hm : s.size ≤ maxLen) (h : 300 < s.size ∨ s.size = 0 ∨ (0 < s.size ∧ digB s 0 = false)) :
    Calls Tryd.prog 7 #[.string s] w fun e w' => e = .returned (.bool true) ∧ Below w.heap.size w w' := by
  by_cases h1 : 300 < s.size
  · skip
    have HT := Lib.hid hT
    clear hT
    go_enter Tryd.func7, Tryd.ntmps7
    go_wp2_with (go_at_call 8; (with_reducible refine (known_any _ HT.out).mono ?_); rintro e w1 ⟨rfl, hb1⟩; have hz1 := hb1.size)
    go_ret
    exact ⟨rfl, by (repeat' (first | with_reducible exact Below.refl _ _ | with_reducible assumption | with_reducible refine Below.drew ?_ | with_reducible refine below_drewN' ?_ _ | with_reducible refine Below.alloc ?_ ?_ _ | with_reducible refine Below.setCell ?_ ?_ _ | with_reducible refine below_step (by assumption) ?_ ?_ | omega | (simp; done) | (simp; omega)))⟩
  · by_cases h2 : s.size = 0
    · have g1 : ((s.size : Int) == 0) = true := by rw [h2]; rfl
      clear h2 h
      have HT := Lib.hid hT
      clear hT
      go_enter Tryd.func7, Tryd.ntmps7
      go_wp2_with (go_at_call 8; (with_reducible refine (known_any _ HT.out).mono ?_); rintro e w1 ⟨rfl, hb1⟩; have hz1 := hb1.size)
      go_ret
      exact ⟨rfl, by (repeat' (first | with_reducible exact Below.refl _ _ | with_reducible assumption | with_reducible refine Below.drew ?_ | with_reducible refine below_drewN' ?_ _ | with_reducible refine Below.alloc ?_ ?_ _ | with_reducible refine Below.setCell ?_ ?_ _ | with_reducible refine below_step (by assumption) ?_ ?_ | omega | (simp; done) | (simp; omega)))⟩
    · have g1 : ((s.size : Int) == 0) = false := by rw [beq_eq_false_iff_ne]; omega
      have h3 : digB s 0 = false := by
        rcases h with h | h | h
        · omega
        · omega
        · exact h.2
      have hx0 := str_ix s 0 (by omega)
      obtain ⟨p, hp⟩ : ∃ p, (s.get! 0).toNat = p := ⟨_, rfl⟩
      have hd : p < 48 ∨ (48 ≤ p ∧ 57 < p) := by
        unfold digB at h3
        rw [hp] at h3
        simp at h3
        omega
      rw [hp] at hx0
      have hx : ∀ w : World, (Instr.index 9 (.string s) (.int .i64 0)).run Tryd.prog w = .ok (.int .u8 (p : Int)) w := hx0
      clear hx0 hp h3 h
      rcases hd with hd | ⟨hd1, hd2⟩
      · skip
        have HT := Lib.hid hT
        clear hT
        go_enter Tryd.func7, Tryd.ntmps7
        go_wp2_with (go_at_call 8; (with_reducible refine (known_any _ HT.out).mono ?_); rintro e w1 ⟨rfl, hb1⟩; have hz1 := hb1.size)
        go_ret
        exact ⟨rfl, by (repeat' (first | with_reducible exact Below.refl _ _ | with_reducible assumption | with_reducible refine Below.drew ?_ | with_reducible refine below_drewN' ?_ _ | with_reducible refine Below.alloc ?_ ?_ _ | with_reducible refine Below.setCell ?_ ?_ _ | with_reducible refine below_step (by assumption) ?_ ?_ | omega | (simp; done) | (simp; omega)))⟩
      · skip
        have HT := Lib.hid hT
        clear hT
        go_enter Tryd.func7, Tryd.ntmps7
        go_wp2_with (go_at_call 8; (with_reducible refine (known_any _ HT.out).mono ?_); rintro e w1 ⟨rfl, hb1⟩; have hz1 := hb1.size)
        go_ret
        exact ⟨rfl, by (repeat' (first | with_reducible exact Below.refl _ _ | with_reducible assumption | with_reducible refine Below.drew ?_ | with_reducible refine below_drewN' ?_ _ | with_reducible refine Below.alloc ?_ ?_ _ | with_reducible refine Below.setCell ?_ ?_ _ | with_reducible refine below_step (by assumption) ?_ ?_ | omega | (simp; done) | (simp; omega)))⟩

set_option maxRecDepth 100000 in
set_option maxHeartbeats 8000000 in
theorem walk_yes (s : ByteArray) (w : World) (hT : Tab10 w) (h300 : s.size ≤ 300) (h0 : 0 < s.size) (hd : digB s 0 = true) :
    Calls Tryd.prog 7 #[.string s] w fun e w' => e = .returned (.bool true) ∧ Below w.heap.size w w' := by
  have hne : ¬ s = emp := fun h => by rw [h] at h0; exact absurd h0 (by decide)
  have hp0 := int_pos hd h0
  have hp1 : ¬ (intV (z1 ++ s)).2 = 0 := by rw [z_int]; exact Nat.succ_ne_zero _
  have A1 := fun V => number_any s (by omega) V
  have A2 := fun V => number_any (z1 ++ s) (by rw [z_size]; omega) V
  have A3 := fun V => parse_any s (by omega) V
  have A4 := fun V => parse_any (z1 ++ s) (by rw [z_size]; omega) V
  have A5 := fun V => milli_any s (by omega) V
  have A6 := fun V => milli_any (z2 ++ s) (by rw [z_two, z_size, z_size]; omega) V
  rw [z_num s hne] at A2
  rw [z_sc s 1 hp0] at A4
  have e6 : scV (z2 ++ s) 1000 = scV s 1000 := by rw [z_two, z_sc _ _ hp1, z_sc _ _ hp0]
  rw [e6] at A6
  obtain ⟨⟨a1, a2⟩, h1⟩ : ∃ d, numV s = d := ⟨_, rfl⟩
  obtain ⟨⟨b1, b2⟩, h2⟩ : ∃ d, scV s 1 = d := ⟨_, rfl⟩
  obtain ⟨⟨c1, c2⟩, h3⟩ : ∃ d, scV s 1000 = d := ⟨_, rfl⟩
  simp only [h1] at A1 A2
  simp only [h2] at A3 A4
  simp only [h3] at A5 A6
  have HA1 := Lib.hid A1
  have HA2 := Lib.hid A2
  have HA3 := Lib.hid A3
  have HA4 := Lib.hid A4
  have HA5 := Lib.hid A5
  have HA6 := Lib.hid A6
  have g1 : ((s.size : Int) == 0) = false := by rw [beq_eq_false_iff_ne]; omega
  have hx0 := str_ix s 0 h0
  obtain ⟨p, hp⟩ : ∃ p, (s.get! 0).toNat = p := ⟨_, rfl⟩
  have hpd : 48 ≤ p ∧ p ≤ 57 := by
    unfold digB at hd
    rw [hp] at hd
    simp at hd
    omega
  rw [hp] at hx0
  have hx : ∀ w : World, (Instr.index 9 (.string s) (.int .i64 0)).run Tryd.prog w = .ok (.int .u8 (p : Int)) w := hx0
  have k1 : ∀ V : World, (Op.stringOp .add z1 s).run Tryd.prog V = .ok (.string (z1 ++ s)) V := fun V => cat_run z1 s (by have e : z1.size = 1 := rfl; omega) V
  have k2 : ∀ V : World, (Op.stringOp .add z2 s).run Tryd.prog V = .ok (.string (z2 ++ s)) V := fun V => cat_run z2 s (by have e : z2.size = 2 := rfl; omega) V
  have HX := Lib.hid (Below.refl w.heap.size w)
  have HT := Lib.hid hT
  clear A1 A2 A3 A4 A5 A6 h1 h2 h3 e6 hx0 hp hd hne hp0 hp1 hT
  go_enter Tryd.func7, Tryd.ntmps7
  go_wp2_with (first
    | (go_at_call 13; first | ((with_reducible refine (HA1.out _).mono ?_); rintro e w1 ⟨rfl, hb1⟩; have HX1 := Lib.hid ((HX).out.trans (Below.mono hb1 (HX).out.size))) | ((with_reducible refine (HA2.out _).mono ?_); rintro e w2 ⟨rfl, hb2⟩; have HX2 := Lib.hid ((HX1).out.trans (Below.mono hb2 (HX1).out.size))))
    | (go_at_call 9; first | ((with_reducible refine (HA3.out _).mono ?_); rintro e w3 ⟨rfl, hb3⟩; have HX3 := Lib.hid ((HX2).out.trans (Below.mono hb3 (HX2).out.size))) | ((with_reducible refine (HA4.out _).mono ?_); rintro e w4 ⟨rfl, hb4⟩; have HX4 := Lib.hid ((HX3).out.trans (Below.mono hb4 (HX3).out.size))))
    | (go_at_call 11; first | ((with_reducible refine (HA5.out _).mono ?_); rintro e w5 ⟨rfl, hb5⟩; have HX5 := Lib.hid ((HX4).out.trans (Below.mono hb5 (HX4).out.size))) | ((with_reducible refine (HA6.out _).mono ?_); rintro e w6 ⟨rfl, hb6⟩; have HX6 := Lib.hid ((HX5).out.trans (Below.mono hb6 (HX5).out.size))))
    | (go_at_call 8; ((with_reducible refine (known_any _ (HT.out.mono HX6.out)).mono ?_); rintro e w7 ⟨rfl, hb7⟩; have HX7 := Lib.hid ((HX6).out.trans (Below.mono hb7 (HX6).out.size)))))
  go_ret
  exact ⟨rfl, HX7.out⟩

theorem walk (s : ByteArray) (w : World) (hT : Tab10 w) (hm : s.size ≤ maxLen) :
    Calls Tryd.prog 7 #[.string s] w fun e w' => e = .returned (.bool true) ∧ Below w.heap.size w w' := by
  by_cases h1 : 300 < s.size
  · exact walk_no s w hT hm (.inl h1)
  · by_cases h2 : s.size = 0
    · exact walk_no s w hT hm (.inr (.inl h2))
    · cases h3 : digB s 0
      · exact walk_no s w hT hm (.inr (.inr ⟨by omega, h3⟩))
      · exact walk_yes s w hT (by omega) (by omega) h3
end quantZeros
end Go.Proofs.YtpajpijkldjmfaaDoor
