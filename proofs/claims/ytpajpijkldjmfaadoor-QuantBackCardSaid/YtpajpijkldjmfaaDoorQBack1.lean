/-
  QuantBack: an amount that is shown is read as it was: the walk.
-/
import Derived.Test.YtpajpijkldjmfaaDoorQBack0
namespace Go.Proofs.YtpajpijkldjmfaaDoor
open Go.RowKit
set_option linter.unusedVariables false
namespace quantBack

theorem showV_size {n : Int} (h0 : 0 ≤ n) (h1 : n ≤ 1125899906842624) : (showV n).size ≤ 100 := by
  have k : ∀ (q : Int) (t : ByteArray), 0 ≤ q → q ≤ n → t.size ≤ 10 → (itoaB q ++ t).size ≤ 100 := fun q t a b c => by
    have := itoaB_size q (by omega) (by omega)
    rw [ByteArray.size_append]
    omega
  unfold showV
  repeat' split
  · decide
  · decide
  · exact k _ _ (by omega) (by omega) (by decide)
  · exact k _ _ (by omega) (by omega) (by decide)
  · exact k _ _ (by omega) (by omega) (by decide)
  · exact k _ _ (by omega) (by omega) (by decide)
  · exact Nat.le_trans (itoaB_size n (by omega) (by omega)) (by decide)
theorem showM_size {n : Int} (h0 : 0 ≤ n) (h1 : n ≤ 1125899906842624) : (showM n).size ≤ 100 := by
  have k : ∀ (q : Int), 0 ≤ q → q ≤ n → (itoaB q).size ≤ 21 := fun q a b => itoaB_size q (by omega) (by omega)
  unfold showM
  repeat' split
  · decide
  · exact Nat.le_trans (k _ (by omega) (by omega)) (by decide)
  · have := k n h0 (Int.le_refl n)
    rw [ByteArray.size_append]
    have e : um.size = 1 := rfl
    omega

set_option maxRecDepth 100000 in
set_option maxHeartbeats 8000000 in
theorem walk_no (n : Int) (w : World) (hT : Tab10 w) (h : n < 0 ∨ 1125899906842624 < n) :
    Calls Tryd.prog 5 #[.int .i64 n] w fun e w' => e = .returned (.bool true) ∧ Below w.heap.size w w' := by
  have B1 : ∀ V : World, Tab10 V → Calls Tryd.prog 15 #[.int .i64 n] V fun e w' => e = .returned (.string ⟨#[]⟩) ∧ Below V.heap.size V w' := fun V hV => by
    have := show_any n V hV
    unfold showV at this
    rw [if_pos h] at this
    exact this
  have B2 : ∀ V : World, Tab10 V → Calls Tryd.prog 17 #[.int .i64 n] V fun e w' => e = .returned (.string ⟨#[]⟩) ∧ Below V.heap.size V w' := fun V hV => by
    have := showmilli_any n V hV
    unfold showM at this
    rw [if_pos h] at this
    exact this
  have HB1 := Lib.hid B1
  have HB2 := Lib.hid B2
  have HX := Lib.hid (Below.refl w.heap.size w)
  have HT := Lib.hid hT
  clear B1 B2 hT
  rcases h with h | h
  · skip
    go_enter Tryd.func5, Tryd.ntmps5
    go_wp2_with (first
      | (go_at_call 15; ((with_reducible refine (HB1.out _ (HT.out.mono HX.out)).mono ?_); rintro e w1 ⟨rfl, hb1⟩; have HX1 := Lib.hid ((HX).out.trans (Below.mono hb1 (HX).out.size))))
      | (go_at_call 17; ((with_reducible refine (HB2.out _ (HT.out.mono HX1.out)).mono ?_); rintro e w2 ⟨rfl, hb2⟩; have HX2 := Lib.hid ((HX1).out.trans (Below.mono hb2 (HX1).out.size))))
      | (go_at_call 8; ((with_reducible refine (known_any _ (HT.out.mono HX2.out)).mono ?_); rintro e w3 ⟨rfl, hb3⟩; have HX3 := Lib.hid ((HX2).out.trans (Below.mono hb3 (HX2).out.size)))))
    go_ret
    exact ⟨rfl, HX3.out⟩
  · have h0 : ¬ n < 0 := by omega
    go_enter Tryd.func5, Tryd.ntmps5
    go_wp2_with (first
      | (go_at_call 15; ((with_reducible refine (HB1.out _ (HT.out.mono HX.out)).mono ?_); rintro e w1 ⟨rfl, hb1⟩; have HX1 := Lib.hid ((HX).out.trans (Below.mono hb1 (HX).out.size))))
      | (go_at_call 17; ((with_reducible refine (HB2.out _ (HT.out.mono HX1.out)).mono ?_); rintro e w2 ⟨rfl, hb2⟩; have HX2 := Lib.hid ((HX1).out.trans (Below.mono hb2 (HX1).out.size))))
      | (go_at_call 8; ((with_reducible refine (known_any _ (HT.out.mono HX2.out)).mono ?_); rintro e w3 ⟨rfl, hb3⟩; have HX3 := Lib.hid ((HX2).out.trans (Below.mono hb3 (HX2).out.size)))))
    go_ret
    exact ⟨rfl, HX3.out⟩

set_option maxRecDepth 100000 in
set_option maxHeartbeats 8000000 in
theorem walk_yes (n : Int) (w : World) (hT : Tab10 w) (h0 : ¬ n < 0) (h1 : ¬ 1125899906842624 < n) :
    Calls Tryd.prog 5 #[.int .i64 n] w fun e w' => e = .returned (.bool true) ∧ Below w.heap.size w w' := by
  have hz1 := showV_size (n := n) (by omega) (by omega)
  have hz2 := showM_size (n := n) (by omega) (by omega)
  have A1 := fun V => parse_any (showV n) (by omega) V
  have A2 := fun V => milli_any (showM n) (by omega) V
  rw [show_back (by omega) (by omega)] at A1
  rw [showm_back (by omega) (by omega)] at A2
  have B1 := fun V h => show_any n V h
  have B2 := fun V h => showmilli_any n V h
  obtain ⟨s, hs⟩ : ∃ s, showV n = s := ⟨_, rfl⟩
  obtain ⟨t, ht⟩ : ∃ t, showM n = t := ⟨_, rfl⟩
  simp only [hs] at A1 B1
  simp only [ht] at A2 B2
  have HA1 := Lib.hid A1
  have HA2 := Lib.hid A2
  have HB1 := Lib.hid B1
  have HB2 := Lib.hid B2
  have HX := Lib.hid (Below.refl w.heap.size w)
  have HT := Lib.hid hT
  clear A1 A2 B1 B2 hs ht hz1 hz2 hT
  go_enter Tryd.func5, Tryd.ntmps5
  go_wp2_with (first
    | (go_at_call 15; ((with_reducible refine (HB1.out _ (HT.out.mono HX.out)).mono ?_); rintro e w1 ⟨rfl, hb1⟩; have HX1 := Lib.hid ((HX).out.trans (Below.mono hb1 (HX).out.size))))
    | (go_at_call 17; ((with_reducible refine (HB2.out _ (HT.out.mono HX1.out)).mono ?_); rintro e w2 ⟨rfl, hb2⟩; have HX2 := Lib.hid ((HX1).out.trans (Below.mono hb2 (HX1).out.size))))
    | (go_at_call 9; ((with_reducible refine (HA1.out _).mono ?_); rintro e w3 ⟨rfl, hb3⟩; have HX3 := Lib.hid ((HX2).out.trans (Below.mono hb3 (HX2).out.size))))
    | (go_at_call 11; ((with_reducible refine (HA2.out _).mono ?_); rintro e w4 ⟨rfl, hb4⟩; have HX4 := Lib.hid ((HX3).out.trans (Below.mono hb4 (HX3).out.size))))
    | (go_at_call 8; ((with_reducible refine (known_any _ (HT.out.mono HX4.out)).mono ?_); rintro e w5 ⟨rfl, hb5⟩; have HX5 := Lib.hid ((HX4).out.trans (Below.mono hb5 (HX4).out.size)))))
  go_ret
  exact ⟨rfl, HX5.out⟩

theorem walk (n : Int) (w : World) (hT : Tab10 w) :
    Calls Tryd.prog 5 #[.int .i64 n] w fun e w' => e = .returned (.bool true) ∧ Below w.heap.size w w' := by
  by_cases h0 : n < 0
  · exact walk_no n w hT (.inl h0)
  · by_cases h1 : 1125899906842624 < n
    · exact walk_no n w hT (.inr h1)
    · exact walk_yes n w hT h0 h1
end quantBack
end Go.Proofs.YtpajpijkldjmfaaDoor
