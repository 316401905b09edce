/-
  The contract of triremelaw03.known.
-/
import Derived.Test.YtpajpijkldjmfaaDoorQnt7
namespace Go.Proofs.YtpajpijkldjmfaaDoor
open Go.RowKit
set_option linter.unusedVariables false

theorem dec_one (n : Nat) (h : n < 10) : Lib.decDigits n = [UInt8.ofNat (48 + n)] := by rw [Lib.decDigits, dif_pos h]
theorem dec_more (n : Nat) (h : ¬ n < 10) : Lib.decDigits n = Lib.decDigits (n / 10) ++ [UInt8.ofNat (48 + n % 10)] := by rw [Lib.decDigits, dif_neg h]
theorem dec2 : Lib.decDigits 2 = [50] := dec_one 2 (by decide)
theorem dec3 : Lib.decDigits 3 = [51] := dec_one 3 (by decide)
theorem dec1536 : Lib.decDigits 1536 = [49, 53, 51, 54] := by
  rw [dec_more 1536 (by decide), dec_more (1536 / 10) (by decide), dec_more (1536 / 10 / 10) (by decide), dec_one (1536 / 10 / 10 / 10) (by decide)]
  rfl
theorem dec1500 : Lib.decDigits 1500 = [49, 53, 48, 48] := by
  rw [dec_more 1500 (by decide), dec_more (1500 / 10) (by decide), dec_more (1500 / 10 / 10) (by decide), dec_one (1500 / 10 / 10 / 10) (by decide)]
  rfl
theorem itoa_nat (n : Nat) : itoaB (n : Int) = ⟨(Lib.decDigits n).toArray⟩ := by
  unfold itoaB Lib.itoa
  rw [if_neg (by omega)]
  rfl
theorem kw1 : showV 2048 = ⟨#[50, 75, 105]⟩ := by
  have e : showV 2048 = itoaB ((2 : Nat) : Int) ++ uKi := rfl
  rw [e, itoa_nat, dec2]
  exact ByteArray.ext (by decide +kernel)
theorem kw2 : showV 1536 = ⟨#[49, 53, 51, 54]⟩ := by
  have e : showV 1536 = itoaB ((1536 : Nat) : Int) := rfl
  rw [e, itoa_nat, dec1536]
theorem kw3 : showM 1500 = ⟨#[49, 53, 48, 48, 109]⟩ := by
  have e : showM 1500 = itoaB ((1500 : Nat) : Int) ++ um := rfl
  rw [e, itoa_nat, dec1500]
  exact ByteArray.ext (by decide +kernel)
theorem kw4 : showM 3000 = ⟨#[51]⟩ := by
  have e : showM 3000 = itoaB ((3 : Nat) : Int) := rfl
  rw [e, itoa_nat, dec3]
theorem kv1 : scV ⟨#[49, 46, 53, 75, 105]⟩ 1 = (1536, 0) := by decide +kernel
theorem kv2 : scV ⟨#[49, 109]⟩ 1 = (0, 8) := by decide +kernel
theorem kv3 : scV ⟨#[50, 53, 48, 109]⟩ 1000 = (250, 0) := by decide +kernel
theorem kv4 : scV ⟨#[48, 46, 53]⟩ 1000 = (500, 0) := by decide +kernel
theorem kv5 : scV ⟨#[57, 120]⟩ 1 = (0, 9) := by decide +kernel
theorem kv6 : (scV ⟨#[49, 48, 50, 53, 84]⟩ 1).2 = 0 := by decide +kernel
theorem kv7 : numV ⟨#[49, 55]⟩ = (17, 0) := by decide +kernel

set_option maxRecDepth 100000 in
set_option maxHeartbeats 8000000 in
theorem known_any (w : World) (hT : Tab10 w) :
    Calls Tryd.prog 8 #[] w fun e w' => e = .returned (.bool true) ∧ Below w.heap.size w w' := by
  have A1 := fun V => parse_any ⟨#[49, 46, 53, 75, 105]⟩ (by decide) V
  have A2 := fun V => parse_any ⟨#[49, 109]⟩ (by decide) V
  have A3 := fun V => milli_any ⟨#[50, 53, 48, 109]⟩ (by decide) V
  have A4 := fun V => milli_any ⟨#[48, 46, 53]⟩ (by decide) V
  have A5 := fun V => parse_any ⟨#[57, 120]⟩ (by decide) V
  have A6 := fun V => parse_any ⟨#[49, 48, 50, 53, 84]⟩ (by decide) V
  have A7 := fun V => number_any ⟨#[49, 55]⟩ (by decide) V
  have B1 := fun V h => show_any 2048 V h
  have B2 := fun V h => show_any 1536 V h
  have B3 := fun V h => showmilli_any 1500 V h
  have B4 := fun V h => showmilli_any 3000 V h
  obtain ⟨q, hq⟩ : ∃ q, (scV ⟨#[49, 48, 50, 53, 84]⟩ 1).1 = q := ⟨_, rfl⟩
  simp only [kv1, kv2, kv3, kv4, kv5, kv6, kv7, hq, kw1, kw2, kw3, kw4] at A1 A2 A3 A4 A5 A6 A7 B1 B2 B3 B4
  have HA1 := Lib.hid A1
  have HA2 := Lib.hid A2
  have HA3 := Lib.hid A3
  have HA4 := Lib.hid A4
  have HA5 := Lib.hid A5
  have HA6 := Lib.hid A6
  have HA7 := Lib.hid A7
  have HB1 := Lib.hid B1
  have HB2 := Lib.hid B2
  have HB3 := Lib.hid B3
  have HB4 := Lib.hid B4
  have HX := Lib.hid (Below.refl w.heap.size w)
  have HT := Lib.hid hT
  clear A1 A2 A3 A4 A5 A6 A7 B1 B2 B3 B4 hq hT
  go_enter Tryd.func8, Tryd.ntmps8
  go_wp2_with (first
    | ((with_reducible refine (HA1.out _).mono ?_); rintro e w1 ⟨rfl, hb1⟩; have HX1 := Lib.hid ((HX).out.trans (Below.mono hb1 (HX).out.size)))
    | ((with_reducible refine (HA2.out _).mono ?_); rintro e w2 ⟨rfl, hb2⟩; have HX2 := Lib.hid ((HX1).out.trans (Below.mono hb2 (HX1).out.size)))
    | ((with_reducible refine (HA3.out _).mono ?_); rintro e w3 ⟨rfl, hb3⟩; have HX3 := Lib.hid ((HX2).out.trans (Below.mono hb3 (HX2).out.size)))
    | ((with_reducible refine (HA4.out _).mono ?_); rintro e w4 ⟨rfl, hb4⟩; have HX4 := Lib.hid ((HX3).out.trans (Below.mono hb4 (HX3).out.size)))
    | ((with_reducible refine (HA5.out _).mono ?_); rintro e w5 ⟨rfl, hb5⟩; have HX5 := Lib.hid ((HX4).out.trans (Below.mono hb5 (HX4).out.size)))
    | ((with_reducible refine (HA6.out _).mono ?_); rintro e w6 ⟨rfl, hb6⟩; have HX6 := Lib.hid ((HX5).out.trans (Below.mono hb6 (HX5).out.size)))
    | ((with_reducible refine (HA7.out _).mono ?_); rintro e w7 ⟨rfl, hb7⟩; have HX7 := Lib.hid ((HX6).out.trans (Below.mono hb7 (HX6).out.size)))
    | ((with_reducible refine (HB1.out _ (HT.out.mono HX7.out)).mono ?_); rintro e w8 ⟨rfl, hb8⟩; have HX8 := Lib.hid ((HX7).out.trans (Below.mono hb8 (HX7).out.size)))
    | ((with_reducible refine (HB2.out _ (HT.out.mono HX8.out)).mono ?_); rintro e w9 ⟨rfl, hb9⟩; have HX9 := Lib.hid ((HX8).out.trans (Below.mono hb9 (HX8).out.size)))
    | ((with_reducible refine (HB3.out _ (HT.out.mono HX9.out)).mono ?_); rintro e w10 ⟨rfl, hb10⟩; have HX10 := Lib.hid ((HX9).out.trans (Below.mono hb10 (HX9).out.size)))
    | ((with_reducible refine (HB4.out _ (HT.out.mono HX10.out)).mono ?_); rintro e w11 ⟨rfl, hb11⟩; have HX11 := Lib.hid ((HX10).out.trans (Below.mono hb11 (HX10).out.size))))
  go_ret
  exact ⟨rfl, HX11.out⟩
end Go.Proofs.YtpajpijkldjmfaaDoor
