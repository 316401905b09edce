/-
  QuantUnits: the walk.
-/
import Derived.Test.YtpajpijkldjmfaaDoorQUnit0
import Derived.BigQuiet
namespace Go.Proofs.YtpajpijkldjmfaaDoor
open Go.RowKit
set_option linter.unusedVariables false
namespace quantUnits

set_option maxRecDepth 100000 in
set_option maxHeartbeats 8000000 in
theorem walk (n : Nat) (part kind : Int) (w : World) (hT : Tab10 w) (hn : n ≤ 65535) (hpa : 0 ≤ part ∧ part ≤ 65535) (hki : 0 ≤ kind ∧ kind ≤ 255) :
    Calls Tryd.prog 6 #[.int .u16 (n : Int), .int .u16 part, .int .u8 kind] w fun e w' => e = .returned (.bool true) ∧ Below w.heap.size w w' := by
  have hsz : (dgB n).size ≤ 30 := by
    have h := itoaB_size (n : Int) (by omega) (by omega)
    rw [itoa_nat] at h
    exact Nat.le_trans h (by decide)
  have c1 : IntKind.i64.wrap (n : Int) = (n : Int) := wrap_in (by omega) (by omega)
  have c2 : IntKind.i64.wrap part = part := wrap_in (by omega) (by omega)
  have c3 : IntKind.i64.wrap kind = kind := wrap_in (by omega) (by omega)
  obtain ⟨p, hpp⟩ : ∃ p : Nat, part % 1000 = (p : Int) := ⟨(part % 1000).toNat, by omega⟩
  have hp : p < 1000 := by omega
  have c4 : Int.tmod part 1000 = (p : Int) := by rw [Int.tmod_eq_emod_of_nonneg (by omega)]; exact hpp
  have c5 : IntKind.i64.wrap (p : Int) = (p : Int) := wrap_in (by omega) (by omega)
  have c6 : IntKind.i64.wrap (1000 + (p : Int)) = 1000 + (p : Int) := wrap_in (by omega) (by omega)
  have c7 : IntKind.i64.wrap (1000 * (n : Int)) = 1000 * (n : Int) := wrap_in (by omega) (by omega)
  have c8 : IntKind.i64.wrap (1000 * (n : Int) + (p : Int)) = 1000 * (n : Int) + (p : Int) := wrap_in (by omega) (by omega)
  have D1 := fun V => digits_any n (n : Int) (by omega) (by omega) (Nat.le_refl _) V
  have D2 := fun V => digits_any (1000 + p) (1000 + (p : Int)) (by omega) (by omega) (by omega) V
  rw [show ((n : Int)).toNat = n from rfl] at D1
  rw [show (1000 + (p : Int)).toNat = 1000 + p by omega] at D2
  obtain ⟨hz4, hcut⟩ := d3_cut p hp
  obtain ⟨d, hd⟩ : ∃ d, dgB (1000 + p) = d := ⟨_, rfl⟩
  rw [hd] at D2 hz4 hcut
  have hsl : ∀ V : World, (Instr.slice 9 (.string d) (some (.int .i64 1)) none none).run Tryd.prog V = .ok (.string (lsB (d3 p))) V := fun V => by
    rw [run_slice_string_from_if V 9 d .i64 1 Tryd.underlying9, if_pos ⟨by decide, by omega⟩, ← hcut]
    rfl
  have HD1 := Lib.hid D1
  have HD2 := Lib.hid D2
  clear D1 D2 hz4 hcut hd hpp
  rcases (show kind % 5 = 0 ∨ kind % 5 = 1 ∨ kind % 5 = 2 ∨ kind % 5 = 3 ∨ kind % 5 = 4 by omega) with h | h | h | h | h
  · have c9 : Int.tmod kind 5 = 0 := by rw [Int.tmod_eq_emod_of_nonneg (by omega)]; exact h
    clear h hpa hki
    have A1 := fun V => parse_any (dgB n ++ (⟨#[]⟩)) (by rw [ByteArray.size_append]; have : (⟨#[]⟩ : ByteArray).size ≤ 10 := (by decide); omega) V
    have A2 := fun V => milli_any (dgB n ++ (lsB [46] ++ (lsB (d3 p) ++ (⟨#[]⟩)))) (by rw [ByteArray.size_append, ByteArray.size_append, ByteArray.size_append, ls_size, ls_size]; have : (⟨#[]⟩ : ByteArray).size ≤ 10 := (by decide); have : (d3 p).length = 3 := rfl; have : [(46 : UInt8)].length = 1 := rfl; omega) V
    rw [plain_sc n hn (⟨#[]⟩) (end0) (1) (by decide +kernel) (by decide) (by decide)] at A1
    rw [point_sc n p hn hp (⟨#[]⟩) (endD.n (end0)) (1) (by decide +kernel) (by decide) (by decide)] at A2
    have hk1 : ∀ V : World, (Op.stringOp .add (dgB n) (⟨#[]⟩)).run Tryd.prog V = .ok (.string (dgB n ++ (⟨#[]⟩))) V := fun V => cat_run _ _ (by have : (⟨#[]⟩ : ByteArray).size ≤ 10 := (by decide); omega) V
    have hk2 : ∀ V : World, (Op.stringOp .add (dgB n) ⟨#[46]⟩).run Tryd.prog V = .ok (.string (dgB n ++ lsB [46])) V := fun V => cat_run _ _ (by have : (⟨#[46]⟩ : ByteArray).size = 1 := rfl; omega) V
    have hk3 : ∀ V : World, (Op.stringOp .add (dgB n ++ lsB [46]) (lsB (d3 p))).run Tryd.prog V = .ok (.string (dgB n ++ lsB [46] ++ lsB (d3 p))) V := fun V => cat_run _ _ (by rw [ByteArray.size_append, ls_size, ls_size]; have : (d3 p).length = 3 := rfl; have : [(46 : UInt8)].length = 1 := rfl; omega) V
    have hk4 : ∀ V : World, (Op.stringOp .add (dgB n ++ lsB [46] ++ lsB (d3 p)) (⟨#[]⟩)).run Tryd.prog V = .ok (.string (dgB n ++ (lsB [46] ++ (lsB (d3 p) ++ (⟨#[]⟩))))) V := fun V => by
      rw [← ByteArray.append_assoc, ← ByteArray.append_assoc]
      exact cat_run _ _ (by rw [ByteArray.size_append, ByteArray.size_append, ls_size, ls_size]; have : (⟨#[]⟩ : ByteArray).size ≤ 10 := (by decide); have : (d3 p).length = 3 := rfl; have : [(46 : UInt8)].length = 1 := rfl; omega) V
    have hv1 : IntKind.i64.wrap ((n : Int) * (1)) = (n : Int) * (1) := wrap_in (by omega) (by omega)
    have hv2 : IntKind.i64.wrap ((1000 * (n : Int) + (p : Int)) * (1)) = (1000 * (n : Int) + (p : Int)) * (1) := wrap_in (by omega) (by omega)
    have HA1 := Lib.hid A1
    have HA2 := Lib.hid A2
    obtain ⟨q, hq⟩ : ∃ q, dgB n = q := ⟨_, rfl⟩
    rw [hq] at HA1 HA2 hk1 hk2 hk3 hk4 HD1
    obtain ⟨q3, hq3⟩ : ∃ q3, dgB n ++ lsB [46] = q3 := ⟨_, rfl⟩
    rw [hq] at hq3
    rw [hq3] at hk2 hk3 hk4
    obtain ⟨q4, hq4⟩ : ∃ q4, q3 ++ lsB (d3 p) = q4 := ⟨_, rfl⟩
    rw [hq4] at hk3 hk4
    obtain ⟨q5, hq5⟩ : ∃ q5, q ++ (lsB [46] ++ (lsB (d3 p) ++ (⟨#[]⟩))) = q5 := ⟨_, rfl⟩
    rw [hq5] at HA2 hk4
    obtain ⟨q6, hq6⟩ : ∃ q6, lsB (d3 p) = q6 := ⟨_, rfl⟩
    rw [hq6] at hk3 hsl
    obtain ⟨q7, hq7⟩ : ∃ q7, q ++ (⟨#[]⟩) = q7 := ⟨_, rfl⟩
    rw [hq7] at HA1 hk1
    have HT := Lib.hid hT
    clear A1 A2 hq hq3 hq4 hq5 hq6 hq7 hT hsz
    go_enter Tryd.func6, Tryd.ntmps6
    go_wp2_with (go_at_call 19; (with_reducible refine (HD2.out _).mono ?_); rintro e w1 ⟨rfl, hb1⟩; obtain ⟨hc1, hf1⟩ := bcell hb1; have hz1 := hb1.size; (try simp at hz1); have z1_0 : w.heap.size < w1.heap.size := (by omega); have y1_0 : w.heap.size ≤ w1.heap.size := (by omega); have z1_1 : w.heap.size + 1 < w1.heap.size := (by omega); have y1_1 : w.heap.size + 1 ≤ w1.heap.size := (by omega))
    have hcH := held_cell
    refine region_below (by kernel_rfl) (by kernel_rfl) ?_
    repeat
      ((with_reducible refine wpQuiet_step (fun K hK => ?_))
       go_simp
       first
         | ((with_reducible refine hK _ ?_); clear hK K)
         | (apply Exists.intro
            (with_reducible refine ⟨fun n => ?_, hK _ ?_⟩)
            ((first | (go_at_call 19; exact held_calls (HD1.out _)) | (go_at_call 9; exact held_calls (HA1.out _))))
            clear hK K))
    with_reducible refine wpQuiet_nil ?_
    intro w2 hw2
    clear hcH
    obtain ⟨⟨_, hb2⟩, rfl⟩ := hw2
    (try dsimp only)
    obtain ⟨hc2, hf2⟩ := bcell hb2
    have hz2 := hb2.size
    (try simp at hz2)
    have z2_0 : w.heap.size < w2.heap.size := (by omega); have y2_0 : w.heap.size ≤ w2.heap.size := (by omega); have z2_1 : w.heap.size + 1 < w2.heap.size := (by omega); have y2_1 : w.heap.size + 1 ≤ w2.heap.size := (by omega)
    go_wp2
    have hcH := held_cell
    refine region_below (by kernel_rfl) (by kernel_rfl) ?_
    repeat
      ((with_reducible refine wpQuiet_step (fun K hK => ?_))
       go_simp
       first
         | ((with_reducible refine hK _ ?_); clear hK K)
         | (apply Exists.intro
            (with_reducible refine ⟨fun n => ?_, hK _ ?_⟩)
            ((first | (go_at_call 19; exact held_calls (HD1.out _)) | (go_at_call 11; exact held_calls (HA2.out _))))
            clear hK K))
    with_reducible refine wpQuiet_nil ?_
    intro w3 hw2
    clear hcH
    obtain ⟨⟨_, hb3⟩, rfl⟩ := hw2
    (try dsimp only)
    obtain ⟨hc3, hf3⟩ := bcell hb3
    have hz3 := hb3.size
    (try simp at hz3)
    have z3_0 : w.heap.size < w3.heap.size := (by omega); have y3_0 : w.heap.size ≤ w3.heap.size := (by omega); have z3_1 : w.heap.size + 1 < w3.heap.size := (by omega); have y3_1 : w.heap.size + 1 ≤ w3.heap.size := (by omega)
    go_wp2_with (go_at_call 8; (with_reducible refine (known_any _ (HT.out.mono (by (repeat' (first | with_reducible exact Below.refl _ _ | with_reducible assumption | with_reducible refine Below.drew ?_ | with_reducible refine below_drewN' ?_ _ | with_reducible refine Below.alloc ?_ ?_ _ | with_reducible refine Below.setCell ?_ ?_ _ | with_reducible refine below_step (by assumption) ?_ ?_ | omega | (simp; done) | (simp; omega)))))).mono ?_); rintro e w4 ⟨rfl, hb4⟩; have hz4 := hb4.size)
    go_ret
    exact ⟨rfl, by (repeat' (first | with_reducible exact Below.refl _ _ | with_reducible assumption | with_reducible refine Below.drew ?_ | with_reducible refine below_drewN' ?_ _ | with_reducible refine Below.alloc ?_ ?_ _ | with_reducible refine Below.setCell ?_ ?_ _ | with_reducible refine below_step (by assumption) ?_ ?_ | omega | (simp; done) | (simp; omega)))⟩
  · have c9 : Int.tmod kind 5 = 1 := by rw [Int.tmod_eq_emod_of_nonneg (by omega)]; exact h
    clear h hpa hki
    have A1 := fun V => parse_any (dgB n ++ (uk)) (by rw [ByteArray.size_append]; have : (uk : ByteArray).size ≤ 10 := (by decide); omega) V
    have A2 := fun V => milli_any (dgB n ++ (lsB [46] ++ (lsB (d3 p) ++ (uk)))) (by rw [ByteArray.size_append, ByteArray.size_append, ByteArray.size_append, ls_size, ls_size]; have : (uk : ByteArray).size ≤ 10 := (by decide); have : (d3 p).length = 3 := rfl; have : [(46 : UInt8)].length = 1 := rfl; omega) V
    rw [plain_sc n hn (uk) (endk) (1000) (by decide +kernel) (by decide) (by decide)] at A1
    rw [point_sc n p hn hp (uk) (endD.n (endk)) (1000) (by decide +kernel) (by decide) (by decide)] at A2
    have hk1 : ∀ V : World, (Op.stringOp .add (dgB n) (uk)).run Tryd.prog V = .ok (.string (dgB n ++ (uk))) V := fun V => cat_run _ _ (by have : (uk : ByteArray).size ≤ 10 := (by decide); omega) V
    have hk2 : ∀ V : World, (Op.stringOp .add (dgB n) ⟨#[46]⟩).run Tryd.prog V = .ok (.string (dgB n ++ lsB [46])) V := fun V => cat_run _ _ (by have : (⟨#[46]⟩ : ByteArray).size = 1 := rfl; omega) V
    have hk3 : ∀ V : World, (Op.stringOp .add (dgB n ++ lsB [46]) (lsB (d3 p))).run Tryd.prog V = .ok (.string (dgB n ++ lsB [46] ++ lsB (d3 p))) V := fun V => cat_run _ _ (by rw [ByteArray.size_append, ls_size, ls_size]; have : (d3 p).length = 3 := rfl; have : [(46 : UInt8)].length = 1 := rfl; omega) V
    have hk4 : ∀ V : World, (Op.stringOp .add (dgB n ++ lsB [46] ++ lsB (d3 p)) (uk)).run Tryd.prog V = .ok (.string (dgB n ++ (lsB [46] ++ (lsB (d3 p) ++ (uk))))) V := fun V => by
      rw [← ByteArray.append_assoc, ← ByteArray.append_assoc]
      exact cat_run _ _ (by rw [ByteArray.size_append, ByteArray.size_append, ls_size, ls_size]; have : (uk : ByteArray).size ≤ 10 := (by decide); have : (d3 p).length = 3 := rfl; have : [(46 : UInt8)].length = 1 := rfl; omega) V
    have hv1 : IntKind.i64.wrap ((n : Int) * (1000)) = (n : Int) * (1000) := wrap_in (by omega) (by omega)
    have hv2 : IntKind.i64.wrap ((1000 * (n : Int) + (p : Int)) * (1000)) = (1000 * (n : Int) + (p : Int)) * (1000) := wrap_in (by omega) (by omega)
    have HA1 := Lib.hid A1
    have HA2 := Lib.hid A2
    obtain ⟨q, hq⟩ : ∃ q, dgB n = q := ⟨_, rfl⟩
    rw [hq] at HA1 HA2 hk1 hk2 hk3 hk4 HD1
    obtain ⟨q3, hq3⟩ : ∃ q3, dgB n ++ lsB [46] = q3 := ⟨_, rfl⟩
    rw [hq] at hq3
    rw [hq3] at hk2 hk3 hk4
    obtain ⟨q4, hq4⟩ : ∃ q4, q3 ++ lsB (d3 p) = q4 := ⟨_, rfl⟩
    rw [hq4] at hk3 hk4
    obtain ⟨q5, hq5⟩ : ∃ q5, q ++ (lsB [46] ++ (lsB (d3 p) ++ (uk))) = q5 := ⟨_, rfl⟩
    rw [hq5] at HA2 hk4
    obtain ⟨q6, hq6⟩ : ∃ q6, lsB (d3 p) = q6 := ⟨_, rfl⟩
    rw [hq6] at hk3 hsl
    obtain ⟨q7, hq7⟩ : ∃ q7, q ++ (uk) = q7 := ⟨_, rfl⟩
    rw [hq7] at HA1 hk1
    have HT := Lib.hid hT
    clear A1 A2 hq hq3 hq4 hq5 hq6 hq7 hT hsz
    go_enter Tryd.func6, Tryd.ntmps6
    go_wp2_with (go_at_call 19; (with_reducible refine (HD2.out _).mono ?_); rintro e w1 ⟨rfl, hb1⟩; obtain ⟨hc1, hf1⟩ := bcell hb1; have hz1 := hb1.size; (try simp at hz1); have z1_0 : w.heap.size < w1.heap.size := (by omega); have y1_0 : w.heap.size ≤ w1.heap.size := (by omega); have z1_1 : w.heap.size + 1 < w1.heap.size := (by omega); have y1_1 : w.heap.size + 1 ≤ w1.heap.size := (by omega))
    have hcH := held_cell
    refine region_below (by kernel_rfl) (by kernel_rfl) ?_
    repeat
      ((with_reducible refine wpQuiet_step (fun K hK => ?_))
       go_simp
       first
         | ((with_reducible refine hK _ ?_); clear hK K)
         | (apply Exists.intro
            (with_reducible refine ⟨fun n => ?_, hK _ ?_⟩)
            ((first | (go_at_call 19; exact held_calls (HD1.out _)) | (go_at_call 9; exact held_calls (HA1.out _))))
            clear hK K))
    with_reducible refine wpQuiet_nil ?_
    intro w2 hw2
    clear hcH
    obtain ⟨⟨_, hb2⟩, rfl⟩ := hw2
    (try dsimp only)
    obtain ⟨hc2, hf2⟩ := bcell hb2
    have hz2 := hb2.size
    (try simp at hz2)
    have z2_0 : w.heap.size < w2.heap.size := (by omega); have y2_0 : w.heap.size ≤ w2.heap.size := (by omega); have z2_1 : w.heap.size + 1 < w2.heap.size := (by omega); have y2_1 : w.heap.size + 1 ≤ w2.heap.size := (by omega)
    go_wp2
    have hcH := held_cell
    refine region_below (by kernel_rfl) (by kernel_rfl) ?_
    repeat
      ((with_reducible refine wpQuiet_step (fun K hK => ?_))
       go_simp
       first
         | ((with_reducible refine hK _ ?_); clear hK K)
         | (apply Exists.intro
            (with_reducible refine ⟨fun n => ?_, hK _ ?_⟩)
            ((first | (go_at_call 19; exact held_calls (HD1.out _)) | (go_at_call 11; exact held_calls (HA2.out _))))
            clear hK K))
    with_reducible refine wpQuiet_nil ?_
    intro w3 hw2
    clear hcH
    obtain ⟨⟨_, hb3⟩, rfl⟩ := hw2
    (try dsimp only)
    obtain ⟨hc3, hf3⟩ := bcell hb3
    have hz3 := hb3.size
    (try simp at hz3)
    have z3_0 : w.heap.size < w3.heap.size := (by omega); have y3_0 : w.heap.size ≤ w3.heap.size := (by omega); have z3_1 : w.heap.size + 1 < w3.heap.size := (by omega); have y3_1 : w.heap.size + 1 ≤ w3.heap.size := (by omega)
    go_wp2_with (go_at_call 8; (with_reducible refine (known_any _ (HT.out.mono (by (repeat' (first | with_reducible exact Below.refl _ _ | with_reducible assumption | with_reducible refine Below.drew ?_ | with_reducible refine below_drewN' ?_ _ | with_reducible refine Below.alloc ?_ ?_ _ | with_reducible refine Below.setCell ?_ ?_ _ | with_reducible refine below_step (by assumption) ?_ ?_ | omega | (simp; done) | (simp; omega)))))).mono ?_); rintro e w4 ⟨rfl, hb4⟩; have hz4 := hb4.size)
    go_ret
    exact ⟨rfl, by (repeat' (first | with_reducible exact Below.refl _ _ | with_reducible assumption | with_reducible refine Below.drew ?_ | with_reducible refine below_drewN' ?_ _ | with_reducible refine Below.alloc ?_ ?_ _ | with_reducible refine Below.setCell ?_ ?_ _ | with_reducible refine below_step (by assumption) ?_ ?_ | omega | (simp; done) | (simp; omega)))⟩
  · have c9 : Int.tmod kind 5 = 2 := by rw [Int.tmod_eq_emod_of_nonneg (by omega)]; exact h
    clear h hpa hki
    have A1 := fun V => parse_any (dgB n ++ (uM)) (by rw [ByteArray.size_append]; have : (uM : ByteArray).size ≤ 10 := (by decide); omega) V
    have A2 := fun V => milli_any (dgB n ++ (lsB [46] ++ (lsB (d3 p) ++ (uM)))) (by rw [ByteArray.size_append, ByteArray.size_append, ByteArray.size_append, ls_size, ls_size]; have : (uM : ByteArray).size ≤ 10 := (by decide); have : (d3 p).length = 3 := rfl; have : [(46 : UInt8)].length = 1 := rfl; omega) V
    rw [plain_sc n hn (uM) (endM) (1000000) (by decide +kernel) (by decide) (by decide)] at A1
    rw [point_sc n p hn hp (uM) (endD.n (endM)) (1000000) (by decide +kernel) (by decide) (by decide)] at A2
    have hk1 : ∀ V : World, (Op.stringOp .add (dgB n) (uM)).run Tryd.prog V = .ok (.string (dgB n ++ (uM))) V := fun V => cat_run _ _ (by have : (uM : ByteArray).size ≤ 10 := (by decide); omega) V
    have hk2 : ∀ V : World, (Op.stringOp .add (dgB n) ⟨#[46]⟩).run Tryd.prog V = .ok (.string (dgB n ++ lsB [46])) V := fun V => cat_run _ _ (by have : (⟨#[46]⟩ : ByteArray).size = 1 := rfl; omega) V
    have hk3 : ∀ V : World, (Op.stringOp .add (dgB n ++ lsB [46]) (lsB (d3 p))).run Tryd.prog V = .ok (.string (dgB n ++ lsB [46] ++ lsB (d3 p))) V := fun V => cat_run _ _ (by rw [ByteArray.size_append, ls_size, ls_size]; have : (d3 p).length = 3 := rfl; have : [(46 : UInt8)].length = 1 := rfl; omega) V
    have hk4 : ∀ V : World, (Op.stringOp .add (dgB n ++ lsB [46] ++ lsB (d3 p)) (uM)).run Tryd.prog V = .ok (.string (dgB n ++ (lsB [46] ++ (lsB (d3 p) ++ (uM))))) V := fun V => by
      rw [← ByteArray.append_assoc, ← ByteArray.append_assoc]
      exact cat_run _ _ (by rw [ByteArray.size_append, ByteArray.size_append, ls_size, ls_size]; have : (uM : ByteArray).size ≤ 10 := (by decide); have : (d3 p).length = 3 := rfl; have : [(46 : UInt8)].length = 1 := rfl; omega) V
    have hv1 : IntKind.i64.wrap ((n : Int) * (1000000)) = (n : Int) * (1000000) := wrap_in (by omega) (by omega)
    have hv2 : IntKind.i64.wrap ((1000 * (n : Int) + (p : Int)) * (1000000)) = (1000 * (n : Int) + (p : Int)) * (1000000) := wrap_in (by omega) (by omega)
    have HA1 := Lib.hid A1
    have HA2 := Lib.hid A2
    obtain ⟨q, hq⟩ : ∃ q, dgB n = q := ⟨_, rfl⟩
    rw [hq] at HA1 HA2 hk1 hk2 hk3 hk4 HD1
    obtain ⟨q3, hq3⟩ : ∃ q3, dgB n ++ lsB [46] = q3 := ⟨_, rfl⟩
    rw [hq] at hq3
    rw [hq3] at hk2 hk3 hk4
    obtain ⟨q4, hq4⟩ : ∃ q4, q3 ++ lsB (d3 p) = q4 := ⟨_, rfl⟩
    rw [hq4] at hk3 hk4
    obtain ⟨q5, hq5⟩ : ∃ q5, q ++ (lsB [46] ++ (lsB (d3 p) ++ (uM))) = q5 := ⟨_, rfl⟩
    rw [hq5] at HA2 hk4
    obtain ⟨q6, hq6⟩ : ∃ q6, lsB (d3 p) = q6 := ⟨_, rfl⟩
    rw [hq6] at hk3 hsl
    obtain ⟨q7, hq7⟩ : ∃ q7, q ++ (uM) = q7 := ⟨_, rfl⟩
    rw [hq7] at HA1 hk1
    have HT := Lib.hid hT
    clear A1 A2 hq hq3 hq4 hq5 hq6 hq7 hT hsz
    go_enter Tryd.func6, Tryd.ntmps6
    go_wp2_with (go_at_call 19; (with_reducible refine (HD2.out _).mono ?_); rintro e w1 ⟨rfl, hb1⟩; obtain ⟨hc1, hf1⟩ := bcell hb1; have hz1 := hb1.size; (try simp at hz1); have z1_0 : w.heap.size < w1.heap.size := (by omega); have y1_0 : w.heap.size ≤ w1.heap.size := (by omega); have z1_1 : w.heap.size + 1 < w1.heap.size := (by omega); have y1_1 : w.heap.size + 1 ≤ w1.heap.size := (by omega))
    have hcH := held_cell
    refine region_below (by kernel_rfl) (by kernel_rfl) ?_
    repeat
      ((with_reducible refine wpQuiet_step (fun K hK => ?_))
       go_simp
       first
         | ((with_reducible refine hK _ ?_); clear hK K)
         | (apply Exists.intro
            (with_reducible refine ⟨fun n => ?_, hK _ ?_⟩)
            ((first | (go_at_call 19; exact held_calls (HD1.out _)) | (go_at_call 9; exact held_calls (HA1.out _))))
            clear hK K))
    with_reducible refine wpQuiet_nil ?_
    intro w2 hw2
    clear hcH
    obtain ⟨⟨_, hb2⟩, rfl⟩ := hw2
    (try dsimp only)
    obtain ⟨hc2, hf2⟩ := bcell hb2
    have hz2 := hb2.size
    (try simp at hz2)
    have z2_0 : w.heap.size < w2.heap.size := (by omega); have y2_0 : w.heap.size ≤ w2.heap.size := (by omega); have z2_1 : w.heap.size + 1 < w2.heap.size := (by omega); have y2_1 : w.heap.size + 1 ≤ w2.heap.size := (by omega)
    go_wp2
    have hcH := held_cell
    refine region_below (by kernel_rfl) (by kernel_rfl) ?_
    repeat
      ((with_reducible refine wpQuiet_step (fun K hK => ?_))
       go_simp
       first
         | ((with_reducible refine hK _ ?_); clear hK K)
         | (apply Exists.intro
            (with_reducible refine ⟨fun n => ?_, hK _ ?_⟩)
            ((first | (go_at_call 19; exact held_calls (HD1.out _)) | (go_at_call 11; exact held_calls (HA2.out _))))
            clear hK K))
    with_reducible refine wpQuiet_nil ?_
    intro w3 hw2
    clear hcH
    obtain ⟨⟨_, hb3⟩, rfl⟩ := hw2
    (try dsimp only)
    obtain ⟨hc3, hf3⟩ := bcell hb3
    have hz3 := hb3.size
    (try simp at hz3)
    have z3_0 : w.heap.size < w3.heap.size := (by omega); have y3_0 : w.heap.size ≤ w3.heap.size := (by omega); have z3_1 : w.heap.size + 1 < w3.heap.size := (by omega); have y3_1 : w.heap.size + 1 ≤ w3.heap.size := (by omega)
    go_wp2_with (go_at_call 8; (with_reducible refine (known_any _ (HT.out.mono (by (repeat' (first | with_reducible exact Below.refl _ _ | with_reducible assumption | with_reducible refine Below.drew ?_ | with_reducible refine below_drewN' ?_ _ | with_reducible refine Below.alloc ?_ ?_ _ | with_reducible refine Below.setCell ?_ ?_ _ | with_reducible refine below_step (by assumption) ?_ ?_ | omega | (simp; done) | (simp; omega)))))).mono ?_); rintro e w4 ⟨rfl, hb4⟩; have hz4 := hb4.size)
    go_ret
    exact ⟨rfl, by (repeat' (first | with_reducible exact Below.refl _ _ | with_reducible assumption | with_reducible refine Below.drew ?_ | with_reducible refine below_drewN' ?_ _ | with_reducible refine Below.alloc ?_ ?_ _ | with_reducible refine Below.setCell ?_ ?_ _ | with_reducible refine below_step (by assumption) ?_ ?_ | omega | (simp; done) | (simp; omega)))⟩
  · have c9 : Int.tmod kind 5 = 3 := by rw [Int.tmod_eq_emod_of_nonneg (by omega)]; exact h
    clear h hpa hki
    have A1 := fun V => parse_any (dgB n ++ (uKi)) (by rw [ByteArray.size_append]; have : (uKi : ByteArray).size ≤ 10 := (by decide); omega) V
    have A2 := fun V => milli_any (dgB n ++ (lsB [46] ++ (lsB (d3 p) ++ (uKi)))) (by rw [ByteArray.size_append, ByteArray.size_append, ByteArray.size_append, ls_size, ls_size]; have : (uKi : ByteArray).size ≤ 10 := (by decide); have : (d3 p).length = 3 := rfl; have : [(46 : UInt8)].length = 1 := rfl; omega) V
    rw [plain_sc n hn (uKi) (endKi) (1024) (by decide +kernel) (by decide) (by decide)] at A1
    rw [point_sc n p hn hp (uKi) (endD.n (endKi)) (1024) (by decide +kernel) (by decide) (by decide)] at A2
    have hk1 : ∀ V : World, (Op.stringOp .add (dgB n) (uKi)).run Tryd.prog V = .ok (.string (dgB n ++ (uKi))) V := fun V => cat_run _ _ (by have : (uKi : ByteArray).size ≤ 10 := (by decide); omega) V
    have hk2 : ∀ V : World, (Op.stringOp .add (dgB n) ⟨#[46]⟩).run Tryd.prog V = .ok (.string (dgB n ++ lsB [46])) V := fun V => cat_run _ _ (by have : (⟨#[46]⟩ : ByteArray).size = 1 := rfl; omega) V
    have hk3 : ∀ V : World, (Op.stringOp .add (dgB n ++ lsB [46]) (lsB (d3 p))).run Tryd.prog V = .ok (.string (dgB n ++ lsB [46] ++ lsB (d3 p))) V := fun V => cat_run _ _ (by rw [ByteArray.size_append, ls_size, ls_size]; have : (d3 p).length = 3 := rfl; have : [(46 : UInt8)].length = 1 := rfl; omega) V
    have hk4 : ∀ V : World, (Op.stringOp .add (dgB n ++ lsB [46] ++ lsB (d3 p)) (uKi)).run Tryd.prog V = .ok (.string (dgB n ++ (lsB [46] ++ (lsB (d3 p) ++ (uKi))))) V := fun V => by
      rw [← ByteArray.append_assoc, ← ByteArray.append_assoc]
      exact cat_run _ _ (by rw [ByteArray.size_append, ByteArray.size_append, ls_size, ls_size]; have : (uKi : ByteArray).size ≤ 10 := (by decide); have : (d3 p).length = 3 := rfl; have : [(46 : UInt8)].length = 1 := rfl; omega) V
    have hv1 : IntKind.i64.wrap ((n : Int) * (1024)) = (n : Int) * (1024) := wrap_in (by omega) (by omega)
    have hv2 : IntKind.i64.wrap ((1000 * (n : Int) + (p : Int)) * (1024)) = (1000 * (n : Int) + (p : Int)) * (1024) := wrap_in (by omega) (by omega)
    have HA1 := Lib.hid A1
    have HA2 := Lib.hid A2
    obtain ⟨q, hq⟩ : ∃ q, dgB n = q := ⟨_, rfl⟩
    rw [hq] at HA1 HA2 hk1 hk2 hk3 hk4 HD1
    obtain ⟨q3, hq3⟩ : ∃ q3, dgB n ++ lsB [46] = q3 := ⟨_, rfl⟩
    rw [hq] at hq3
    rw [hq3] at hk2 hk3 hk4
    obtain ⟨q4, hq4⟩ : ∃ q4, q3 ++ lsB (d3 p) = q4 := ⟨_, rfl⟩
    rw [hq4] at hk3 hk4
    obtain ⟨q5, hq5⟩ : ∃ q5, q ++ (lsB [46] ++ (lsB (d3 p) ++ (uKi))) = q5 := ⟨_, rfl⟩
    rw [hq5] at HA2 hk4
    obtain ⟨q6, hq6⟩ : ∃ q6, lsB (d3 p) = q6 := ⟨_, rfl⟩
    rw [hq6] at hk3 hsl
    obtain ⟨q7, hq7⟩ : ∃ q7, q ++ (uKi) = q7 := ⟨_, rfl⟩
    rw [hq7] at HA1 hk1
    have HT := Lib.hid hT
    clear A1 A2 hq hq3 hq4 hq5 hq6 hq7 hT hsz
    go_enter Tryd.func6, Tryd.ntmps6
    go_wp2_with (go_at_call 19; (with_reducible refine (HD2.out _).mono ?_); rintro e w1 ⟨rfl, hb1⟩; obtain ⟨hc1, hf1⟩ := bcell hb1; have hz1 := hb1.size; (try simp at hz1); have z1_0 : w.heap.size < w1.heap.size := (by omega); have y1_0 : w.heap.size ≤ w1.heap.size := (by omega); have z1_1 : w.heap.size + 1 < w1.heap.size := (by omega); have y1_1 : w.heap.size + 1 ≤ w1.heap.size := (by omega))
    have hcH := held_cell
    refine region_below (by kernel_rfl) (by kernel_rfl) ?_
    repeat
      ((with_reducible refine wpQuiet_step (fun K hK => ?_))
       go_simp
       first
         | ((with_reducible refine hK _ ?_); clear hK K)
         | (apply Exists.intro
            (with_reducible refine ⟨fun n => ?_, hK _ ?_⟩)
            ((first | (go_at_call 19; exact held_calls (HD1.out _)) | (go_at_call 9; exact held_calls (HA1.out _))))
            clear hK K))
    with_reducible refine wpQuiet_nil ?_
    intro w2 hw2
    clear hcH
    obtain ⟨⟨_, hb2⟩, rfl⟩ := hw2
    (try dsimp only)
    obtain ⟨hc2, hf2⟩ := bcell hb2
    have hz2 := hb2.size
    (try simp at hz2)
    have z2_0 : w.heap.size < w2.heap.size := (by omega); have y2_0 : w.heap.size ≤ w2.heap.size := (by omega); have z2_1 : w.heap.size + 1 < w2.heap.size := (by omega); have y2_1 : w.heap.size + 1 ≤ w2.heap.size := (by omega)
    go_wp2
    have hcH := held_cell
    refine region_below (by kernel_rfl) (by kernel_rfl) ?_
    repeat
      ((with_reducible refine wpQuiet_step (fun K hK => ?_))
       go_simp
       first
         | ((with_reducible refine hK _ ?_); clear hK K)
         | (apply Exists.intro
            (with_reducible refine ⟨fun n => ?_, hK _ ?_⟩)
            ((first | (go_at_call 19; exact held_calls (HD1.out _)) | (go_at_call 11; exact held_calls (HA2.out _))))
            clear hK K))
    with_reducible refine wpQuiet_nil ?_
    intro w3 hw2
    clear hcH
    obtain ⟨⟨_, hb3⟩, rfl⟩ := hw2
    (try dsimp only)
    obtain ⟨hc3, hf3⟩ := bcell hb3
    have hz3 := hb3.size
    (try simp at hz3)
    have z3_0 : w.heap.size < w3.heap.size := (by omega); have y3_0 : w.heap.size ≤ w3.heap.size := (by omega); have z3_1 : w.heap.size + 1 < w3.heap.size := (by omega); have y3_1 : w.heap.size + 1 ≤ w3.heap.size := (by omega)
    go_wp2_with (go_at_call 8; (with_reducible refine (known_any _ (HT.out.mono (by (repeat' (first | with_reducible exact Below.refl _ _ | with_reducible assumption | with_reducible refine Below.drew ?_ | with_reducible refine below_drewN' ?_ _ | with_reducible refine Below.alloc ?_ ?_ _ | with_reducible refine Below.setCell ?_ ?_ _ | with_reducible refine below_step (by assumption) ?_ ?_ | omega | (simp; done) | (simp; omega)))))).mono ?_); rintro e w4 ⟨rfl, hb4⟩; have hz4 := hb4.size)
    go_ret
    exact ⟨rfl, by (repeat' (first | with_reducible exact Below.refl _ _ | with_reducible assumption | with_reducible refine Below.drew ?_ | with_reducible refine below_drewN' ?_ _ | with_reducible refine Below.alloc ?_ ?_ _ | with_reducible refine Below.setCell ?_ ?_ _ | with_reducible refine below_step (by assumption) ?_ ?_ | omega | (simp; done) | (simp; omega)))⟩
  · have c9 : Int.tmod kind 5 = 4 := by rw [Int.tmod_eq_emod_of_nonneg (by omega)]; exact h
    clear h hpa hki
    have A1 := fun V => parse_any (dgB n ++ (uMi)) (by rw [ByteArray.size_append]; have : (uMi : ByteArray).size ≤ 10 := (by decide); omega) V
    have A2 := fun V => milli_any (dgB n ++ (lsB [46] ++ (lsB (d3 p) ++ (uMi)))) (by rw [ByteArray.size_append, ByteArray.size_append, ByteArray.size_append, ls_size, ls_size]; have : (uMi : ByteArray).size ≤ 10 := (by decide); have : (d3 p).length = 3 := rfl; have : [(46 : UInt8)].length = 1 := rfl; omega) V
    rw [plain_sc n hn (uMi) (endMi) (1048576) (by decide +kernel) (by decide) (by decide)] at A1
    rw [point_sc n p hn hp (uMi) (endD.n (endMi)) (1048576) (by decide +kernel) (by decide) (by decide)] at A2
    have hk1 : ∀ V : World, (Op.stringOp .add (dgB n) (uMi)).run Tryd.prog V = .ok (.string (dgB n ++ (uMi))) V := fun V => cat_run _ _ (by have : (uMi : ByteArray).size ≤ 10 := (by decide); omega) V
    have hk2 : ∀ V : World, (Op.stringOp .add (dgB n) ⟨#[46]⟩).run Tryd.prog V = .ok (.string (dgB n ++ lsB [46])) V := fun V => cat_run _ _ (by have : (⟨#[46]⟩ : ByteArray).size = 1 := rfl; omega) V
    have hk3 : ∀ V : World, (Op.stringOp .add (dgB n ++ lsB [46]) (lsB (d3 p))).run Tryd.prog V = .ok (.string (dgB n ++ lsB [46] ++ lsB (d3 p))) V := fun V => cat_run _ _ (by rw [ByteArray.size_append, ls_size, ls_size]; have : (d3 p).length = 3 := rfl; have : [(46 : UInt8)].length = 1 := rfl; omega) V
    have hk4 : ∀ V : World, (Op.stringOp .add (dgB n ++ lsB [46] ++ lsB (d3 p)) (uMi)).run Tryd.prog V = .ok (.string (dgB n ++ (lsB [46] ++ (lsB (d3 p) ++ (uMi))))) V := fun V => by
      rw [← ByteArray.append_assoc, ← ByteArray.append_assoc]
      exact cat_run _ _ (by rw [ByteArray.size_append, ByteArray.size_append, ls_size, ls_size]; have : (uMi : ByteArray).size ≤ 10 := (by decide); have : (d3 p).length = 3 := rfl; have : [(46 : UInt8)].length = 1 := rfl; omega) V
    have hv1 : IntKind.i64.wrap ((n : Int) * (1048576)) = (n : Int) * (1048576) := wrap_in (by omega) (by omega)
    have hv2 : IntKind.i64.wrap ((1000 * (n : Int) + (p : Int)) * (1048576)) = (1000 * (n : Int) + (p : Int)) * (1048576) := wrap_in (by omega) (by omega)
    have HA1 := Lib.hid A1
    have HA2 := Lib.hid A2
    obtain ⟨q, hq⟩ : ∃ q, dgB n = q := ⟨_, rfl⟩
    rw [hq] at HA1 HA2 hk1 hk2 hk3 hk4 HD1
    obtain ⟨q3, hq3⟩ : ∃ q3, dgB n ++ lsB [46] = q3 := ⟨_, rfl⟩
    rw [hq] at hq3
    rw [hq3] at hk2 hk3 hk4
    obtain ⟨q4, hq4⟩ : ∃ q4, q3 ++ lsB (d3 p) = q4 := ⟨_, rfl⟩
    rw [hq4] at hk3 hk4
    obtain ⟨q5, hq5⟩ : ∃ q5, q ++ (lsB [46] ++ (lsB (d3 p) ++ (uMi))) = q5 := ⟨_, rfl⟩
    rw [hq5] at HA2 hk4
    obtain ⟨q6, hq6⟩ : ∃ q6, lsB (d3 p) = q6 := ⟨_, rfl⟩
    rw [hq6] at hk3 hsl
    obtain ⟨q7, hq7⟩ : ∃ q7, q ++ (uMi) = q7 := ⟨_, rfl⟩
    rw [hq7] at HA1 hk1
    have HT := Lib.hid hT
    clear A1 A2 hq hq3 hq4 hq5 hq6 hq7 hT hsz
    go_enter Tryd.func6, Tryd.ntmps6
    go_wp2_with (go_at_call 19; (with_reducible refine (HD2.out _).mono ?_); rintro e w1 ⟨rfl, hb1⟩; obtain ⟨hc1, hf1⟩ := bcell hb1; have hz1 := hb1.size; (try simp at hz1); have z1_0 : w.heap.size < w1.heap.size := (by omega); have y1_0 : w.heap.size ≤ w1.heap.size := (by omega); have z1_1 : w.heap.size + 1 < w1.heap.size := (by omega); have y1_1 : w.heap.size + 1 ≤ w1.heap.size := (by omega))
    have hcH := held_cell
    refine region_below (by kernel_rfl) (by kernel_rfl) ?_
    repeat
      ((with_reducible refine wpQuiet_step (fun K hK => ?_))
       go_simp
       first
         | ((with_reducible refine hK _ ?_); clear hK K)
         | (apply Exists.intro
            (with_reducible refine ⟨fun n => ?_, hK _ ?_⟩)
            ((first | (go_at_call 19; exact held_calls (HD1.out _)) | (go_at_call 9; exact held_calls (HA1.out _))))
            clear hK K))
    with_reducible refine wpQuiet_nil ?_
    intro w2 hw2
    clear hcH
    obtain ⟨⟨_, hb2⟩, rfl⟩ := hw2
    (try dsimp only)
    obtain ⟨hc2, hf2⟩ := bcell hb2
    have hz2 := hb2.size
    (try simp at hz2)
    have z2_0 : w.heap.size < w2.heap.size := (by omega); have y2_0 : w.heap.size ≤ w2.heap.size := (by omega); have z2_1 : w.heap.size + 1 < w2.heap.size := (by omega); have y2_1 : w.heap.size + 1 ≤ w2.heap.size := (by omega)
    go_wp2
    have hcH := held_cell
    refine region_below (by kernel_rfl) (by kernel_rfl) ?_
    repeat
      ((with_reducible refine wpQuiet_step (fun K hK => ?_))
       go_simp
       first
         | ((with_reducible refine hK _ ?_); clear hK K)
         | (apply Exists.intro
            (with_reducible refine ⟨fun n => ?_, hK _ ?_⟩)
            ((first | (go_at_call 19; exact held_calls (HD1.out _)) | (go_at_call 11; exact held_calls (HA2.out _))))
            clear hK K))
    with_reducible refine wpQuiet_nil ?_
    intro w3 hw2
    clear hcH
    obtain ⟨⟨_, hb3⟩, rfl⟩ := hw2
    (try dsimp only)
    obtain ⟨hc3, hf3⟩ := bcell hb3
    have hz3 := hb3.size
    (try simp at hz3)
    have z3_0 : w.heap.size < w3.heap.size := (by omega); have y3_0 : w.heap.size ≤ w3.heap.size := (by omega); have z3_1 : w.heap.size + 1 < w3.heap.size := (by omega); have y3_1 : w.heap.size + 1 ≤ w3.heap.size := (by omega)
    go_wp2_with (go_at_call 8; (with_reducible refine (known_any _ (HT.out.mono (by (repeat' (first | with_reducible exact Below.refl _ _ | with_reducible assumption | with_reducible refine Below.drew ?_ | with_reducible refine below_drewN' ?_ _ | with_reducible refine Below.alloc ?_ ?_ _ | with_reducible refine Below.setCell ?_ ?_ _ | with_reducible refine below_step (by assumption) ?_ ?_ | omega | (simp; done) | (simp; omega)))))).mono ?_); rintro e w4 ⟨rfl, hb4⟩; have hz4 := hb4.size)
    go_ret
    exact ⟨rfl, by (repeat' (first | with_reducible exact Below.refl _ _ | with_reducible assumption | with_reducible refine Below.drew ?_ | with_reducible refine below_drewN' ?_ _ | with_reducible refine Below.alloc ?_ ?_ _ | with_reducible refine Below.setCell ?_ ?_ _ | with_reducible refine below_step (by assumption) ?_ ?_ | omega | (simp; done) | (simp; omega)))⟩
end quantUnits
end Go.Proofs.YtpajpijkldjmfaaDoor
