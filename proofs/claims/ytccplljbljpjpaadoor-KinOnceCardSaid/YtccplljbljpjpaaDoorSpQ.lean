/-
  The program's amounts as text: quant.Show, ShowMilli.
-/
import Derived.Test.YtccplljbljpjpaaDoorKIto
import Derived.Test.YtccplljbljpjpaaDoorShA
import Derived.Lib.ItoaLen
namespace Go.Proofs.YtccplljbljpjpaaDoor
open Go.RowKit
set_option linter.unusedVariables false
set_option linter.unusedSimpArgs false

set_option maxRecDepth 100000 in
set_option maxHeartbeats 4000000 in
theorem show_any (n : Int) (w : World) (hT : Tab10 w) :
    Calls Tryd.prog 39 #[.int .i64 n] w fun e w' => e = .returned (.string (showV n)) ∧ Below w.heap.size w w' := by
  unfold showV
  by_cases hneg : n < 0
  · rw [if_pos (.inl hneg)]
    go_enter Tryd.func39, Tryd.ntmps39
    go_wp2
    go_ret
    exact ⟨rfl, by (repeat' (first | with_reducible exact Below.refl _ _ | with_reducible assumption | with_reducible refine Below.drew ?_ | with_reducible refine below_drewN' ?_ _ | with_reducible refine Below.alloc ?_ ?_ _ | with_reducible refine Below.setCell ?_ ?_ _ | with_reducible refine below_step (by assumption) ?_ ?_ | omega | (simp; done) | (simp; omega)))⟩
  by_cases hbig : 1125899906842624 < n
  · rw [if_pos (.inr hbig)]
    go_enter Tryd.func39, Tryd.ntmps39
    go_wp2
    go_ret
    exact ⟨rfl, by (repeat' (first | with_reducible exact Below.refl _ _ | with_reducible assumption | with_reducible refine Below.drew ?_ | with_reducible refine below_drewN' ?_ _ | with_reducible refine Below.alloc ?_ ?_ _ | with_reducible refine Below.setCell ?_ ?_ _ | with_reducible refine below_step (by assumption) ?_ ?_ | omega | (simp; done) | (simp; omega)))⟩
  rw [if_neg (by omega)]
  by_cases h0 : n = 0
  · rw [if_pos h0]
    have g0 : (n == 0) = true := by simpa using h0
    clear h0
    go_enter Tryd.func39, Tryd.ntmps39
    go_wp2
    go_ret
    exact ⟨rfl, by (repeat' (first | with_reducible exact Below.refl _ _ | with_reducible assumption | with_reducible refine Below.drew ?_ | with_reducible refine below_drewN' ?_ _ | with_reducible refine Below.alloc ?_ ?_ _ | with_reducible refine Below.setCell ?_ ?_ _ | with_reducible refine below_step (by assumption) ?_ ?_ | omega | (simp; done) | (simp; omega)))⟩
  rw [if_neg h0]
  have g0 : (n == 0) = false := by simpa using h0
  have t1 : Int.tmod n 1099511627776 = n % 1099511627776 := Int.tmod_eq_emod_of_nonneg (by omega)
  have t2 : Int.tmod n 1073741824 = n % 1073741824 := Int.tmod_eq_emod_of_nonneg (by omega)
  have t3 : Int.tmod n 1048576 = n % 1048576 := Int.tmod_eq_emod_of_nonneg (by omega)
  have t4 : Int.tmod n 1024 = n % 1024 := Int.tmod_eq_emod_of_nonneg (by omega)
  have w1 : IntKind.i64.wrap (n % 1099511627776) = n % 1099511627776 := wrap_in (by omega) (by omega)
  have w2 : IntKind.i64.wrap (n % 1073741824) = n % 1073741824 := wrap_in (by omega) (by omega)
  have w3 : IntKind.i64.wrap (n % 1048576) = n % 1048576 := wrap_in (by omega) (by omega)
  have w4 : IntKind.i64.wrap (n % 1024) = n % 1024 := wrap_in (by omega) (by omega)
  by_cases h1 : n % 1099511627776 = 0
  · rw [if_pos h1]
    have g1 : (n % 1099511627776 == 0) = true := by simpa using h1
    have HI := Lib.hid (fun V => itoa_any (n / 1099511627776) (by omega) (by omega) V)
    have hc : ∀ V : World, (Op.stringOp .add ⟨(Lib.itoa (n / 1099511627776)).toArray⟩ ⟨#[84, 105]⟩).run Tryd.prog V = .ok (.string (itoaB (n / 1099511627776) ++ uTi)) V := fun V => cat_run (itoaB (n / 1099511627776)) uTi (by have := itoaB_size (n / 1099511627776) (by omega) (by omega); have : (uTi : ByteArray).size ≤ 10 := (by decide); omega) V
    clear h1
    go_enter Tryd.func39, Tryd.ntmps39
    go_wp2_with (go_at_call 40; (with_reducible refine (HI.out _ (hT.mono (by (repeat' (first | with_reducible exact Below.refl _ _ | with_reducible assumption | with_reducible refine Below.drew ?_ | with_reducible refine below_drewN' ?_ _ | with_reducible refine Below.alloc ?_ ?_ _ | with_reducible refine Below.setCell ?_ ?_ _ | with_reducible refine below_step (by assumption) ?_ ?_ | omega | (simp; done) | (simp; omega)))))).mono ?_); rintro e w1 ⟨rfl, hb1⟩; have hz1 := hb1.size)
    go_ret
    exact ⟨by first | rfl | (simp; done), by (repeat' (first | with_reducible exact Below.refl _ _ | with_reducible assumption | with_reducible refine Below.drew ?_ | with_reducible refine below_drewN' ?_ _ | with_reducible refine Below.alloc ?_ ?_ _ | with_reducible refine Below.setCell ?_ ?_ _ | with_reducible refine below_step (by assumption) ?_ ?_ | omega | (simp; done) | (simp; omega)))⟩
  rw [if_neg h1]
  have g1 : (n % 1099511627776 == 0) = false := by simpa using h1
  clear h1
  by_cases h2 : n % 1073741824 = 0
  · rw [if_pos h2]
    have g2 : (n % 1073741824 == 0) = true := by simpa using h2
    have HI := Lib.hid (fun V => itoa_any (n / 1073741824) (by omega) (by omega) V)
    have hc : ∀ V : World, (Op.stringOp .add ⟨(Lib.itoa (n / 1073741824)).toArray⟩ ⟨#[71, 105]⟩).run Tryd.prog V = .ok (.string (itoaB (n / 1073741824) ++ uGi)) V := fun V => cat_run (itoaB (n / 1073741824)) uGi (by have := itoaB_size (n / 1073741824) (by omega) (by omega); have : (uGi : ByteArray).size ≤ 10 := (by decide); omega) V
    clear h2
    go_enter Tryd.func39, Tryd.ntmps39
    go_wp2_with (go_at_call 40; (with_reducible refine (HI.out _ (hT.mono (by (repeat' (first | with_reducible exact Below.refl _ _ | with_reducible assumption | with_reducible refine Below.drew ?_ | with_reducible refine below_drewN' ?_ _ | with_reducible refine Below.alloc ?_ ?_ _ | with_reducible refine Below.setCell ?_ ?_ _ | with_reducible refine below_step (by assumption) ?_ ?_ | omega | (simp; done) | (simp; omega)))))).mono ?_); rintro e w1 ⟨rfl, hb1⟩; have hz1 := hb1.size)
    go_ret
    exact ⟨by first | rfl | (simp; done), by (repeat' (first | with_reducible exact Below.refl _ _ | with_reducible assumption | with_reducible refine Below.drew ?_ | with_reducible refine below_drewN' ?_ _ | with_reducible refine Below.alloc ?_ ?_ _ | with_reducible refine Below.setCell ?_ ?_ _ | with_reducible refine below_step (by assumption) ?_ ?_ | omega | (simp; done) | (simp; omega)))⟩
  rw [if_neg h2]
  have g2 : (n % 1073741824 == 0) = false := by simpa using h2
  clear h2
  by_cases h3 : n % 1048576 = 0
  · rw [if_pos h3]
    have g3 : (n % 1048576 == 0) = true := by simpa using h3
    have HI := Lib.hid (fun V => itoa_any (n / 1048576) (by omega) (by omega) V)
    have hc : ∀ V : World, (Op.stringOp .add ⟨(Lib.itoa (n / 1048576)).toArray⟩ ⟨#[77, 105]⟩).run Tryd.prog V = .ok (.string (itoaB (n / 1048576) ++ uMi)) V := fun V => cat_run (itoaB (n / 1048576)) uMi (by have := itoaB_size (n / 1048576) (by omega) (by omega); have : (uMi : ByteArray).size ≤ 10 := (by decide); omega) V
    clear h3
    go_enter Tryd.func39, Tryd.ntmps39
    go_wp2_with (go_at_call 40; (with_reducible refine (HI.out _ (hT.mono (by (repeat' (first | with_reducible exact Below.refl _ _ | with_reducible assumption | with_reducible refine Below.drew ?_ | with_reducible refine below_drewN' ?_ _ | with_reducible refine Below.alloc ?_ ?_ _ | with_reducible refine Below.setCell ?_ ?_ _ | with_reducible refine below_step (by assumption) ?_ ?_ | omega | (simp; done) | (simp; omega)))))).mono ?_); rintro e w1 ⟨rfl, hb1⟩; have hz1 := hb1.size)
    go_ret
    exact ⟨by first | rfl | (simp; done), by (repeat' (first | with_reducible exact Below.refl _ _ | with_reducible assumption | with_reducible refine Below.drew ?_ | with_reducible refine below_drewN' ?_ _ | with_reducible refine Below.alloc ?_ ?_ _ | with_reducible refine Below.setCell ?_ ?_ _ | with_reducible refine below_step (by assumption) ?_ ?_ | omega | (simp; done) | (simp; omega)))⟩
  rw [if_neg h3]
  have g3 : (n % 1048576 == 0) = false := by simpa using h3
  clear h3
  by_cases h4 : n % 1024 = 0
  · rw [if_pos h4]
    have g4 : (n % 1024 == 0) = true := by simpa using h4
    have HI := Lib.hid (fun V => itoa_any (n / 1024) (by omega) (by omega) V)
    have hc : ∀ V : World, (Op.stringOp .add ⟨(Lib.itoa (n / 1024)).toArray⟩ ⟨#[75, 105]⟩).run Tryd.prog V = .ok (.string (itoaB (n / 1024) ++ uKi)) V := fun V => cat_run (itoaB (n / 1024)) uKi (by have := itoaB_size (n / 1024) (by omega) (by omega); have : (uKi : ByteArray).size ≤ 10 := (by decide); omega) V
    clear h4
    go_enter Tryd.func39, Tryd.ntmps39
    go_wp2_with (go_at_call 40; (with_reducible refine (HI.out _ (hT.mono (by (repeat' (first | with_reducible exact Below.refl _ _ | with_reducible assumption | with_reducible refine Below.drew ?_ | with_reducible refine below_drewN' ?_ _ | with_reducible refine Below.alloc ?_ ?_ _ | with_reducible refine Below.setCell ?_ ?_ _ | with_reducible refine below_step (by assumption) ?_ ?_ | omega | (simp; done) | (simp; omega)))))).mono ?_); rintro e w1 ⟨rfl, hb1⟩; have hz1 := hb1.size)
    go_ret
    exact ⟨by first | rfl | (simp; done), by (repeat' (first | with_reducible exact Below.refl _ _ | with_reducible assumption | with_reducible refine Below.drew ?_ | with_reducible refine below_drewN' ?_ _ | with_reducible refine Below.alloc ?_ ?_ _ | with_reducible refine Below.setCell ?_ ?_ _ | with_reducible refine below_step (by assumption) ?_ ?_ | omega | (simp; done) | (simp; omega)))⟩
  rw [if_neg h4]
  have g4 : (n % 1024 == 0) = false := by simpa using h4
  clear h4
  have HI := Lib.hid (fun V => itoa_any n (by omega) (by omega) V)
  go_enter Tryd.func39, Tryd.ntmps39
  go_wp2_with (go_at_call 40; (with_reducible refine (HI.out _ (hT.mono (by (repeat' (first | with_reducible exact Below.refl _ _ | with_reducible assumption | with_reducible refine Below.drew ?_ | with_reducible refine below_drewN' ?_ _ | with_reducible refine Below.alloc ?_ ?_ _ | with_reducible refine Below.setCell ?_ ?_ _ | with_reducible refine below_step (by assumption) ?_ ?_ | omega | (simp; done) | (simp; omega)))))).mono ?_); rintro e w1 ⟨rfl, hb1⟩; have hz1 := hb1.size)
  go_ret
  exact ⟨by first | rfl | (simp; done), by (repeat' (first | with_reducible exact Below.refl _ _ | with_reducible assumption | with_reducible refine Below.drew ?_ | with_reducible refine below_drewN' ?_ _ | with_reducible refine Below.alloc ?_ ?_ _ | with_reducible refine Below.setCell ?_ ?_ _ | with_reducible refine below_step (by assumption) ?_ ?_ | omega | (simp; done) | (simp; omega)))⟩

set_option maxRecDepth 100000 in
set_option maxHeartbeats 4000000 in
theorem showmilli_any (n : Int) (w : World) (hT : Tab10 w) :
    Calls Tryd.prog 38 #[.int .i64 n] w fun e w' => e = .returned (.string (showM n)) ∧ Below w.heap.size w w' := by
  unfold showM
  by_cases hneg : n < 0
  · rw [if_pos (.inl hneg)]
    go_enter Tryd.func38, Tryd.ntmps38
    go_wp2
    go_ret
    exact ⟨rfl, by (repeat' (first | with_reducible exact Below.refl _ _ | with_reducible assumption | with_reducible refine Below.drew ?_ | with_reducible refine below_drewN' ?_ _ | with_reducible refine Below.alloc ?_ ?_ _ | with_reducible refine Below.setCell ?_ ?_ _ | with_reducible refine below_step (by assumption) ?_ ?_ | omega | (simp; done) | (simp; omega)))⟩
  by_cases hbig : 1125899906842624 < n
  · rw [if_pos (.inr hbig)]
    go_enter Tryd.func38, Tryd.ntmps38
    go_wp2
    go_ret
    exact ⟨rfl, by (repeat' (first | with_reducible exact Below.refl _ _ | with_reducible assumption | with_reducible refine Below.drew ?_ | with_reducible refine below_drewN' ?_ _ | with_reducible refine Below.alloc ?_ ?_ _ | with_reducible refine Below.setCell ?_ ?_ _ | with_reducible refine below_step (by assumption) ?_ ?_ | omega | (simp; done) | (simp; omega)))⟩
  rw [if_neg (by omega)]
  have t1 : Int.tmod n 1000 = n % 1000 := Int.tmod_eq_emod_of_nonneg (by omega)
  have t2 : Int.tdiv n 1000 = n / 1000 := Int.tdiv_eq_ediv_of_nonneg (by omega)
  have w1 : IntKind.i64.wrap (n % 1000) = n % 1000 := wrap_in (by omega) (by omega)
  have w2 : IntKind.i64.wrap (n / 1000) = n / 1000 := wrap_in (by omega) (by omega)
  by_cases h1 : n % 1000 = 0
  · rw [if_pos h1]
    have g1 : (n % 1000 == 0) = true := by simpa using h1
    have HI := Lib.hid (fun V => itoa_any (n / 1000) (by omega) (by omega) V)
    clear h1
    go_enter Tryd.func38, Tryd.ntmps38
    go_wp2_with (go_at_call 40; (with_reducible refine (HI.out _ (hT.mono (by (repeat' (first | with_reducible exact Below.refl _ _ | with_reducible assumption | with_reducible refine Below.drew ?_ | with_reducible refine below_drewN' ?_ _ | with_reducible refine Below.alloc ?_ ?_ _ | with_reducible refine Below.setCell ?_ ?_ _ | with_reducible refine below_step (by assumption) ?_ ?_ | omega | (simp; done) | (simp; omega)))))).mono ?_); rintro e w1 ⟨rfl, hb1⟩; have hz1 := hb1.size)
    go_ret
    exact ⟨by first | rfl | (simp; done), by (repeat' (first | with_reducible exact Below.refl _ _ | with_reducible assumption | with_reducible refine Below.drew ?_ | with_reducible refine below_drewN' ?_ _ | with_reducible refine Below.alloc ?_ ?_ _ | with_reducible refine Below.setCell ?_ ?_ _ | with_reducible refine below_step (by assumption) ?_ ?_ | omega | (simp; done) | (simp; omega)))⟩
  · rw [if_neg h1]
    have g1 : (n % 1000 == 0) = false := by simpa using h1
    have HI := Lib.hid (fun V => itoa_any n (by omega) (by omega) V)
    have hc : ∀ V : World, (Op.stringOp .add ⟨(Lib.itoa n).toArray⟩ ⟨#[109]⟩).run Tryd.prog V = .ok (.string (itoaB n ++ um)) V := fun V => cat_run (itoaB n) um (by have := itoaB_size n (by omega) (by omega); have : (um : ByteArray).size ≤ 10 := (by decide); omega) V
    clear h1
    go_enter Tryd.func38, Tryd.ntmps38
    go_wp2_with (go_at_call 40; (with_reducible refine (HI.out _ (hT.mono (by (repeat' (first | with_reducible exact Below.refl _ _ | with_reducible assumption | with_reducible refine Below.drew ?_ | with_reducible refine below_drewN' ?_ _ | with_reducible refine Below.alloc ?_ ?_ _ | with_reducible refine Below.setCell ?_ ?_ _ | with_reducible refine below_step (by assumption) ?_ ?_ | omega | (simp; done) | (simp; omega)))))).mono ?_); rintro e w1 ⟨rfl, hb1⟩; have hz1 := hb1.size)
    go_ret
    exact ⟨by first | rfl | (simp; done), by (repeat' (first | with_reducible exact Below.refl _ _ | with_reducible assumption | with_reducible refine Below.drew ?_ | with_reducible refine below_drewN' ?_ _ | with_reducible refine Below.alloc ?_ ?_ _ | with_reducible refine Below.setCell ?_ ?_ _ | with_reducible refine below_step (by assumption) ?_ ?_ | omega | (simp; done) | (simp; omega)))⟩
end Go.Proofs.YtccplljbljpjpaaDoor
