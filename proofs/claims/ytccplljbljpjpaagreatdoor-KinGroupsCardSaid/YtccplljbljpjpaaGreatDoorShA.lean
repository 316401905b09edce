/-
  The document's amounts as text: triremeref03.Show, ShowMilli.
-/
import Derived.Test.YtccplljbljpjpaaGreatDoorGDig
import Derived.Test.YtccplljbljpjpaaGreatDoorMD
import Derived.BigQuiet
namespace Go.Proofs.YtccplljbljpjpaaGreatDoor
open Go.RowKit
set_option linter.unusedVariables false
set_option linter.unusedSimpArgs false


abbrev uKi : ByteArray := ⟨#[75, 105]⟩
abbrev uMi : ByteArray := ⟨#[77, 105]⟩
abbrev uGi : ByteArray := ⟨#[71, 105]⟩
abbrev uTi : ByteArray := ⟨#[84, 105]⟩
abbrev uk : ByteArray := ⟨#[107]⟩
abbrev uM : ByteArray := ⟨#[77]⟩
abbrev uG : ByteArray := ⟨#[71]⟩
abbrev uT : ByteArray := ⟨#[84]⟩
abbrev um : ByteArray := ⟨#[109]⟩
def showV (n : Int) : ByteArray :=
  if n < 0 ∨ 1125899906842624 < n then emp else if n = 0 then ⟨#[48]⟩ else if n % 1099511627776 = 0 then itoaB (n / 1099511627776) ++ uTi else if n % 1073741824 = 0 then itoaB (n / 1073741824) ++ uGi
  else if n % 1048576 = 0 then itoaB (n / 1048576) ++ uMi else if n % 1024 = 0 then itoaB (n / 1024) ++ uKi else itoaB n
def showM (n : Int) : ByteArray := if n < 0 ∨ 1125899906842624 < n then emp else if n % 1000 = 0 then itoaB (n / 1000) else itoaB n ++ um
theorem digits_itoa (n : Int) (h0 : 0 ≤ n) (h9 : n ≤ 9223372036854775807) (w : World) : Calls Tryz.prog 58 #[.int .i64 n] w fun e w' => e = .returned (.string (itoaB n)) ∧ Below w.heap.size w w' := by
  rw [itoa_dg h0]
  exact digits_any n.toNat n h0 h9 (Nat.le_refl _) w

set_option maxRecDepth 100000 in
set_option maxHeartbeats 4000000 in
theorem refshow_any (n : Int) (w : World) :
    Calls Tryz.prog 57 #[.int .i64 n] w fun e w' => e = .returned (.string (showV n)) ∧ Below w.heap.size w w' := by
  unfold showV
  by_cases hneg : n < 0
  · rw [if_pos (.inl hneg)]
    go_enter Tryz.func57, Tryz.ntmps57
    go_wp2
    go_ret
    exact ⟨rfl, by (repeat' (first | with_reducible exact Below.refl _ _ | with_reducible assumption | with_reducible refine Below.drew ?_ | with_reducible refine below_drewN' ?_ _ | with_reducible refine Below.alloc ?_ ?_ _ | with_reducible refine Below.setCell ?_ ?_ _ | with_reducible refine below_step (by assumption) ?_ ?_ | omega | (simp; done) | (simp; omega)))⟩
  by_cases hbig : 1125899906842624 < n
  · rw [if_pos (.inr hbig)]
    go_enter Tryz.func57, Tryz.ntmps57
    go_wp2
    go_ret
    exact ⟨rfl, by (repeat' (first | with_reducible exact Below.refl _ _ | with_reducible assumption | with_reducible refine Below.drew ?_ | with_reducible refine below_drewN' ?_ _ | with_reducible refine Below.alloc ?_ ?_ _ | with_reducible refine Below.setCell ?_ ?_ _ | with_reducible refine below_step (by assumption) ?_ ?_ | omega | (simp; done) | (simp; omega)))⟩
  rw [if_neg (by omega)]
  have t1 : Int.tmod n 1099511627776 = n % 1099511627776 := Int.tmod_eq_emod_of_nonneg (by omega)
  have t2 : Int.tmod n 1073741824 = n % 1073741824 := Int.tmod_eq_emod_of_nonneg (by omega)
  have t3 : Int.tmod n 1048576 = n % 1048576 := Int.tmod_eq_emod_of_nonneg (by omega)
  have t4 : Int.tmod n 1024 = n % 1024 := Int.tmod_eq_emod_of_nonneg (by omega)
  have d1 : Int.tdiv n 1099511627776 = n / 1099511627776 := Int.tdiv_eq_ediv_of_nonneg (by omega)
  have d2 : Int.tdiv n 1073741824 = n / 1073741824 := Int.tdiv_eq_ediv_of_nonneg (by omega)
  have d3 : Int.tdiv n 1048576 = n / 1048576 := Int.tdiv_eq_ediv_of_nonneg (by omega)
  have d4 : Int.tdiv n 1024 = n / 1024 := Int.tdiv_eq_ediv_of_nonneg (by omega)
  have w1 : IntKind.i64.wrap (n % 1099511627776) = n % 1099511627776 := wrap_in (by omega) (by omega)
  have w2 : IntKind.i64.wrap (n % 1073741824) = n % 1073741824 := wrap_in (by omega) (by omega)
  have w3 : IntKind.i64.wrap (n % 1048576) = n % 1048576 := wrap_in (by omega) (by omega)
  have w4 : IntKind.i64.wrap (n % 1024) = n % 1024 := wrap_in (by omega) (by omega)
  have v1 : IntKind.i64.wrap (n / 1099511627776) = n / 1099511627776 := wrap_in (by omega) (by omega)
  have v2 : IntKind.i64.wrap (n / 1073741824) = n / 1073741824 := wrap_in (by omega) (by omega)
  have v3 : IntKind.i64.wrap (n / 1048576) = n / 1048576 := wrap_in (by omega) (by omega)
  have v4 : IntKind.i64.wrap (n / 1024) = n / 1024 := wrap_in (by omega) (by omega)
  by_cases h0 : n = 0
  · rw [if_pos h0]
    subst h0
    have D := fun V => digits_itoa 0 (by decide) (by decide) V
    have e0 : itoaB 0 = ⟨#[48]⟩ := by
      rw [itoa_dg (Int.le_refl 0)]
      unfold dgB
      rw [show (0 : Int).toNat = 0 from rfl, dec_one 0 (by decide)]
      rfl
    rw [e0] at D
    clear e0
    have HD := Lib.hid D
    clear D
    go_enter Tryz.func57, Tryz.ntmps57
    go_wp2
    refine wp_loop_rounds 6 ?_
    iterate 6 ((try rw [rounds_succ]); (try go_wp2_with (first | (go_at_call 58; (with_reducible refine (HD.out _).mono ?_); rintro e w1 ⟨rfl, hb1⟩; have hz1 := hb1.size))))
    go_ret
    exact ⟨rfl, by (repeat' (first | with_reducible exact Below.refl _ _ | with_reducible assumption | with_reducible refine Below.drew ?_ | with_reducible refine below_drewN' ?_ _ | with_reducible refine Below.alloc ?_ ?_ _ | with_reducible refine Below.setCell ?_ ?_ _ | with_reducible refine below_step (by assumption) ?_ ?_ | omega | (simp; done) | (simp; omega)))⟩
  rw [if_neg h0]
  have hpos : 0 < n := by omega
  by_cases h1 : n % 1099511627776 = 0
  · rw [if_pos h1]
    have g1 : (n % 1099511627776 == 0) = true := by simpa using h1
    have D := fun V => digits_itoa (n / 1099511627776) (by omega) (by omega) V
    have hk : ∀ V : World, (Op.stringOp .add (itoaB (n / 1099511627776)) ⟨#[84, 105]⟩).run Tryz.prog V = .ok (.string (itoaB (n / 1099511627776) ++ uTi)) V := fun V => cat_run (itoaB (n / 1099511627776)) uTi (by have := itoaB_size (n / 1099511627776) (by omega) (by omega); have : (uTi : ByteArray).size ≤ 10 := (by decide); omega) V
    clear h1 h0
    have HD := Lib.hid D
    clear D
    go_enter Tryz.func57, Tryz.ntmps57
    go_wp2
    refine wp_loop_rounds 6 ?_
    iterate 1 ((try rw [rounds_succ]); (try go_wp2))
    have hcH := held_cell
    refine region_below (by kernel_rfl) (by kernel_rfl) ?_
    repeat
      ((with_reducible refine wpQuiet_step (fun K hK => ?_))
       go_simp
       first
         | ((with_reducible refine hK _ ?_); clear hK K)
         | (apply Exists.intro
            (with_reducible refine ⟨fun n => ?_, hK _ ?_⟩)
            ((go_at_call 58; exact held_calls (HD.out _)))
            clear hK K))
    with_reducible refine wpQuiet_nil ?_
    intro w2 hw2
    clear hcH
    obtain ⟨⟨_, hb2⟩, rfl⟩ := hw2
    (try dsimp only)
    obtain ⟨hc2, hf2⟩ := bcell hb2
    have hz2 := hb2.size
    (try simp at hz2)
    go_wp2
    go_ret
    exact ⟨rfl, by (repeat' (first | with_reducible exact Below.refl _ _ | with_reducible assumption | with_reducible refine Below.drew ?_ | with_reducible refine below_drewN' ?_ _ | with_reducible refine Below.alloc ?_ ?_ _ | with_reducible refine Below.setCell ?_ ?_ _ | with_reducible refine below_step (by assumption) ?_ ?_ | omega | (simp; done) | (simp; omega)))⟩
  rw [if_neg h1]
  have g1 : (n % 1099511627776 == 0) = false := by simpa using h1
  clear h1
  by_cases h2 : n % 1073741824 = 0
  · rw [if_pos h2]
    have g2 : (n % 1073741824 == 0) = true := by simpa using h2
    have D := fun V => digits_itoa (n / 1073741824) (by omega) (by omega) V
    have hk : ∀ V : World, (Op.stringOp .add (itoaB (n / 1073741824)) ⟨#[71, 105]⟩).run Tryz.prog V = .ok (.string (itoaB (n / 1073741824) ++ uGi)) V := fun V => cat_run (itoaB (n / 1073741824)) uGi (by have := itoaB_size (n / 1073741824) (by omega) (by omega); have : (uGi : ByteArray).size ≤ 10 := (by decide); omega) V
    clear h2 h0
    have HD := Lib.hid D
    clear D
    go_enter Tryz.func57, Tryz.ntmps57
    go_wp2
    refine wp_loop_rounds 6 ?_
    iterate 2 ((try rw [rounds_succ]); (try go_wp2))
    have hcH := held_cell
    refine region_below (by kernel_rfl) (by kernel_rfl) ?_
    repeat
      ((with_reducible refine wpQuiet_step (fun K hK => ?_))
       go_simp
       first
         | ((with_reducible refine hK _ ?_); clear hK K)
         | (apply Exists.intro
            (with_reducible refine ⟨fun n => ?_, hK _ ?_⟩)
            ((go_at_call 58; exact held_calls (HD.out _)))
            clear hK K))
    with_reducible refine wpQuiet_nil ?_
    intro w2 hw2
    clear hcH
    obtain ⟨⟨_, hb2⟩, rfl⟩ := hw2
    (try dsimp only)
    obtain ⟨hc2, hf2⟩ := bcell hb2
    have hz2 := hb2.size
    (try simp at hz2)
    go_wp2
    go_ret
    exact ⟨rfl, by (repeat' (first | with_reducible exact Below.refl _ _ | with_reducible assumption | with_reducible refine Below.drew ?_ | with_reducible refine below_drewN' ?_ _ | with_reducible refine Below.alloc ?_ ?_ _ | with_reducible refine Below.setCell ?_ ?_ _ | with_reducible refine below_step (by assumption) ?_ ?_ | omega | (simp; done) | (simp; omega)))⟩
  rw [if_neg h2]
  have g2 : (n % 1073741824 == 0) = false := by simpa using h2
  clear h2
  by_cases h3 : n % 1048576 = 0
  · rw [if_pos h3]
    have g3 : (n % 1048576 == 0) = true := by simpa using h3
    have D := fun V => digits_itoa (n / 1048576) (by omega) (by omega) V
    have hk : ∀ V : World, (Op.stringOp .add (itoaB (n / 1048576)) ⟨#[77, 105]⟩).run Tryz.prog V = .ok (.string (itoaB (n / 1048576) ++ uMi)) V := fun V => cat_run (itoaB (n / 1048576)) uMi (by have := itoaB_size (n / 1048576) (by omega) (by omega); have : (uMi : ByteArray).size ≤ 10 := (by decide); omega) V
    clear h3 h0
    have HD := Lib.hid D
    clear D
    go_enter Tryz.func57, Tryz.ntmps57
    go_wp2
    refine wp_loop_rounds 6 ?_
    iterate 3 ((try rw [rounds_succ]); (try go_wp2))
    have hcH := held_cell
    refine region_below (by kernel_rfl) (by kernel_rfl) ?_
    repeat
      ((with_reducible refine wpQuiet_step (fun K hK => ?_))
       go_simp
       first
         | ((with_reducible refine hK _ ?_); clear hK K)
         | (apply Exists.intro
            (with_reducible refine ⟨fun n => ?_, hK _ ?_⟩)
            ((go_at_call 58; exact held_calls (HD.out _)))
            clear hK K))
    with_reducible refine wpQuiet_nil ?_
    intro w2 hw2
    clear hcH
    obtain ⟨⟨_, hb2⟩, rfl⟩ := hw2
    (try dsimp only)
    obtain ⟨hc2, hf2⟩ := bcell hb2
    have hz2 := hb2.size
    (try simp at hz2)
    go_wp2
    go_ret
    exact ⟨rfl, by (repeat' (first | with_reducible exact Below.refl _ _ | with_reducible assumption | with_reducible refine Below.drew ?_ | with_reducible refine below_drewN' ?_ _ | with_reducible refine Below.alloc ?_ ?_ _ | with_reducible refine Below.setCell ?_ ?_ _ | with_reducible refine below_step (by assumption) ?_ ?_ | omega | (simp; done) | (simp; omega)))⟩
  rw [if_neg h3]
  have g3 : (n % 1048576 == 0) = false := by simpa using h3
  clear h3
  by_cases h4 : n % 1024 = 0
  · rw [if_pos h4]
    have g4 : (n % 1024 == 0) = true := by simpa using h4
    have D := fun V => digits_itoa (n / 1024) (by omega) (by omega) V
    have hk : ∀ V : World, (Op.stringOp .add (itoaB (n / 1024)) ⟨#[75, 105]⟩).run Tryz.prog V = .ok (.string (itoaB (n / 1024) ++ uKi)) V := fun V => cat_run (itoaB (n / 1024)) uKi (by have := itoaB_size (n / 1024) (by omega) (by omega); have : (uKi : ByteArray).size ≤ 10 := (by decide); omega) V
    clear h4 h0
    have HD := Lib.hid D
    clear D
    go_enter Tryz.func57, Tryz.ntmps57
    go_wp2
    refine wp_loop_rounds 6 ?_
    iterate 4 ((try rw [rounds_succ]); (try go_wp2))
    have hcH := held_cell
    refine region_below (by kernel_rfl) (by kernel_rfl) ?_
    repeat
      ((with_reducible refine wpQuiet_step (fun K hK => ?_))
       go_simp
       first
         | ((with_reducible refine hK _ ?_); clear hK K)
         | (apply Exists.intro
            (with_reducible refine ⟨fun n => ?_, hK _ ?_⟩)
            ((go_at_call 58; exact held_calls (HD.out _)))
            clear hK K))
    with_reducible refine wpQuiet_nil ?_
    intro w2 hw2
    clear hcH
    obtain ⟨⟨_, hb2⟩, rfl⟩ := hw2
    (try dsimp only)
    obtain ⟨hc2, hf2⟩ := bcell hb2
    have hz2 := hb2.size
    (try simp at hz2)
    go_wp2
    go_ret
    exact ⟨rfl, by (repeat' (first | with_reducible exact Below.refl _ _ | with_reducible assumption | with_reducible refine Below.drew ?_ | with_reducible refine below_drewN' ?_ _ | with_reducible refine Below.alloc ?_ ?_ _ | with_reducible refine Below.setCell ?_ ?_ _ | with_reducible refine below_step (by assumption) ?_ ?_ | omega | (simp; done) | (simp; omega)))⟩
  rw [if_neg h4]
  have g4 : (n % 1024 == 0) = false := by simpa using h4
  clear h4
  have D := fun V => digits_itoa n (by omega) (by omega) V
  clear h0
  have HD := Lib.hid D
  clear D
  go_enter Tryz.func57, Tryz.ntmps57
  go_wp2
  refine wp_loop_rounds 6 ?_
  iterate 6 ((try rw [rounds_succ]); (try go_wp2_with (first | (go_at_call 58; (with_reducible refine (HD.out _).mono ?_); rintro e w1 ⟨rfl, hb1⟩; have hz1 := hb1.size))))
  go_ret
  exact ⟨rfl, by (repeat' (first | with_reducible exact Below.refl _ _ | with_reducible assumption | with_reducible refine Below.drew ?_ | with_reducible refine below_drewN' ?_ _ | with_reducible refine Below.alloc ?_ ?_ _ | with_reducible refine Below.setCell ?_ ?_ _ | with_reducible refine below_step (by assumption) ?_ ?_ | omega | (simp; done) | (simp; omega)))⟩

set_option maxRecDepth 100000 in
set_option maxHeartbeats 4000000 in
theorem refshowmilli_any (n : Int) (w : World) :
    Calls Tryz.prog 56 #[.int .i64 n] w fun e w' => e = .returned (.string (showM n)) ∧ Below w.heap.size w w' := by
  unfold showM
  by_cases hneg : n < 0
  · rw [if_pos (.inl hneg)]
    go_enter Tryz.func56, Tryz.ntmps56
    go_wp2
    go_ret
    exact ⟨rfl, by (repeat' (first | with_reducible exact Below.refl _ _ | with_reducible assumption | with_reducible refine Below.drew ?_ | with_reducible refine below_drewN' ?_ _ | with_reducible refine Below.alloc ?_ ?_ _ | with_reducible refine Below.setCell ?_ ?_ _ | with_reducible refine below_step (by assumption) ?_ ?_ | omega | (simp; done) | (simp; omega)))⟩
  by_cases hbig : 1125899906842624 < n
  · rw [if_pos (.inr hbig)]
    go_enter Tryz.func56, Tryz.ntmps56
    go_wp2
    go_ret
    exact ⟨rfl, by (repeat' (first | with_reducible exact Below.refl _ _ | with_reducible assumption | with_reducible refine Below.drew ?_ | with_reducible refine below_drewN' ?_ _ | with_reducible refine Below.alloc ?_ ?_ _ | with_reducible refine Below.setCell ?_ ?_ _ | with_reducible refine below_step (by assumption) ?_ ?_ | omega | (simp; done) | (simp; omega)))⟩
  rw [if_neg (by omega)]
  have t1 : Int.tmod n 1000 = n % 1000 := Int.tmod_eq_emod_of_nonneg (by omega)
  have t2 : Int.tdiv n 1000 = n / 1000 := Int.tdiv_eq_ediv_of_nonneg (by omega)
  have w1 : IntKind.i64.wrap (n % 1000) = n % 1000 := wrap_in (by omega) (by omega)
  have w2 : IntKind.i64.wrap (n / 1000) = n / 1000 := wrap_in (by omega) (by omega)
  by_cases h1 : n % 1000 = 0
  · rw [if_pos h1]
    have g1 : (n % 1000 == 0) = true := by simpa using h1
    have HI := Lib.hid (fun V => digits_itoa (n / 1000) (by omega) (by omega) V)
    clear h1
    go_enter Tryz.func56, Tryz.ntmps56
    go_wp2_with (go_at_call 58; (with_reducible refine (HI.out _).mono ?_); rintro e w3 ⟨rfl, hb1⟩; have hz1 := hb1.size)
    go_ret
    exact ⟨rfl, by (repeat' (first | with_reducible exact Below.refl _ _ | with_reducible assumption | with_reducible refine Below.drew ?_ | with_reducible refine below_drewN' ?_ _ | with_reducible refine Below.alloc ?_ ?_ _ | with_reducible refine Below.setCell ?_ ?_ _ | with_reducible refine below_step (by assumption) ?_ ?_ | omega | (simp; done) | (simp; omega)))⟩
  · rw [if_neg h1]
    have g1 : (n % 1000 == 0) = false := by simpa using h1
    have HI := Lib.hid (fun V => digits_itoa n (by omega) (by omega) V)
    have hc : ∀ V : World, (Op.stringOp .add (itoaB n) ⟨#[109]⟩).run Tryz.prog V = .ok (.string (itoaB n ++ um)) V := fun V => cat_run (itoaB n) um (by have := itoaB_size n (by omega) (by omega); have : (um : ByteArray).size ≤ 10 := (by decide); omega) V
    clear h1
    go_enter Tryz.func56, Tryz.ntmps56
    go_wp2_with (go_at_call 58; (with_reducible refine (HI.out _).mono ?_); rintro e w3 ⟨rfl, hb1⟩; have hz1 := hb1.size)
    go_ret
    exact ⟨rfl, by (repeat' (first | with_reducible exact Below.refl _ _ | with_reducible assumption | with_reducible refine Below.drew ?_ | with_reducible refine below_drewN' ?_ _ | with_reducible refine Below.alloc ?_ ?_ _ | with_reducible refine Below.setCell ?_ ?_ _ | with_reducible refine below_step (by assumption) ?_ ?_ | omega | (simp; done) | (simp; omega)))⟩
theorem showV_size (n : Int) : (showV n).size ≤ 30 := by
  unfold showV
  have k : ∀ (m : Int) (t : ByteArray), -9223372036854775808 ≤ m → m ≤ 9223372036854775807 → t.size ≤ 9 → (itoaB m ++ t).size ≤ 30 := fun m t h1 h2 h3 => by
    rw [ByteArray.size_append]
    have := itoaB_size m h1 h2
    omega
  have k0 := fun (m : Int) (h1 : -9223372036854775808 ≤ m) (h2 : m ≤ 9223372036854775807) => itoaB_size m h1 h2
  split
  · decide
  · split
    · decide
    · split
      · exact k _ _ (by omega) (by omega) (by decide)
      · split
        · exact k _ _ (by omega) (by omega) (by decide)
        · split
          · exact k _ _ (by omega) (by omega) (by decide)
          · split
            · exact k _ _ (by omega) (by omega) (by decide)
            · exact Nat.le_trans (k0 n (by omega) (by omega)) (by decide)
theorem showM_size (n : Int) : (showM n).size ≤ 30 := by
  unfold showM
  split
  · decide
  · split
    · exact Nat.le_trans (itoaB_size _ (by omega) (by omega)) (by decide)
    · rw [ByteArray.size_append]
      have := itoaB_size n (by omega) (by omega)
      have h : (um : ByteArray).size ≤ 9 := by decide
      omega
end Go.Proofs.YtccplljbljpjpaaGreatDoor
