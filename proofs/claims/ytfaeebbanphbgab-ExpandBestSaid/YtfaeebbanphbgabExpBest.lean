/-
  ExpandBest: what is chosen is one of them, and none is better; the one that is chosen of them all stands for one that is as good, when the others are fewer.
  For every list of options, without a condition.
-/
import Derived.Test.YtfaeebbanphbgabExp6
namespace Go.Proofs.Ytfaeebbanphbgab
open Go.ChangeShapes Go.WideShapes Go.ChangeAt Go.RowKit
set_option linter.unusedVariables false
namespace expandBest
set_option maxRecDepth 100000 in
set_option maxHeartbeats 4000000 in
theorem walk_1 (b off n cap : Nat) (h seed : Int) (D : Nat → Opt) (w : World) (h0 : 0 < n) (hm : n ≤ 60) (hnc : n ≤ cap) (hcm : cap ≤ 9223372036854775807) (hb : b < w.heap.size) (hD : Opts w b off n D) (hh0 : 0 ≤ h) (hh1 : h ≤ 255) (hq : h % 4 = 0) :
    Calls Try.prog 4 #[.slice (some ⟨b, off, none⟩) n cap, .int .u8 h, .int .i64 seed] w fun e w' => e = .returned (.bool true) ∧ Below w.heap.size w w' := by
  have HO := Lib.hid (show OptsAt w (some ⟨b, off, none⟩) n D from .inr ⟨b, off, rfl, hb, hD⟩)
  have HD := Lib.hid hD
  obtain ⟨dg, dc, ds, dw, dp, dr⟩ := hD
  obtain ⟨q, hq'⟩ : ∃ q, bst 1 D n = q := ⟨_, rfl⟩
  have hqn : q < n := by rw [← hq']; exact bst_lt 1 D n h0
  have hch : chooseF 1 seed n D = (q : Int) := by
    unfold chooseF; rw [if_neg (by omega), if_neg (by decide), hq']
  have Hbest := Lib.hid (show ∀ i, i < n → betB 1 (D i).w (D i).p (D i).r (D i).l (D q).w (D q).p (D q).r (D q).l = false from fun i hi => by
    have := bst_best 1 D n i hi; rw [hq'] at this; exact this)
  have Hch2 := Lib.hid (show chooseF 1 seed (n - q) (fun i => D (q + i)) = 0 from by
    unfold chooseF; rw [if_neg (by omega), if_neg (by decide)]
    have : bst 1 (fun i => D (q + i)) (n - q) = 0 := bst_unique 1 _ (n - q) 0 (by omega) (by omega) (fun i hi => by
      have := bst_best 1 D n (q + i) (by omega); rw [hq'] at this; exact this) (fun j hj => by omega)
    rw [this]; rfl)
  clear hq'
  have hn0 : ((n : Int) == 0) = false := beq_eq_false_iff_ne.2 (by omega)
  have d1 : decide (60 < (n : Int)) = false := decide_eq_false (by omega)
  have d2 : decide ((q : Int) < 0) = false := decide_eq_false (by omega)
  have d3 : decide ((n : Int) ≤ (q : Int)) = false := decide_eq_false (by omega)
  have d4 : decide (n ≤ q) = false := decide_eq_false (by omega)
  go_enter Try.func4, Try.ntmps4
  go_wp2_with fail
  (go_at_call 11; refine (choose_any _ _ _ _ _ D _ HO.out (by omega)).mono ?_; rintro e w1 ⟨rfl, hb1⟩)
  obtain ⟨hc1, hf1⟩ := bcell hb1
  have hz1 := hb1.size
  (try simp at hz1)
  have HO1 := Lib.hid (HO.out.below hb1)
  have hb1w : b < w1.heap.size := by omega
  go_wp2_with fail
  go_loopw [9] (fun i wr => ∃ k : Nat, k ≤ n ∧ i = .int .i64 k ∧ Below w.heap.size w wr) (fun i _ => n - (intOf i).toNat)
  case atStart => exact ⟨0, by omega, rfl, by (repeat' (first | with_reducible exact Below.refl _ _ | with_reducible assumption | with_reducible refine Below.drew ?_ | with_reducible refine below_drewN' ?_ _ | with_reducible refine Below.alloc ?_ ?_ _ | with_reducible refine Below.setCell ?_ ?_ _ | with_reducible refine below_step (by assumption) ?_ ?_ | omega | (simp; done) | (simp; omega)))⟩
  case round =>
    obtain ⟨k, hk, rfl, hB⟩ := hrel
    obtain ⟨hcB, hfB⟩ := bcell hB
    have hbz := hB.size
    have hbw : b < wr.heap.size := by omega
    by_cases hlt : k < n
    · have hbk := Hbest.out k hlt
      go_wp2_with fail
      have hcH := held_cell
      refine region_below (by kernel_rfl) (by kernel_rfl) ?_
      repeat
        ((with_reducible refine wpQuiet_step (fun K hK => ?_))
         go_simp
         first
           | ((with_reducible refine hK _ ?_); clear hK K)
           | (apply Exists.intro
              (with_reducible refine ⟨fun n => ?_, hK _ ?_⟩)
              (first | (go_at_call 9; exact held_calls (better_any _ _ _ _ _ _ _ _ _ _ _ _ _ _ _ _ _ _)))
              clear hK K))
      with_reducible refine wpQuiet_nil ?_
      intro w2 hw2
      clear hcH
      obtain ⟨⟨_, hb2⟩, rfl⟩ := hw2
      (try dsimp only)
      obtain ⟨hc2, hf2⟩ := bcell hb2
      have hz2 := hb2.size
      (try simp at hz2)
      rw [hbk]
      go_wp2
      go_roundw
      case rel => exact ⟨k + 1, by omega, by go_num, by (repeat' (first | with_reducible exact Below.refl _ _ | with_reducible assumption | with_reducible refine Below.drew ?_ | with_reducible refine below_drewN' ?_ _ | with_reducible refine Below.alloc ?_ ?_ _ | with_reducible refine Below.setCell ?_ ?_ _ | with_reducible refine below_step (by assumption) ?_ ?_ | omega | (simp; done) | (simp; omega)))⟩
      case measure => simp [intOf]; omega
    · obtain rfl : k = n := by omega
      have HS := Lib.hid (show OptsAt wr (some ⟨b, off + q * 6, none⟩) (k - q) (fun i => D (q + i)) from .inr ⟨b, off + q * 6, rfl, hbw, by
        obtain ⟨o1, o2, o3, o4, o5, o6⟩ := HD.out
        have ha : ∀ i, off + q * 6 + i * 6 = off + (q + i) * 6 := fun i => by omega
        exact ⟨fun i hi => by rw [ha, hcB b _ hb]; exact o1 (q + i) (by omega), fun i hi => by rw [ha, hcB b _ hb]; exact o2 (q + i) (by omega), fun i hi => by rw [ha, hcB b _ hb]; exact o3 (q + i) (by omega), fun i hi => by rw [ha, hcB b _ hb]; exact o4 (q + i) (by omega), fun i hi => by rw [ha, hcB b _ hb]; exact o5 (q + i) (by omega), fun i hi => by rw [ha, hcB b _ hb]; exact o6 (q + i) (by omega)⟩⟩)
      have hch2 := Hch2.out
      go_wp2_with fail
      (go_at_call 11; refine (choose_any _ _ _ _ _ (fun i => D (q + i)) _ HS.out (by omega)).mono ?_; rintro e w3 ⟨rfl, hb3⟩)
      obtain ⟨hc3, hf3⟩ := bcell hb3
      have hz3 := hb3.size
      (try simp at hz3)
      go_wp2_with (first | (go_at_call 8; refine (known_any _).mono ?_; rintro e w1 ⟨rfl, hb1⟩; obtain ⟨hc1, hf1⟩ := bcell hb1; have hz1 := hb1.size; (try simp at hz1); (try have hza : w.heap.size < w1.heap.size := by omega); (try have hzb : w.heap.size + 1 < w1.heap.size := by omega); (try have hzc : w.heap.size + 1 + 1 < w1.heap.size := by omega); (try have hzd : w.heap.size + 1 + 1 + 1 < w1.heap.size := by omega)))
      go_ret
      exact ⟨rfl, by (repeat' (first | with_reducible exact Below.refl _ _ | with_reducible assumption | with_reducible refine Below.drew ?_ | with_reducible refine below_drewN' ?_ _ | with_reducible refine Below.alloc ?_ ?_ _ | with_reducible refine Below.setCell ?_ ?_ _ | with_reducible refine below_step (by assumption) ?_ ?_ | omega | (simp; done) | (simp; omega)))⟩

set_option maxRecDepth 100000 in
set_option maxHeartbeats 4000000 in
theorem walk_2 (b off n cap : Nat) (h seed : Int) (D : Nat → Opt) (w : World) (h0 : 0 < n) (hm : n ≤ 60) (hnc : n ≤ cap) (hcm : cap ≤ 9223372036854775807) (hb : b < w.heap.size) (hD : Opts w b off n D) (hh0 : 0 ≤ h) (hh1 : h ≤ 255) (hq : h % 4 = 1) :
    Calls Try.prog 4 #[.slice (some ⟨b, off, none⟩) n cap, .int .u8 h, .int .i64 seed] w fun e w' => e = .returned (.bool true) ∧ Below w.heap.size w w' := by
  have HO := Lib.hid (show OptsAt w (some ⟨b, off, none⟩) n D from .inr ⟨b, off, rfl, hb, hD⟩)
  have HD := Lib.hid hD
  obtain ⟨dg, dc, ds, dw, dp, dr⟩ := hD
  obtain ⟨q, hq'⟩ : ∃ q, bst 2 D n = q := ⟨_, rfl⟩
  have hqn : q < n := by rw [← hq']; exact bst_lt 2 D n h0
  have hch : chooseF 2 seed n D = (q : Int) := by
    unfold chooseF; rw [if_neg (by omega), if_neg (by decide), hq']
  have Hbest := Lib.hid (show ∀ i, i < n → betB 2 (D i).w (D i).p (D i).r (D i).l (D q).w (D q).p (D q).r (D q).l = false from fun i hi => by
    have := bst_best 2 D n i hi; rw [hq'] at this; exact this)
  have Hch2 := Lib.hid (show chooseF 2 seed (n - q) (fun i => D (q + i)) = 0 from by
    unfold chooseF; rw [if_neg (by omega), if_neg (by decide)]
    have : bst 2 (fun i => D (q + i)) (n - q) = 0 := bst_unique 2 _ (n - q) 0 (by omega) (by omega) (fun i hi => by
      have := bst_best 2 D n (q + i) (by omega); rw [hq'] at this; exact this) (fun j hj => by omega)
    rw [this]; rfl)
  clear hq'
  have hn0 : ((n : Int) == 0) = false := beq_eq_false_iff_ne.2 (by omega)
  have d1 : decide (60 < (n : Int)) = false := decide_eq_false (by omega)
  have d2 : decide ((q : Int) < 0) = false := decide_eq_false (by omega)
  have d3 : decide ((n : Int) ≤ (q : Int)) = false := decide_eq_false (by omega)
  have d4 : decide (n ≤ q) = false := decide_eq_false (by omega)
  go_enter Try.func4, Try.ntmps4
  go_wp2_with fail
  (go_at_call 11; refine (choose_any _ _ _ _ _ D _ HO.out (by omega)).mono ?_; rintro e w1 ⟨rfl, hb1⟩)
  obtain ⟨hc1, hf1⟩ := bcell hb1
  have hz1 := hb1.size
  (try simp at hz1)
  have HO1 := Lib.hid (HO.out.below hb1)
  have hb1w : b < w1.heap.size := by omega
  go_wp2_with fail
  go_loopw [9] (fun i wr => ∃ k : Nat, k ≤ n ∧ i = .int .i64 k ∧ Below w.heap.size w wr) (fun i _ => n - (intOf i).toNat)
  case atStart => exact ⟨0, by omega, rfl, by (repeat' (first | with_reducible exact Below.refl _ _ | with_reducible assumption | with_reducible refine Below.drew ?_ | with_reducible refine below_drewN' ?_ _ | with_reducible refine Below.alloc ?_ ?_ _ | with_reducible refine Below.setCell ?_ ?_ _ | with_reducible refine below_step (by assumption) ?_ ?_ | omega | (simp; done) | (simp; omega)))⟩
  case round =>
    obtain ⟨k, hk, rfl, hB⟩ := hrel
    obtain ⟨hcB, hfB⟩ := bcell hB
    have hbz := hB.size
    have hbw : b < wr.heap.size := by omega
    by_cases hlt : k < n
    · have hbk := Hbest.out k hlt
      go_wp2_with fail
      have hcH := held_cell
      refine region_below (by kernel_rfl) (by kernel_rfl) ?_
      repeat
        ((with_reducible refine wpQuiet_step (fun K hK => ?_))
         go_simp
         first
           | ((with_reducible refine hK _ ?_); clear hK K)
           | (apply Exists.intro
              (with_reducible refine ⟨fun n => ?_, hK _ ?_⟩)
              (first | (go_at_call 9; exact held_calls (better_any _ _ _ _ _ _ _ _ _ _ _ _ _ _ _ _ _ _)))
              clear hK K))
      with_reducible refine wpQuiet_nil ?_
      intro w2 hw2
      clear hcH
      obtain ⟨⟨_, hb2⟩, rfl⟩ := hw2
      (try dsimp only)
      obtain ⟨hc2, hf2⟩ := bcell hb2
      have hz2 := hb2.size
      (try simp at hz2)
      rw [hbk]
      go_wp2
      go_roundw
      case rel => exact ⟨k + 1, by omega, by go_num, by (repeat' (first | with_reducible exact Below.refl _ _ | with_reducible assumption | with_reducible refine Below.drew ?_ | with_reducible refine below_drewN' ?_ _ | with_reducible refine Below.alloc ?_ ?_ _ | with_reducible refine Below.setCell ?_ ?_ _ | with_reducible refine below_step (by assumption) ?_ ?_ | omega | (simp; done) | (simp; omega)))⟩
      case measure => simp [intOf]; omega
    · obtain rfl : k = n := by omega
      have HS := Lib.hid (show OptsAt wr (some ⟨b, off + q * 6, none⟩) (k - q) (fun i => D (q + i)) from .inr ⟨b, off + q * 6, rfl, hbw, by
        obtain ⟨o1, o2, o3, o4, o5, o6⟩ := HD.out
        have ha : ∀ i, off + q * 6 + i * 6 = off + (q + i) * 6 := fun i => by omega
        exact ⟨fun i hi => by rw [ha, hcB b _ hb]; exact o1 (q + i) (by omega), fun i hi => by rw [ha, hcB b _ hb]; exact o2 (q + i) (by omega), fun i hi => by rw [ha, hcB b _ hb]; exact o3 (q + i) (by omega), fun i hi => by rw [ha, hcB b _ hb]; exact o4 (q + i) (by omega), fun i hi => by rw [ha, hcB b _ hb]; exact o5 (q + i) (by omega), fun i hi => by rw [ha, hcB b _ hb]; exact o6 (q + i) (by omega)⟩⟩)
      have hch2 := Hch2.out
      go_wp2_with fail
      (go_at_call 11; refine (choose_any _ _ _ _ _ (fun i => D (q + i)) _ HS.out (by omega)).mono ?_; rintro e w3 ⟨rfl, hb3⟩)
      obtain ⟨hc3, hf3⟩ := bcell hb3
      have hz3 := hb3.size
      (try simp at hz3)
      go_wp2_with (first | (go_at_call 8; refine (known_any _).mono ?_; rintro e w1 ⟨rfl, hb1⟩; obtain ⟨hc1, hf1⟩ := bcell hb1; have hz1 := hb1.size; (try simp at hz1); (try have hza : w.heap.size < w1.heap.size := by omega); (try have hzb : w.heap.size + 1 < w1.heap.size := by omega); (try have hzc : w.heap.size + 1 + 1 < w1.heap.size := by omega); (try have hzd : w.heap.size + 1 + 1 + 1 < w1.heap.size := by omega)))
      go_ret
      exact ⟨rfl, by (repeat' (first | with_reducible exact Below.refl _ _ | with_reducible assumption | with_reducible refine Below.drew ?_ | with_reducible refine below_drewN' ?_ _ | with_reducible refine Below.alloc ?_ ?_ _ | with_reducible refine Below.setCell ?_ ?_ _ | with_reducible refine below_step (by assumption) ?_ ?_ | omega | (simp; done) | (simp; omega)))⟩

set_option maxRecDepth 100000 in
set_option maxHeartbeats 4000000 in
theorem walk_3 (b off n cap : Nat) (h seed : Int) (D : Nat → Opt) (w : World) (h0 : 0 < n) (hm : n ≤ 60) (hnc : n ≤ cap) (hcm : cap ≤ 9223372036854775807) (hb : b < w.heap.size) (hD : Opts w b off n D) (hh0 : 0 ≤ h) (hh1 : h ≤ 255) (hq : h % 4 = 2) :
    Calls Try.prog 4 #[.slice (some ⟨b, off, none⟩) n cap, .int .u8 h, .int .i64 seed] w fun e w' => e = .returned (.bool true) ∧ Below w.heap.size w w' := by
  have HO := Lib.hid (show OptsAt w (some ⟨b, off, none⟩) n D from .inr ⟨b, off, rfl, hb, hD⟩)
  have HD := Lib.hid hD
  obtain ⟨dg, dc, ds, dw, dp, dr⟩ := hD
  obtain ⟨q, hq'⟩ : ∃ q, bst 3 D n = q := ⟨_, rfl⟩
  have hqn : q < n := by rw [← hq']; exact bst_lt 3 D n h0
  have hch : chooseF 3 seed n D = (q : Int) := by
    unfold chooseF; rw [if_neg (by omega), if_neg (by decide), hq']
  have Hbest := Lib.hid (show ∀ i, i < n → betB 3 (D i).w (D i).p (D i).r (D i).l (D q).w (D q).p (D q).r (D q).l = false from fun i hi => by
    have := bst_best 3 D n i hi; rw [hq'] at this; exact this)
  have Hch2 := Lib.hid (show chooseF 3 seed (n - q) (fun i => D (q + i)) = 0 from by
    unfold chooseF; rw [if_neg (by omega), if_neg (by decide)]
    have : bst 3 (fun i => D (q + i)) (n - q) = 0 := bst_unique 3 _ (n - q) 0 (by omega) (by omega) (fun i hi => by
      have := bst_best 3 D n (q + i) (by omega); rw [hq'] at this; exact this) (fun j hj => by omega)
    rw [this]; rfl)
  clear hq'
  have hn0 : ((n : Int) == 0) = false := beq_eq_false_iff_ne.2 (by omega)
  have d1 : decide (60 < (n : Int)) = false := decide_eq_false (by omega)
  have d2 : decide ((q : Int) < 0) = false := decide_eq_false (by omega)
  have d3 : decide ((n : Int) ≤ (q : Int)) = false := decide_eq_false (by omega)
  have d4 : decide (n ≤ q) = false := decide_eq_false (by omega)
  go_enter Try.func4, Try.ntmps4
  go_wp2_with fail
  (go_at_call 11; refine (choose_any _ _ _ _ _ D _ HO.out (by omega)).mono ?_; rintro e w1 ⟨rfl, hb1⟩)
  obtain ⟨hc1, hf1⟩ := bcell hb1
  have hz1 := hb1.size
  (try simp at hz1)
  have HO1 := Lib.hid (HO.out.below hb1)
  have hb1w : b < w1.heap.size := by omega
  go_wp2_with fail
  go_loopw [9] (fun i wr => ∃ k : Nat, k ≤ n ∧ i = .int .i64 k ∧ Below w.heap.size w wr) (fun i _ => n - (intOf i).toNat)
  case atStart => exact ⟨0, by omega, rfl, by (repeat' (first | with_reducible exact Below.refl _ _ | with_reducible assumption | with_reducible refine Below.drew ?_ | with_reducible refine below_drewN' ?_ _ | with_reducible refine Below.alloc ?_ ?_ _ | with_reducible refine Below.setCell ?_ ?_ _ | with_reducible refine below_step (by assumption) ?_ ?_ | omega | (simp; done) | (simp; omega)))⟩
  case round =>
    obtain ⟨k, hk, rfl, hB⟩ := hrel
    obtain ⟨hcB, hfB⟩ := bcell hB
    have hbz := hB.size
    have hbw : b < wr.heap.size := by omega
    by_cases hlt : k < n
    · have hbk := Hbest.out k hlt
      go_wp2_with fail
      have hcH := held_cell
      refine region_below (by kernel_rfl) (by kernel_rfl) ?_
      repeat
        ((with_reducible refine wpQuiet_step (fun K hK => ?_))
         go_simp
         first
           | ((with_reducible refine hK _ ?_); clear hK K)
           | (apply Exists.intro
              (with_reducible refine ⟨fun n => ?_, hK _ ?_⟩)
              (first | (go_at_call 9; exact held_calls (better_any _ _ _ _ _ _ _ _ _ _ _ _ _ _ _ _ _ _)))
              clear hK K))
      with_reducible refine wpQuiet_nil ?_
      intro w2 hw2
      clear hcH
      obtain ⟨⟨_, hb2⟩, rfl⟩ := hw2
      (try dsimp only)
      obtain ⟨hc2, hf2⟩ := bcell hb2
      have hz2 := hb2.size
      (try simp at hz2)
      rw [hbk]
      go_wp2
      go_roundw
      case rel => exact ⟨k + 1, by omega, by go_num, by (repeat' (first | with_reducible exact Below.refl _ _ | with_reducible assumption | with_reducible refine Below.drew ?_ | with_reducible refine below_drewN' ?_ _ | with_reducible refine Below.alloc ?_ ?_ _ | with_reducible refine Below.setCell ?_ ?_ _ | with_reducible refine below_step (by assumption) ?_ ?_ | omega | (simp; done) | (simp; omega)))⟩
      case measure => simp [intOf]; omega
    · obtain rfl : k = n := by omega
      have HS := Lib.hid (show OptsAt wr (some ⟨b, off + q * 6, none⟩) (k - q) (fun i => D (q + i)) from .inr ⟨b, off + q * 6, rfl, hbw, by
        obtain ⟨o1, o2, o3, o4, o5, o6⟩ := HD.out
        have ha : ∀ i, off + q * 6 + i * 6 = off + (q + i) * 6 := fun i => by omega
        exact ⟨fun i hi => by rw [ha, hcB b _ hb]; exact o1 (q + i) (by omega), fun i hi => by rw [ha, hcB b _ hb]; exact o2 (q + i) (by omega), fun i hi => by rw [ha, hcB b _ hb]; exact o3 (q + i) (by omega), fun i hi => by rw [ha, hcB b _ hb]; exact o4 (q + i) (by omega), fun i hi => by rw [ha, hcB b _ hb]; exact o5 (q + i) (by omega), fun i hi => by rw [ha, hcB b _ hb]; exact o6 (q + i) (by omega)⟩⟩)
      have hch2 := Hch2.out
      go_wp2_with fail
      (go_at_call 11; refine (choose_any _ _ _ _ _ (fun i => D (q + i)) _ HS.out (by omega)).mono ?_; rintro e w3 ⟨rfl, hb3⟩)
      obtain ⟨hc3, hf3⟩ := bcell hb3
      have hz3 := hb3.size
      (try simp at hz3)
      go_wp2_with (first | (go_at_call 8; refine (known_any _).mono ?_; rintro e w1 ⟨rfl, hb1⟩; obtain ⟨hc1, hf1⟩ := bcell hb1; have hz1 := hb1.size; (try simp at hz1); (try have hza : w.heap.size < w1.heap.size := by omega); (try have hzb : w.heap.size + 1 < w1.heap.size := by omega); (try have hzc : w.heap.size + 1 + 1 < w1.heap.size := by omega); (try have hzd : w.heap.size + 1 + 1 + 1 < w1.heap.size := by omega)))
      go_ret
      exact ⟨rfl, by (repeat' (first | with_reducible exact Below.refl _ _ | with_reducible assumption | with_reducible refine Below.drew ?_ | with_reducible refine below_drewN' ?_ _ | with_reducible refine Below.alloc ?_ ?_ _ | with_reducible refine Below.setCell ?_ ?_ _ | with_reducible refine below_step (by assumption) ?_ ?_ | omega | (simp; done) | (simp; omega)))⟩

set_option maxRecDepth 100000 in
set_option maxHeartbeats 4000000 in
theorem walk_4 (b off n cap : Nat) (h seed : Int) (D : Nat → Opt) (w : World) (h0 : 0 < n) (hm : n ≤ 60) (hnc : n ≤ cap) (hcm : cap ≤ 9223372036854775807) (hb : b < w.heap.size) (hD : Opts w b off n D) (hh0 : 0 ≤ h) (hh1 : h ≤ 255) (hq : h % 4 = 3) :
    Calls Try.prog 4 #[.slice (some ⟨b, off, none⟩) n cap, .int .u8 h, .int .i64 seed] w fun e w' => e = .returned (.bool true) ∧ Below w.heap.size w w' := by
  have HO := Lib.hid (show OptsAt w (some ⟨b, off, none⟩) n D from .inr ⟨b, off, rfl, hb, hD⟩)
  clear hD
  obtain ⟨q, hq', hqn⟩ : ∃ q : Nat, chooseF 4 seed n D = (q : Int) ∧ q < n := by
    have h1 := Int.emod_nonneg (nextF seed) (show (n : Int) ≠ 0 by omega)
    have h2 := Int.emod_lt_of_pos (nextF seed) (show (0 : Int) < n by omega)
    refine ⟨(nextF seed % (n : Int)).toNat, ?_, by omega⟩
    unfold chooseF; rw [if_neg (by omega), if_pos rfl]; omega
  have hn0 : ((n : Int) == 0) = false := beq_eq_false_iff_ne.2 (by omega)
  have d1 : decide (60 < (n : Int)) = false := decide_eq_false (by omega)
  have d2 : decide ((q : Int) < 0) = false := decide_eq_false (by omega)
  have d3 : decide ((n : Int) ≤ (q : Int)) = false := decide_eq_false (by omega)
  have d4 : decide (n ≤ q) = false := decide_eq_false (by omega)
  go_enter Try.func4, Try.ntmps4
  go_wp2_with fail
  (go_at_call 11; refine (choose_any _ _ _ _ _ D _ HO.out (by omega)).mono ?_; rintro e w1 ⟨rfl, hb1⟩)
  obtain ⟨hc1, hf1⟩ := bcell hb1
  have hz1 := hb1.size
  (try simp at hz1)
  have HO1 := Lib.hid (HO.out.below hb1)
  go_wp2_with fail
  (go_at_call 11; refine (choose_any _ _ _ _ _ D _ HO1.out (by omega)).mono ?_; rintro e w2 ⟨rfl, hb2⟩)
  obtain ⟨hc2, hf2⟩ := bcell hb2
  have hz2 := hb2.size
  (try simp at hz2)
  go_wp2_with (first | (go_at_call 8; refine (known_any _).mono ?_; rintro e w1 ⟨rfl, hb1⟩; obtain ⟨hc1, hf1⟩ := bcell hb1; have hz1 := hb1.size; (try simp at hz1); (try have hza : w.heap.size < w1.heap.size := by omega); (try have hzb : w.heap.size + 1 < w1.heap.size := by omega); (try have hzc : w.heap.size + 1 + 1 < w1.heap.size := by omega); (try have hzd : w.heap.size + 1 + 1 + 1 < w1.heap.size := by omega)))
  go_ret
  exact ⟨rfl, by (repeat' (first | with_reducible exact Below.refl _ _ | with_reducible assumption | with_reducible refine Below.drew ?_ | with_reducible refine below_drewN' ?_ _ | with_reducible refine Below.alloc ?_ ?_ _ | with_reducible refine Below.setCell ?_ ?_ _ | with_reducible refine below_step (by assumption) ?_ ?_ | omega | (simp; done) | (simp; omega)))⟩

set_option maxRecDepth 100000 in
set_option maxHeartbeats 1000000 in
theorem walk_long (sp : Option Addr) (n cap : Nat) (h seed : Int) (w : World) (hm : n ≤ 9223372036854775807) (hn : 60 < n) :
    Calls Try.prog 4 #[.slice sp n cap, .int .u8 h, .int .i64 seed] w fun e w' => e = .returned (.bool true) ∧ Below w.heap.size w w' := by
  go_enter Try.func4, Try.ntmps4
  go_wp2_with (first | (go_at_call 8; refine (known_any _).mono ?_; rintro e w1 ⟨rfl, hb1⟩; obtain ⟨hc1, hf1⟩ := bcell hb1; have hz1 := hb1.size; (try simp at hz1); (try have hza : w.heap.size < w1.heap.size := by omega); (try have hzb : w.heap.size + 1 < w1.heap.size := by omega); (try have hzc : w.heap.size + 1 + 1 < w1.heap.size := by omega); (try have hzd : w.heap.size + 1 + 1 + 1 < w1.heap.size := by omega)))
  go_ret
  exact ⟨rfl, by (repeat' (first | with_reducible exact Below.refl _ _ | with_reducible assumption | with_reducible refine Below.drew ?_ | with_reducible refine below_drewN' ?_ _ | with_reducible refine Below.alloc ?_ ?_ _ | with_reducible refine Below.setCell ?_ ?_ _ | with_reducible refine below_step (by assumption) ?_ ?_ | omega | (simp; done) | (simp; omega)))⟩

set_option maxRecDepth 100000 in
set_option maxHeartbeats 1000000 in
theorem walk_zero (sp : Option Addr) (cap : Nat) (h seed : Int) (w : World) :
    Calls Try.prog 4 #[.slice sp 0 cap, .int .u8 h, .int .i64 seed] w fun e w' => e = .returned (.bool true) ∧ Below w.heap.size w w' := by
  go_enter Try.func4, Try.ntmps4
  go_wp2_with (first | (go_at_call 8; refine (known_any _).mono ?_; rintro e w1 ⟨rfl, hb1⟩; obtain ⟨hc1, hf1⟩ := bcell hb1; have hz1 := hb1.size; (try simp at hz1); (try have hza : w.heap.size < w1.heap.size := by omega); (try have hzb : w.heap.size + 1 < w1.heap.size := by omega); (try have hzc : w.heap.size + 1 + 1 < w1.heap.size := by omega); (try have hzd : w.heap.size + 1 + 1 + 1 < w1.heap.size := by omega)))
  go_ret
  exact ⟨rfl, by (repeat' (first | with_reducible exact Below.refl _ _ | with_reducible assumption | with_reducible refine Below.drew ?_ | with_reducible refine below_drewN' ?_ _ | with_reducible refine Below.alloc ?_ ?_ _ | with_reducible refine Below.setCell ?_ ?_ _ | with_reducible refine below_step (by assumption) ?_ ?_ | omega | (simp; done) | (simp; omega)))⟩

theorem walk {H : Type} {enc : TypeId × Value → H} {W : World} {base : Nat} {v : Value} {d : DataW H} {p : List MemPlace} (h seed : Int) (wh : (Lit.int .u8 h).wf = true)
    (hv : Value.okWide Try.prog W .any base 22 v) (ht : DataW.Trod enc Try.prog W 0 (fun _ => true) true 22 v d p) :
    Calls Try.prog 4 #[v, .int .u8 h, .int .i64 seed] W fun e w' => e = .returned (.bool true) ∧ Below W.heap.size W w' := by
  have hx : 0 ≤ h ∧ h ≤ 255 := by simpa [Lit.wf, IntKind.min, IntKind.max, IntKind.signed, IntKind.bits] using wh
  rcases open_opts hv ht with ⟨sp, cap, rfl⟩ | ⟨b, off, n, cap, D, rfl, hn, hnc, hcm, hb, hD⟩
  · exact walk_zero sp cap h seed W
  · unfold maxLen at hcm
    by_cases hm : n ≤ 60
    · have h4 : h % 4 = 0 ∨ h % 4 = 1 ∨ h % 4 = 2 ∨ h % 4 = 3 := by omega
      rcases h4 with h4 | h4 | h4 | h4
      · exact walk_1 b off n cap h seed D W hn hm hnc (by omega) hb hD hx.1 hx.2 h4
      · exact walk_2 b off n cap h seed D W hn hm hnc (by omega) hb hD hx.1 hx.2 h4
      · exact walk_3 b off n cap h seed D W hn hm hnc (by omega) hb hD hx.1 hx.2 h4
      · exact walk_4 b off n cap h seed D W hn hm hnc (by omega) hb hD hx.1 hx.2 h4
    · exact walk_long _ n cap h seed W (by omega) (by omega)

set_option maxRecDepth 100000 in
theorem lifted (os : Os) (started : os.Started) (H : Type) (enc : TypeId × Value → H) :
    ReturnsInHanded {} Try.checked os 4 .any (Rows.expandBestSpec.pre6 enc Try.prog Try.f4 Rows.expandBestRow.domain false) (Rows.expandBestSpec.post enc Try.prog Try.f4 false true false false) := by
  refine returnsInHanded_of_change (C := Try.checked) Try.own started (by kernel_rfl) Try.func4
    (ChangeSpec.witness6 (enc := enc) (C := Try.checked) false ⟨#[], #[.slice none 0 0, .int .u8 0, .int .i64 0], []⟩ 8 (by kernel_rfl) (by kernel_rfl) (by kernel_rfl) (by kernel_rfl)) ?_
  intro W base args ds gs before hval hW _ _
  have hW' := hW
  obtain ⟨p, q, hA, hV, rfl, hfz, hnd⟩ := hW
  rw [Try.params4] at hA hval
  obtain ⟨v0, v1, v2, d0, d1, d2, p0, p1, p2, rfl, rfl, rfl, h0, h1, h2⟩ := trodAll_three hA
  obtain ⟨h, rfl, _, _, wh⟩ := open_int Try.underlying5 (hval 1 5 v1 rfl rfl) h1
  obtain ⟨seed, rfl, _, _, w2⟩ := open_int Try.underlying3 (hval 2 3 v2 rfl rfl) h2
  refine (walk h seed wh (hval 0 22 v0 rfl rfl) h0).mono fun e W' ⟨he, hb⟩ => ?_
  exact ⟨_, he, law_post Try.laidOut hW' rfl (by kernel_rfl) (by kernel_rfl) Try.underlying4 rfl rfl rfl hb⟩

theorem over : Rows.expandBestRow.holds Try.pinned (OpenSpec.ofChange Rows.expandBestSpec) :=
  OpenClaim.holds_of_wide 4 Try.f4 rfl rfl rfl rfl rfl rfl rfl ⟨rfl, rfl, rfl, rfl, rfl⟩ rfl rfl rfl rfl rfl (by kernel_rfl) Try.func4 (by kernel_rfl)
    (of_decide_eq_true (by kernel_rfl)) (by unfold Func.isWrapper; first | (rw [if_pos (by decide +kernel)]; kernel_rfl) | (rw [if_neg (by decide +kernel)]; exact ⟨rfl, rfl⟩))
    (fun os started H enc _ => lifted os started H enc)

/-- The statement. -/
theorem proved : Rows.ExpandBestSaid := over
end expandBest
end Go.Proofs.Ytfaeebbanphbgab
