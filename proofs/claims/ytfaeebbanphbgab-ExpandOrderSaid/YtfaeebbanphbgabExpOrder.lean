/-
  ExpandOrder: in whatever order options stand, one that is as good is chosen, but by chance.
  For every list of options, without a condition.
-/
import Derived.Test.YtfaeebbanphbgabExp7
namespace Go.Proofs.Ytfaeebbanphbgab
open Go.ChangeShapes Go.WideShapes Go.ChangeAt Go.RowKit
set_option linter.unusedVariables false
namespace expandOrder
set_option maxRecDepth 100000 in
set_option maxHeartbeats 4000000 in
theorem walk_1 (b off n cap : Nat) (h : Int) (D : Nat → Opt) (w : World) (h0 : 0 < n) (hm : n ≤ 60) (hb : b < w.heap.size) (hD : Opts w b off n D) (hh0 : 0 ≤ h) (hh1 : h ≤ 255) (hq : h % 3 = 0) :
    Calls Try.prog 5 #[.slice (some ⟨b, off, none⟩) n cap, .int .u8 h] w fun e w' => e = .returned (.bool true) ∧ Below w.heap.size w w' := by
  have HO := Lib.hid (show OptsAt w (some ⟨b, off, none⟩) n D from .inr ⟨b, off, rfl, hb, hD⟩)
  obtain ⟨dg, dc, ds, dw, dp, dr⟩ := hD
  have hn0 : ((n : Int) == 0) = false := beq_eq_false_iff_ne.2 (by omega)
  have d1 : decide (60 < (n : Int)) = false := decide_eq_false (by omega)
  obtain ⟨i0, hi, hz0, hz1, hz2⟩ := info_parts Try.info27
  have Hi := Lib.hid hi
  have Hz0 := Lib.hid hz0
  have Hz1 := Lib.hid hz1
  have Hz2 := Lib.hid hz2
  clear hi hz0 hz1 hz2
  go_enter Try.func5, Try.ntmps5
  go_wp2_with fail
  clear hq
  go_loopw [6, 7] (fun v i wr => ∃ m : Nat, m ≤ n ∧ i = .int .i64 ((m : Int) - 1) ∧ wr.ownsRow w.heap.size 27 6 v (n - m) (orow (fun j => D (n - 1 - j)) (n - m)) ∧ Below w.heap.size w wr) (fun _ i _ => (intOf i + 1).toNat)
  case atStart => exact ⟨n, Nat.le_refl _, rfl, by rw [Nat.sub_self]; exact World.ownsRow_nil _ _ _ _, by (repeat' (first | with_reducible exact Below.refl _ _ | with_reducible assumption | with_reducible refine Below.drew ?_ | with_reducible refine below_drewN' ?_ _ | with_reducible refine Below.alloc ?_ ?_ _ | with_reducible refine Below.setCell ?_ ?_ _ | with_reducible refine below_step (by assumption) ?_ ?_ | omega | (simp; done) | (simp; omega)))⟩
  case round =>
    obtain ⟨m, hmn, rfl, hown, hB⟩ := hrel
    obtain ⟨hcB, hfB⟩ := bcell hB
    have hbz := hB.size
    have hbw : b < wr.heap.size := by omega
    have Hown := Lib.hid hown
    have HB := Lib.hid hB
    clear hown
    by_cases hm0 : m = 0
    · subst hm0
      obtain ⟨sp, cp, rfl, hO, _⟩ := own_opts Hown.out
      rw [Nat.sub_zero] at hO ⊢
      rcases hO with hO | ⟨g, o, rfl, hg, hrev⟩
      · omega
      obtain ⟨q, hq', hqn⟩ : ∃ q, bst 1 D n = q ∧ q < n := ⟨_, rfl, bst_lt 1 D n h0⟩
      obtain ⟨s, hs', hsn⟩ : ∃ s, bst 1 (fun j => D (n - 1 - j)) n = s ∧ s < n := ⟨_, rfl, bst_lt 1 _ n h0⟩
      have c1 : chooseF 1 0 n D = (q : Int) := by unfold chooseF; rw [if_neg (by omega), if_neg (by decide), hq']
      have c2 : chooseF 1 0 n (fun j => D (n - 1 - j)) = (s : Int) := by unfold chooseF; rw [if_neg (by omega), if_neg (by decide), hs']
      have e1 : betB 1 (D q).w (D q).p (D q).r (D q).l (D (n - 1 - s)).w (D (n - 1 - s)).p (D (n - 1 - s)).r (D (n - 1 - s)).l = false := by
        have := bst_best 1 (fun j => D (n - 1 - j)) n (n - 1 - q) (by omega)
        rw [hs', show n - 1 - (n - 1 - q) = q by omega] at this
        exact this
      have e2 : betB 1 (D (n - 1 - s)).w (D (n - 1 - s)).p (D (n - 1 - s)).r (D (n - 1 - s)).l (D q).w (D q).p (D q).r (D q).l = false := by
        have := bst_best 1 D n (n - 1 - s) (by omega)
        rw [hq'] at this
        exact this
      have Hr := Lib.hid (show OptsAt wr (some ⟨g, o, none⟩) n (fun j => D (n - 1 - j)) from .inr ⟨g, o, rfl, hg, hrev⟩)
      have HL := Lib.hid (HO.out.below HB.out)
      obtain ⟨rg, rc, rs, rw', rp, rr⟩ := hrev
      clear hq' hs'
      have d2 : decide ((q : Int) < 0) = false := decide_eq_false (by omega)
      have d3 : decide ((n : Int) ≤ (q : Int)) = false := decide_eq_false (by omega)
      have d4 : decide (n ≤ q) = false := decide_eq_false (by omega)
      have d5 : decide ((s : Int) < 0) = false := decide_eq_false (by omega)
      have d6 : decide ((n : Int) ≤ (s : Int)) = false := decide_eq_false (by omega)
      have d7 : decide (n ≤ s) = false := decide_eq_false (by omega)
      go_wp2_with fail
      (go_at_call 11; refine (choose_any _ _ _ _ _ D _ HL.out (by omega)).mono ?_; rintro e w1 ⟨rfl, hb1⟩)
      obtain ⟨hc1, hf1⟩ := bcell hb1
      have hz1 := hb1.size
      (try simp at hz1)
      have z1_0 : b < w1.heap.size := (by omega); have y1_0 : b ≤ w1.heap.size := (by omega); have z1_1 : g < w1.heap.size := (by omega); have y1_1 : g ≤ w1.heap.size := (by omega)
      have Hr1 := Lib.hid (Hr.out.below hb1)
      go_wp2_with fail
      (go_at_call 11; refine (choose_any _ _ _ _ _ (fun j => D (n - 1 - j)) _ Hr1.out (by omega)).mono ?_; rintro e w2 ⟨rfl, hb2⟩)
      obtain ⟨hc2, hf2⟩ := bcell hb2
      have hz2 := hb2.size
      (try simp at hz2)
      have z2_0 : b < w2.heap.size := (by omega); have y2_0 : b ≤ w2.heap.size := (by omega); have z2_1 : g < w2.heap.size := (by omega); have y2_1 : g ≤ w2.heap.size := (by omega)
      go_wp2_with fail
      have hcH := held_cell
      refine region_below (by kernel_rfl) (by kernel_rfl) ?_
      repeat
        ((with_reducible refine wpQuiet_step (fun K hK => ?_))
         go_simp
         first
           | ((with_reducible refine hK _ ?_); clear hK K)
           | (apply Exists.intro
              (with_reducible refine ⟨fun n => ?_, hK _ ?_⟩)
              (first | (go_at_call 9; exact held_calls (better_any _ _ _ _ _ _ _ _ _ _ _ _ _ _ _ _ _ _)) | (go_at_call 8; exact held_calls (known_any _)))
              clear hK K))
      with_reducible refine wpQuiet_nil ?_
      intro w3 hw2
      clear hcH
      obtain ⟨⟨_, hb3⟩, rfl⟩ := hw2
      (try dsimp only)
      obtain ⟨hc3, hf3⟩ := bcell hb3
      have hz3 := hb3.size
      (try simp at hz3)
      go_wp2
      go_ret
      exact ⟨rfl, by (repeat' (first | with_reducible exact Below.refl _ _ | with_reducible assumption | with_reducible refine Below.drew ?_ | with_reducible refine below_drewN' ?_ _ | with_reducible refine Below.alloc ?_ ?_ _ | with_reducible refine Below.setCell ?_ ?_ _ | with_reducible refine below_step (by assumption) ?_ ?_ | omega | (simp; done) | (simp; omega)))⟩
    · obtain ⟨p, rfl⟩ : ∃ p, m = p + 1 := ⟨m - 1, by omega⟩
      have hp : ((p + 1 : Nat) : Int) - 1 = p := by omega
      rw [hp]
      clear hp
      have hpn : p < n := by omega
      have hc3 : n - (p + 1) + 1 ≤ maxLen := by unfold maxLen; omega
      have hc4 : (n - (p + 1) + 1) * 72 ≤ 140737488355328 := by omega
      have Hrow := Lib.hid (show orow (fun j => D (n - 1 - j)) (n - (p + 1)) ++ ocs (D p) = orow (fun j => D (n - 1 - j)) (n - p) by
        rw [show n - p = n - (p + 1) + 1 by omega, orow_succ]
        congr 3
        omega)
      have Hlen := Lib.hid (show n - (p + 1) + 1 = n - p by omega)
      go_wp2_with (first | (at_builtin; refine wpList_append_own _ rfl (.tmp 30) (.tmp 35) 22 rfl w.heap.size 27 i0 _ 6 72 Try.underlying22 Hi.out Hz0.out Hz1.out Hz2.out rfl (by decide) _ (n - (p + 1)) (orow (fun j => D (n - 1 - j)) (n - (p + 1))) rfl (Hown.out.alloc _) ⟨wr.heap.size, 0, none⟩ 1 1 (ocs (D p)) rfl rfl (news_at _ _ _) (ocs_one _) hc3 hc4 (le_alloc hbz _) ?_; intro v1 w1 hown1 hgrow1 _; rw [Hrow.out, Hlen.out] at hown1; have hB1 := own_below (Hown.out.alloc _) (HB.out.alloc hbz _) (le_alloc hbz _) hgrow1; have HO1 := Lib.hid hown1; clear hown1 hgrow1))
      go_roundw
      case rel => exact ⟨p, by omega, rfl, HO1.out, hB1⟩
      case measure => simp [intOf]

set_option maxRecDepth 100000 in
set_option maxHeartbeats 4000000 in
theorem walk_2 (b off n cap : Nat) (h : Int) (D : Nat → Opt) (w : World) (h0 : 0 < n) (hm : n ≤ 60) (hb : b < w.heap.size) (hD : Opts w b off n D) (hh0 : 0 ≤ h) (hh1 : h ≤ 255) (hq : h % 3 = 1) :
    Calls Try.prog 5 #[.slice (some ⟨b, off, none⟩) n cap, .int .u8 h] w fun e w' => e = .returned (.bool true) ∧ Below w.heap.size w w' := by
  have HO := Lib.hid (show OptsAt w (some ⟨b, off, none⟩) n D from .inr ⟨b, off, rfl, hb, hD⟩)
  obtain ⟨dg, dc, ds, dw, dp, dr⟩ := hD
  have hn0 : ((n : Int) == 0) = false := beq_eq_false_iff_ne.2 (by omega)
  have d1 : decide (60 < (n : Int)) = false := decide_eq_false (by omega)
  obtain ⟨i0, hi, hz0, hz1, hz2⟩ := info_parts Try.info27
  have Hi := Lib.hid hi
  have Hz0 := Lib.hid hz0
  have Hz1 := Lib.hid hz1
  have Hz2 := Lib.hid hz2
  clear hi hz0 hz1 hz2
  go_enter Try.func5, Try.ntmps5
  go_wp2_with fail
  clear hq
  go_loopw [6, 7] (fun v i wr => ∃ m : Nat, m ≤ n ∧ i = .int .i64 ((m : Int) - 1) ∧ wr.ownsRow w.heap.size 27 6 v (n - m) (orow (fun j => D (n - 1 - j)) (n - m)) ∧ Below w.heap.size w wr) (fun _ i _ => (intOf i + 1).toNat)
  case atStart => exact ⟨n, Nat.le_refl _, rfl, by rw [Nat.sub_self]; exact World.ownsRow_nil _ _ _ _, by (repeat' (first | with_reducible exact Below.refl _ _ | with_reducible assumption | with_reducible refine Below.drew ?_ | with_reducible refine below_drewN' ?_ _ | with_reducible refine Below.alloc ?_ ?_ _ | with_reducible refine Below.setCell ?_ ?_ _ | with_reducible refine below_step (by assumption) ?_ ?_ | omega | (simp; done) | (simp; omega)))⟩
  case round =>
    obtain ⟨m, hmn, rfl, hown, hB⟩ := hrel
    obtain ⟨hcB, hfB⟩ := bcell hB
    have hbz := hB.size
    have hbw : b < wr.heap.size := by omega
    have Hown := Lib.hid hown
    have HB := Lib.hid hB
    clear hown
    by_cases hm0 : m = 0
    · subst hm0
      obtain ⟨sp, cp, rfl, hO, _⟩ := own_opts Hown.out
      rw [Nat.sub_zero] at hO ⊢
      rcases hO with hO | ⟨g, o, rfl, hg, hrev⟩
      · omega
      obtain ⟨q, hq', hqn⟩ : ∃ q, bst 2 D n = q ∧ q < n := ⟨_, rfl, bst_lt 2 D n h0⟩
      obtain ⟨s, hs', hsn⟩ : ∃ s, bst 2 (fun j => D (n - 1 - j)) n = s ∧ s < n := ⟨_, rfl, bst_lt 2 _ n h0⟩
      have c1 : chooseF 2 0 n D = (q : Int) := by unfold chooseF; rw [if_neg (by omega), if_neg (by decide), hq']
      have c2 : chooseF 2 0 n (fun j => D (n - 1 - j)) = (s : Int) := by unfold chooseF; rw [if_neg (by omega), if_neg (by decide), hs']
      have e1 : betB 2 (D q).w (D q).p (D q).r (D q).l (D (n - 1 - s)).w (D (n - 1 - s)).p (D (n - 1 - s)).r (D (n - 1 - s)).l = false := by
        have := bst_best 2 (fun j => D (n - 1 - j)) n (n - 1 - q) (by omega)
        rw [hs', show n - 1 - (n - 1 - q) = q by omega] at this
        exact this
      have e2 : betB 2 (D (n - 1 - s)).w (D (n - 1 - s)).p (D (n - 1 - s)).r (D (n - 1 - s)).l (D q).w (D q).p (D q).r (D q).l = false := by
        have := bst_best 2 D n (n - 1 - s) (by omega)
        rw [hq'] at this
        exact this
      have Hr := Lib.hid (show OptsAt wr (some ⟨g, o, none⟩) n (fun j => D (n - 1 - j)) from .inr ⟨g, o, rfl, hg, hrev⟩)
      have HL := Lib.hid (HO.out.below HB.out)
      obtain ⟨rg, rc, rs, rw', rp, rr⟩ := hrev
      clear hq' hs'
      have d2 : decide ((q : Int) < 0) = false := decide_eq_false (by omega)
      have d3 : decide ((n : Int) ≤ (q : Int)) = false := decide_eq_false (by omega)
      have d4 : decide (n ≤ q) = false := decide_eq_false (by omega)
      have d5 : decide ((s : Int) < 0) = false := decide_eq_false (by omega)
      have d6 : decide ((n : Int) ≤ (s : Int)) = false := decide_eq_false (by omega)
      have d7 : decide (n ≤ s) = false := decide_eq_false (by omega)
      go_wp2_with fail
      (go_at_call 11; refine (choose_any _ _ _ _ _ D _ HL.out (by omega)).mono ?_; rintro e w1 ⟨rfl, hb1⟩)
      obtain ⟨hc1, hf1⟩ := bcell hb1
      have hz1 := hb1.size
      (try simp at hz1)
      have z1_0 : b < w1.heap.size := (by omega); have y1_0 : b ≤ w1.heap.size := (by omega); have z1_1 : g < w1.heap.size := (by omega); have y1_1 : g ≤ w1.heap.size := (by omega)
      have Hr1 := Lib.hid (Hr.out.below hb1)
      go_wp2_with fail
      (go_at_call 11; refine (choose_any _ _ _ _ _ (fun j => D (n - 1 - j)) _ Hr1.out (by omega)).mono ?_; rintro e w2 ⟨rfl, hb2⟩)
      obtain ⟨hc2, hf2⟩ := bcell hb2
      have hz2 := hb2.size
      (try simp at hz2)
      have z2_0 : b < w2.heap.size := (by omega); have y2_0 : b ≤ w2.heap.size := (by omega); have z2_1 : g < w2.heap.size := (by omega); have y2_1 : g ≤ w2.heap.size := (by omega)
      go_wp2_with fail
      have hcH := held_cell
      refine region_below (by kernel_rfl) (by kernel_rfl) ?_
      repeat
        ((with_reducible refine wpQuiet_step (fun K hK => ?_))
         go_simp
         first
           | ((with_reducible refine hK _ ?_); clear hK K)
           | (apply Exists.intro
              (with_reducible refine ⟨fun n => ?_, hK _ ?_⟩)
              (first | (go_at_call 9; exact held_calls (better_any _ _ _ _ _ _ _ _ _ _ _ _ _ _ _ _ _ _)) | (go_at_call 8; exact held_calls (known_any _)))
              clear hK K))
      with_reducible refine wpQuiet_nil ?_
      intro w3 hw2
      clear hcH
      obtain ⟨⟨_, hb3⟩, rfl⟩ := hw2
      (try dsimp only)
      obtain ⟨hc3, hf3⟩ := bcell hb3
      have hz3 := hb3.size
      (try simp at hz3)
      go_wp2
      go_ret
      exact ⟨rfl, by (repeat' (first | with_reducible exact Below.refl _ _ | with_reducible assumption | with_reducible refine Below.drew ?_ | with_reducible refine below_drewN' ?_ _ | with_reducible refine Below.alloc ?_ ?_ _ | with_reducible refine Below.setCell ?_ ?_ _ | with_reducible refine below_step (by assumption) ?_ ?_ | omega | (simp; done) | (simp; omega)))⟩
    · obtain ⟨p, rfl⟩ : ∃ p, m = p + 1 := ⟨m - 1, by omega⟩
      have hp : ((p + 1 : Nat) : Int) - 1 = p := by omega
      rw [hp]
      clear hp
      have hpn : p < n := by omega
      have hc3 : n - (p + 1) + 1 ≤ maxLen := by unfold maxLen; omega
      have hc4 : (n - (p + 1) + 1) * 72 ≤ 140737488355328 := by omega
      have Hrow := Lib.hid (show orow (fun j => D (n - 1 - j)) (n - (p + 1)) ++ ocs (D p) = orow (fun j => D (n - 1 - j)) (n - p) by
        rw [show n - p = n - (p + 1) + 1 by omega, orow_succ]
        congr 3
        omega)
      have Hlen := Lib.hid (show n - (p + 1) + 1 = n - p by omega)
      go_wp2_with (first | (at_builtin; refine wpList_append_own _ rfl (.tmp 30) (.tmp 35) 22 rfl w.heap.size 27 i0 _ 6 72 Try.underlying22 Hi.out Hz0.out Hz1.out Hz2.out rfl (by decide) _ (n - (p + 1)) (orow (fun j => D (n - 1 - j)) (n - (p + 1))) rfl (Hown.out.alloc _) ⟨wr.heap.size, 0, none⟩ 1 1 (ocs (D p)) rfl rfl (news_at _ _ _) (ocs_one _) hc3 hc4 (le_alloc hbz _) ?_; intro v1 w1 hown1 hgrow1 _; rw [Hrow.out, Hlen.out] at hown1; have hB1 := own_below (Hown.out.alloc _) (HB.out.alloc hbz _) (le_alloc hbz _) hgrow1; have HO1 := Lib.hid hown1; clear hown1 hgrow1))
      go_roundw
      case rel => exact ⟨p, by omega, rfl, HO1.out, hB1⟩
      case measure => simp [intOf]

set_option maxRecDepth 100000 in
set_option maxHeartbeats 4000000 in
theorem walk_3 (b off n cap : Nat) (h : Int) (D : Nat → Opt) (w : World) (h0 : 0 < n) (hm : n ≤ 60) (hb : b < w.heap.size) (hD : Opts w b off n D) (hh0 : 0 ≤ h) (hh1 : h ≤ 255) (hq : h % 3 = 2) :
    Calls Try.prog 5 #[.slice (some ⟨b, off, none⟩) n cap, .int .u8 h] w fun e w' => e = .returned (.bool true) ∧ Below w.heap.size w w' := by
  have HO := Lib.hid (show OptsAt w (some ⟨b, off, none⟩) n D from .inr ⟨b, off, rfl, hb, hD⟩)
  obtain ⟨dg, dc, ds, dw, dp, dr⟩ := hD
  have hn0 : ((n : Int) == 0) = false := beq_eq_false_iff_ne.2 (by omega)
  have d1 : decide (60 < (n : Int)) = false := decide_eq_false (by omega)
  obtain ⟨i0, hi, hz0, hz1, hz2⟩ := info_parts Try.info27
  have Hi := Lib.hid hi
  have Hz0 := Lib.hid hz0
  have Hz1 := Lib.hid hz1
  have Hz2 := Lib.hid hz2
  clear hi hz0 hz1 hz2
  go_enter Try.func5, Try.ntmps5
  go_wp2_with fail
  clear hq
  go_loopw [6, 7] (fun v i wr => ∃ m : Nat, m ≤ n ∧ i = .int .i64 ((m : Int) - 1) ∧ wr.ownsRow w.heap.size 27 6 v (n - m) (orow (fun j => D (n - 1 - j)) (n - m)) ∧ Below w.heap.size w wr) (fun _ i _ => (intOf i + 1).toNat)
  case atStart => exact ⟨n, Nat.le_refl _, rfl, by rw [Nat.sub_self]; exact World.ownsRow_nil _ _ _ _, by (repeat' (first | with_reducible exact Below.refl _ _ | with_reducible assumption | with_reducible refine Below.drew ?_ | with_reducible refine below_drewN' ?_ _ | with_reducible refine Below.alloc ?_ ?_ _ | with_reducible refine Below.setCell ?_ ?_ _ | with_reducible refine below_step (by assumption) ?_ ?_ | omega | (simp; done) | (simp; omega)))⟩
  case round =>
    obtain ⟨m, hmn, rfl, hown, hB⟩ := hrel
    obtain ⟨hcB, hfB⟩ := bcell hB
    have hbz := hB.size
    have hbw : b < wr.heap.size := by omega
    have Hown := Lib.hid hown
    have HB := Lib.hid hB
    clear hown
    by_cases hm0 : m = 0
    · subst hm0
      obtain ⟨sp, cp, rfl, hO, _⟩ := own_opts Hown.out
      rw [Nat.sub_zero] at hO ⊢
      rcases hO with hO | ⟨g, o, rfl, hg, hrev⟩
      · omega
      obtain ⟨q, hq', hqn⟩ : ∃ q, bst 3 D n = q ∧ q < n := ⟨_, rfl, bst_lt 3 D n h0⟩
      obtain ⟨s, hs', hsn⟩ : ∃ s, bst 3 (fun j => D (n - 1 - j)) n = s ∧ s < n := ⟨_, rfl, bst_lt 3 _ n h0⟩
      have c1 : chooseF 3 0 n D = (q : Int) := by unfold chooseF; rw [if_neg (by omega), if_neg (by decide), hq']
      have c2 : chooseF 3 0 n (fun j => D (n - 1 - j)) = (s : Int) := by unfold chooseF; rw [if_neg (by omega), if_neg (by decide), hs']
      have e1 : betB 3 (D q).w (D q).p (D q).r (D q).l (D (n - 1 - s)).w (D (n - 1 - s)).p (D (n - 1 - s)).r (D (n - 1 - s)).l = false := by
        have := bst_best 3 (fun j => D (n - 1 - j)) n (n - 1 - q) (by omega)
        rw [hs', show n - 1 - (n - 1 - q) = q by omega] at this
        exact this
      have e2 : betB 3 (D (n - 1 - s)).w (D (n - 1 - s)).p (D (n - 1 - s)).r (D (n - 1 - s)).l (D q).w (D q).p (D q).r (D q).l = false := by
        have := bst_best 3 D n (n - 1 - s) (by omega)
        rw [hq'] at this
        exact this
      have Hr := Lib.hid (show OptsAt wr (some ⟨g, o, none⟩) n (fun j => D (n - 1 - j)) from .inr ⟨g, o, rfl, hg, hrev⟩)
      have HL := Lib.hid (HO.out.below HB.out)
      obtain ⟨rg, rc, rs, rw', rp, rr⟩ := hrev
      clear hq' hs'
      have d2 : decide ((q : Int) < 0) = false := decide_eq_false (by omega)
      have d3 : decide ((n : Int) ≤ (q : Int)) = false := decide_eq_false (by omega)
      have d4 : decide (n ≤ q) = false := decide_eq_false (by omega)
      have d5 : decide ((s : Int) < 0) = false := decide_eq_false (by omega)
      have d6 : decide ((n : Int) ≤ (s : Int)) = false := decide_eq_false (by omega)
      have d7 : decide (n ≤ s) = false := decide_eq_false (by omega)
      go_wp2_with fail
      (go_at_call 11; refine (choose_any _ _ _ _ _ D _ HL.out (by omega)).mono ?_; rintro e w1 ⟨rfl, hb1⟩)
      obtain ⟨hc1, hf1⟩ := bcell hb1
      have hz1 := hb1.size
      (try simp at hz1)
      have z1_0 : b < w1.heap.size := (by omega); have y1_0 : b ≤ w1.heap.size := (by omega); have z1_1 : g < w1.heap.size := (by omega); have y1_1 : g ≤ w1.heap.size := (by omega)
      have Hr1 := Lib.hid (Hr.out.below hb1)
      go_wp2_with fail
      (go_at_call 11; refine (choose_any _ _ _ _ _ (fun j => D (n - 1 - j)) _ Hr1.out (by omega)).mono ?_; rintro e w2 ⟨rfl, hb2⟩)
      obtain ⟨hc2, hf2⟩ := bcell hb2
      have hz2 := hb2.size
      (try simp at hz2)
      have z2_0 : b < w2.heap.size := (by omega); have y2_0 : b ≤ w2.heap.size := (by omega); have z2_1 : g < w2.heap.size := (by omega); have y2_1 : g ≤ w2.heap.size := (by omega)
      go_wp2_with fail
      have hcH := held_cell
      refine region_below (by kernel_rfl) (by kernel_rfl) ?_
      repeat
        ((with_reducible refine wpQuiet_step (fun K hK => ?_))
         go_simp
         first
           | ((with_reducible refine hK _ ?_); clear hK K)
           | (apply Exists.intro
              (with_reducible refine ⟨fun n => ?_, hK _ ?_⟩)
              (first | (go_at_call 9; exact held_calls (better_any _ _ _ _ _ _ _ _ _ _ _ _ _ _ _ _ _ _)) | (go_at_call 8; exact held_calls (known_any _)))
              clear hK K))
      with_reducible refine wpQuiet_nil ?_
      intro w3 hw2
      clear hcH
      obtain ⟨⟨_, hb3⟩, rfl⟩ := hw2
      (try dsimp only)
      obtain ⟨hc3, hf3⟩ := bcell hb3
      have hz3 := hb3.size
      (try simp at hz3)
      go_wp2
      go_ret
      exact ⟨rfl, by (repeat' (first | with_reducible exact Below.refl _ _ | with_reducible assumption | with_reducible refine Below.drew ?_ | with_reducible refine below_drewN' ?_ _ | with_reducible refine Below.alloc ?_ ?_ _ | with_reducible refine Below.setCell ?_ ?_ _ | with_reducible refine below_step (by assumption) ?_ ?_ | omega | (simp; done) | (simp; omega)))⟩
    · obtain ⟨p, rfl⟩ : ∃ p, m = p + 1 := ⟨m - 1, by omega⟩
      have hp : ((p + 1 : Nat) : Int) - 1 = p := by omega
      rw [hp]
      clear hp
      have hpn : p < n := by omega
      have hc3 : n - (p + 1) + 1 ≤ maxLen := by unfold maxLen; omega
      have hc4 : (n - (p + 1) + 1) * 72 ≤ 140737488355328 := by omega
      have Hrow := Lib.hid (show orow (fun j => D (n - 1 - j)) (n - (p + 1)) ++ ocs (D p) = orow (fun j => D (n - 1 - j)) (n - p) by
        rw [show n - p = n - (p + 1) + 1 by omega, orow_succ]
        congr 3
        omega)
      have Hlen := Lib.hid (show n - (p + 1) + 1 = n - p by omega)
      go_wp2_with (first | (at_builtin; refine wpList_append_own _ rfl (.tmp 30) (.tmp 35) 22 rfl w.heap.size 27 i0 _ 6 72 Try.underlying22 Hi.out Hz0.out Hz1.out Hz2.out rfl (by decide) _ (n - (p + 1)) (orow (fun j => D (n - 1 - j)) (n - (p + 1))) rfl (Hown.out.alloc _) ⟨wr.heap.size, 0, none⟩ 1 1 (ocs (D p)) rfl rfl (news_at _ _ _) (ocs_one _) hc3 hc4 (le_alloc hbz _) ?_; intro v1 w1 hown1 hgrow1 _; rw [Hrow.out, Hlen.out] at hown1; have hB1 := own_below (Hown.out.alloc _) (HB.out.alloc hbz _) (le_alloc hbz _) hgrow1; have HO1 := Lib.hid hown1; clear hown1 hgrow1))
      go_roundw
      case rel => exact ⟨p, by omega, rfl, HO1.out, hB1⟩
      case measure => simp [intOf]

set_option maxRecDepth 100000 in
set_option maxHeartbeats 1000000 in
theorem walk_long (sp : Option Addr) (n cap : Nat) (h : Int) (w : World) (hm : n ≤ 9223372036854775807) (hn : 60 < n) :
    Calls Try.prog 5 #[.slice sp n cap, .int .u8 h] w fun e w' => e = .returned (.bool true) ∧ Below w.heap.size w w' := by
  go_enter Try.func5, Try.ntmps5
  go_wp2_with (first | (go_at_call 8; refine (known_any _).mono ?_; rintro e w1 ⟨rfl, hb1⟩; obtain ⟨hc1, hf1⟩ := bcell hb1; have hz1 := hb1.size; (try simp at hz1); (try have hza : w.heap.size < w1.heap.size := by omega); (try have hzb : w.heap.size + 1 < w1.heap.size := by omega); (try have hzc : w.heap.size + 1 + 1 < w1.heap.size := by omega); (try have hzd : w.heap.size + 1 + 1 + 1 < w1.heap.size := by omega)))
  go_ret
  exact ⟨rfl, by (repeat' (first | with_reducible exact Below.refl _ _ | with_reducible assumption | with_reducible refine Below.drew ?_ | with_reducible refine below_drewN' ?_ _ | with_reducible refine Below.alloc ?_ ?_ _ | with_reducible refine Below.setCell ?_ ?_ _ | with_reducible refine below_step (by assumption) ?_ ?_ | omega | (simp; done) | (simp; omega)))⟩

set_option maxRecDepth 100000 in
set_option maxHeartbeats 1000000 in
theorem walk_zero (sp : Option Addr) (cap : Nat) (h : Int) (w : World) :
    Calls Try.prog 5 #[.slice sp 0 cap, .int .u8 h] w fun e w' => e = .returned (.bool true) ∧ Below w.heap.size w w' := by
  go_enter Try.func5, Try.ntmps5
  go_wp2_with (first | (go_at_call 8; refine (known_any _).mono ?_; rintro e w1 ⟨rfl, hb1⟩; obtain ⟨hc1, hf1⟩ := bcell hb1; have hz1 := hb1.size; (try simp at hz1); (try have hza : w.heap.size < w1.heap.size := by omega); (try have hzb : w.heap.size + 1 < w1.heap.size := by omega); (try have hzc : w.heap.size + 1 + 1 < w1.heap.size := by omega); (try have hzd : w.heap.size + 1 + 1 + 1 < w1.heap.size := by omega)))
  go_ret
  exact ⟨rfl, by (repeat' (first | with_reducible exact Below.refl _ _ | with_reducible assumption | with_reducible refine Below.drew ?_ | with_reducible refine below_drewN' ?_ _ | with_reducible refine Below.alloc ?_ ?_ _ | with_reducible refine Below.setCell ?_ ?_ _ | with_reducible refine below_step (by assumption) ?_ ?_ | omega | (simp; done) | (simp; omega)))⟩

theorem walk {H : Type} {enc : TypeId × Value → H} {W : World} {base : Nat} {v : Value} {d : DataW H} {p : List MemPlace} (h : Int) (wh : (Lit.int .u8 h).wf = true)
    (hv : Value.okWide Try.prog W .any base 22 v) (ht : DataW.Trod enc Try.prog W 0 (fun _ => true) true 22 v d p) :
    Calls Try.prog 5 #[v, .int .u8 h] W fun e w' => e = .returned (.bool true) ∧ Below W.heap.size W w' := by
  have hx : 0 ≤ h ∧ h ≤ 255 := by simpa [Lit.wf, IntKind.min, IntKind.max, IntKind.signed, IntKind.bits] using wh
  rcases open_opts hv ht with ⟨sp, cap, rfl⟩ | ⟨b, off, n, cap, D, rfl, hn, hnc, hcm, hb, hD⟩
  · exact walk_zero sp cap h W
  · unfold maxLen at hcm
    by_cases hm : n ≤ 60
    · have h4 : h % 3 = 0 ∨ h % 3 = 1 ∨ h % 3 = 2 := by omega
      rcases h4 with h4 | h4 | h4
      · exact walk_1 b off n cap h D W hn hm hb hD hx.1 hx.2 h4
      · exact walk_2 b off n cap h D W hn hm hb hD hx.1 hx.2 h4
      · exact walk_3 b off n cap h D W hn hm hb hD hx.1 hx.2 h4
    · exact walk_long _ n cap h W (by omega) (by omega)

set_option maxRecDepth 100000 in
theorem lifted (os : Os) (started : os.Started) (H : Type) (enc : TypeId × Value → H) :
    ReturnsInHanded {} Try.checked os 5 .any (Rows.expandOrderSpec.pre6 enc Try.prog Try.f5 Rows.expandOrderRow.domain false) (Rows.expandOrderSpec.post enc Try.prog Try.f5 false true false false) := by
  refine returnsInHanded_of_change (C := Try.checked) Try.own started (by kernel_rfl) Try.func5
    (ChangeSpec.witness6 (enc := enc) (C := Try.checked) false ⟨#[], #[.slice none 0 0, .int .u8 0], []⟩ 8 (by kernel_rfl) (by kernel_rfl) (by kernel_rfl) (by kernel_rfl)) ?_
  intro W base args ds gs before hval hW _ _
  have hW' := hW
  obtain ⟨p, q, hA, hV, rfl, hfz, hnd⟩ := hW
  rw [Try.params5] at hA hval
  obtain ⟨v0, v1, d0, d1, p0, p1, rfl, rfl, rfl, h0, h1⟩ := trodAll_two hA
  obtain ⟨h, rfl, _, _, wh⟩ := open_int Try.underlying5 (hval 1 5 v1 rfl rfl) h1
  refine (walk h wh (hval 0 22 v0 rfl rfl) h0).mono fun e W' ⟨he, hb⟩ => ?_
  exact ⟨_, he, law_post Try.laidOut hW' rfl (by kernel_rfl) (by kernel_rfl) Try.underlying4 rfl rfl rfl hb⟩

theorem over : Rows.expandOrderRow.holds Try.pinned (OpenSpec.ofChange Rows.expandOrderSpec) :=
  OpenClaim.holds_of_wide 5 Try.f5 rfl rfl rfl rfl rfl rfl rfl ⟨rfl, rfl, rfl, rfl, rfl⟩ rfl rfl rfl rfl rfl (by kernel_rfl) Try.func5 (by kernel_rfl)
    (of_decide_eq_true (by kernel_rfl)) (by unfold Func.isWrapper; first | (rw [if_pos (by decide +kernel)]; kernel_rfl) | (rw [if_neg (by decide +kernel)]; exact ⟨rfl, rfl⟩))
    (fun os started H enc _ => lifted os started H enc)

/-- The statement. -/
theorem proved : Rows.ExpandOrderSaid := over
end expandOrder
end Go.Proofs.Ytfaeebbanphbgab
