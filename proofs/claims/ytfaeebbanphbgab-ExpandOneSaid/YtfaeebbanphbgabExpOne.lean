/-
  ExpandOne: a single option is chosen, in each way; one that is worse behind the others changes nothing, but by chance.
  For every list of options and every option, without a condition.
-/
import Derived.Test.YtfaeebbanphbgabExp7
namespace Go.Proofs.Ytfaeebbanphbgab
open Go.ChangeShapes Go.WideShapes Go.ChangeAt Go.RowKit
set_option linter.unusedVariables false
namespace expandOne

theorem choose_one (how seed : Int) (o : Opt) (h1 : 1 ≤ how) (h4 : how ≤ 4) : chooseF how seed 1 (fun _ => o) = 0 := by
  unfold chooseF
  rw [if_neg (by omega)]
  split
  · exact Int.emod_one _
  · have := bst_lt how (fun _ => o) 1 (by decide)
    omega

theorem bst_congr (how : Int) (D E : Nat → Opt) (n : Nat) (h : ∀ i, i < n → D i = E i) : bst how D n = bst how E n := by
  induction n with
  | zero => rfl
  | succ n ih =>
    have ih' := ih (fun i hi => h i (by omega))
    show (if bet how (D n) (D (bst how D n)) = true then n else bst how D n) = (if bet how (E n) (E (bst how E n)) = true then n else bst how E n)
    rw [ih', h n (by omega), h (bst how E n) (by
      by_cases h0 : 0 < n
      · have := bst_lt how E n h0; omega
      · obtain rfl : n = 0 := by omega
        exact Nat.lt_succ_of_le (Nat.le_refl _))]

/-- These options with one behind. -/
def andOne (D : Nat → Opt) (n : Nat) (o : Opt) : Nat → Opt := fun i => if i < n then D i else o

theorem orow_congr (f g : Nat → Opt) (n : Nat) (h : ∀ i, i < n → f i = g i) : orow f n = orow g n := by
  induction n with
  | zero => rfl
  | succ n ih => rw [orow_succ, orow_succ, ih (fun i hi => h i (by omega)), h n (by omega)]

theorem orow_one (D : Nat → Opt) (n : Nat) (o : Opt) : orow D n ++ ocs o = orow (andOne D n o) (n + 1) := by
  rw [orow_succ, orow_congr (andOne D n o) D n (fun i hi => if_pos hi)]
  congr 2
  exact (if_neg (Nat.lt_irrefl n)).symm

theorem choose_more (how seed : Int) (n q : Nat) (D : Nat → Opt) (o : Opt) (h0 : 0 < n) (hq : bst how D n = q) (h1 : 1 ≤ how) (h3 : how ≤ 3) :
    chooseF how seed (n + 1) (andOne D n o) = if betB how o.w o.p o.r o.l (D q).w (D q).p (D q).r (D q).l = true then (n : Int) else q := by
  have hqn : q < n := by rw [← hq]; exact bst_lt how D n h0
  unfold chooseF
  rw [if_neg (by omega), if_neg (by omega), bst_succ how (andOne D n o) n q ((bst_congr how (andOne D n o) D n (fun i hi => if_pos hi)).trans hq)]
  rw [show andOne D n o n = o from if_neg (Nat.lt_irrefl n), show andOne D n o q = D q from if_pos hqn]
  show ((if bet how o (D q) = true then n else q : Nat) : Int) = if bet how o (D q) = true then (n : Int) else q
  split <;> rfl

theorem opts_lit1 (w : World) (B : Nat) (o : Opt) (hB : B = w.heap.size) : OptsAt (w.alloc (.cells #[.string o.g, .int .i64 o.c, .slice o.s o.l o.k, .int .i64 o.w, .int .i64 o.p, .int .i64 o.r] 27)) (some ⟨B, 0, none⟩) 1 (fun _ => o) := by
  subst hB
  refine .inr ⟨w.heap.size, 0, rfl, by simp, ?_⟩
  constructor <;> (intro i hi; obtain rfl : i = 0 := (by omega); simp [go_sem])

/-- The cells of a list of options, one behind the other. -/
theorem opts_news {w : World} {b off n : Nat} {D : Nat → Opt} (h : Opts w b off n D) : ∀ j u, (orow D n)[j]? = some u → w.cell? ((⟨b, off, none⟩ : Addr).add j) = some u := by
  intro j u hu
  have hj : j < n * 6 := by
    have := (List.getElem?_eq_some_iff.1 hu).1
    rwa [orow_length] at this
  obtain ⟨o1, o2, o3, o4, o5, o6⟩ := h
  rw [show j = j / 6 * 6 + j % 6 by omega] at hu ⊢
  rw [orow_get D n (j / 6) (j % 6) (by omega) (by omega)] at hu
  rw [Go.WideShapes.add_plain]
  have hi : j / 6 < n := by omega
  have hr : j % 6 < 6 := by omega
  generalize j / 6 = i at *
  generalize j % 6 = r at *
  have h6 : r = 0 ∨ r = 1 ∨ r = 2 ∨ r = 3 ∨ r = 4 ∨ r = 5 := by omega
  rcases h6 with rfl | rfl | rfl | rfl | rfl | rfl
  · rw [← hu, ← Nat.add_assoc]; exact o1 i hi
  · rw [← hu, ← Nat.add_assoc]; exact o2 i hi
  · rw [← hu, ← Nat.add_assoc]; exact o3 i hi
  · rw [← hu, ← Nat.add_assoc]; exact o4 i hi
  · rw [← hu, ← Nat.add_assoc]; exact o5 i hi
  · rw [← hu, ← Nat.add_assoc]; exact o6 i hi

theorem orow_ones (D : Nat → Opt) (n : Nat) : ∀ u ∈ orow D n, u.oneCell' = true := by
  intro u hu
  simp only [orow, List.mem_flatMap] at hu
  obtain ⟨j, _, hu⟩ := hu
  exact ocs_one _ u hu

theorem opts_of_at {w : World} {b off n : Nat} {D : Nat → Opt} (h : OptsAt w (some ⟨b, off, none⟩) n D) (h0 : 0 < n) : Opts w b off n D := by
  rcases h with h | ⟨b', off', hs, _, h⟩
  · omega
  · cases hs; exact h

theorem keep_old {w w1 : World} {row : Option Nat} (hg : w.grownBy w1 row) (B : Nat) (hr : row = some B) : ∀ b o, b < w.heap.size → b ≠ B → w1.cell? ⟨b, o, none⟩ = w.cell? ⟨b, o, none⟩ := by
  intro b o hb hne
  exact World.cell?_of_block (hg.block b hb (by rw [hr]; intro h; exact hne (Option.some.inj h)))

set_option maxRecDepth 100000 in
set_option maxHeartbeats 4000000 in
theorem walkT_1 (b off n cap : Nat) (h : Int) (D : Nat → Opt) (o : Opt) (w : World) (h0 : 0 < n) (hm : n ≤ 60) (hb : b < w.heap.size) (hD : Opts w b off n D) (hh0 : 0 ≤ h) (hh1 : h ≤ 255) (hq : h % 3 = 0) (hbt : betB 1 o.w o.p o.r o.l (D (bst 1 D n)).w (D (bst 1 D n)).p (D (bst 1 D n)).r (D (bst 1 D n)).l = true) :
    Calls Try.prog 7 #[.slice (some ⟨b, off, none⟩) n cap, .agg #[.string o.g, .int .i64 o.c, .slice o.s o.l o.k, .int .i64 o.w, .int .i64 o.p, .int .i64 o.r], .int .u8 h] w fun e w' => e = .returned (.bool true) ∧ Below w.heap.size w w' := by
  have HO := Lib.hid (show OptsAt w (some ⟨b, off, none⟩) n D from .inr ⟨b, off, rfl, hb, hD⟩)
  have HD := Lib.hid hD
  obtain ⟨dg, dc, ds, dw, dp, dr⟩ := hD
  have hba : b ≤ w.heap.size := by omega
  have hbb : b ≤ w.heap.size + 1 := by omega
  have hbd : b < w.heap.size + 1 + 1 := by omega
  have hbe : b < w.heap.size + 2 := by omega
  have hn0 : ((n : Int) == 0) = false := beq_eq_false_iff_ne.2 (by omega)
  have d1 : decide (60 < (n : Int)) = false := decide_eq_false (by omega)
  obtain ⟨i0, hi, hz0, hz1, hz2⟩ := info_parts Try.info27
  have Hi := Lib.hid hi
  have Hz0 := Lib.hid hz0
  have Hz1 := Lib.hid hz1
  have Hz2 := Lib.hid hz2
  clear hi hz0 hz1 hz2
  have k1 : chooseF 1 5 1 (fun _ => o) = 0 := choose_one 1 5 o (by decide) (by decide)
  have k2 : chooseF 4 5 1 (fun _ => o) = 0 := choose_one 4 5 o (by decide) (by decide)
  obtain ⟨q, hq', hqn⟩ : ∃ q, bst 1 D n = q ∧ q < n := ⟨_, rfl, bst_lt 1 D n h0⟩
  have c1 : chooseF 1 0 n D = (q : Int) := by unfold chooseF; rw [if_neg (by omega), if_neg (by decide), hq']
  have c2 := choose_more 1 0 n q D o h0 hq' (by decide) (by decide)
  rw [hq'] at hbt
  rw [hbt] at c2
  simp only [if_true] at c2
  have Hbt := Lib.hid hbt
  clear hq' hbt
  have d2 : decide ((q : Int) < 0) = false := decide_eq_false (by omega)
  have d3 : decide ((n : Int) ≤ (q : Int)) = false := decide_eq_false (by omega)
  have d4 : decide (n ≤ q) = false := decide_eq_false (by omega)
  go_enter Try.func7, Try.ntmps7
  go_wp2_with fail
  (go_at_call 11; refine (choose_any _ _ _ _ _ (fun _ => o) _ (opts_lit1 _ _ o (by simp)) (by decide)).mono ?_; rintro e w1 ⟨rfl, hb1⟩)
  obtain ⟨hc1, hf1⟩ := bcell hb1
  have hz1 := hb1.size
  (try simp at hz1)
  have z1_0 : w.heap.size < w1.heap.size := (by omega); have y1_0 : w.heap.size ≤ w1.heap.size := (by omega); have z1_1 : b < w1.heap.size := (by omega); have y1_1 : b ≤ w1.heap.size := (by omega)
  go_wp2_with fail
  (go_at_call 11; refine (choose_any _ _ _ _ _ (fun _ => o) _ (opts_lit1 _ _ o (by simp)) (by decide)).mono ?_; rintro e w2 ⟨rfl, hb2⟩)
  obtain ⟨hc2, hf2⟩ := bcell hb2
  have hz2 := hb2.size
  (try simp at hz2)
  have z2_0 : w.heap.size < w2.heap.size := (by omega); have y2_0 : w.heap.size ≤ w2.heap.size := (by omega); have z2_1 : b < w2.heap.size := (by omega); have y2_1 : b ≤ w2.heap.size := (by omega)
  have HO2 := Lib.hid (HO.out.below (show Below w.heap.size w w2 by (repeat' (first | with_reducible exact Below.refl _ _ | with_reducible assumption | with_reducible refine Below.drew ?_ | with_reducible refine below_drewN' ?_ _ | with_reducible refine Below.alloc ?_ ?_ _ | with_reducible refine Below.setCell ?_ ?_ _ | with_reducible refine below_step (by assumption) ?_ ?_ | omega | (simp; done) | (simp; omega)))))
  go_wp2_with fail
  (go_at_call 11; refine (choose_any _ _ _ _ _ D _ HO2.out (by omega)).mono ?_; rintro e w3 ⟨rfl, hb3⟩)
  obtain ⟨hc3, hf3⟩ := bcell hb3
  have hz3 := hb3.size
  (try simp at hz3)
  have z3_0 : w.heap.size < w3.heap.size := (by omega); have y3_0 : w.heap.size ≤ w3.heap.size := (by omega); have z3_1 : b < w3.heap.size := (by omega); have y3_1 : b ≤ w3.heap.size := (by omega)
  have HB3 := Lib.hid (show Below w.heap.size w w3 by (repeat' (first | with_reducible exact Below.refl _ _ | with_reducible assumption | with_reducible refine Below.drew ?_ | with_reducible refine below_drewN' ?_ _ | with_reducible refine Below.alloc ?_ ?_ _ | with_reducible refine Below.setCell ?_ ?_ _ | with_reducible refine below_step (by assumption) ?_ ?_ | omega | (simp; done) | (simp; omega))))
  have HO3 := Lib.hid (HO.out.below HB3.out)
  have HN := Lib.hid (opts_news (opts_of_at (HO3.out.below ((Below.refl _ w3).alloc (Nat.le_refl _) (.cells #[] 27))) h0))
  have hc3 : 0 + n ≤ maxLen := by unfold maxLen; omega
  have hc4 : (0 + n) * 72 ≤ 140737488355328 := by omega
  have hc5 : n + 1 ≤ maxLen := by unfold maxLen; omega
  have hc6 : (n + 1) * 72 ≤ 140737488355328 := by omega
  have Hrow := Lib.hid (orow_one D n o)
  go_wp2_with (first | (at_builtin; refine wpList_append_own _ rfl (.tmp 47) (.tmp 48) 22 rfl w3.heap.size 27 i0 _ 6 72 Try.underlying22 Hi.out Hz0.out Hz1.out Hz2.out rfl (by decide) _ 0 [] rfl (World.ownsRow_made w3 #[] 0 (Nat.le_refl w3.heap.size) (Nat.zero_le _) rfl) ⟨b, off, none⟩ n cap (orow D n) rfl (orow_length _ _) HN.out (orow_ones _ _) hc3 hc4 (le_alloc (Nat.le_refl w3.heap.size) _) ?_; intro v1 w4 hown1 hgrow1 _; rw [Nat.zero_add, List.nil_append] at hown1; have hb4 := own_below (World.ownsRow_made w3 #[] 0 (Nat.le_refl w3.heap.size) (Nat.zero_le _) rfl : (w3.alloc (.cells #[] 27)).ownsRow w3.heap.size 27 6 (.slice (some ⟨w3.heap.size, 0, none⟩) 0 0) 0 []) ((Below.refl _ w3).alloc (Nat.le_refl w3.heap.size) _) (le_alloc (Nat.le_refl w3.heap.size) _) hgrow1; have hz4 := hb4.size; have hz4a := Nat.lt_of_lt_of_le z3_0 hz4; have hz4b := Nat.lt_of_lt_of_le z3_1 hz4; obtain ⟨hcc4, hff4⟩ := bcell hb4; have HB4 := Lib.hid hb4; have HO4 := Lib.hid hown1; clear hown1 hgrow1 hb4) | (at_builtin; refine wpList_append_own _ rfl (.tmp 50) (.tmp 52) 22 rfl w3.heap.size 27 i0 _ 6 72 Try.underlying22 Hi.out Hz0.out Hz1.out Hz2.out rfl (by decide) _ n (orow D n) rfl (HO4.out.alloc _) ⟨w4.heap.size, 0, none⟩ 1 1 (ocs o) rfl rfl (news_at _ _ _) (ocs_one _) hc5 hc6 (le_alloc hz4 _) ?_; intro v2 w5 hown2 hgrow2 _; rw [Hrow.out] at hown2; have hb5 := own_below (HO4.out.alloc _) (HB4.out.alloc hz4 _) (le_alloc hz4 _) hgrow2; have hz5 := hb5.size; have hz5a := Nat.lt_of_lt_of_le z3_0 hz5; have hz5b := Nat.lt_of_lt_of_le z3_1 hz5; obtain ⟨hcc5, hff5⟩ := bcell hb5; have HB5 := Lib.hid hb5; have HO5 := Lib.hid hown2; clear hown2 hgrow2 hb5))
  obtain ⟨sp2, cp2, rfl, hO2, _⟩ := own_opts HO5.out
  have HB5' := HB5.out
  go_wp2_with fail
  (go_at_call 11; refine (choose_any _ _ _ _ _ (andOne D n o) _ hO2 (by omega)).mono ?_; rintro e w6 ⟨rfl, hb6⟩)
  obtain ⟨hc6, hf6⟩ := bcell hb6
  have hz6 := hb6.size
  (try simp at hz6)
  have z6_0 : w.heap.size < w6.heap.size := (by omega); have y6_0 : w.heap.size ≤ w6.heap.size := (by omega); have z6_1 : b < w6.heap.size := (by omega); have y6_1 : b ≤ w6.heap.size := (by omega)
  have HB3' := HB3.out
  obtain ⟨eg, ec, es, ew, ep, er⟩ := opts_of_at (HO.out.below (show Below w.heap.size w w6 by (repeat' (first | with_reducible exact Below.refl _ _ | with_reducible assumption | with_reducible refine Below.drew ?_ | with_reducible refine below_drewN' ?_ _ | with_reducible refine Below.alloc ?_ ?_ _ | with_reducible refine Below.setCell ?_ ?_ _ | with_reducible refine below_step (by assumption) ?_ ?_ | omega | (simp; done) | (simp; omega))))) h0
  go_wp2_with fail
  have hcH := held_cell
  refine region_below (by kernel_rfl) (by kernel_rfl) ?_
  repeat
    ((with_reducible refine wpQuiet_step (fun K hK => ?_))
     go_simp
     first
       | ((with_reducible refine hK _ ?_); clear hK K)
       | (apply Exists.intro
          (with_reducible refine ⟨fun n => ?_, hK _ ?_⟩)
          (first | (go_at_call 9; exact held_calls (better_any _ _ _ _ _ _ _ _ _ _ _ _ _ _ _ _ _ _)))
          clear hK K))
  with_reducible refine wpQuiet_nil ?_
  intro w7 hw2
  clear hcH
  obtain ⟨⟨_, hb7⟩, rfl⟩ := hw2
  (try dsimp only)
  obtain ⟨hc7, hf7⟩ := bcell hb7
  have hz7 := hb7.size
  (try simp at hz7)
  rw [Hbt.out]
  have hbz := HB3.out.size
  go_wp2_with (first | (go_at_call 8; refine (known_any _).mono ?_; rintro e w1 ⟨rfl, hb1⟩; obtain ⟨hc1, hf1⟩ := bcell hb1; have hz1 := hb1.size; (try simp at hz1); (try have hza : w.heap.size < w1.heap.size := by omega); (try have hzb : w.heap.size + 1 < w1.heap.size := by omega); (try have hzc : w.heap.size + 1 + 1 < w1.heap.size := by omega); (try have hzd : w.heap.size + 1 + 1 + 1 < w1.heap.size := by omega)))
  go_ret
  exact ⟨rfl, by (repeat' (first | with_reducible exact Below.refl _ _ | with_reducible assumption | with_reducible refine Below.drew ?_ | with_reducible refine below_drewN' ?_ _ | with_reducible refine Below.alloc ?_ ?_ _ | with_reducible refine Below.setCell ?_ ?_ _ | with_reducible refine below_step (by assumption) ?_ ?_ | omega | (simp; done) | (simp; omega)))⟩

set_option maxRecDepth 100000 in
set_option maxHeartbeats 4000000 in
theorem walkF_1 (b off n cap : Nat) (h : Int) (D : Nat → Opt) (o : Opt) (w : World) (h0 : 0 < n) (hm : n ≤ 60) (hb : b < w.heap.size) (hD : Opts w b off n D) (hh0 : 0 ≤ h) (hh1 : h ≤ 255) (hq : h % 3 = 0) (hbt : betB 1 o.w o.p o.r o.l (D (bst 1 D n)).w (D (bst 1 D n)).p (D (bst 1 D n)).r (D (bst 1 D n)).l = false) :
    Calls Try.prog 7 #[.slice (some ⟨b, off, none⟩) n cap, .agg #[.string o.g, .int .i64 o.c, .slice o.s o.l o.k, .int .i64 o.w, .int .i64 o.p, .int .i64 o.r], .int .u8 h] w fun e w' => e = .returned (.bool true) ∧ Below w.heap.size w w' := by
  have HO := Lib.hid (show OptsAt w (some ⟨b, off, none⟩) n D from .inr ⟨b, off, rfl, hb, hD⟩)
  have HD := Lib.hid hD
  obtain ⟨dg, dc, ds, dw, dp, dr⟩ := hD
  have hba : b ≤ w.heap.size := by omega
  have hbb : b ≤ w.heap.size + 1 := by omega
  have hbd : b < w.heap.size + 1 + 1 := by omega
  have hbe : b < w.heap.size + 2 := by omega
  have hn0 : ((n : Int) == 0) = false := beq_eq_false_iff_ne.2 (by omega)
  have d1 : decide (60 < (n : Int)) = false := decide_eq_false (by omega)
  obtain ⟨i0, hi, hz0, hz1, hz2⟩ := info_parts Try.info27
  have Hi := Lib.hid hi
  have Hz0 := Lib.hid hz0
  have Hz1 := Lib.hid hz1
  have Hz2 := Lib.hid hz2
  clear hi hz0 hz1 hz2
  have k1 : chooseF 1 5 1 (fun _ => o) = 0 := choose_one 1 5 o (by decide) (by decide)
  have k2 : chooseF 4 5 1 (fun _ => o) = 0 := choose_one 4 5 o (by decide) (by decide)
  obtain ⟨q, hq', hqn⟩ : ∃ q, bst 1 D n = q ∧ q < n := ⟨_, rfl, bst_lt 1 D n h0⟩
  have c1 : chooseF 1 0 n D = (q : Int) := by unfold chooseF; rw [if_neg (by omega), if_neg (by decide), hq']
  have c2 := choose_more 1 0 n q D o h0 hq' (by decide) (by decide)
  rw [hq'] at hbt
  rw [hbt] at c2
  simp only [Bool.false_eq_true, if_false] at c2
  have Hbt := Lib.hid hbt
  clear hq' hbt
  have d2 : decide ((q : Int) < 0) = false := decide_eq_false (by omega)
  have d3 : decide ((n : Int) ≤ (q : Int)) = false := decide_eq_false (by omega)
  have d4 : decide (n ≤ q) = false := decide_eq_false (by omega)
  go_enter Try.func7, Try.ntmps7
  go_wp2_with fail
  (go_at_call 11; refine (choose_any _ _ _ _ _ (fun _ => o) _ (opts_lit1 _ _ o (by simp)) (by decide)).mono ?_; rintro e w1 ⟨rfl, hb1⟩)
  obtain ⟨hc1, hf1⟩ := bcell hb1
  have hz1 := hb1.size
  (try simp at hz1)
  have z1_0 : w.heap.size < w1.heap.size := (by omega); have y1_0 : w.heap.size ≤ w1.heap.size := (by omega); have z1_1 : b < w1.heap.size := (by omega); have y1_1 : b ≤ w1.heap.size := (by omega)
  go_wp2_with fail
  (go_at_call 11; refine (choose_any _ _ _ _ _ (fun _ => o) _ (opts_lit1 _ _ o (by simp)) (by decide)).mono ?_; rintro e w2 ⟨rfl, hb2⟩)
  obtain ⟨hc2, hf2⟩ := bcell hb2
  have hz2 := hb2.size
  (try simp at hz2)
  have z2_0 : w.heap.size < w2.heap.size := (by omega); have y2_0 : w.heap.size ≤ w2.heap.size := (by omega); have z2_1 : b < w2.heap.size := (by omega); have y2_1 : b ≤ w2.heap.size := (by omega)
  have HO2 := Lib.hid (HO.out.below (show Below w.heap.size w w2 by (repeat' (first | with_reducible exact Below.refl _ _ | with_reducible assumption | with_reducible refine Below.drew ?_ | with_reducible refine below_drewN' ?_ _ | with_reducible refine Below.alloc ?_ ?_ _ | with_reducible refine Below.setCell ?_ ?_ _ | with_reducible refine below_step (by assumption) ?_ ?_ | omega | (simp; done) | (simp; omega)))))
  go_wp2_with fail
  (go_at_call 11; refine (choose_any _ _ _ _ _ D _ HO2.out (by omega)).mono ?_; rintro e w3 ⟨rfl, hb3⟩)
  obtain ⟨hc3, hf3⟩ := bcell hb3
  have hz3 := hb3.size
  (try simp at hz3)
  have z3_0 : w.heap.size < w3.heap.size := (by omega); have y3_0 : w.heap.size ≤ w3.heap.size := (by omega); have z3_1 : b < w3.heap.size := (by omega); have y3_1 : b ≤ w3.heap.size := (by omega)
  have HB3 := Lib.hid (show Below w.heap.size w w3 by (repeat' (first | with_reducible exact Below.refl _ _ | with_reducible assumption | with_reducible refine Below.drew ?_ | with_reducible refine below_drewN' ?_ _ | with_reducible refine Below.alloc ?_ ?_ _ | with_reducible refine Below.setCell ?_ ?_ _ | with_reducible refine below_step (by assumption) ?_ ?_ | omega | (simp; done) | (simp; omega))))
  have HO3 := Lib.hid (HO.out.below HB3.out)
  have HN := Lib.hid (opts_news (opts_of_at (HO3.out.below ((Below.refl _ w3).alloc (Nat.le_refl _) (.cells #[] 27))) h0))
  have hc3 : 0 + n ≤ maxLen := by unfold maxLen; omega
  have hc4 : (0 + n) * 72 ≤ 140737488355328 := by omega
  have hc5 : n + 1 ≤ maxLen := by unfold maxLen; omega
  have hc6 : (n + 1) * 72 ≤ 140737488355328 := by omega
  have Hrow := Lib.hid (orow_one D n o)
  go_wp2_with (first | (at_builtin; refine wpList_append_own _ rfl (.tmp 47) (.tmp 48) 22 rfl w3.heap.size 27 i0 _ 6 72 Try.underlying22 Hi.out Hz0.out Hz1.out Hz2.out rfl (by decide) _ 0 [] rfl (World.ownsRow_made w3 #[] 0 (Nat.le_refl w3.heap.size) (Nat.zero_le _) rfl) ⟨b, off, none⟩ n cap (orow D n) rfl (orow_length _ _) HN.out (orow_ones _ _) hc3 hc4 (le_alloc (Nat.le_refl w3.heap.size) _) ?_; intro v1 w4 hown1 hgrow1 _; rw [Nat.zero_add, List.nil_append] at hown1; have hb4 := own_below (World.ownsRow_made w3 #[] 0 (Nat.le_refl w3.heap.size) (Nat.zero_le _) rfl : (w3.alloc (.cells #[] 27)).ownsRow w3.heap.size 27 6 (.slice (some ⟨w3.heap.size, 0, none⟩) 0 0) 0 []) ((Below.refl _ w3).alloc (Nat.le_refl w3.heap.size) _) (le_alloc (Nat.le_refl w3.heap.size) _) hgrow1; have hz4 := hb4.size; have hz4a := Nat.lt_of_lt_of_le z3_0 hz4; have hz4b := Nat.lt_of_lt_of_le z3_1 hz4; obtain ⟨hcc4, hff4⟩ := bcell hb4; have HB4 := Lib.hid hb4; have HO4 := Lib.hid hown1; clear hown1 hgrow1 hb4) | (at_builtin; refine wpList_append_own _ rfl (.tmp 50) (.tmp 52) 22 rfl w3.heap.size 27 i0 _ 6 72 Try.underlying22 Hi.out Hz0.out Hz1.out Hz2.out rfl (by decide) _ n (orow D n) rfl (HO4.out.alloc _) ⟨w4.heap.size, 0, none⟩ 1 1 (ocs o) rfl rfl (news_at _ _ _) (ocs_one _) hc5 hc6 (le_alloc hz4 _) ?_; intro v2 w5 hown2 hgrow2 _; rw [Hrow.out] at hown2; have hb5 := own_below (HO4.out.alloc _) (HB4.out.alloc hz4 _) (le_alloc hz4 _) hgrow2; have hz5 := hb5.size; have hz5a := Nat.lt_of_lt_of_le z3_0 hz5; have hz5b := Nat.lt_of_lt_of_le z3_1 hz5; obtain ⟨hcc5, hff5⟩ := bcell hb5; have HB5 := Lib.hid hb5; have HO5 := Lib.hid hown2; clear hown2 hgrow2 hb5))
  obtain ⟨sp2, cp2, rfl, hO2, _⟩ := own_opts HO5.out
  have HB5' := HB5.out
  go_wp2_with fail
  (go_at_call 11; refine (choose_any _ _ _ _ _ (andOne D n o) _ hO2 (by omega)).mono ?_; rintro e w6 ⟨rfl, hb6⟩)
  obtain ⟨hc6, hf6⟩ := bcell hb6
  have hz6 := hb6.size
  (try simp at hz6)
  have z6_0 : w.heap.size < w6.heap.size := (by omega); have y6_0 : w.heap.size ≤ w6.heap.size := (by omega); have z6_1 : b < w6.heap.size := (by omega); have y6_1 : b ≤ w6.heap.size := (by omega)
  have HB3' := HB3.out
  obtain ⟨eg, ec, es, ew, ep, er⟩ := opts_of_at (HO.out.below (show Below w.heap.size w w6 by (repeat' (first | with_reducible exact Below.refl _ _ | with_reducible assumption | with_reducible refine Below.drew ?_ | with_reducible refine below_drewN' ?_ _ | with_reducible refine Below.alloc ?_ ?_ _ | with_reducible refine Below.setCell ?_ ?_ _ | with_reducible refine below_step (by assumption) ?_ ?_ | omega | (simp; done) | (simp; omega))))) h0
  go_wp2_with fail
  have hcH := held_cell
  refine region_below (by kernel_rfl) (by kernel_rfl) ?_
  repeat
    ((with_reducible refine wpQuiet_step (fun K hK => ?_))
     go_simp
     first
       | ((with_reducible refine hK _ ?_); clear hK K)
       | (apply Exists.intro
          (with_reducible refine ⟨fun n => ?_, hK _ ?_⟩)
          (first | (go_at_call 9; exact held_calls (better_any _ _ _ _ _ _ _ _ _ _ _ _ _ _ _ _ _ _)))
          clear hK K))
  with_reducible refine wpQuiet_nil ?_
  intro w7 hw2
  clear hcH
  obtain ⟨⟨_, hb7⟩, rfl⟩ := hw2
  (try dsimp only)
  obtain ⟨hc7, hf7⟩ := bcell hb7
  have hz7 := hb7.size
  (try simp at hz7)
  rw [Hbt.out]
  have hbz := HB3.out.size
  go_wp2_with (first | (go_at_call 8; refine (known_any _).mono ?_; rintro e w1 ⟨rfl, hb1⟩; obtain ⟨hc1, hf1⟩ := bcell hb1; have hz1 := hb1.size; (try simp at hz1); (try have hza : w.heap.size < w1.heap.size := by omega); (try have hzb : w.heap.size + 1 < w1.heap.size := by omega); (try have hzc : w.heap.size + 1 + 1 < w1.heap.size := by omega); (try have hzd : w.heap.size + 1 + 1 + 1 < w1.heap.size := by omega)))
  go_ret
  exact ⟨rfl, by (repeat' (first | with_reducible exact Below.refl _ _ | with_reducible assumption | with_reducible refine Below.drew ?_ | with_reducible refine below_drewN' ?_ _ | with_reducible refine Below.alloc ?_ ?_ _ | with_reducible refine Below.setCell ?_ ?_ _ | with_reducible refine below_step (by assumption) ?_ ?_ | omega | (simp; done) | (simp; omega)))⟩

set_option maxRecDepth 100000 in
set_option maxHeartbeats 4000000 in
theorem walkT_2 (b off n cap : Nat) (h : Int) (D : Nat → Opt) (o : Opt) (w : World) (h0 : 0 < n) (hm : n ≤ 60) (hb : b < w.heap.size) (hD : Opts w b off n D) (hh0 : 0 ≤ h) (hh1 : h ≤ 255) (hq : h % 3 = 1) (hbt : betB 2 o.w o.p o.r o.l (D (bst 2 D n)).w (D (bst 2 D n)).p (D (bst 2 D n)).r (D (bst 2 D n)).l = true) :
    Calls Try.prog 7 #[.slice (some ⟨b, off, none⟩) n cap, .agg #[.string o.g, .int .i64 o.c, .slice o.s o.l o.k, .int .i64 o.w, .int .i64 o.p, .int .i64 o.r], .int .u8 h] w fun e w' => e = .returned (.bool true) ∧ Below w.heap.size w w' := by
  have HO := Lib.hid (show OptsAt w (some ⟨b, off, none⟩) n D from .inr ⟨b, off, rfl, hb, hD⟩)
  have HD := Lib.hid hD
  obtain ⟨dg, dc, ds, dw, dp, dr⟩ := hD
  have hba : b ≤ w.heap.size := by omega
  have hbb : b ≤ w.heap.size + 1 := by omega
  have hbd : b < w.heap.size + 1 + 1 := by omega
  have hbe : b < w.heap.size + 2 := by omega
  have hn0 : ((n : Int) == 0) = false := beq_eq_false_iff_ne.2 (by omega)
  have d1 : decide (60 < (n : Int)) = false := decide_eq_false (by omega)
  obtain ⟨i0, hi, hz0, hz1, hz2⟩ := info_parts Try.info27
  have Hi := Lib.hid hi
  have Hz0 := Lib.hid hz0
  have Hz1 := Lib.hid hz1
  have Hz2 := Lib.hid hz2
  clear hi hz0 hz1 hz2
  have k1 : chooseF 2 5 1 (fun _ => o) = 0 := choose_one 2 5 o (by decide) (by decide)
  have k2 : chooseF 4 5 1 (fun _ => o) = 0 := choose_one 4 5 o (by decide) (by decide)
  obtain ⟨q, hq', hqn⟩ : ∃ q, bst 2 D n = q ∧ q < n := ⟨_, rfl, bst_lt 2 D n h0⟩
  have c1 : chooseF 2 0 n D = (q : Int) := by unfold chooseF; rw [if_neg (by omega), if_neg (by decide), hq']
  have c2 := choose_more 2 0 n q D o h0 hq' (by decide) (by decide)
  rw [hq'] at hbt
  rw [hbt] at c2
  simp only [if_true] at c2
  have Hbt := Lib.hid hbt
  clear hq' hbt
  have d2 : decide ((q : Int) < 0) = false := decide_eq_false (by omega)
  have d3 : decide ((n : Int) ≤ (q : Int)) = false := decide_eq_false (by omega)
  have d4 : decide (n ≤ q) = false := decide_eq_false (by omega)
  go_enter Try.func7, Try.ntmps7
  go_wp2_with fail
  (go_at_call 11; refine (choose_any _ _ _ _ _ (fun _ => o) _ (opts_lit1 _ _ o (by simp)) (by decide)).mono ?_; rintro e w1 ⟨rfl, hb1⟩)
  obtain ⟨hc1, hf1⟩ := bcell hb1
  have hz1 := hb1.size
  (try simp at hz1)
  have z1_0 : w.heap.size < w1.heap.size := (by omega); have y1_0 : w.heap.size ≤ w1.heap.size := (by omega); have z1_1 : b < w1.heap.size := (by omega); have y1_1 : b ≤ w1.heap.size := (by omega)
  go_wp2_with fail
  (go_at_call 11; refine (choose_any _ _ _ _ _ (fun _ => o) _ (opts_lit1 _ _ o (by simp)) (by decide)).mono ?_; rintro e w2 ⟨rfl, hb2⟩)
  obtain ⟨hc2, hf2⟩ := bcell hb2
  have hz2 := hb2.size
  (try simp at hz2)
  have z2_0 : w.heap.size < w2.heap.size := (by omega); have y2_0 : w.heap.size ≤ w2.heap.size := (by omega); have z2_1 : b < w2.heap.size := (by omega); have y2_1 : b ≤ w2.heap.size := (by omega)
  have HO2 := Lib.hid (HO.out.below (show Below w.heap.size w w2 by (repeat' (first | with_reducible exact Below.refl _ _ | with_reducible assumption | with_reducible refine Below.drew ?_ | with_reducible refine below_drewN' ?_ _ | with_reducible refine Below.alloc ?_ ?_ _ | with_reducible refine Below.setCell ?_ ?_ _ | with_reducible refine below_step (by assumption) ?_ ?_ | omega | (simp; done) | (simp; omega)))))
  go_wp2_with fail
  (go_at_call 11; refine (choose_any _ _ _ _ _ D _ HO2.out (by omega)).mono ?_; rintro e w3 ⟨rfl, hb3⟩)
  obtain ⟨hc3, hf3⟩ := bcell hb3
  have hz3 := hb3.size
  (try simp at hz3)
  have z3_0 : w.heap.size < w3.heap.size := (by omega); have y3_0 : w.heap.size ≤ w3.heap.size := (by omega); have z3_1 : b < w3.heap.size := (by omega); have y3_1 : b ≤ w3.heap.size := (by omega)
  have HB3 := Lib.hid (show Below w.heap.size w w3 by (repeat' (first | with_reducible exact Below.refl _ _ | with_reducible assumption | with_reducible refine Below.drew ?_ | with_reducible refine below_drewN' ?_ _ | with_reducible refine Below.alloc ?_ ?_ _ | with_reducible refine Below.setCell ?_ ?_ _ | with_reducible refine below_step (by assumption) ?_ ?_ | omega | (simp; done) | (simp; omega))))
  have HO3 := Lib.hid (HO.out.below HB3.out)
  have HN := Lib.hid (opts_news (opts_of_at (HO3.out.below ((Below.refl _ w3).alloc (Nat.le_refl _) (.cells #[] 27))) h0))
  have hc3 : 0 + n ≤ maxLen := by unfold maxLen; omega
  have hc4 : (0 + n) * 72 ≤ 140737488355328 := by omega
  have hc5 : n + 1 ≤ maxLen := by unfold maxLen; omega
  have hc6 : (n + 1) * 72 ≤ 140737488355328 := by omega
  have Hrow := Lib.hid (orow_one D n o)
  go_wp2_with (first | (at_builtin; refine wpList_append_own _ rfl (.tmp 47) (.tmp 48) 22 rfl w3.heap.size 27 i0 _ 6 72 Try.underlying22 Hi.out Hz0.out Hz1.out Hz2.out rfl (by decide) _ 0 [] rfl (World.ownsRow_made w3 #[] 0 (Nat.le_refl w3.heap.size) (Nat.zero_le _) rfl) ⟨b, off, none⟩ n cap (orow D n) rfl (orow_length _ _) HN.out (orow_ones _ _) hc3 hc4 (le_alloc (Nat.le_refl w3.heap.size) _) ?_; intro v1 w4 hown1 hgrow1 _; rw [Nat.zero_add, List.nil_append] at hown1; have hb4 := own_below (World.ownsRow_made w3 #[] 0 (Nat.le_refl w3.heap.size) (Nat.zero_le _) rfl : (w3.alloc (.cells #[] 27)).ownsRow w3.heap.size 27 6 (.slice (some ⟨w3.heap.size, 0, none⟩) 0 0) 0 []) ((Below.refl _ w3).alloc (Nat.le_refl w3.heap.size) _) (le_alloc (Nat.le_refl w3.heap.size) _) hgrow1; have hz4 := hb4.size; have hz4a := Nat.lt_of_lt_of_le z3_0 hz4; have hz4b := Nat.lt_of_lt_of_le z3_1 hz4; obtain ⟨hcc4, hff4⟩ := bcell hb4; have HB4 := Lib.hid hb4; have HO4 := Lib.hid hown1; clear hown1 hgrow1 hb4) | (at_builtin; refine wpList_append_own _ rfl (.tmp 50) (.tmp 52) 22 rfl w3.heap.size 27 i0 _ 6 72 Try.underlying22 Hi.out Hz0.out Hz1.out Hz2.out rfl (by decide) _ n (orow D n) rfl (HO4.out.alloc _) ⟨w4.heap.size, 0, none⟩ 1 1 (ocs o) rfl rfl (news_at _ _ _) (ocs_one _) hc5 hc6 (le_alloc hz4 _) ?_; intro v2 w5 hown2 hgrow2 _; rw [Hrow.out] at hown2; have hb5 := own_below (HO4.out.alloc _) (HB4.out.alloc hz4 _) (le_alloc hz4 _) hgrow2; have hz5 := hb5.size; have hz5a := Nat.lt_of_lt_of_le z3_0 hz5; have hz5b := Nat.lt_of_lt_of_le z3_1 hz5; obtain ⟨hcc5, hff5⟩ := bcell hb5; have HB5 := Lib.hid hb5; have HO5 := Lib.hid hown2; clear hown2 hgrow2 hb5))
  obtain ⟨sp2, cp2, rfl, hO2, _⟩ := own_opts HO5.out
  have HB5' := HB5.out
  go_wp2_with fail
  (go_at_call 11; refine (choose_any _ _ _ _ _ (andOne D n o) _ hO2 (by omega)).mono ?_; rintro e w6 ⟨rfl, hb6⟩)
  obtain ⟨hc6, hf6⟩ := bcell hb6
  have hz6 := hb6.size
  (try simp at hz6)
  have z6_0 : w.heap.size < w6.heap.size := (by omega); have y6_0 : w.heap.size ≤ w6.heap.size := (by omega); have z6_1 : b < w6.heap.size := (by omega); have y6_1 : b ≤ w6.heap.size := (by omega)
  have HB3' := HB3.out
  obtain ⟨eg, ec, es, ew, ep, er⟩ := opts_of_at (HO.out.below (show Below w.heap.size w w6 by (repeat' (first | with_reducible exact Below.refl _ _ | with_reducible assumption | with_reducible refine Below.drew ?_ | with_reducible refine below_drewN' ?_ _ | with_reducible refine Below.alloc ?_ ?_ _ | with_reducible refine Below.setCell ?_ ?_ _ | with_reducible refine below_step (by assumption) ?_ ?_ | omega | (simp; done) | (simp; omega))))) h0
  go_wp2_with fail
  have hcH := held_cell
  refine region_below (by kernel_rfl) (by kernel_rfl) ?_
  repeat
    ((with_reducible refine wpQuiet_step (fun K hK => ?_))
     go_simp
     first
       | ((with_reducible refine hK _ ?_); clear hK K)
       | (apply Exists.intro
          (with_reducible refine ⟨fun n => ?_, hK _ ?_⟩)
          (first | (go_at_call 9; exact held_calls (better_any _ _ _ _ _ _ _ _ _ _ _ _ _ _ _ _ _ _)))
          clear hK K))
  with_reducible refine wpQuiet_nil ?_
  intro w7 hw2
  clear hcH
  obtain ⟨⟨_, hb7⟩, rfl⟩ := hw2
  (try dsimp only)
  obtain ⟨hc7, hf7⟩ := bcell hb7
  have hz7 := hb7.size
  (try simp at hz7)
  rw [Hbt.out]
  have hbz := HB3.out.size
  go_wp2_with (first | (go_at_call 8; refine (known_any _).mono ?_; rintro e w1 ⟨rfl, hb1⟩; obtain ⟨hc1, hf1⟩ := bcell hb1; have hz1 := hb1.size; (try simp at hz1); (try have hza : w.heap.size < w1.heap.size := by omega); (try have hzb : w.heap.size + 1 < w1.heap.size := by omega); (try have hzc : w.heap.size + 1 + 1 < w1.heap.size := by omega); (try have hzd : w.heap.size + 1 + 1 + 1 < w1.heap.size := by omega)))
  go_ret
  exact ⟨rfl, by (repeat' (first | with_reducible exact Below.refl _ _ | with_reducible assumption | with_reducible refine Below.drew ?_ | with_reducible refine below_drewN' ?_ _ | with_reducible refine Below.alloc ?_ ?_ _ | with_reducible refine Below.setCell ?_ ?_ _ | with_reducible refine below_step (by assumption) ?_ ?_ | omega | (simp; done) | (simp; omega)))⟩

set_option maxRecDepth 100000 in
set_option maxHeartbeats 4000000 in
theorem walkF_2 (b off n cap : Nat) (h : Int) (D : Nat → Opt) (o : Opt) (w : World) (h0 : 0 < n) (hm : n ≤ 60) (hb : b < w.heap.size) (hD : Opts w b off n D) (hh0 : 0 ≤ h) (hh1 : h ≤ 255) (hq : h % 3 = 1) (hbt : betB 2 o.w o.p o.r o.l (D (bst 2 D n)).w (D (bst 2 D n)).p (D (bst 2 D n)).r (D (bst 2 D n)).l = false) :
    Calls Try.prog 7 #[.slice (some ⟨b, off, none⟩) n cap, .agg #[.string o.g, .int .i64 o.c, .slice o.s o.l o.k, .int .i64 o.w, .int .i64 o.p, .int .i64 o.r], .int .u8 h] w fun e w' => e = .returned (.bool true) ∧ Below w.heap.size w w' := by
  have HO := Lib.hid (show OptsAt w (some ⟨b, off, none⟩) n D from .inr ⟨b, off, rfl, hb, hD⟩)
  have HD := Lib.hid hD
  obtain ⟨dg, dc, ds, dw, dp, dr⟩ := hD
  have hba : b ≤ w.heap.size := by omega
  have hbb : b ≤ w.heap.size + 1 := by omega
  have hbd : b < w.heap.size + 1 + 1 := by omega
  have hbe : b < w.heap.size + 2 := by omega
  have hn0 : ((n : Int) == 0) = false := beq_eq_false_iff_ne.2 (by omega)
  have d1 : decide (60 < (n : Int)) = false := decide_eq_false (by omega)
  obtain ⟨i0, hi, hz0, hz1, hz2⟩ := info_parts Try.info27
  have Hi := Lib.hid hi
  have Hz0 := Lib.hid hz0
  have Hz1 := Lib.hid hz1
  have Hz2 := Lib.hid hz2
  clear hi hz0 hz1 hz2
  have k1 : chooseF 2 5 1 (fun _ => o) = 0 := choose_one 2 5 o (by decide) (by decide)
  have k2 : chooseF 4 5 1 (fun _ => o) = 0 := choose_one 4 5 o (by decide) (by decide)
  obtain ⟨q, hq', hqn⟩ : ∃ q, bst 2 D n = q ∧ q < n := ⟨_, rfl, bst_lt 2 D n h0⟩
  have c1 : chooseF 2 0 n D = (q : Int) := by unfold chooseF; rw [if_neg (by omega), if_neg (by decide), hq']
  have c2 := choose_more 2 0 n q D o h0 hq' (by decide) (by decide)
  rw [hq'] at hbt
  rw [hbt] at c2
  simp only [Bool.false_eq_true, if_false] at c2
  have Hbt := Lib.hid hbt
  clear hq' hbt
  have d2 : decide ((q : Int) < 0) = false := decide_eq_false (by omega)
  have d3 : decide ((n : Int) ≤ (q : Int)) = false := decide_eq_false (by omega)
  have d4 : decide (n ≤ q) = false := decide_eq_false (by omega)
  go_enter Try.func7, Try.ntmps7
  go_wp2_with fail
  (go_at_call 11; refine (choose_any _ _ _ _ _ (fun _ => o) _ (opts_lit1 _ _ o (by simp)) (by decide)).mono ?_; rintro e w1 ⟨rfl, hb1⟩)
  obtain ⟨hc1, hf1⟩ := bcell hb1
  have hz1 := hb1.size
  (try simp at hz1)
  have z1_0 : w.heap.size < w1.heap.size := (by omega); have y1_0 : w.heap.size ≤ w1.heap.size := (by omega); have z1_1 : b < w1.heap.size := (by omega); have y1_1 : b ≤ w1.heap.size := (by omega)
  go_wp2_with fail
  (go_at_call 11; refine (choose_any _ _ _ _ _ (fun _ => o) _ (opts_lit1 _ _ o (by simp)) (by decide)).mono ?_; rintro e w2 ⟨rfl, hb2⟩)
  obtain ⟨hc2, hf2⟩ := bcell hb2
  have hz2 := hb2.size
  (try simp at hz2)
  have z2_0 : w.heap.size < w2.heap.size := (by omega); have y2_0 : w.heap.size ≤ w2.heap.size := (by omega); have z2_1 : b < w2.heap.size := (by omega); have y2_1 : b ≤ w2.heap.size := (by omega)
  have HO2 := Lib.hid (HO.out.below (show Below w.heap.size w w2 by (repeat' (first | with_reducible exact Below.refl _ _ | with_reducible assumption | with_reducible refine Below.drew ?_ | with_reducible refine below_drewN' ?_ _ | with_reducible refine Below.alloc ?_ ?_ _ | with_reducible refine Below.setCell ?_ ?_ _ | with_reducible refine below_step (by assumption) ?_ ?_ | omega | (simp; done) | (simp; omega)))))
  go_wp2_with fail
  (go_at_call 11; refine (choose_any _ _ _ _ _ D _ HO2.out (by omega)).mono ?_; rintro e w3 ⟨rfl, hb3⟩)
  obtain ⟨hc3, hf3⟩ := bcell hb3
  have hz3 := hb3.size
  (try simp at hz3)
  have z3_0 : w.heap.size < w3.heap.size := (by omega); have y3_0 : w.heap.size ≤ w3.heap.size := (by omega); have z3_1 : b < w3.heap.size := (by omega); have y3_1 : b ≤ w3.heap.size := (by omega)
  have HB3 := Lib.hid (show Below w.heap.size w w3 by (repeat' (first | with_reducible exact Below.refl _ _ | with_reducible assumption | with_reducible refine Below.drew ?_ | with_reducible refine below_drewN' ?_ _ | with_reducible refine Below.alloc ?_ ?_ _ | with_reducible refine Below.setCell ?_ ?_ _ | with_reducible refine below_step (by assumption) ?_ ?_ | omega | (simp; done) | (simp; omega))))
  have HO3 := Lib.hid (HO.out.below HB3.out)
  have HN := Lib.hid (opts_news (opts_of_at (HO3.out.below ((Below.refl _ w3).alloc (Nat.le_refl _) (.cells #[] 27))) h0))
  have hc3 : 0 + n ≤ maxLen := by unfold maxLen; omega
  have hc4 : (0 + n) * 72 ≤ 140737488355328 := by omega
  have hc5 : n + 1 ≤ maxLen := by unfold maxLen; omega
  have hc6 : (n + 1) * 72 ≤ 140737488355328 := by omega
  have Hrow := Lib.hid (orow_one D n o)
  go_wp2_with (first | (at_builtin; refine wpList_append_own _ rfl (.tmp 47) (.tmp 48) 22 rfl w3.heap.size 27 i0 _ 6 72 Try.underlying22 Hi.out Hz0.out Hz1.out Hz2.out rfl (by decide) _ 0 [] rfl (World.ownsRow_made w3 #[] 0 (Nat.le_refl w3.heap.size) (Nat.zero_le _) rfl) ⟨b, off, none⟩ n cap (orow D n) rfl (orow_length _ _) HN.out (orow_ones _ _) hc3 hc4 (le_alloc (Nat.le_refl w3.heap.size) _) ?_; intro v1 w4 hown1 hgrow1 _; rw [Nat.zero_add, List.nil_append] at hown1; have hb4 := own_below (World.ownsRow_made w3 #[] 0 (Nat.le_refl w3.heap.size) (Nat.zero_le _) rfl : (w3.alloc (.cells #[] 27)).ownsRow w3.heap.size 27 6 (.slice (some ⟨w3.heap.size, 0, none⟩) 0 0) 0 []) ((Below.refl _ w3).alloc (Nat.le_refl w3.heap.size) _) (le_alloc (Nat.le_refl w3.heap.size) _) hgrow1; have hz4 := hb4.size; have hz4a := Nat.lt_of_lt_of_le z3_0 hz4; have hz4b := Nat.lt_of_lt_of_le z3_1 hz4; obtain ⟨hcc4, hff4⟩ := bcell hb4; have HB4 := Lib.hid hb4; have HO4 := Lib.hid hown1; clear hown1 hgrow1 hb4) | (at_builtin; refine wpList_append_own _ rfl (.tmp 50) (.tmp 52) 22 rfl w3.heap.size 27 i0 _ 6 72 Try.underlying22 Hi.out Hz0.out Hz1.out Hz2.out rfl (by decide) _ n (orow D n) rfl (HO4.out.alloc _) ⟨w4.heap.size, 0, none⟩ 1 1 (ocs o) rfl rfl (news_at _ _ _) (ocs_one _) hc5 hc6 (le_alloc hz4 _) ?_; intro v2 w5 hown2 hgrow2 _; rw [Hrow.out] at hown2; have hb5 := own_below (HO4.out.alloc _) (HB4.out.alloc hz4 _) (le_alloc hz4 _) hgrow2; have hz5 := hb5.size; have hz5a := Nat.lt_of_lt_of_le z3_0 hz5; have hz5b := Nat.lt_of_lt_of_le z3_1 hz5; obtain ⟨hcc5, hff5⟩ := bcell hb5; have HB5 := Lib.hid hb5; have HO5 := Lib.hid hown2; clear hown2 hgrow2 hb5))
  obtain ⟨sp2, cp2, rfl, hO2, _⟩ := own_opts HO5.out
  have HB5' := HB5.out
  go_wp2_with fail
  (go_at_call 11; refine (choose_any _ _ _ _ _ (andOne D n o) _ hO2 (by omega)).mono ?_; rintro e w6 ⟨rfl, hb6⟩)
  obtain ⟨hc6, hf6⟩ := bcell hb6
  have hz6 := hb6.size
  (try simp at hz6)
  have z6_0 : w.heap.size < w6.heap.size := (by omega); have y6_0 : w.heap.size ≤ w6.heap.size := (by omega); have z6_1 : b < w6.heap.size := (by omega); have y6_1 : b ≤ w6.heap.size := (by omega)
  have HB3' := HB3.out
  obtain ⟨eg, ec, es, ew, ep, er⟩ := opts_of_at (HO.out.below (show Below w.heap.size w w6 by (repeat' (first | with_reducible exact Below.refl _ _ | with_reducible assumption | with_reducible refine Below.drew ?_ | with_reducible refine below_drewN' ?_ _ | with_reducible refine Below.alloc ?_ ?_ _ | with_reducible refine Below.setCell ?_ ?_ _ | with_reducible refine below_step (by assumption) ?_ ?_ | omega | (simp; done) | (simp; omega))))) h0
  go_wp2_with fail
  have hcH := held_cell
  refine region_below (by kernel_rfl) (by kernel_rfl) ?_
  repeat
    ((with_reducible refine wpQuiet_step (fun K hK => ?_))
     go_simp
     first
       | ((with_reducible refine hK _ ?_); clear hK K)
       | (apply Exists.intro
          (with_reducible refine ⟨fun n => ?_, hK _ ?_⟩)
          (first | (go_at_call 9; exact held_calls (better_any _ _ _ _ _ _ _ _ _ _ _ _ _ _ _ _ _ _)))
          clear hK K))
  with_reducible refine wpQuiet_nil ?_
  intro w7 hw2
  clear hcH
  obtain ⟨⟨_, hb7⟩, rfl⟩ := hw2
  (try dsimp only)
  obtain ⟨hc7, hf7⟩ := bcell hb7
  have hz7 := hb7.size
  (try simp at hz7)
  rw [Hbt.out]
  have hbz := HB3.out.size
  go_wp2_with (first | (go_at_call 8; refine (known_any _).mono ?_; rintro e w1 ⟨rfl, hb1⟩; obtain ⟨hc1, hf1⟩ := bcell hb1; have hz1 := hb1.size; (try simp at hz1); (try have hza : w.heap.size < w1.heap.size := by omega); (try have hzb : w.heap.size + 1 < w1.heap.size := by omega); (try have hzc : w.heap.size + 1 + 1 < w1.heap.size := by omega); (try have hzd : w.heap.size + 1 + 1 + 1 < w1.heap.size := by omega)))
  go_ret
  exact ⟨rfl, by (repeat' (first | with_reducible exact Below.refl _ _ | with_reducible assumption | with_reducible refine Below.drew ?_ | with_reducible refine below_drewN' ?_ _ | with_reducible refine Below.alloc ?_ ?_ _ | with_reducible refine Below.setCell ?_ ?_ _ | with_reducible refine below_step (by assumption) ?_ ?_ | omega | (simp; done) | (simp; omega)))⟩

set_option maxRecDepth 100000 in
set_option maxHeartbeats 4000000 in
theorem walkT_3 (b off n cap : Nat) (h : Int) (D : Nat → Opt) (o : Opt) (w : World) (h0 : 0 < n) (hm : n ≤ 60) (hb : b < w.heap.size) (hD : Opts w b off n D) (hh0 : 0 ≤ h) (hh1 : h ≤ 255) (hq : h % 3 = 2) (hbt : betB 3 o.w o.p o.r o.l (D (bst 3 D n)).w (D (bst 3 D n)).p (D (bst 3 D n)).r (D (bst 3 D n)).l = true) :
    Calls Try.prog 7 #[.slice (some ⟨b, off, none⟩) n cap, .agg #[.string o.g, .int .i64 o.c, .slice o.s o.l o.k, .int .i64 o.w, .int .i64 o.p, .int .i64 o.r], .int .u8 h] w fun e w' => e = .returned (.bool true) ∧ Below w.heap.size w w' := by
  have HO := Lib.hid (show OptsAt w (some ⟨b, off, none⟩) n D from .inr ⟨b, off, rfl, hb, hD⟩)
  have HD := Lib.hid hD
  obtain ⟨dg, dc, ds, dw, dp, dr⟩ := hD
  have hba : b ≤ w.heap.size := by omega
  have hbb : b ≤ w.heap.size + 1 := by omega
  have hbd : b < w.heap.size + 1 + 1 := by omega
  have hbe : b < w.heap.size + 2 := by omega
  have hn0 : ((n : Int) == 0) = false := beq_eq_false_iff_ne.2 (by omega)
  have d1 : decide (60 < (n : Int)) = false := decide_eq_false (by omega)
  obtain ⟨i0, hi, hz0, hz1, hz2⟩ := info_parts Try.info27
  have Hi := Lib.hid hi
  have Hz0 := Lib.hid hz0
  have Hz1 := Lib.hid hz1
  have Hz2 := Lib.hid hz2
  clear hi hz0 hz1 hz2
  have k1 : chooseF 3 5 1 (fun _ => o) = 0 := choose_one 3 5 o (by decide) (by decide)
  have k2 : chooseF 4 5 1 (fun _ => o) = 0 := choose_one 4 5 o (by decide) (by decide)
  obtain ⟨q, hq', hqn⟩ : ∃ q, bst 3 D n = q ∧ q < n := ⟨_, rfl, bst_lt 3 D n h0⟩
  have c1 : chooseF 3 0 n D = (q : Int) := by unfold chooseF; rw [if_neg (by omega), if_neg (by decide), hq']
  have c2 := choose_more 3 0 n q D o h0 hq' (by decide) (by decide)
  rw [hq'] at hbt
  rw [hbt] at c2
  simp only [if_true] at c2
  have Hbt := Lib.hid hbt
  clear hq' hbt
  have d2 : decide ((q : Int) < 0) = false := decide_eq_false (by omega)
  have d3 : decide ((n : Int) ≤ (q : Int)) = false := decide_eq_false (by omega)
  have d4 : decide (n ≤ q) = false := decide_eq_false (by omega)
  go_enter Try.func7, Try.ntmps7
  go_wp2_with fail
  (go_at_call 11; refine (choose_any _ _ _ _ _ (fun _ => o) _ (opts_lit1 _ _ o (by simp)) (by decide)).mono ?_; rintro e w1 ⟨rfl, hb1⟩)
  obtain ⟨hc1, hf1⟩ := bcell hb1
  have hz1 := hb1.size
  (try simp at hz1)
  have z1_0 : w.heap.size < w1.heap.size := (by omega); have y1_0 : w.heap.size ≤ w1.heap.size := (by omega); have z1_1 : b < w1.heap.size := (by omega); have y1_1 : b ≤ w1.heap.size := (by omega)
  go_wp2_with fail
  (go_at_call 11; refine (choose_any _ _ _ _ _ (fun _ => o) _ (opts_lit1 _ _ o (by simp)) (by decide)).mono ?_; rintro e w2 ⟨rfl, hb2⟩)
  obtain ⟨hc2, hf2⟩ := bcell hb2
  have hz2 := hb2.size
  (try simp at hz2)
  have z2_0 : w.heap.size < w2.heap.size := (by omega); have y2_0 : w.heap.size ≤ w2.heap.size := (by omega); have z2_1 : b < w2.heap.size := (by omega); have y2_1 : b ≤ w2.heap.size := (by omega)
  have HO2 := Lib.hid (HO.out.below (show Below w.heap.size w w2 by (repeat' (first | with_reducible exact Below.refl _ _ | with_reducible assumption | with_reducible refine Below.drew ?_ | with_reducible refine below_drewN' ?_ _ | with_reducible refine Below.alloc ?_ ?_ _ | with_reducible refine Below.setCell ?_ ?_ _ | with_reducible refine below_step (by assumption) ?_ ?_ | omega | (simp; done) | (simp; omega)))))
  go_wp2_with fail
  (go_at_call 11; refine (choose_any _ _ _ _ _ D _ HO2.out (by omega)).mono ?_; rintro e w3 ⟨rfl, hb3⟩)
  obtain ⟨hc3, hf3⟩ := bcell hb3
  have hz3 := hb3.size
  (try simp at hz3)
  have z3_0 : w.heap.size < w3.heap.size := (by omega); have y3_0 : w.heap.size ≤ w3.heap.size := (by omega); have z3_1 : b < w3.heap.size := (by omega); have y3_1 : b ≤ w3.heap.size := (by omega)
  have HB3 := Lib.hid (show Below w.heap.size w w3 by (repeat' (first | with_reducible exact Below.refl _ _ | with_reducible assumption | with_reducible refine Below.drew ?_ | with_reducible refine below_drewN' ?_ _ | with_reducible refine Below.alloc ?_ ?_ _ | with_reducible refine Below.setCell ?_ ?_ _ | with_reducible refine below_step (by assumption) ?_ ?_ | omega | (simp; done) | (simp; omega))))
  have HO3 := Lib.hid (HO.out.below HB3.out)
  have HN := Lib.hid (opts_news (opts_of_at (HO3.out.below ((Below.refl _ w3).alloc (Nat.le_refl _) (.cells #[] 27))) h0))
  have hc3 : 0 + n ≤ maxLen := by unfold maxLen; omega
  have hc4 : (0 + n) * 72 ≤ 140737488355328 := by omega
  have hc5 : n + 1 ≤ maxLen := by unfold maxLen; omega
  have hc6 : (n + 1) * 72 ≤ 140737488355328 := by omega
  have Hrow := Lib.hid (orow_one D n o)
  go_wp2_with (first | (at_builtin; refine wpList_append_own _ rfl (.tmp 47) (.tmp 48) 22 rfl w3.heap.size 27 i0 _ 6 72 Try.underlying22 Hi.out Hz0.out Hz1.out Hz2.out rfl (by decide) _ 0 [] rfl (World.ownsRow_made w3 #[] 0 (Nat.le_refl w3.heap.size) (Nat.zero_le _) rfl) ⟨b, off, none⟩ n cap (orow D n) rfl (orow_length _ _) HN.out (orow_ones _ _) hc3 hc4 (le_alloc (Nat.le_refl w3.heap.size) _) ?_; intro v1 w4 hown1 hgrow1 _; rw [Nat.zero_add, List.nil_append] at hown1; have hb4 := own_below (World.ownsRow_made w3 #[] 0 (Nat.le_refl w3.heap.size) (Nat.zero_le _) rfl : (w3.alloc (.cells #[] 27)).ownsRow w3.heap.size 27 6 (.slice (some ⟨w3.heap.size, 0, none⟩) 0 0) 0 []) ((Below.refl _ w3).alloc (Nat.le_refl w3.heap.size) _) (le_alloc (Nat.le_refl w3.heap.size) _) hgrow1; have hz4 := hb4.size; have hz4a := Nat.lt_of_lt_of_le z3_0 hz4; have hz4b := Nat.lt_of_lt_of_le z3_1 hz4; obtain ⟨hcc4, hff4⟩ := bcell hb4; have HB4 := Lib.hid hb4; have HO4 := Lib.hid hown1; clear hown1 hgrow1 hb4) | (at_builtin; refine wpList_append_own _ rfl (.tmp 50) (.tmp 52) 22 rfl w3.heap.size 27 i0 _ 6 72 Try.underlying22 Hi.out Hz0.out Hz1.out Hz2.out rfl (by decide) _ n (orow D n) rfl (HO4.out.alloc _) ⟨w4.heap.size, 0, none⟩ 1 1 (ocs o) rfl rfl (news_at _ _ _) (ocs_one _) hc5 hc6 (le_alloc hz4 _) ?_; intro v2 w5 hown2 hgrow2 _; rw [Hrow.out] at hown2; have hb5 := own_below (HO4.out.alloc _) (HB4.out.alloc hz4 _) (le_alloc hz4 _) hgrow2; have hz5 := hb5.size; have hz5a := Nat.lt_of_lt_of_le z3_0 hz5; have hz5b := Nat.lt_of_lt_of_le z3_1 hz5; obtain ⟨hcc5, hff5⟩ := bcell hb5; have HB5 := Lib.hid hb5; have HO5 := Lib.hid hown2; clear hown2 hgrow2 hb5))
  obtain ⟨sp2, cp2, rfl, hO2, _⟩ := own_opts HO5.out
  have HB5' := HB5.out
  go_wp2_with fail
  (go_at_call 11; refine (choose_any _ _ _ _ _ (andOne D n o) _ hO2 (by omega)).mono ?_; rintro e w6 ⟨rfl, hb6⟩)
  obtain ⟨hc6, hf6⟩ := bcell hb6
  have hz6 := hb6.size
  (try simp at hz6)
  have z6_0 : w.heap.size < w6.heap.size := (by omega); have y6_0 : w.heap.size ≤ w6.heap.size := (by omega); have z6_1 : b < w6.heap.size := (by omega); have y6_1 : b ≤ w6.heap.size := (by omega)
  have HB3' := HB3.out
  obtain ⟨eg, ec, es, ew, ep, er⟩ := opts_of_at (HO.out.below (show Below w.heap.size w w6 by (repeat' (first | with_reducible exact Below.refl _ _ | with_reducible assumption | with_reducible refine Below.drew ?_ | with_reducible refine below_drewN' ?_ _ | with_reducible refine Below.alloc ?_ ?_ _ | with_reducible refine Below.setCell ?_ ?_ _ | with_reducible refine below_step (by assumption) ?_ ?_ | omega | (simp; done) | (simp; omega))))) h0
  go_wp2_with fail
  have hcH := held_cell
  refine region_below (by kernel_rfl) (by kernel_rfl) ?_
  repeat
    ((with_reducible refine wpQuiet_step (fun K hK => ?_))
     go_simp
     first
       | ((with_reducible refine hK _ ?_); clear hK K)
       | (apply Exists.intro
          (with_reducible refine ⟨fun n => ?_, hK _ ?_⟩)
          (first | (go_at_call 9; exact held_calls (better_any _ _ _ _ _ _ _ _ _ _ _ _ _ _ _ _ _ _)))
          clear hK K))
  with_reducible refine wpQuiet_nil ?_
  intro w7 hw2
  clear hcH
  obtain ⟨⟨_, hb7⟩, rfl⟩ := hw2
  (try dsimp only)
  obtain ⟨hc7, hf7⟩ := bcell hb7
  have hz7 := hb7.size
  (try simp at hz7)
  rw [Hbt.out]
  have hbz := HB3.out.size
  go_wp2_with (first | (go_at_call 8; refine (known_any _).mono ?_; rintro e w1 ⟨rfl, hb1⟩; obtain ⟨hc1, hf1⟩ := bcell hb1; have hz1 := hb1.size; (try simp at hz1); (try have hza : w.heap.size < w1.heap.size := by omega); (try have hzb : w.heap.size + 1 < w1.heap.size := by omega); (try have hzc : w.heap.size + 1 + 1 < w1.heap.size := by omega); (try have hzd : w.heap.size + 1 + 1 + 1 < w1.heap.size := by omega)))
  go_ret
  exact ⟨rfl, by (repeat' (first | with_reducible exact Below.refl _ _ | with_reducible assumption | with_reducible refine Below.drew ?_ | with_reducible refine below_drewN' ?_ _ | with_reducible refine Below.alloc ?_ ?_ _ | with_reducible refine Below.setCell ?_ ?_ _ | with_reducible refine below_step (by assumption) ?_ ?_ | omega | (simp; done) | (simp; omega)))⟩

set_option maxRecDepth 100000 in
set_option maxHeartbeats 4000000 in
theorem walkF_3 (b off n cap : Nat) (h : Int) (D : Nat → Opt) (o : Opt) (w : World) (h0 : 0 < n) (hm : n ≤ 60) (hb : b < w.heap.size) (hD : Opts w b off n D) (hh0 : 0 ≤ h) (hh1 : h ≤ 255) (hq : h % 3 = 2) (hbt : betB 3 o.w o.p o.r o.l (D (bst 3 D n)).w (D (bst 3 D n)).p (D (bst 3 D n)).r (D (bst 3 D n)).l = false) :
    Calls Try.prog 7 #[.slice (some ⟨b, off, none⟩) n cap, .agg #[.string o.g, .int .i64 o.c, .slice o.s o.l o.k, .int .i64 o.w, .int .i64 o.p, .int .i64 o.r], .int .u8 h] w fun e w' => e = .returned (.bool true) ∧ Below w.heap.size w w' := by
  have HO := Lib.hid (show OptsAt w (some ⟨b, off, none⟩) n D from .inr ⟨b, off, rfl, hb, hD⟩)
  have HD := Lib.hid hD
  obtain ⟨dg, dc, ds, dw, dp, dr⟩ := hD
  have hba : b ≤ w.heap.size := by omega
  have hbb : b ≤ w.heap.size + 1 := by omega
  have hbd : b < w.heap.size + 1 + 1 := by omega
  have hbe : b < w.heap.size + 2 := by omega
  have hn0 : ((n : Int) == 0) = false := beq_eq_false_iff_ne.2 (by omega)
  have d1 : decide (60 < (n : Int)) = false := decide_eq_false (by omega)
  obtain ⟨i0, hi, hz0, hz1, hz2⟩ := info_parts Try.info27
  have Hi := Lib.hid hi
  have Hz0 := Lib.hid hz0
  have Hz1 := Lib.hid hz1
  have Hz2 := Lib.hid hz2
  clear hi hz0 hz1 hz2
  have k1 : chooseF 3 5 1 (fun _ => o) = 0 := choose_one 3 5 o (by decide) (by decide)
  have k2 : chooseF 4 5 1 (fun _ => o) = 0 := choose_one 4 5 o (by decide) (by decide)
  obtain ⟨q, hq', hqn⟩ : ∃ q, bst 3 D n = q ∧ q < n := ⟨_, rfl, bst_lt 3 D n h0⟩
  have c1 : chooseF 3 0 n D = (q : Int) := by unfold chooseF; rw [if_neg (by omega), if_neg (by decide), hq']
  have c2 := choose_more 3 0 n q D o h0 hq' (by decide) (by decide)
  rw [hq'] at hbt
  rw [hbt] at c2
  simp only [Bool.false_eq_true, if_false] at c2
  have Hbt := Lib.hid hbt
  clear hq' hbt
  have d2 : decide ((q : Int) < 0) = false := decide_eq_false (by omega)
  have d3 : decide ((n : Int) ≤ (q : Int)) = false := decide_eq_false (by omega)
  have d4 : decide (n ≤ q) = false := decide_eq_false (by omega)
  go_enter Try.func7, Try.ntmps7
  go_wp2_with fail
  (go_at_call 11; refine (choose_any _ _ _ _ _ (fun _ => o) _ (opts_lit1 _ _ o (by simp)) (by decide)).mono ?_; rintro e w1 ⟨rfl, hb1⟩)
  obtain ⟨hc1, hf1⟩ := bcell hb1
  have hz1 := hb1.size
  (try simp at hz1)
  have z1_0 : w.heap.size < w1.heap.size := (by omega); have y1_0 : w.heap.size ≤ w1.heap.size := (by omega); have z1_1 : b < w1.heap.size := (by omega); have y1_1 : b ≤ w1.heap.size := (by omega)
  go_wp2_with fail
  (go_at_call 11; refine (choose_any _ _ _ _ _ (fun _ => o) _ (opts_lit1 _ _ o (by simp)) (by decide)).mono ?_; rintro e w2 ⟨rfl, hb2⟩)
  obtain ⟨hc2, hf2⟩ := bcell hb2
  have hz2 := hb2.size
  (try simp at hz2)
  have z2_0 : w.heap.size < w2.heap.size := (by omega); have y2_0 : w.heap.size ≤ w2.heap.size := (by omega); have z2_1 : b < w2.heap.size := (by omega); have y2_1 : b ≤ w2.heap.size := (by omega)
  have HO2 := Lib.hid (HO.out.below (show Below w.heap.size w w2 by (repeat' (first | with_reducible exact Below.refl _ _ | with_reducible assumption | with_reducible refine Below.drew ?_ | with_reducible refine below_drewN' ?_ _ | with_reducible refine Below.alloc ?_ ?_ _ | with_reducible refine Below.setCell ?_ ?_ _ | with_reducible refine below_step (by assumption) ?_ ?_ | omega | (simp; done) | (simp; omega)))))
  go_wp2_with fail
  (go_at_call 11; refine (choose_any _ _ _ _ _ D _ HO2.out (by omega)).mono ?_; rintro e w3 ⟨rfl, hb3⟩)
  obtain ⟨hc3, hf3⟩ := bcell hb3
  have hz3 := hb3.size
  (try simp at hz3)
  have z3_0 : w.heap.size < w3.heap.size := (by omega); have y3_0 : w.heap.size ≤ w3.heap.size := (by omega); have z3_1 : b < w3.heap.size := (by omega); have y3_1 : b ≤ w3.heap.size := (by omega)
  have HB3 := Lib.hid (show Below w.heap.size w w3 by (repeat' (first | with_reducible exact Below.refl _ _ | with_reducible assumption | with_reducible refine Below.drew ?_ | with_reducible refine below_drewN' ?_ _ | with_reducible refine Below.alloc ?_ ?_ _ | with_reducible refine Below.setCell ?_ ?_ _ | with_reducible refine below_step (by assumption) ?_ ?_ | omega | (simp; done) | (simp; omega))))
  have HO3 := Lib.hid (HO.out.below HB3.out)
  have HN := Lib.hid (opts_news (opts_of_at (HO3.out.below ((Below.refl _ w3).alloc (Nat.le_refl _) (.cells #[] 27))) h0))
  have hc3 : 0 + n ≤ maxLen := by unfold maxLen; omega
  have hc4 : (0 + n) * 72 ≤ 140737488355328 := by omega
  have hc5 : n + 1 ≤ maxLen := by unfold maxLen; omega
  have hc6 : (n + 1) * 72 ≤ 140737488355328 := by omega
  have Hrow := Lib.hid (orow_one D n o)
  go_wp2_with (first | (at_builtin; refine wpList_append_own _ rfl (.tmp 47) (.tmp 48) 22 rfl w3.heap.size 27 i0 _ 6 72 Try.underlying22 Hi.out Hz0.out Hz1.out Hz2.out rfl (by decide) _ 0 [] rfl (World.ownsRow_made w3 #[] 0 (Nat.le_refl w3.heap.size) (Nat.zero_le _) rfl) ⟨b, off, none⟩ n cap (orow D n) rfl (orow_length _ _) HN.out (orow_ones _ _) hc3 hc4 (le_alloc (Nat.le_refl w3.heap.size) _) ?_; intro v1 w4 hown1 hgrow1 _; rw [Nat.zero_add, List.nil_append] at hown1; have hb4 := own_below (World.ownsRow_made w3 #[] 0 (Nat.le_refl w3.heap.size) (Nat.zero_le _) rfl : (w3.alloc (.cells #[] 27)).ownsRow w3.heap.size 27 6 (.slice (some ⟨w3.heap.size, 0, none⟩) 0 0) 0 []) ((Below.refl _ w3).alloc (Nat.le_refl w3.heap.size) _) (le_alloc (Nat.le_refl w3.heap.size) _) hgrow1; have hz4 := hb4.size; have hz4a := Nat.lt_of_lt_of_le z3_0 hz4; have hz4b := Nat.lt_of_lt_of_le z3_1 hz4; obtain ⟨hcc4, hff4⟩ := bcell hb4; have HB4 := Lib.hid hb4; have HO4 := Lib.hid hown1; clear hown1 hgrow1 hb4) | (at_builtin; refine wpList_append_own _ rfl (.tmp 50) (.tmp 52) 22 rfl w3.heap.size 27 i0 _ 6 72 Try.underlying22 Hi.out Hz0.out Hz1.out Hz2.out rfl (by decide) _ n (orow D n) rfl (HO4.out.alloc _) ⟨w4.heap.size, 0, none⟩ 1 1 (ocs o) rfl rfl (news_at _ _ _) (ocs_one _) hc5 hc6 (le_alloc hz4 _) ?_; intro v2 w5 hown2 hgrow2 _; rw [Hrow.out] at hown2; have hb5 := own_below (HO4.out.alloc _) (HB4.out.alloc hz4 _) (le_alloc hz4 _) hgrow2; have hz5 := hb5.size; have hz5a := Nat.lt_of_lt_of_le z3_0 hz5; have hz5b := Nat.lt_of_lt_of_le z3_1 hz5; obtain ⟨hcc5, hff5⟩ := bcell hb5; have HB5 := Lib.hid hb5; have HO5 := Lib.hid hown2; clear hown2 hgrow2 hb5))
  obtain ⟨sp2, cp2, rfl, hO2, _⟩ := own_opts HO5.out
  have HB5' := HB5.out
  go_wp2_with fail
  (go_at_call 11; refine (choose_any _ _ _ _ _ (andOne D n o) _ hO2 (by omega)).mono ?_; rintro e w6 ⟨rfl, hb6⟩)
  obtain ⟨hc6, hf6⟩ := bcell hb6
  have hz6 := hb6.size
  (try simp at hz6)
  have z6_0 : w.heap.size < w6.heap.size := (by omega); have y6_0 : w.heap.size ≤ w6.heap.size := (by omega); have z6_1 : b < w6.heap.size := (by omega); have y6_1 : b ≤ w6.heap.size := (by omega)
  have HB3' := HB3.out
  obtain ⟨eg, ec, es, ew, ep, er⟩ := opts_of_at (HO.out.below (show Below w.heap.size w w6 by (repeat' (first | with_reducible exact Below.refl _ _ | with_reducible assumption | with_reducible refine Below.drew ?_ | with_reducible refine below_drewN' ?_ _ | with_reducible refine Below.alloc ?_ ?_ _ | with_reducible refine Below.setCell ?_ ?_ _ | with_reducible refine below_step (by assumption) ?_ ?_ | omega | (simp; done) | (simp; omega))))) h0
  go_wp2_with fail
  have hcH := held_cell
  refine region_below (by kernel_rfl) (by kernel_rfl) ?_
  repeat
    ((with_reducible refine wpQuiet_step (fun K hK => ?_))
     go_simp
     first
       | ((with_reducible refine hK _ ?_); clear hK K)
       | (apply Exists.intro
          (with_reducible refine ⟨fun n => ?_, hK _ ?_⟩)
          (first | (go_at_call 9; exact held_calls (better_any _ _ _ _ _ _ _ _ _ _ _ _ _ _ _ _ _ _)))
          clear hK K))
  with_reducible refine wpQuiet_nil ?_
  intro w7 hw2
  clear hcH
  obtain ⟨⟨_, hb7⟩, rfl⟩ := hw2
  (try dsimp only)
  obtain ⟨hc7, hf7⟩ := bcell hb7
  have hz7 := hb7.size
  (try simp at hz7)
  rw [Hbt.out]
  have hbz := HB3.out.size
  go_wp2_with (first | (go_at_call 8; refine (known_any _).mono ?_; rintro e w1 ⟨rfl, hb1⟩; obtain ⟨hc1, hf1⟩ := bcell hb1; have hz1 := hb1.size; (try simp at hz1); (try have hza : w.heap.size < w1.heap.size := by omega); (try have hzb : w.heap.size + 1 < w1.heap.size := by omega); (try have hzc : w.heap.size + 1 + 1 < w1.heap.size := by omega); (try have hzd : w.heap.size + 1 + 1 + 1 < w1.heap.size := by omega)))
  go_ret
  exact ⟨rfl, by (repeat' (first | with_reducible exact Below.refl _ _ | with_reducible assumption | with_reducible refine Below.drew ?_ | with_reducible refine below_drewN' ?_ _ | with_reducible refine Below.alloc ?_ ?_ _ | with_reducible refine Below.setCell ?_ ?_ _ | with_reducible refine below_step (by assumption) ?_ ?_ | omega | (simp; done) | (simp; omega)))⟩

set_option maxRecDepth 100000 in
set_option maxHeartbeats 1000000 in
theorem walk_long (sp : Option Addr) (n cap : Nat) (h : Int) (o : Opt) (w : World) (hm : n ≤ 9223372036854775807) (hn : 60 < n) :
    Calls Try.prog 7 #[.slice sp n cap, .agg #[.string o.g, .int .i64 o.c, .slice o.s o.l o.k, .int .i64 o.w, .int .i64 o.p, .int .i64 o.r], .int .u8 h] w fun e w' => e = .returned (.bool true) ∧ Below w.heap.size w w' := by
  go_enter Try.func7, Try.ntmps7
  go_wp2_with (first | (go_at_call 8; refine (known_any _).mono ?_; rintro e w1 ⟨rfl, hb1⟩; obtain ⟨hc1, hf1⟩ := bcell hb1; have hz1 := hb1.size; (try simp at hz1); (try have hza : w.heap.size < w1.heap.size := by omega); (try have hzb : w.heap.size + 1 < w1.heap.size := by omega); (try have hzc : w.heap.size + 1 + 1 < w1.heap.size := by omega); (try have hzd : w.heap.size + 1 + 1 + 1 < w1.heap.size := by omega)))
  go_ret
  exact ⟨rfl, by (repeat' (first | with_reducible exact Below.refl _ _ | with_reducible assumption | with_reducible refine Below.drew ?_ | with_reducible refine below_drewN' ?_ _ | with_reducible refine Below.alloc ?_ ?_ _ | with_reducible refine Below.setCell ?_ ?_ _ | with_reducible refine below_step (by assumption) ?_ ?_ | omega | (simp; done) | (simp; omega)))⟩

set_option maxRecDepth 100000 in
set_option maxHeartbeats 2000000 in
theorem walkZ_1 (sp : Option Addr) (cap : Nat) (h : Int) (o : Opt) (w : World) (hh0 : 0 ≤ h) (hh1 : h ≤ 255) (hq : h % 3 = 0) :
    Calls Try.prog 7 #[.slice sp 0 cap, .agg #[.string o.g, .int .i64 o.c, .slice o.s o.l o.k, .int .i64 o.w, .int .i64 o.p, .int .i64 o.r], .int .u8 h] w fun e w' => e = .returned (.bool true) ∧ Below w.heap.size w w' := by
  have k1 : chooseF 1 5 1 (fun _ => o) = 0 := choose_one 1 5 o (by decide) (by decide)
  have k2 : chooseF 4 5 1 (fun _ => o) = 0 := choose_one 4 5 o (by decide) (by decide)
  have k3 : chooseF 1 0 0 (fun _ => o) = -1 := rfl
  go_enter Try.func7, Try.ntmps7
  go_wp2_with fail
  (go_at_call 11; refine (choose_any _ _ _ _ _ (fun _ => o) _ (opts_lit1 _ _ o (by simp)) (by decide)).mono ?_; rintro e w1 ⟨rfl, hb1⟩)
  obtain ⟨hc1, hf1⟩ := bcell hb1
  have hz1 := hb1.size
  (try simp at hz1)
  have z1_0 : w.heap.size < w1.heap.size := (by omega); have y1_0 : w.heap.size ≤ w1.heap.size := (by omega)
  go_wp2_with fail
  (go_at_call 11; refine (choose_any _ _ _ _ _ (fun _ => o) _ (opts_lit1 _ _ o (by simp)) (by decide)).mono ?_; rintro e w2 ⟨rfl, hb2⟩)
  obtain ⟨hc2, hf2⟩ := bcell hb2
  have hz2 := hb2.size
  (try simp at hz2)
  have z2_0 : w.heap.size < w2.heap.size := (by omega); have y2_0 : w.heap.size ≤ w2.heap.size := (by omega)
  go_wp2_with fail
  (go_at_call 11; refine (choose_any _ 0 _ _ _ (fun _ => o) _ (OptsAt.zero _ _ _) (by decide)).mono ?_; rintro e w3 ⟨rfl, hb3⟩)
  obtain ⟨hc3, hf3⟩ := bcell hb3
  have hz3 := hb3.size
  (try simp at hz3)
  have z3_0 : w.heap.size < w3.heap.size := (by omega); have y3_0 : w.heap.size ≤ w3.heap.size := (by omega)
  go_wp2_with (first | (go_at_call 8; refine (known_any _).mono ?_; rintro e w1 ⟨rfl, hb1⟩; obtain ⟨hc1, hf1⟩ := bcell hb1; have hz1 := hb1.size; (try simp at hz1); (try have hza : w.heap.size < w1.heap.size := by omega); (try have hzb : w.heap.size + 1 < w1.heap.size := by omega); (try have hzc : w.heap.size + 1 + 1 < w1.heap.size := by omega); (try have hzd : w.heap.size + 1 + 1 + 1 < w1.heap.size := by omega)))
  go_ret
  exact ⟨rfl, by (repeat' (first | with_reducible exact Below.refl _ _ | with_reducible assumption | with_reducible refine Below.drew ?_ | with_reducible refine below_drewN' ?_ _ | with_reducible refine Below.alloc ?_ ?_ _ | with_reducible refine Below.setCell ?_ ?_ _ | with_reducible refine below_step (by assumption) ?_ ?_ | omega | (simp; done) | (simp; omega)))⟩

set_option maxRecDepth 100000 in
set_option maxHeartbeats 2000000 in
theorem walkZ_2 (sp : Option Addr) (cap : Nat) (h : Int) (o : Opt) (w : World) (hh0 : 0 ≤ h) (hh1 : h ≤ 255) (hq : h % 3 = 1) :
    Calls Try.prog 7 #[.slice sp 0 cap, .agg #[.string o.g, .int .i64 o.c, .slice o.s o.l o.k, .int .i64 o.w, .int .i64 o.p, .int .i64 o.r], .int .u8 h] w fun e w' => e = .returned (.bool true) ∧ Below w.heap.size w w' := by
  have k1 : chooseF 2 5 1 (fun _ => o) = 0 := choose_one 2 5 o (by decide) (by decide)
  have k2 : chooseF 4 5 1 (fun _ => o) = 0 := choose_one 4 5 o (by decide) (by decide)
  have k3 : chooseF 2 0 0 (fun _ => o) = -1 := rfl
  go_enter Try.func7, Try.ntmps7
  go_wp2_with fail
  (go_at_call 11; refine (choose_any _ _ _ _ _ (fun _ => o) _ (opts_lit1 _ _ o (by simp)) (by decide)).mono ?_; rintro e w1 ⟨rfl, hb1⟩)
  obtain ⟨hc1, hf1⟩ := bcell hb1
  have hz1 := hb1.size
  (try simp at hz1)
  have z1_0 : w.heap.size < w1.heap.size := (by omega); have y1_0 : w.heap.size ≤ w1.heap.size := (by omega)
  go_wp2_with fail
  (go_at_call 11; refine (choose_any _ _ _ _ _ (fun _ => o) _ (opts_lit1 _ _ o (by simp)) (by decide)).mono ?_; rintro e w2 ⟨rfl, hb2⟩)
  obtain ⟨hc2, hf2⟩ := bcell hb2
  have hz2 := hb2.size
  (try simp at hz2)
  have z2_0 : w.heap.size < w2.heap.size := (by omega); have y2_0 : w.heap.size ≤ w2.heap.size := (by omega)
  go_wp2_with fail
  (go_at_call 11; refine (choose_any _ 0 _ _ _ (fun _ => o) _ (OptsAt.zero _ _ _) (by decide)).mono ?_; rintro e w3 ⟨rfl, hb3⟩)
  obtain ⟨hc3, hf3⟩ := bcell hb3
  have hz3 := hb3.size
  (try simp at hz3)
  have z3_0 : w.heap.size < w3.heap.size := (by omega); have y3_0 : w.heap.size ≤ w3.heap.size := (by omega)
  go_wp2_with (first | (go_at_call 8; refine (known_any _).mono ?_; rintro e w1 ⟨rfl, hb1⟩; obtain ⟨hc1, hf1⟩ := bcell hb1; have hz1 := hb1.size; (try simp at hz1); (try have hza : w.heap.size < w1.heap.size := by omega); (try have hzb : w.heap.size + 1 < w1.heap.size := by omega); (try have hzc : w.heap.size + 1 + 1 < w1.heap.size := by omega); (try have hzd : w.heap.size + 1 + 1 + 1 < w1.heap.size := by omega)))
  go_ret
  exact ⟨rfl, by (repeat' (first | with_reducible exact Below.refl _ _ | with_reducible assumption | with_reducible refine Below.drew ?_ | with_reducible refine below_drewN' ?_ _ | with_reducible refine Below.alloc ?_ ?_ _ | with_reducible refine Below.setCell ?_ ?_ _ | with_reducible refine below_step (by assumption) ?_ ?_ | omega | (simp; done) | (simp; omega)))⟩

set_option maxRecDepth 100000 in
set_option maxHeartbeats 2000000 in
theorem walkZ_3 (sp : Option Addr) (cap : Nat) (h : Int) (o : Opt) (w : World) (hh0 : 0 ≤ h) (hh1 : h ≤ 255) (hq : h % 3 = 2) :
    Calls Try.prog 7 #[.slice sp 0 cap, .agg #[.string o.g, .int .i64 o.c, .slice o.s o.l o.k, .int .i64 o.w, .int .i64 o.p, .int .i64 o.r], .int .u8 h] w fun e w' => e = .returned (.bool true) ∧ Below w.heap.size w w' := by
  have k1 : chooseF 3 5 1 (fun _ => o) = 0 := choose_one 3 5 o (by decide) (by decide)
  have k2 : chooseF 4 5 1 (fun _ => o) = 0 := choose_one 4 5 o (by decide) (by decide)
  have k3 : chooseF 3 0 0 (fun _ => o) = -1 := rfl
  go_enter Try.func7, Try.ntmps7
  go_wp2_with fail
  (go_at_call 11; refine (choose_any _ _ _ _ _ (fun _ => o) _ (opts_lit1 _ _ o (by simp)) (by decide)).mono ?_; rintro e w1 ⟨rfl, hb1⟩)
  obtain ⟨hc1, hf1⟩ := bcell hb1
  have hz1 := hb1.size
  (try simp at hz1)
  have z1_0 : w.heap.size < w1.heap.size := (by omega); have y1_0 : w.heap.size ≤ w1.heap.size := (by omega)
  go_wp2_with fail
  (go_at_call 11; refine (choose_any _ _ _ _ _ (fun _ => o) _ (opts_lit1 _ _ o (by simp)) (by decide)).mono ?_; rintro e w2 ⟨rfl, hb2⟩)
  obtain ⟨hc2, hf2⟩ := bcell hb2
  have hz2 := hb2.size
  (try simp at hz2)
  have z2_0 : w.heap.size < w2.heap.size := (by omega); have y2_0 : w.heap.size ≤ w2.heap.size := (by omega)
  go_wp2_with fail
  (go_at_call 11; refine (choose_any _ 0 _ _ _ (fun _ => o) _ (OptsAt.zero _ _ _) (by decide)).mono ?_; rintro e w3 ⟨rfl, hb3⟩)
  obtain ⟨hc3, hf3⟩ := bcell hb3
  have hz3 := hb3.size
  (try simp at hz3)
  have z3_0 : w.heap.size < w3.heap.size := (by omega); have y3_0 : w.heap.size ≤ w3.heap.size := (by omega)
  go_wp2_with (first | (go_at_call 8; refine (known_any _).mono ?_; rintro e w1 ⟨rfl, hb1⟩; obtain ⟨hc1, hf1⟩ := bcell hb1; have hz1 := hb1.size; (try simp at hz1); (try have hza : w.heap.size < w1.heap.size := by omega); (try have hzb : w.heap.size + 1 < w1.heap.size := by omega); (try have hzc : w.heap.size + 1 + 1 < w1.heap.size := by omega); (try have hzd : w.heap.size + 1 + 1 + 1 < w1.heap.size := by omega)))
  go_ret
  exact ⟨rfl, by (repeat' (first | with_reducible exact Below.refl _ _ | with_reducible assumption | with_reducible refine Below.drew ?_ | with_reducible refine below_drewN' ?_ _ | with_reducible refine Below.alloc ?_ ?_ _ | with_reducible refine Below.setCell ?_ ?_ _ | with_reducible refine below_step (by assumption) ?_ ?_ | omega | (simp; done) | (simp; omega)))⟩

theorem walk {H : Type} {enc : TypeId × Value → H} {W : World} {base : Nat} {v : Value} {d : DataW H} {p : List MemPlace} (o : Opt) (h : Int) (wh : (Lit.int .u8 h).wf = true)
    (hv : Value.okWide Try.prog W .any base 22 v) (ht : DataW.Trod enc Try.prog W 0 (fun _ => true) true 22 v d p) :
    Calls Try.prog 7 #[v, .agg #[.string o.g, .int .i64 o.c, .slice o.s o.l o.k, .int .i64 o.w, .int .i64 o.p, .int .i64 o.r], .int .u8 h] W fun e w' => e = .returned (.bool true) ∧ Below W.heap.size W w' := by
  have hx : 0 ≤ h ∧ h ≤ 255 := by simpa [Lit.wf, IntKind.min, IntKind.max, IntKind.signed, IntKind.bits] using wh
  have h4 : h % 3 = 0 ∨ h % 3 = 1 ∨ h % 3 = 2 := by omega
  rcases open_opts hv ht with ⟨sp, cap, rfl⟩ | ⟨b, off, n, cap, D, rfl, hn, hnc, hcm, hb, hD⟩
  · rcases h4 with h4 | h4 | h4
    · exact walkZ_1 sp cap h o W hx.1 hx.2 h4
    · exact walkZ_2 sp cap h o W hx.1 hx.2 h4
    · exact walkZ_3 sp cap h o W hx.1 hx.2 h4
  · unfold maxLen at hcm
    by_cases hm : n ≤ 60
    · rcases h4 with h4 | h4 | h4
      · cases hbt : betB 1 o.w o.p o.r o.l (D (bst 1 D n)).w (D (bst 1 D n)).p (D (bst 1 D n)).r (D (bst 1 D n)).l
        · exact walkF_1 b off n cap h D o W hn hm hb hD hx.1 hx.2 h4 hbt
        · exact walkT_1 b off n cap h D o W hn hm hb hD hx.1 hx.2 h4 hbt
      · cases hbt : betB 2 o.w o.p o.r o.l (D (bst 2 D n)).w (D (bst 2 D n)).p (D (bst 2 D n)).r (D (bst 2 D n)).l
        · exact walkF_2 b off n cap h D o W hn hm hb hD hx.1 hx.2 h4 hbt
        · exact walkT_2 b off n cap h D o W hn hm hb hD hx.1 hx.2 h4 hbt
      · cases hbt : betB 3 o.w o.p o.r o.l (D (bst 3 D n)).w (D (bst 3 D n)).p (D (bst 3 D n)).r (D (bst 3 D n)).l
        · exact walkF_3 b off n cap h D o W hn hm hb hD hx.1 hx.2 h4 hbt
        · exact walkT_3 b off n cap h D o W hn hm hb hD hx.1 hx.2 h4 hbt
    · exact walk_long _ n cap h o W (by omega) (by omega)

set_option maxRecDepth 100000 in
theorem lifted (os : Os) (started : os.Started) (H : Type) (enc : TypeId × Value → H) :
    ReturnsInHanded {} Try.checked os 7 .any (Rows.expandOneSpec.pre6 enc Try.prog Try.f7 Rows.expandOneRow.domain false) (Rows.expandOneSpec.post enc Try.prog Try.f7 false true false false) := by
  refine returnsInHanded_of_change (C := Try.checked) Try.own started (by kernel_rfl) Try.func7
    (ChangeSpec.witness6 (enc := enc) (C := Try.checked) false ⟨#[], #[.slice none 0 0, .agg #[.string ⟨#[]⟩, .int .i64 0, .slice none 0 0, .int .i64 0, .int .i64 0, .int .i64 0], .int .u8 0], []⟩ 8 (by kernel_rfl) (by kernel_rfl) (by kernel_rfl) (by kernel_rfl)) ?_
  intro W base args ds gs before hval hW _ _
  have hW' := hW
  obtain ⟨p, q, hA, hV, rfl, hfz, hnd⟩ := hW
  rw [Try.params7] at hA hval
  obtain ⟨v0, v1, v2, d0, d1, d2, p0, p1, p2, rfl, rfl, rfl, h0, h1, h2⟩ := trodAll_three hA
  obtain ⟨o, rfl⟩ := open_opt (hval 1 27 v1 rfl rfl) h1
  obtain ⟨h, rfl, _, _, wh⟩ := open_int Try.underlying5 (hval 2 5 v2 rfl rfl) h2
  refine (walk o h wh (hval 0 22 v0 rfl rfl) h0).mono fun e W' ⟨he, hb⟩ => ?_
  exact ⟨_, he, law_post Try.laidOut hW' rfl (by kernel_rfl) (by kernel_rfl) Try.underlying4 rfl rfl rfl hb⟩

theorem over : Rows.expandOneRow.holds Try.pinned (OpenSpec.ofChange Rows.expandOneSpec) :=
  OpenClaim.holds_of_wide 7 Try.f7 rfl rfl rfl rfl rfl rfl rfl ⟨rfl, rfl, rfl, rfl, rfl⟩ rfl rfl rfl rfl rfl (by kernel_rfl) Try.func7 (by kernel_rfl)
    (of_decide_eq_true (by kernel_rfl)) (by unfold Func.isWrapper; first | (rw [if_pos (by decide +kernel)]; kernel_rfl) | (rw [if_neg (by decide +kernel)]; exact ⟨rfl, rfl⟩))
    (fun os started H enc _ => lifted os started H enc)

/-- The statement. -/
theorem proved : Rows.ExpandOneSaid := over
end expandOne
end Go.Proofs.Ytfaeebbanphbgab
