/-
  Groups that are light, and right: triremeref07.in, RightGroup, triremeref16.Light, Right.
-/
import Derived.Test.YtlgbbfaeclaghaaSimO
import Derived.Test.YtlgbbfaeclaghaaMch
import Derived.Test.YtlgbbfaeclaghaaSimK
namespace Go.Proofs.Ytlgbbfaeclaghaa
open Go.RowKit
set_option linter.unusedVariables false

def macOf (g : Grp) (L : List Lab) (T : List Tnt) : Mac := ⟨g.mm, g.mg, g.r0, g.r1, g.r2, g.r3, g.r4, g.la, g.lk, L, g.ta, g.tk, T, g.rd⟩
theorem GrpIn.mac {w : World} {g : Grp} {L : List Lab} {T : List Tnt} (h : GrpIn w g L T) : MacAt w (macOf g L T) := ⟨h.labs, h.tnts, by show L.length ≤ maxLen; rw [h.ll]; exact h.lm, by show T.length ≤ maxLen; rw [h.tl]; exact h.tm⟩
theorem GrpIn.mono {w w' : World} {g : Grp} {L : List Lab} {T : List Tnt} (h : GrpIn w g L T) (hb : Below w.heap.size w w') : GrpIn w' g L T := ⟨h.labs.mono hb, h.tnts.mono hb, h.ll, h.tl, h.lm, h.tm⟩
theorem lightm_g (g : Grp) (L : List Lab) (T : List Tnt) (w : World) (h : GrpIn w g L T) :
    Calls Try.prog 18 #[.agg #[.string (g).mm, .string (g).mg, .int .i64 (g).r0, .int .i64 (g).r1, .int .i64 (g).r2, .int .i64 (g).r3, .int .i64 (g).r4, .slice (g).la (g).ll (g).lk, .slice (g).ta (g).tl (g).tk, .bool (g).rd]] w fun e w' => e = .returned (.bool (lightM (macOf g L T))) ∧ Below w.heap.size w w' := by
  have := lightm_any (macOf g L T) w h.mac
  simp only [macOf, h.ll, h.tl] at this ⊢
  exact this
theorem rightm_g (g : Grp) (L : List Lab) (T : List Tnt) (w : World) (h : GrpIn w g L T) (hl : lightM (macOf g L T) = true) :
    Calls Try.prog 33 #[.agg #[.string (g).mm, .string (g).mg, .int .i64 (g).r0, .int .i64 (g).r1, .int .i64 (g).r2, .int .i64 (g).r3, .int .i64 (g).r4, .slice (g).la (g).ll (g).lk, .slice (g).ta (g).tl (g).tk, .bool (g).rd]] w fun e w' => e = .returned (.bool (rightM (macOf g L T))) ∧ Below w.heap.size w w' := by
  have := rightm_any (macOf g L T) w h.mac hl
  simp only [macOf, h.ll, h.tl] at this ⊢
  exact this

def inB (n lo hi : Int) : Bool := decide (lo ≤ n ∧ n ≤ hi)
set_option maxRecDepth 100000 in
theorem in_any (n lo hi : Int) (w : World) :
    Calls Try.prog 32 #[.int .i64 n, .int .i64 lo, .int .i64 hi] w fun e w' => e = .returned (.bool (inB n lo hi)) ∧ Below w.heap.size w w' := by
  unfold inB
  by_cases h1 : lo ≤ n
  · by_cases h2 : n ≤ hi
    · rw [decide_eq_true ⟨h1, h2⟩]
      go_enter Try.func32, Try.ntmps32
      go_wp2
      go_ret
      exact ⟨by first | rfl | (simp; omega), by (repeat' (first | with_reducible exact Below.refl _ _ | with_reducible assumption | with_reducible refine Below.drew ?_ | with_reducible refine below_drewN' ?_ _ | with_reducible refine Below.alloc ?_ ?_ _ | with_reducible refine Below.setCell ?_ ?_ _ | with_reducible refine below_step (by assumption) ?_ ?_ | omega | (simp; done) | (simp; omega)))⟩
    · rw [decide_eq_false (fun h => h2 h.2)]
      go_enter Try.func32, Try.ntmps32
      go_wp2
      go_ret
      exact ⟨by first | rfl | (simp; omega), by (repeat' (first | with_reducible exact Below.refl _ _ | with_reducible assumption | with_reducible refine Below.drew ?_ | with_reducible refine below_drewN' ?_ _ | with_reducible refine Below.alloc ?_ ?_ _ | with_reducible refine Below.setCell ?_ ?_ _ | with_reducible refine below_step (by assumption) ?_ ?_ | omega | (simp; done) | (simp; omega)))⟩
  · have h1' : n < lo := by omega
    rw [decide_eq_false (fun h => h1 h.1)]
    go_enter Try.func32, Try.ntmps32
    go_wp2
    go_ret
    exact ⟨by first | rfl | (simp; omega), by (repeat' (first | with_reducible exact Below.refl _ _ | with_reducible assumption | with_reducible refine Below.drew ?_ | with_reducible refine below_drewN' ?_ _ | with_reducible refine Below.alloc ?_ ?_ _ | with_reducible refine Below.setCell ?_ ?_ _ | with_reducible refine below_step (by assumption) ?_ ?_ | omega | (simp; done) | (simp; omega)))⟩

set_option maxRecDepth 100000 in
set_option maxHeartbeats 8000000 in
/-- A group is right, or not. -/
theorem rightgroup_some (g : Grp) (L : List Lab) (T : List Tnt) (w : World) (h : GrpIn w g L T) (hs : g.nm.size ≤ 300) (hl : lightM (macOf g L T) = true) :
    Calls Try.prog 19 #[.agg #[.string (g).nm, .int .i64 (g).mn, .int .i64 (g).mx, .string (g).mm, .string (g).mg, .int .i64 (g).r0, .int .i64 (g).r1, .int .i64 (g).r2, .int .i64 (g).r3, .int .i64 (g).r4, .slice (g).la (g).ll (g).lk, .slice (g).ta (g).tl (g).tk, .bool (g).rd, .int .i64 (g).pr, .int .i64 (g).rk]] w fun e w' => (∃ b, e = .returned (.bool b)) ∧ Below w.heap.size w w' := by
  have hs1 : g.nm.size ≤ 1000000000 := by omega
  obtain ⟨W, hW⟩ : ∃ W, W = w.alloc (.cells #[.string g.nm, .int .i64 g.mn, .int .i64 g.mx, .string g.mm, .string g.mg, .int .i64 g.r0, .int .i64 g.r1, .int .i64 g.r2, .int .i64 g.r3, .int .i64 g.r4, .slice g.la g.ll g.lk, .slice g.ta g.tl g.tk, .bool g.rd, .int .i64 g.pr, .int .i64 g.rk] 40) := ⟨_, rfl⟩
  have HIn := Lib.hid (show GrpIn W g L T by rw [hW]; exact h.mono ((Below.refl _ w).alloc (Nat.le_refl _) _))
  have Hl := Lib.hid hl
  have HWw := Lib.hid (show Below w.heap.size w W by rw [hW]; (repeat' (first | with_reducible exact Below.refl _ _ | with_reducible assumption | with_reducible refine Below.drew ?_ | with_reducible refine below_drewN' ?_ _ | with_reducible refine Below.alloc ?_ ?_ _ | with_reducible refine Below.setCell ?_ ?_ _ | with_reducible refine below_step (by assumption) ?_ ?_ | omega | (simp; done) | (simp; omega))))
  have hWz : w.heap.size ≤ W.heap.size := HWw.out.size
  clear h hl
  cases h1 : wordB g.nm
  rotate_left
  cases h2 : inB g.mx 1 200
  rotate_left
  cases h3 : inB g.mn 0 g.mx
  rotate_left
  cases h4 : inB g.pr 0 1125899906842624
  rotate_left
  cases h5 : inB g.rk 0 1000
  rotate_left
  cases h6 : rightM (macOf g L T)
  rotate_left
  by_cases h7 : g.mm = emp
  rotate_left
  rotate_left
  by_cases h8 : g.mg = g.nm
  rotate_left
  rotate_left
  all_goals
    have H1 := Lib.hid h1
    first | (have H2 := Lib.hid h2) | skip
    first | (have H3 := Lib.hid h3) | skip
    first | (have H4 := Lib.hid h4) | skip
    first | (have H5 := Lib.hid h5) | skip
    first | (have H6 := Lib.hid h6) | skip
    first | (have hh := emp_lits h7; obtain ⟨p1, p2, p3, p4⟩ := hh) | (have hh := emp_litn h7; obtain ⟨p1, p2, p3, p4⟩ := hh) | skip
    first | (have k8 := tnt_str h8) | (have k8 := tnt_strn h8) | skip
    clear h1
    first | clear h2 | skip
    first | clear h3 | skip
    first | clear h4 | skip
    first | clear h5 | skip
    first | clear h6 | skip
    first | clear h7 | skip
    first | clear h8 | skip
    go_enter Try.func19, Try.ntmps19
    go_wp2_with (first
      | (go_at_call 31; (with_reducible refine (refword_any g.nm hs1 _).mono ?_); rw [H1.out]; rintro e w1 ⟨rfl, hb1⟩; obtain ⟨hc1, hf1⟩ := bcell hb1; have hz1 := hb1.size; rw [← hW] at hb1; have HB1 := Lib.hid hb1; (try simp at hz1); have hw1 : w.heap.size < w1.heap.size := by omega)
      | (go_at_call 32; (with_reducible refine (in_any g.mx 1 200 _).mono ?_); rw [H2.out]; rintro e w2 ⟨rfl, hb2⟩; obtain ⟨hc2, hf2⟩ := bcell hb2; have hz2 := hb2.size; have HB2 := Lib.hid (HB1.out.trans (hb2.mono HB1.out.size)); have hw2 : w.heap.size < w2.heap.size := by omega)
      | (go_at_call 32; (with_reducible refine (in_any g.mn 0 g.mx _).mono ?_); rw [H3.out]; rintro e w3 ⟨rfl, hb3⟩; obtain ⟨hc3, hf3⟩ := bcell hb3; have hz3 := hb3.size; have HB3 := Lib.hid (HB2.out.trans (hb3.mono HB2.out.size)); have hw3 : w.heap.size < w3.heap.size := by omega)
      | (go_at_call 32; (with_reducible refine (in_any g.pr 0 1125899906842624 _).mono ?_); rw [H4.out]; rintro e w4 ⟨rfl, hb4⟩; obtain ⟨hc4, hf4⟩ := bcell hb4; have hz4 := hb4.size; have HB4 := Lib.hid (HB3.out.trans (hb4.mono HB3.out.size)); have hw4 : w.heap.size < w4.heap.size := by omega)
      | (go_at_call 32; (with_reducible refine (in_any g.rk 0 1000 _).mono ?_); rw [H5.out]; rintro e w5 ⟨rfl, hb5⟩; obtain ⟨hc5, hf5⟩ := bcell hb5; have hz5 := hb5.size; have HB5 := Lib.hid (HB4.out.trans (hb5.mono HB4.out.size)); have hw5 : w.heap.size < w5.heap.size := by omega)
      | (go_at_call 33; (with_reducible refine (rightm_g g L T _ (HIn.out.mono HB5.out) Hl.out).mono ?_); rw [H6.out]; rintro e w6 ⟨rfl, hb6⟩; obtain ⟨hc6, hf6⟩ := bcell hb6; have hz6 := hb6.size; have hw6 : w.heap.size < w6.heap.size := by omega))
    all_goals
      go_ret
      clear hW
      exact ⟨⟨_, rfl⟩, HWw.out.trans (by (repeat' (first | with_reducible exact Below.refl _ _ | with_reducible assumption | with_reducible refine Below.drew ?_ | with_reducible refine below_drewN' ?_ _ | with_reducible refine Below.alloc ?_ ?_ _ | with_reducible refine Below.setCell ?_ ?_ _ | with_reducible refine below_step (by assumption) ?_ ?_ | omega | (simp; done) | (simp; omega))))⟩

def lightG (g : Grp) (L : List Lab) (T : List Tnt) : Bool := decide (g.nm.size ≤ 300) && lightM (macOf g L T)
def lightGs (n : Nat) (G : Nat → Grp) (L : Nat → List Lab) (T : Nat → List Tnt) : Bool := decide (n ≤ 20) && (List.range n).all fun i => lightG (G i) (L i) (T i)

set_option maxRecDepth 100000 in
set_option maxHeartbeats 4000000 in
theorem lightgs_any (a : Option Addr) (n k : Nat) (G : Nat → Grp) (L : Nat → List Lab) (T : Nat → List Tnt) (w : World) (hG : GrpsAt w a n G) (hm : n ≤ maxLen) (hI : ∀ i, i < n → GrpIn w (G i) (L i) (T i)) :
    Calls Try.prog 10 #[.slice a n k] w fun e w' => e = .returned (.bool (lightGs n G L T)) ∧ Below w.heap.size w w' := by
  have HG := Lib.hid hG
  have HI := Lib.hid hI
  clear hG hI
  by_cases h20 : n ≤ 20
  · have Hl := Lib.hid (show lightGs n G L T = (List.range n).all fun i => lightG (G i) (L i) (T i) by unfold lightGs; rw [decide_eq_true h20]; rfl)
    have Hbad := Lib.hid (show ∀ i, i < n → lightG (G i) (L i) (T i) = false → lightGs n G L T = false from fun i hi h => by
      rw [Hl.out, Bool.eq_false_iff]
      intro he
      have := List.all_eq_true.1 he i (List.mem_range.2 hi)
      rw [h] at this
      cases this)
    clear hm
    go_enter Try.func10, Try.ntmps10
    go_wp2
    go_loopw [3] (fun i wr => ∃ k : Nat, k ≤ n ∧ i = .int .i64 k ∧ ((List.range k).all fun i => lightG (G i) (L i) (T i)) = true ∧ Below w.heap.size w wr) (fun i _ => n - (intOf i).toNat)
    case atStart => exact ⟨0, by omega, rfl, rfl, by (repeat' (first | with_reducible exact Below.refl _ _ | with_reducible assumption | with_reducible refine Below.drew ?_ | with_reducible refine below_drewN' ?_ _ | with_reducible refine Below.alloc ?_ ?_ _ | with_reducible refine Below.setCell ?_ ?_ _ | with_reducible refine below_step (by assumption) ?_ ?_ | omega | (simp; done) | (simp; omega)))⟩
    case round =>
      obtain ⟨j, hj, rfl, hE, hC⟩ := hrel
      obtain ⟨hcC, hfC⟩ := bcell hC
      have hcz := hC.size
      have HE := Lib.hid hE
      have HC := Lib.hid hC
      clear hE
      by_cases hlj : j < n
      · obtain ⟨b, off, rfl, hb, hc⟩ := HG.out (by omega)
        have hbw : b < wr.heap.size := by omega
        obtain ⟨c0, c1, c2, c3, c4, c5, c6, c7, c8, c9, c10, c11, c12, c13, c14⟩ := grp_cells (hc j hlj)
        clear hc
        have HIj := Lib.hid ((HI.out j hlj).mono HC.out)
        by_cases h1 : (G j).nm.size ≤ 300
        · cases h2 : lightM (macOf (G j) (L j) (T j))
          · have Hs := Lib.hid (Hbad.out j hlj (by unfold lightG; rw [h2, Bool.and_false]))
            have H2 := Lib.hid h2
            clear h2
            go_wp2_with (go_at_call 18; (with_reducible refine (lightm_g (G j) (L j) (T j) _ HIj.out).mono ?_); rw [H2.out]; rintro e w5 ⟨rfl, hb5⟩; have hz5 := hb5.size)
            go_ret
            exact ⟨by rw [Hs.out]; rfl, by (repeat' (first | with_reducible exact Below.refl _ _ | with_reducible assumption | with_reducible refine Below.drew ?_ | with_reducible refine below_drewN' ?_ _ | with_reducible refine Below.alloc ?_ ?_ _ | with_reducible refine Below.setCell ?_ ?_ _ | with_reducible refine below_step (by assumption) ?_ ?_ | omega | (simp; done) | (simp; omega)))⟩
          · have Hs := Lib.hid (show ((List.range (j + 1)).all fun i => lightG (G i) (L i) (T i)) = true by rw [List.range_succ, List.all_append, HE.out]; simp [lightG, h1, h2])
            have H2 := Lib.hid h2
            clear h2
            go_wp2_with (go_at_call 18; (with_reducible refine (lightm_g (G j) (L j) (T j) _ HIj.out).mono ?_); rw [H2.out]; rintro e w5 ⟨rfl, hb5⟩; have hz5 := hb5.size)
            go_roundw
            case rel => exact ⟨j + 1, by omega, by go_num, Hs.out, by (repeat' (first | with_reducible exact Below.refl _ _ | with_reducible assumption | with_reducible refine Below.drew ?_ | with_reducible refine below_drewN' ?_ _ | with_reducible refine Below.alloc ?_ ?_ _ | with_reducible refine Below.setCell ?_ ?_ _ | with_reducible refine below_step (by assumption) ?_ ?_ | omega | (simp; done) | (simp; omega)))⟩
            case measure => simp [intOf]; omega
        · have Hs := Lib.hid (Hbad.out j hlj (by unfold lightG; rw [decide_eq_false h1]; rfl))
          have h1' : 300 < (G j).nm.size := by omega
          go_wp2
          go_ret
          exact ⟨by rw [Hs.out]; rfl, by (repeat' (first | with_reducible exact Below.refl _ _ | with_reducible assumption | with_reducible refine Below.drew ?_ | with_reducible refine below_drewN' ?_ _ | with_reducible refine Below.alloc ?_ ?_ _ | with_reducible refine Below.setCell ?_ ?_ _ | with_reducible refine below_step (by assumption) ?_ ?_ | omega | (simp; done) | (simp; omega)))⟩
      · obtain rfl : j = n := by omega
        have Hs := Lib.hid (Hl.out.trans HE.out)
        go_wp2
        go_ret
        exact ⟨by rw [Hs.out]; rfl, by (repeat' (first | with_reducible exact Below.refl _ _ | with_reducible assumption | with_reducible refine Below.drew ?_ | with_reducible refine below_drewN' ?_ _ | with_reducible refine Below.alloc ?_ ?_ _ | with_reducible refine Below.setCell ?_ ?_ _ | with_reducible refine below_step (by assumption) ?_ ?_ | omega | (simp; done) | (simp; omega)))⟩
  · have hr : lightGs n G L T = false := by unfold lightGs; rw [decide_eq_false h20]; rfl
    rw [hr]
    clear hr
    unfold maxLen at hm
    have h2 : 20 < n := by omega
    go_enter Try.func10, Try.ntmps10
    go_wp2
    go_ret
    exact ⟨rfl, by (repeat' (first | with_reducible exact Below.refl _ _ | with_reducible assumption | with_reducible refine Below.drew ?_ | with_reducible refine below_drewN' ?_ _ | with_reducible refine Below.alloc ?_ ?_ _ | with_reducible refine Below.setCell ?_ ?_ _ | with_reducible refine below_step (by assumption) ?_ ?_ | omega | (simp; done) | (simp; omega)))⟩

set_option maxRecDepth 100000 in
set_option maxHeartbeats 4000000 in
/-- Groups are right, or not. -/
theorem rightgs_some (a : Option Addr) (n k : Nat) (G : Nat → Grp) (L : Nat → List Lab) (T : Nat → List Tnt) (w : World) (hG : GrpsAt w a n G) (hm : n ≤ 20) (hI : ∀ i, i < n → GrpIn w (G i) (L i) (T i)) (hL : ∀ i, i < n → lightG (G i) (L i) (T i) = true) :
    Calls Try.prog 11 #[.slice a n k] w fun e w' => (∃ b, e = .returned (.bool b)) ∧ Below w.heap.size w w' := by
  have HG := Lib.hid hG
  have HI := Lib.hid hI
  have HL := Lib.hid hL
  clear hG hI hL
  by_cases h16 : 16 < n
  · go_enter Try.func11, Try.ntmps11
    go_wp2
    go_ret
    exact ⟨⟨_, rfl⟩, by (repeat' (first | with_reducible exact Below.refl _ _ | with_reducible assumption | with_reducible refine Below.drew ?_ | with_reducible refine below_drewN' ?_ _ | with_reducible refine Below.alloc ?_ ?_ _ | with_reducible refine Below.setCell ?_ ?_ _ | with_reducible refine below_step (by assumption) ?_ ?_ | omega | (simp; done) | (simp; omega)))⟩
  · go_enter Try.func11, Try.ntmps11
    go_wp2
    go_loopw [3] (fun i wr => ∃ k : Nat, k ≤ n ∧ i = .int .i64 k ∧ Below w.heap.size w wr) (fun i _ => n - (intOf i).toNat)
    case atStart => exact ⟨0, by omega, rfl, by (repeat' (first | with_reducible exact Below.refl _ _ | with_reducible assumption | with_reducible refine Below.drew ?_ | with_reducible refine below_drewN' ?_ _ | with_reducible refine Below.alloc ?_ ?_ _ | with_reducible refine Below.setCell ?_ ?_ _ | with_reducible refine below_step (by assumption) ?_ ?_ | omega | (simp; done) | (simp; omega)))⟩
    case round =>
      obtain ⟨j, hj, rfl, hC⟩ := hrel
      obtain ⟨hcC, hfC⟩ := bcell hC
      have hcz := hC.size
      have HC := Lib.hid hC
      by_cases hlj : j < n
      · obtain ⟨b, off, rfl, hb, hc⟩ := HG.out (by omega)
        have hbw : b < wr.heap.size := by omega
        obtain ⟨c0, c1, c2, c3, c4, c5, c6, c7, c8, c9, c10, c11, c12, c13, c14⟩ := grp_cells (hc j hlj)
        clear hc
        have HIj := Lib.hid ((HI.out j hlj).mono HC.out)
        have hx := HL.out j hlj
        unfold lightG at hx
        rw [Bool.and_eq_true, decide_eq_true_eq] at hx
        obtain ⟨h1, h2⟩ := hx
        have H2 := Lib.hid h2
        clear h2
        go_wp2_with (first
          | (go_at_call 19; (with_reducible refine (rightgroup_some (G j) (L j) (T j) _ HIj.out h1 H2.out).mono ?_); rintro e w5 ⟨⟨b5, rfl⟩, hb5⟩; obtain ⟨hc5, hf5⟩ := bcell hb5; have hz5 := hb5.size; have hbx5 : b < w5.heap.size := (by omega); cases b5)
          | (go_at_call 20; (with_reducible refine (find_any _ n k G _ _ ((HG.out.mono HC.out).mono hb5) (by omega)).mono ?_); rintro e w6 ⟨rfl, hb6⟩; have hz6 := hb6.size))
        all_goals
          first
            | (go_ret; exact ⟨⟨_, rfl⟩, by (repeat' (first | with_reducible exact Below.refl _ _ | with_reducible assumption | with_reducible refine Below.drew ?_ | with_reducible refine below_drewN' ?_ _ | with_reducible refine Below.alloc ?_ ?_ _ | with_reducible refine Below.setCell ?_ ?_ _ | with_reducible refine below_step (by assumption) ?_ ?_ | omega | (simp; done) | (simp; omega)))⟩)
            | (go_ret; exact ⟨.inl rfl, by (repeat' (first | with_reducible exact Below.refl _ _ | with_reducible assumption | with_reducible refine Below.drew ?_ | with_reducible refine below_drewN' ?_ _ | with_reducible refine Below.alloc ?_ ?_ _ | with_reducible refine Below.setCell ?_ ?_ _ | with_reducible refine below_step (by assumption) ?_ ?_ | omega | (simp; done) | (simp; omega)))⟩)
            | (go_ret; exact ⟨.inr rfl, by (repeat' (first | with_reducible exact Below.refl _ _ | with_reducible assumption | with_reducible refine Below.drew ?_ | with_reducible refine below_drewN' ?_ _ | with_reducible refine Below.alloc ?_ ?_ _ | with_reducible refine Below.setCell ?_ ?_ _ | with_reducible refine below_step (by assumption) ?_ ?_ | omega | (simp; done) | (simp; omega)))⟩)
            | skip
        all_goals
          go_roundw
          case rel => exact ⟨j + 1, by omega, by go_num, by (repeat' (first | with_reducible exact Below.refl _ _ | with_reducible assumption | with_reducible refine Below.drew ?_ | with_reducible refine below_drewN' ?_ _ | with_reducible refine Below.alloc ?_ ?_ _ | with_reducible refine Below.setCell ?_ ?_ _ | with_reducible refine below_step (by assumption) ?_ ?_ | omega | (simp; done) | (simp; omega)))⟩
          case measure => simp [intOf]; omega
      · obtain rfl : j = n := by omega
        go_wp2
        go_ret
        exact ⟨⟨_, rfl⟩, by (repeat' (first | with_reducible exact Below.refl _ _ | with_reducible assumption | with_reducible refine Below.drew ?_ | with_reducible refine below_drewN' ?_ _ | with_reducible refine Below.alloc ?_ ?_ _ | with_reducible refine Below.setCell ?_ ?_ _ | with_reducible refine below_step (by assumption) ?_ ?_ | omega | (simp; done) | (simp; omega)))⟩
end Go.Proofs.Ytlgbbfaeclaghaa
