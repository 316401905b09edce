/-
  LabelsMeets: whether right labels are all among others, and meet right terms, is as the document says. For any two lists of labels and any terms; no condition.
-/
import Derived.Test.YtemeocgmlhmooaaLab15
import Derived.Test.YtemeocgmlhmooaaLabP
import Derived.Test.YtemeocgmlhmooaaRefR
namespace Go.Proofs.Ytemeocgmlhmooaa
open Go.ChangeShapes Go.WideShapes Go.ChangeAt Go.RowKit
set_option linter.unusedVariables false
namespace labelsMeets

set_option maxRecDepth 100000 in
set_option maxHeartbeats 4000000 in
theorem refall_any (c a : Option Addr) (kc ka : Nat) (l : List Lab) (ts : List Trm) (w : World) (hF : LabL w c l) (hT : TrmL w a ts) (hA : ∀ t ∈ ts, TrmAt w t) (hm : l.length ≤ 1000) (hn : ts.length ≤ 1000000) (hn2 : ∀ t ∈ ts, t.vals.length ≤ 1000000)
    (hv : ∀ x ∈ l, x.val.size ≤ 1000000000) (hs : ∀ t ∈ ts, ∀ v ∈ t.vals, v.size ≤ 1000000000) (hr : ∀ t ∈ ts, rtrm t = true) :
    Calls Try.prog 25 #[.slice c l.length kc, .slice a ts.length ka] w fun e w' => e = .returned (.bool (ts.all (meetP l))) ∧ Below w.heap.size w w' := by
  have HF := Lib.hid hF
  have HT := Lib.hid hT
  have HA := Lib.hid hA
  have Hn2 := Lib.hid hn2
  have Hv := Lib.hid hv
  have Hsz := Lib.hid hs
  have Hr := Lib.hid hr
  clear hF hT hA hn2 hv hs hr
  obtain ⟨n, hln⟩ : ∃ n, ts.length = n := ⟨_, rfl⟩
  rw [hln] at hn ⊢
  have Hln := Lib.hid hln
  clear hln
  go_enter Try.func25, Try.ntmps25
  go_wp2
  go_loopw [5] (fun i wr => ∃ k : Nat, k ≤ n ∧ i = .int .i64 k ∧ (ts.take k).all (meetP l) = true ∧ Below w.heap.size w wr) (fun i _ => n - (intOf i).toNat)
  case atStart => exact ⟨0, by omega, rfl, rfl, by (repeat' (first | with_reducible exact Below.refl _ _ | with_reducible assumption | with_reducible refine Below.drew ?_ | with_reducible refine below_drewN' ?_ _ | with_reducible refine Below.alloc ?_ ?_ _ | with_reducible refine Below.setCell ?_ ?_ _ | with_reducible refine below_step (by assumption) ?_ ?_ | omega | (simp; done) | (simp; omega)))⟩
  case round =>
    obtain ⟨k, hk, rfl, hE, hB⟩ := hrel
    obtain ⟨hcB, hfB⟩ := bcell hB
    have hbz := hB.size
    have HE := Lib.hid hE
    have HB := Lib.hid hB
    clear hE
    by_cases hlt : k < n
    · obtain ⟨t, hx⟩ := mem_at (l := ts) (k := k) (by rw [Hln.out]; exact hlt)
      obtain ⟨b, off, rfl, hb, hc⟩ := HT.out (by rw [Hln.out]; omega)
      have hbw : b < wr.heap.size := by omega
      obtain ⟨c0, c1, c2⟩ := trm_cells (hc k t hx)
      have hmem := List.mem_of_getElem? hx
      have A := fun V (h : LabL V c l) (h2 : TrmAt V t) => refmeets_any c kc l t V h h2 hm (Hn2.out t hmem) Hv.out (Hsz.out t hmem) (Hr.out t hmem)
      have HAt := Lib.hid (HA.out t hmem)
      have Hx := Lib.hid hx
      clear hc hx hmem
      cases hv : meetP l t
      · have Hs := Lib.hid (show ts.all (meetP l) = false from all_bad Hx.out hv)
        simp only [hv] at A
        have HM := Lib.hid A
        clear hv A
        go_wp2_with (go_at_call 21; (with_reducible refine (HM.out _ (HF.out.mono (by (repeat' (first | with_reducible exact Below.refl _ _ | with_reducible assumption | with_reducible refine Below.drew ?_ | with_reducible refine below_drewN' ?_ _ | with_reducible refine Below.alloc ?_ ?_ _ | with_reducible refine Below.setCell ?_ ?_ _ | with_reducible refine below_step (by assumption) ?_ ?_ | omega | (simp; done) | (simp; omega))))) (HAt.out.mono (by (repeat' (first | with_reducible exact Below.refl _ _ | with_reducible assumption | with_reducible refine Below.drew ?_ | with_reducible refine below_drewN' ?_ _ | with_reducible refine Below.alloc ?_ ?_ _ | with_reducible refine Below.setCell ?_ ?_ _ | with_reducible refine below_step (by assumption) ?_ ?_ | omega | (simp; done) | (simp; omega)))))).mono ?_); rintro e w1 ⟨rfl, hb1⟩; have hz1 := hb1.size)
        go_ret
        exact ⟨by rw [Hs.out]; rfl, by (repeat' (first | with_reducible exact Below.refl _ _ | with_reducible assumption | with_reducible refine Below.drew ?_ | with_reducible refine below_drewN' ?_ _ | with_reducible refine Below.alloc ?_ ?_ _ | with_reducible refine Below.setCell ?_ ?_ _ | with_reducible refine below_step (by assumption) ?_ ?_ | omega | (simp; done) | (simp; omega)))⟩
      · have Hs := Lib.hid (all_take1 Hx.out hv HE.out)
        simp only [hv] at A
        have HM := Lib.hid A
        clear hv A
        go_wp2_with (go_at_call 21; (with_reducible refine (HM.out _ (HF.out.mono (by (repeat' (first | with_reducible exact Below.refl _ _ | with_reducible assumption | with_reducible refine Below.drew ?_ | with_reducible refine below_drewN' ?_ _ | with_reducible refine Below.alloc ?_ ?_ _ | with_reducible refine Below.setCell ?_ ?_ _ | with_reducible refine below_step (by assumption) ?_ ?_ | omega | (simp; done) | (simp; omega))))) (HAt.out.mono (by (repeat' (first | with_reducible exact Below.refl _ _ | with_reducible assumption | with_reducible refine Below.drew ?_ | with_reducible refine below_drewN' ?_ _ | with_reducible refine Below.alloc ?_ ?_ _ | with_reducible refine Below.setCell ?_ ?_ _ | with_reducible refine below_step (by assumption) ?_ ?_ | omega | (simp; done) | (simp; omega)))))).mono ?_); rintro e w1 ⟨rfl, hb1⟩; have hz1 := hb1.size)
        go_roundw
        case rel => exact ⟨k + 1, by omega, by go_num, Hs.out, by (repeat' (first | with_reducible exact Below.refl _ _ | with_reducible assumption | with_reducible refine Below.drew ?_ | with_reducible refine below_drewN' ?_ _ | with_reducible refine Below.alloc ?_ ?_ _ | with_reducible refine Below.setCell ?_ ?_ _ | with_reducible refine below_step (by assumption) ?_ ?_ | omega | (simp; done) | (simp; omega)))⟩
        case measure => simp [intOf]; omega
    · obtain rfl : k = n := by omega
      have Hs := Lib.hid (show ts.all (meetP l) = true from all_done Hln.out HE.out)
      go_wp2
      go_ret
      exact ⟨by rw [Hs.out]; rfl, by (repeat' (first | with_reducible exact Below.refl _ _ | with_reducible assumption | with_reducible refine Below.drew ?_ | with_reducible refine below_drewN' ?_ _ | with_reducible refine Below.alloc ?_ ?_ _ | with_reducible refine Below.setCell ?_ ?_ _ | with_reducible refine below_step (by assumption) ?_ ?_ | omega | (simp; done) | (simp; omega)))⟩

def okTm (t : Trm) : Bool := lightTm t && rtrm t

set_option maxRecDepth 100000 in
set_option maxHeartbeats 8000000 in
theorem walk_yes (c a g : Option Addr) (kc ka kg : Nat) (l xs : List Lab) (ts : List Trm) (w : World) (hF : LabL w c l) (hD : LabL w a xs) (hT : TrmL w g ts) (hA : ∀ t ∈ ts, TrmAt w t) (h1 : lightL l = true) (h2 : lightL xs = true) (h3 : ts.length ≤ 20) (h4 : labsB l = true) (h5 : labsB xs = true) :
    Calls Try.prog 5 #[.slice c l.length kc, .slice a xs.length ka, .slice g ts.length kg] w fun e w' => e = .returned (.bool true) ∧ Below w.heap.size w w' := by
  obtain ⟨p1, p2⟩ := (lightL_iff l).1 h1
  obtain ⟨p3, p4⟩ := (lightL_iff xs).1 h2
  have hsrt := sorted_of h4
  have hm1 : l.length ≤ maxLen := by unfold maxLen; omega
  have hm2 : xs.length ≤ maxLen := by unfold maxLen; omega
  have A1 := fun n : Held w => lightl_any c kc l n.w (hF.mono n.below) hm1
  have A2 := fun n : Held w => lightl_any a ka xs n.w (hD.mono n.below) hm2
  have B1 := fun n : Held w => refright_l c kc l n.w (hF.mono n.below) (fun x hx => by have := p2 x hx; omega) hm1
  have B2 := fun n : Held w => refright_l a ka xs n.w (hD.mono n.below) (fun x hx => by have := p4 x hx; omega) hm2
  have HC1 := Lib.hid (fun n : Held w => has_any c a kc ka l xs n.w (hF.mono n.below) (hD.mono n.below) (by omega) (by omega))
  have HC2 := Lib.hid (fun n : Held w => refhas_any c a kc ka l xs n.w (hF.mono n.below) (hD.mono n.below) (by omega) (by omega) hsrt)
  have hvl : ∀ x ∈ l, x.val.size ≤ 1000000000 := fun x hx => by have := p2 x hx; omega
  have HC3 := Lib.hid (fun (hok : ∀ t ∈ ts, okTm t = true) (n : Held w) => all_any2 c g kc kg l ts n.w (hF.mono n.below) (hT.mono n.below) (fun t ht => (hA t ht).mono n.below) (by omega) (by omega) (fun t ht => by have h := hok t ht; unfold okTm at h; rw [Bool.and_eq_true] at h; have := lightTm_ok h.1; omega) hvl (fun t ht v hv => by have h := hok t ht; unfold okTm at h; rw [Bool.and_eq_true] at h; have := (lightTm_ok h.1).2.2 v hv; omega))
  have HC4 := Lib.hid (fun (hok : ∀ t ∈ ts, okTm t = true) (n : Held w) => refall_any c g kc kg l ts n.w (hF.mono n.below) (hT.mono n.below) (fun t ht => (hA t ht).mono n.below) (by omega) (by omega) (fun t ht => by have h := hok t ht; unfold okTm at h; rw [Bool.and_eq_true] at h; have := lightTm_ok h.1; omega) hvl (fun t ht v hv => by have h := hok t ht; unfold okTm at h; rw [Bool.and_eq_true] at h; have := (lightTm_ok h.1).2.2 v hv; omega) (fun t ht => by have h := hok t ht; unfold okTm at h; rw [Bool.and_eq_true] at h; exact h.2))
  rw [h1] at A1
  rw [h2] at A2
  rw [h4] at B1
  rw [h5] at B2
  have HA1 := Lib.hid A1
  have HA2 := Lib.hid A2
  have HB1 := Lib.hid B1
  have HB2 := Lib.hid B2
  have HF := Lib.hid hF
  have HT := Lib.hid hT
  have HA := Lib.hid hA
  have Hvl := Lib.hid hvl
  have hl3 : l.length ≤ 1000 := by omega
  obtain ⟨n, hln⟩ : ∃ n, ts.length = n := ⟨_, rfl⟩
  have Hln := Lib.hid hln
  rw [hln] at h3 ⊢
  have HC3 := Lib.hid (fun (hok : ∀ t ∈ ts, okTm t = true) (m : Held w) => by have h := HC3.out hok m; rw [hln] at h; exact h)
  have HC4 := Lib.hid (fun (hok : ∀ t ∈ ts, okTm t = true) (m : Held w) => by have h := HC4.out hok m; rw [hln] at h; exact h)
  clear A1 A2 B1 B2 hF hD hT hA h1 h2 h4 h5 hsrt p1 p2 p3 p4 hvl hln
  go_enter Try.func5, Try.ntmps5
  go_wp2_with (first | ((with_reducible refine (HA1.out ⟨_, ?_⟩).mono ?_); rotate_left; (rintro e w1 ⟨rfl, hb1⟩; dsimp only at hb1; obtain ⟨hc1, hf1⟩ := bcell hb1; have hz1 := hb1.size; (try simp at hz1); skip); rotate_left; ((repeat' (first | with_reducible exact Below.refl _ _ | with_reducible assumption | with_reducible refine Below.drew ?_ | with_reducible refine below_drewN' ?_ _ | with_reducible refine Below.alloc ?_ ?_ _ | with_reducible refine Below.setCell ?_ ?_ _ | with_reducible refine below_step (by assumption) ?_ ?_ | omega | (simp; done) | (simp; omega))))) | ((with_reducible refine (HA2.out ⟨_, ?_⟩).mono ?_); rotate_left; (rintro e w2 ⟨rfl, hb2⟩; dsimp only at hb2; obtain ⟨hc2, hf2⟩ := bcell hb2; have hz2 := hb2.size; (try simp at hz2); skip); rotate_left; ((repeat' (first | with_reducible exact Below.refl _ _ | with_reducible assumption | with_reducible refine Below.drew ?_ | with_reducible refine below_drewN' ?_ _ | with_reducible refine Below.alloc ?_ ?_ _ | with_reducible refine Below.setCell ?_ ?_ _ | with_reducible refine below_step (by assumption) ?_ ?_ | omega | (simp; done) | (simp; omega))))) | ((with_reducible refine (HB1.out ⟨_, ?_⟩).mono ?_); rotate_left; (rintro e w3 ⟨rfl, hb3⟩; dsimp only at hb3; obtain ⟨hc3, hf3⟩ := bcell hb3; have hz3 := hb3.size; (try simp at hz3); skip); rotate_left; ((repeat' (first | with_reducible exact Below.refl _ _ | with_reducible assumption | with_reducible refine Below.drew ?_ | with_reducible refine below_drewN' ?_ _ | with_reducible refine Below.alloc ?_ ?_ _ | with_reducible refine Below.setCell ?_ ?_ _ | with_reducible refine below_step (by assumption) ?_ ?_ | omega | (simp; done) | (simp; omega))))) | ((with_reducible refine (HB2.out ⟨_, ?_⟩).mono ?_); rotate_left; (rintro e w4 ⟨rfl, hb4⟩; dsimp only at hb4; obtain ⟨hc4, hf4⟩ := bcell hb4; have hz4 := hb4.size; (try simp at hz4); skip); rotate_left; ((repeat' (first | with_reducible exact Below.refl _ _ | with_reducible assumption | with_reducible refine Below.drew ?_ | with_reducible refine below_drewN' ?_ _ | with_reducible refine Below.alloc ?_ ?_ _ | with_reducible refine Below.setCell ?_ ?_ _ | with_reducible refine below_step (by assumption) ?_ ?_ | omega | (simp; done) | (simp; omega))))))
  have HBV := Lib.hid (show Below w.heap.size w w4 by (repeat' (first | with_reducible exact Below.refl _ _ | with_reducible assumption | with_reducible refine Below.drew ?_ | with_reducible refine below_drewN' ?_ _ | with_reducible refine Below.alloc ?_ ?_ _ | with_reducible refine Below.setCell ?_ ?_ _ | with_reducible refine below_step (by assumption) ?_ ?_ | omega | (simp; done) | (simp; omega))))
  have HTV := Lib.hid (HT.out.mono HBV.out)
  obtain ⟨V, hV⟩ : ∃ V, V = w4 := ⟨_, rfl⟩
  subst hV
  clear hb1 hb2 hb3 hb4 hc1 hc2 hc3 hc4 hf1 hf2 hf3 hf4 hz1 hz2 hz3 hz4
  go_loopw [7] (fun i wr => ∃ k : Nat, k ≤ n ∧ i = .int .i64 k ∧ (ts.take k).all okTm = true ∧ Below V.heap.size V wr) (fun i _ => n - (intOf i).toNat)
  case atStart => exact ⟨0, Nat.zero_le _, rfl, rfl, by (repeat' (first | with_reducible exact Below.refl _ _ | with_reducible assumption | with_reducible refine Below.drew ?_ | with_reducible refine below_drewN' ?_ _ | with_reducible refine Below.alloc ?_ ?_ _ | with_reducible refine Below.setCell ?_ ?_ _ | with_reducible refine below_step (by assumption) ?_ ?_ | omega | (simp; done) | (simp; omega)))⟩
  case round =>
    obtain ⟨k, hk, rfl, hE, hB⟩ := hrel
    obtain ⟨hcB, hfB⟩ := bcell hB
    have hbz := hB.size
    have HE := Lib.hid hE
    have HB := Lib.hid hB
    have HWr := Lib.hid (HBV.out.trans (hB.mono HBV.out.size))
    clear hE
    by_cases hlt : k < n
    · obtain ⟨t, hx⟩ := mem_at (l := ts) (k := k) (by rw [Hln.out]; exact hlt)
      obtain ⟨b, off, rfl, hb, hc⟩ := HTV.out (by rw [Hln.out]; omega)
      have hbw : b < wr.heap.size := by omega
      obtain ⟨c0, c1, c2⟩ := trm_cells (hc k t hx)
      have HAt := Lib.hid ((HA.out t (List.mem_of_getElem? hx)).mono HWr.out)
      have HFr := Lib.hid (HF.out.mono HWr.out)
      have Hx := Lib.hid hx
      clear hc hx
      have L1 := fun n : Held wr => lightterm_any t n.w (HAt.out.mono n.below)
      cases k1 : lightTm t
      · rw [k1] at L1
        have HL1 := Lib.hid L1
        clear k1 L1
        go_wp2_with (first | ((with_reducible refine (HL1.out ⟨_, ?_⟩).mono ?_); rotate_left; (rintro e w5 ⟨rfl, hb5⟩; dsimp only at hb5; obtain ⟨hc5, hf5⟩ := bcell hb5; have hz5 := hb5.size; (try simp at hz5); have hb5w : b < w5.heap.size := (by omega)); rotate_left; ((repeat' (first | with_reducible exact Below.refl _ _ | with_reducible assumption | with_reducible refine Below.drew ?_ | with_reducible refine below_drewN' ?_ _ | with_reducible refine Below.alloc ?_ ?_ _ | with_reducible refine Below.setCell ?_ ?_ _ | with_reducible refine below_step (by assumption) ?_ ?_ | omega | (simp; done) | (simp; omega))))) | (go_at_call 8; (with_reducible refine (known_any _).mono ?_); rintro e w6 ⟨rfl, hb6⟩; have hz6 := hb6.size))
        go_ret
        exact ⟨rfl, HWr.out.trans (Below.mono (show Below wr.heap.size wr w6 by (repeat' (first | with_reducible exact Below.refl _ _ | with_reducible assumption | with_reducible refine Below.drew ?_ | with_reducible refine below_drewN' ?_ _ | with_reducible refine Below.alloc ?_ ?_ _ | with_reducible refine Below.setCell ?_ ?_ _ | with_reducible refine below_step (by assumption) ?_ ?_ | omega | (simp; done) | (simp; omega)))) HWr.out.size)⟩
      · obtain ⟨q3, q4, q5⟩ := lightTm_ok k1
        have L2 := fun n : Held wr => refrightterm_any t n.w (HAt.out.mono n.below) (by omega) (by omega) (fun x hx => by have := q5 x hx; omega)
        cases k2 : rtrm t
        · rw [k1] at L1
          rw [k2] at L2
          have HL1 := Lib.hid L1
          have HL2 := Lib.hid L2
          clear k1 k2 L1 L2 q3 q4 q5
          go_wp2_with (first | ((with_reducible refine (HL1.out ⟨_, ?_⟩).mono ?_); rotate_left; (rintro e w5 ⟨rfl, hb5⟩; dsimp only at hb5; obtain ⟨hc5, hf5⟩ := bcell hb5; have hz5 := hb5.size; (try simp at hz5); have hb5w : b < w5.heap.size := (by omega)); rotate_left; ((repeat' (first | with_reducible exact Below.refl _ _ | with_reducible assumption | with_reducible refine Below.drew ?_ | with_reducible refine below_drewN' ?_ _ | with_reducible refine Below.alloc ?_ ?_ _ | with_reducible refine Below.setCell ?_ ?_ _ | with_reducible refine below_step (by assumption) ?_ ?_ | omega | (simp; done) | (simp; omega))))) | ((with_reducible refine (HL2.out ⟨_, ?_⟩).mono ?_); rotate_left; (rintro e w7 ⟨rfl, hb7⟩; dsimp only at hb7; obtain ⟨hc7, hf7⟩ := bcell hb7; have hz7 := hb7.size; (try simp at hz7); have hb7w : b < w7.heap.size := (by omega)); rotate_left; ((repeat' (first | with_reducible exact Below.refl _ _ | with_reducible assumption | with_reducible refine Below.drew ?_ | with_reducible refine below_drewN' ?_ _ | with_reducible refine Below.alloc ?_ ?_ _ | with_reducible refine Below.setCell ?_ ?_ _ | with_reducible refine below_step (by assumption) ?_ ?_ | omega | (simp; done) | (simp; omega))))) | (go_at_call 8; (with_reducible refine (known_any _).mono ?_); rintro e w6 ⟨rfl, hb6⟩; have hz6 := hb6.size))
          go_ret
          exact ⟨rfl, HWr.out.trans (Below.mono (show Below wr.heap.size wr w6 by (repeat' (first | with_reducible exact Below.refl _ _ | with_reducible assumption | with_reducible refine Below.drew ?_ | with_reducible refine below_drewN' ?_ _ | with_reducible refine Below.alloc ?_ ?_ _ | with_reducible refine Below.setCell ?_ ?_ _ | with_reducible refine below_step (by assumption) ?_ ?_ | omega | (simp; done) | (simp; omega)))) HWr.out.size)⟩
        · have L3 := fun V (h : LabL V c l) (h2 : TrmAt V t) => meets_any c kc l t V h h2 hl3 (by omega) Hvl.out (fun x hx => by have := q5 x hx; omega)
          have L4 := fun V (h : LabL V c l) (h2 : TrmAt V t) => refmeets_any c kc l t V h h2 hl3 (by omega) Hvl.out (fun x hx => by have := q5 x hx; omega) k2
          have Hs := Lib.hid (all_take1 (P := okTm) Hx.out (by unfold okTm; rw [k1, k2]; rfl) HE.out)
          cases k3 : meetP l t
          all_goals
            rw [k1] at L1
            rw [k2] at L2
            simp only [k3] at L3 L4
            have HL1 := Lib.hid L1
            have HL2 := Lib.hid L2
            have HL3 := Lib.hid L3
            have HL4 := Lib.hid L4
            clear k1 k2 k3 L1 L2 L3 L4 q3 q4 q5
            go_wp2_with (first | ((with_reducible refine (HL1.out ⟨_, ?_⟩).mono ?_); rotate_left; (rintro e w5 ⟨rfl, hb5⟩; dsimp only at hb5; obtain ⟨hc5, hf5⟩ := bcell hb5; have hz5 := hb5.size; (try simp at hz5); have hb5w : b < w5.heap.size := (by omega)); rotate_left; ((repeat' (first | with_reducible exact Below.refl _ _ | with_reducible assumption | with_reducible refine Below.drew ?_ | with_reducible refine below_drewN' ?_ _ | with_reducible refine Below.alloc ?_ ?_ _ | with_reducible refine Below.setCell ?_ ?_ _ | with_reducible refine below_step (by assumption) ?_ ?_ | omega | (simp; done) | (simp; omega))))) | ((with_reducible refine (HL2.out ⟨_, ?_⟩).mono ?_); rotate_left; (rintro e w7 ⟨rfl, hb7⟩; dsimp only at hb7; obtain ⟨hc7, hf7⟩ := bcell hb7; have hz7 := hb7.size; (try simp at hz7); have hb7w : b < w7.heap.size := (by omega)); rotate_left; ((repeat' (first | with_reducible exact Below.refl _ _ | with_reducible assumption | with_reducible refine Below.drew ?_ | with_reducible refine below_drewN' ?_ _ | with_reducible refine Below.alloc ?_ ?_ _ | with_reducible refine Below.setCell ?_ ?_ _ | with_reducible refine below_step (by assumption) ?_ ?_ | omega | (simp; done) | (simp; omega))))))
            have HB7 := Lib.hid (show Below wr.heap.size wr w7 by (repeat' (first | with_reducible exact Below.refl _ _ | with_reducible assumption | with_reducible refine Below.drew ?_ | with_reducible refine below_drewN' ?_ _ | with_reducible refine Below.alloc ?_ ?_ _ | with_reducible refine Below.setCell ?_ ?_ _ | with_reducible refine below_step (by assumption) ?_ ?_ | omega | (simp; done) | (simp; omega))))
            have HF7 := Lib.hid (HFr.out.mono HB7.out)
            have HA7 := Lib.hid (HAt.out.mono HB7.out)
            have hcH := held_cell
            refine region_below (by kernel_rfl) (by kernel_rfl) ?_
            repeat
              ((with_reducible refine wpQuiet_step (fun K hK => ?_))
               go_simp
               first
                 | ((with_reducible refine hK _ ?_); clear hK K)
                 | (apply Exists.intro
                    (with_reducible refine ⟨fun n => ?_, hK _ ?_⟩)
                    (first | (go_at_call 20; exact held_calls (HL3.out n.w (HF7.out.mono n.below) (HA7.out.mono n.below))) | (go_at_call 21; exact held_calls (HL4.out n.w (HF7.out.mono n.below) (HA7.out.mono n.below))))
                    clear hK K))
            with_reducible refine wpQuiet_nil ?_
            intro w8 hw2
            clear hcH
            obtain ⟨⟨_, hb8⟩, rfl⟩ := hw2
            (try dsimp only)
            obtain ⟨hc8, hf8⟩ := bcell hb8
            have hz8 := hb8.size
            (try simp at hz8)
            go_wp2
            go_roundw
            case rel => exact ⟨k + 1, by omega, by go_num, Hs.out, HB.out.trans ((HB7.out.trans (hb8.mono HB7.out.size)).mono HB.out.size)⟩
            case measure => simp [intOf]; omega
    · have hok : ∀ t ∈ ts, okTm t = true := List.all_eq_true.1 (all_done (P := okTm) Hln.out (by rw [show n = k by omega]; exact HE.out))
      have HD3 := Lib.hid (HC3.out hok)
      have HD4 := Lib.hid (HC4.out hok)
      clear hok
      go_wp2_with (first
        | ((with_reducible refine (HC1.out ⟨_, HWr.out⟩).mono ?_); rintro e w5 ⟨rfl, hb5⟩; have hz5 := hb5.size; have H5 := Lib.hid (HWr.out.trans (Below.mono hb5 HWr.out.size)))
        | ((with_reducible refine (HC2.out ⟨_, H5.out⟩).mono ?_); rintro e w6 ⟨rfl, hb6⟩; have hz6 := hb6.size; have H6 := Lib.hid (H5.out.trans (Below.mono hb6 H5.out.size)))
        | ((with_reducible refine (HD3.out ⟨_, H6.out⟩).mono ?_); rintro e w7 ⟨rfl, hb7⟩; have hz7 := hb7.size; have H7 := Lib.hid (H6.out.trans (Below.mono hb7 H6.out.size)))
        | ((with_reducible refine (HD4.out ⟨_, H7.out⟩).mono ?_); rintro e w8 ⟨rfl, hb8⟩; have hz8 := hb8.size; have H8 := Lib.hid (H7.out.trans (Below.mono hb8 H7.out.size)))
        | (go_at_call 8; (with_reducible refine (known_any _).mono ?_); rintro e w9 ⟨rfl, hb9⟩; have hz9 := hb9.size; have H9 := Lib.hid (H8.out.trans (Below.mono hb9 H8.out.size))))
      go_ret
      exact ⟨rfl, H9.out⟩

set_option maxRecDepth 100000 in
set_option maxHeartbeats 4000000 in
theorem walk1 (c a g : Option Addr) (kc ka kg : Nat) (l xs : List Lab) (ts : List Trm) (w : World) (hF : LabL w c l) (hD : LabL w a xs) (hm : l.length ≤ maxLen) (hn : xs.length ≤ maxLen) (hT : TrmL w g ts) (hA : ∀ t ∈ ts, TrmAt w t) :
    Calls Try.prog 5 #[.slice c l.length kc, .slice a xs.length ka, .slice g ts.length kg] w fun e w' => e = .returned (.bool true) ∧ Below w.heap.size w w' := by
  have A1 := fun n : Held w => lightl_any c kc l n.w (hF.mono n.below) hm
  have A2 := fun n : Held w => lightl_any a ka xs n.w (hD.mono n.below) hn
  cases h1 : lightL l
  · rw [h1] at A1
    have HA1 := Lib.hid A1
    clear A1 A2 h1
    go_enter Try.func5, Try.ntmps5
    go_wp2_with (first | ((with_reducible refine (HA1.out ⟨_, ?_⟩).mono ?_); rotate_left; (rintro e w1 ⟨rfl, hb1⟩; dsimp only at hb1; obtain ⟨hc1, hf1⟩ := bcell hb1; have hz1 := hb1.size; (try simp at hz1); skip); rotate_left; ((repeat' (first | with_reducible exact Below.refl _ _ | with_reducible assumption | with_reducible refine Below.drew ?_ | with_reducible refine below_drewN' ?_ _ | with_reducible refine Below.alloc ?_ ?_ _ | with_reducible refine Below.setCell ?_ ?_ _ | with_reducible refine below_step (by assumption) ?_ ?_ | omega | (simp; done) | (simp; omega))))) | ((with_reducible refine (HA2.out ⟨_, ?_⟩).mono ?_); rotate_left; (rintro e w2 ⟨rfl, hb2⟩; dsimp only at hb2; obtain ⟨hc2, hf2⟩ := bcell hb2; have hz2 := hb2.size; (try simp at hz2); skip); rotate_left; ((repeat' (first | with_reducible exact Below.refl _ _ | with_reducible assumption | with_reducible refine Below.drew ?_ | with_reducible refine below_drewN' ?_ _ | with_reducible refine Below.alloc ?_ ?_ _ | with_reducible refine Below.setCell ?_ ?_ _ | with_reducible refine below_step (by assumption) ?_ ?_ | omega | (simp; done) | (simp; omega))))) | ((with_reducible refine (HB1.out ⟨_, ?_⟩).mono ?_); rotate_left; (rintro e w3 ⟨rfl, hb3⟩; dsimp only at hb3; obtain ⟨hc3, hf3⟩ := bcell hb3; have hz3 := hb3.size; (try simp at hz3); skip); rotate_left; ((repeat' (first | with_reducible exact Below.refl _ _ | with_reducible assumption | with_reducible refine Below.drew ?_ | with_reducible refine below_drewN' ?_ _ | with_reducible refine Below.alloc ?_ ?_ _ | with_reducible refine Below.setCell ?_ ?_ _ | with_reducible refine below_step (by assumption) ?_ ?_ | omega | (simp; done) | (simp; omega))))) | ((with_reducible refine (HB2.out ⟨_, ?_⟩).mono ?_); rotate_left; (rintro e w4 ⟨rfl, hb4⟩; dsimp only at hb4; obtain ⟨hc4, hf4⟩ := bcell hb4; have hz4 := hb4.size; (try simp at hz4); skip); rotate_left; ((repeat' (first | with_reducible exact Below.refl _ _ | with_reducible assumption | with_reducible refine Below.drew ?_ | with_reducible refine below_drewN' ?_ _ | with_reducible refine Below.alloc ?_ ?_ _ | with_reducible refine Below.setCell ?_ ?_ _ | with_reducible refine below_step (by assumption) ?_ ?_ | omega | (simp; done) | (simp; omega))))) | (go_at_call 8; (with_reducible refine (known_any _).mono ?_); rintro e w5 ⟨rfl, hb5⟩; have hz5 := hb5.size))
    go_ret
    exact ⟨rfl, by (repeat' (first | with_reducible exact Below.refl _ _ | with_reducible assumption | with_reducible refine Below.drew ?_ | with_reducible refine below_drewN' ?_ _ | with_reducible refine Below.alloc ?_ ?_ _ | with_reducible refine Below.setCell ?_ ?_ _ | with_reducible refine below_step (by assumption) ?_ ?_ | omega | (simp; done) | (simp; omega)))⟩
  cases h2 : lightL xs
  · rw [h1] at A1
    rw [h2] at A2
    have HA1 := Lib.hid A1
    have HA2 := Lib.hid A2
    clear A1 A2 h1 h2
    go_enter Try.func5, Try.ntmps5
    go_wp2_with (first | ((with_reducible refine (HA1.out ⟨_, ?_⟩).mono ?_); rotate_left; (rintro e w1 ⟨rfl, hb1⟩; dsimp only at hb1; obtain ⟨hc1, hf1⟩ := bcell hb1; have hz1 := hb1.size; (try simp at hz1); skip); rotate_left; ((repeat' (first | with_reducible exact Below.refl _ _ | with_reducible assumption | with_reducible refine Below.drew ?_ | with_reducible refine below_drewN' ?_ _ | with_reducible refine Below.alloc ?_ ?_ _ | with_reducible refine Below.setCell ?_ ?_ _ | with_reducible refine below_step (by assumption) ?_ ?_ | omega | (simp; done) | (simp; omega))))) | ((with_reducible refine (HA2.out ⟨_, ?_⟩).mono ?_); rotate_left; (rintro e w2 ⟨rfl, hb2⟩; dsimp only at hb2; obtain ⟨hc2, hf2⟩ := bcell hb2; have hz2 := hb2.size; (try simp at hz2); skip); rotate_left; ((repeat' (first | with_reducible exact Below.refl _ _ | with_reducible assumption | with_reducible refine Below.drew ?_ | with_reducible refine below_drewN' ?_ _ | with_reducible refine Below.alloc ?_ ?_ _ | with_reducible refine Below.setCell ?_ ?_ _ | with_reducible refine below_step (by assumption) ?_ ?_ | omega | (simp; done) | (simp; omega))))) | ((with_reducible refine (HB1.out ⟨_, ?_⟩).mono ?_); rotate_left; (rintro e w3 ⟨rfl, hb3⟩; dsimp only at hb3; obtain ⟨hc3, hf3⟩ := bcell hb3; have hz3 := hb3.size; (try simp at hz3); skip); rotate_left; ((repeat' (first | with_reducible exact Below.refl _ _ | with_reducible assumption | with_reducible refine Below.drew ?_ | with_reducible refine below_drewN' ?_ _ | with_reducible refine Below.alloc ?_ ?_ _ | with_reducible refine Below.setCell ?_ ?_ _ | with_reducible refine below_step (by assumption) ?_ ?_ | omega | (simp; done) | (simp; omega))))) | ((with_reducible refine (HB2.out ⟨_, ?_⟩).mono ?_); rotate_left; (rintro e w4 ⟨rfl, hb4⟩; dsimp only at hb4; obtain ⟨hc4, hf4⟩ := bcell hb4; have hz4 := hb4.size; (try simp at hz4); skip); rotate_left; ((repeat' (first | with_reducible exact Below.refl _ _ | with_reducible assumption | with_reducible refine Below.drew ?_ | with_reducible refine below_drewN' ?_ _ | with_reducible refine Below.alloc ?_ ?_ _ | with_reducible refine Below.setCell ?_ ?_ _ | with_reducible refine below_step (by assumption) ?_ ?_ | omega | (simp; done) | (simp; omega))))) | (go_at_call 8; (with_reducible refine (known_any _).mono ?_); rintro e w5 ⟨rfl, hb5⟩; have hz5 := hb5.size))
    go_ret
    exact ⟨rfl, by (repeat' (first | with_reducible exact Below.refl _ _ | with_reducible assumption | with_reducible refine Below.drew ?_ | with_reducible refine below_drewN' ?_ _ | with_reducible refine Below.alloc ?_ ?_ _ | with_reducible refine Below.setCell ?_ ?_ _ | with_reducible refine below_step (by assumption) ?_ ?_ | omega | (simp; done) | (simp; omega)))⟩
  obtain ⟨p1, p2⟩ := (lightL_iff l).1 h1
  obtain ⟨p3, p4⟩ := (lightL_iff xs).1 h2
  have B1 := fun n : Held w => refright_l c kc l n.w (hF.mono n.below) (fun x hx => by have := p2 x hx; omega) hm
  have B2 := fun n : Held w => refright_l a ka xs n.w (hD.mono n.below) (fun x hx => by have := p4 x hx; omega) hn
  by_cases h3 : ts.length ≤ 20
  · cases h4 : labsB l
    · rw [h1] at A1
      rw [h2] at A2
      rw [h4] at B1
      have HA1 := Lib.hid A1
      have HA2 := Lib.hid A2
      have HB1 := Lib.hid B1
      clear A1 A2 B1 B2 h1 h2 h4 p1 p2 p3 p4
      go_enter Try.func5, Try.ntmps5
      go_wp2_with (first | ((with_reducible refine (HA1.out ⟨_, ?_⟩).mono ?_); rotate_left; (rintro e w1 ⟨rfl, hb1⟩; dsimp only at hb1; obtain ⟨hc1, hf1⟩ := bcell hb1; have hz1 := hb1.size; (try simp at hz1); skip); rotate_left; ((repeat' (first | with_reducible exact Below.refl _ _ | with_reducible assumption | with_reducible refine Below.drew ?_ | with_reducible refine below_drewN' ?_ _ | with_reducible refine Below.alloc ?_ ?_ _ | with_reducible refine Below.setCell ?_ ?_ _ | with_reducible refine below_step (by assumption) ?_ ?_ | omega | (simp; done) | (simp; omega))))) | ((with_reducible refine (HA2.out ⟨_, ?_⟩).mono ?_); rotate_left; (rintro e w2 ⟨rfl, hb2⟩; dsimp only at hb2; obtain ⟨hc2, hf2⟩ := bcell hb2; have hz2 := hb2.size; (try simp at hz2); skip); rotate_left; ((repeat' (first | with_reducible exact Below.refl _ _ | with_reducible assumption | with_reducible refine Below.drew ?_ | with_reducible refine below_drewN' ?_ _ | with_reducible refine Below.alloc ?_ ?_ _ | with_reducible refine Below.setCell ?_ ?_ _ | with_reducible refine below_step (by assumption) ?_ ?_ | omega | (simp; done) | (simp; omega))))) | ((with_reducible refine (HB1.out ⟨_, ?_⟩).mono ?_); rotate_left; (rintro e w3 ⟨rfl, hb3⟩; dsimp only at hb3; obtain ⟨hc3, hf3⟩ := bcell hb3; have hz3 := hb3.size; (try simp at hz3); skip); rotate_left; ((repeat' (first | with_reducible exact Below.refl _ _ | with_reducible assumption | with_reducible refine Below.drew ?_ | with_reducible refine below_drewN' ?_ _ | with_reducible refine Below.alloc ?_ ?_ _ | with_reducible refine Below.setCell ?_ ?_ _ | with_reducible refine below_step (by assumption) ?_ ?_ | omega | (simp; done) | (simp; omega))))) | ((with_reducible refine (HB2.out ⟨_, ?_⟩).mono ?_); rotate_left; (rintro e w4 ⟨rfl, hb4⟩; dsimp only at hb4; obtain ⟨hc4, hf4⟩ := bcell hb4; have hz4 := hb4.size; (try simp at hz4); skip); rotate_left; ((repeat' (first | with_reducible exact Below.refl _ _ | with_reducible assumption | with_reducible refine Below.drew ?_ | with_reducible refine below_drewN' ?_ _ | with_reducible refine Below.alloc ?_ ?_ _ | with_reducible refine Below.setCell ?_ ?_ _ | with_reducible refine below_step (by assumption) ?_ ?_ | omega | (simp; done) | (simp; omega))))) | (go_at_call 8; (with_reducible refine (known_any _).mono ?_); rintro e w5 ⟨rfl, hb5⟩; have hz5 := hb5.size))
      go_ret
      exact ⟨rfl, by (repeat' (first | with_reducible exact Below.refl _ _ | with_reducible assumption | with_reducible refine Below.drew ?_ | with_reducible refine below_drewN' ?_ _ | with_reducible refine Below.alloc ?_ ?_ _ | with_reducible refine Below.setCell ?_ ?_ _ | with_reducible refine below_step (by assumption) ?_ ?_ | omega | (simp; done) | (simp; omega)))⟩
    cases h5 : labsB xs
    · rw [h1] at A1
      rw [h2] at A2
      rw [h4] at B1
      rw [h5] at B2
      have HA1 := Lib.hid A1
      have HA2 := Lib.hid A2
      have HB1 := Lib.hid B1
      have HB2 := Lib.hid B2
      clear A1 A2 B1 B2 h1 h2 h4 h5 p1 p2 p3 p4
      go_enter Try.func5, Try.ntmps5
      go_wp2_with (first | ((with_reducible refine (HA1.out ⟨_, ?_⟩).mono ?_); rotate_left; (rintro e w1 ⟨rfl, hb1⟩; dsimp only at hb1; obtain ⟨hc1, hf1⟩ := bcell hb1; have hz1 := hb1.size; (try simp at hz1); skip); rotate_left; ((repeat' (first | with_reducible exact Below.refl _ _ | with_reducible assumption | with_reducible refine Below.drew ?_ | with_reducible refine below_drewN' ?_ _ | with_reducible refine Below.alloc ?_ ?_ _ | with_reducible refine Below.setCell ?_ ?_ _ | with_reducible refine below_step (by assumption) ?_ ?_ | omega | (simp; done) | (simp; omega))))) | ((with_reducible refine (HA2.out ⟨_, ?_⟩).mono ?_); rotate_left; (rintro e w2 ⟨rfl, hb2⟩; dsimp only at hb2; obtain ⟨hc2, hf2⟩ := bcell hb2; have hz2 := hb2.size; (try simp at hz2); skip); rotate_left; ((repeat' (first | with_reducible exact Below.refl _ _ | with_reducible assumption | with_reducible refine Below.drew ?_ | with_reducible refine below_drewN' ?_ _ | with_reducible refine Below.alloc ?_ ?_ _ | with_reducible refine Below.setCell ?_ ?_ _ | with_reducible refine below_step (by assumption) ?_ ?_ | omega | (simp; done) | (simp; omega))))) | ((with_reducible refine (HB1.out ⟨_, ?_⟩).mono ?_); rotate_left; (rintro e w3 ⟨rfl, hb3⟩; dsimp only at hb3; obtain ⟨hc3, hf3⟩ := bcell hb3; have hz3 := hb3.size; (try simp at hz3); skip); rotate_left; ((repeat' (first | with_reducible exact Below.refl _ _ | with_reducible assumption | with_reducible refine Below.drew ?_ | with_reducible refine below_drewN' ?_ _ | with_reducible refine Below.alloc ?_ ?_ _ | with_reducible refine Below.setCell ?_ ?_ _ | with_reducible refine below_step (by assumption) ?_ ?_ | omega | (simp; done) | (simp; omega))))) | ((with_reducible refine (HB2.out ⟨_, ?_⟩).mono ?_); rotate_left; (rintro e w4 ⟨rfl, hb4⟩; dsimp only at hb4; obtain ⟨hc4, hf4⟩ := bcell hb4; have hz4 := hb4.size; (try simp at hz4); skip); rotate_left; ((repeat' (first | with_reducible exact Below.refl _ _ | with_reducible assumption | with_reducible refine Below.drew ?_ | with_reducible refine below_drewN' ?_ _ | with_reducible refine Below.alloc ?_ ?_ _ | with_reducible refine Below.setCell ?_ ?_ _ | with_reducible refine below_step (by assumption) ?_ ?_ | omega | (simp; done) | (simp; omega))))) | (go_at_call 8; (with_reducible refine (known_any _).mono ?_); rintro e w5 ⟨rfl, hb5⟩; have hz5 := hb5.size))
      go_ret
      exact ⟨rfl, by (repeat' (first | with_reducible exact Below.refl _ _ | with_reducible assumption | with_reducible refine Below.drew ?_ | with_reducible refine below_drewN' ?_ _ | with_reducible refine Below.alloc ?_ ?_ _ | with_reducible refine Below.setCell ?_ ?_ _ | with_reducible refine below_step (by assumption) ?_ ?_ | omega | (simp; done) | (simp; omega)))⟩
    · exact walk_yes c a g kc ka kg l xs ts w hF hD hT hA h1 h2 h3 h4 h5
  · rw [h1] at A1
    rw [h2] at A2
    have HA1 := Lib.hid A1
    have HA2 := Lib.hid A2
    have h3' : 20 < ts.length := by omega
    clear A1 A2 B1 B2 h1 h2 p1 p2 p3 p4 h3
    go_enter Try.func5, Try.ntmps5
    go_wp2_with (first | ((with_reducible refine (HA1.out ⟨_, ?_⟩).mono ?_); rotate_left; (rintro e w1 ⟨rfl, hb1⟩; dsimp only at hb1; obtain ⟨hc1, hf1⟩ := bcell hb1; have hz1 := hb1.size; (try simp at hz1); skip); rotate_left; ((repeat' (first | with_reducible exact Below.refl _ _ | with_reducible assumption | with_reducible refine Below.drew ?_ | with_reducible refine below_drewN' ?_ _ | with_reducible refine Below.alloc ?_ ?_ _ | with_reducible refine Below.setCell ?_ ?_ _ | with_reducible refine below_step (by assumption) ?_ ?_ | omega | (simp; done) | (simp; omega))))) | ((with_reducible refine (HA2.out ⟨_, ?_⟩).mono ?_); rotate_left; (rintro e w2 ⟨rfl, hb2⟩; dsimp only at hb2; obtain ⟨hc2, hf2⟩ := bcell hb2; have hz2 := hb2.size; (try simp at hz2); skip); rotate_left; ((repeat' (first | with_reducible exact Below.refl _ _ | with_reducible assumption | with_reducible refine Below.drew ?_ | with_reducible refine below_drewN' ?_ _ | with_reducible refine Below.alloc ?_ ?_ _ | with_reducible refine Below.setCell ?_ ?_ _ | with_reducible refine below_step (by assumption) ?_ ?_ | omega | (simp; done) | (simp; omega))))) | ((with_reducible refine (HB1.out ⟨_, ?_⟩).mono ?_); rotate_left; (rintro e w3 ⟨rfl, hb3⟩; dsimp only at hb3; obtain ⟨hc3, hf3⟩ := bcell hb3; have hz3 := hb3.size; (try simp at hz3); skip); rotate_left; ((repeat' (first | with_reducible exact Below.refl _ _ | with_reducible assumption | with_reducible refine Below.drew ?_ | with_reducible refine below_drewN' ?_ _ | with_reducible refine Below.alloc ?_ ?_ _ | with_reducible refine Below.setCell ?_ ?_ _ | with_reducible refine below_step (by assumption) ?_ ?_ | omega | (simp; done) | (simp; omega))))) | ((with_reducible refine (HB2.out ⟨_, ?_⟩).mono ?_); rotate_left; (rintro e w4 ⟨rfl, hb4⟩; dsimp only at hb4; obtain ⟨hc4, hf4⟩ := bcell hb4; have hz4 := hb4.size; (try simp at hz4); skip); rotate_left; ((repeat' (first | with_reducible exact Below.refl _ _ | with_reducible assumption | with_reducible refine Below.drew ?_ | with_reducible refine below_drewN' ?_ _ | with_reducible refine Below.alloc ?_ ?_ _ | with_reducible refine Below.setCell ?_ ?_ _ | with_reducible refine below_step (by assumption) ?_ ?_ | omega | (simp; done) | (simp; omega))))) | (go_at_call 8; (with_reducible refine (known_any _).mono ?_); rintro e w5 ⟨rfl, hb5⟩; have hz5 := hb5.size))
    go_ret
    exact ⟨rfl, by (repeat' (first | with_reducible exact Below.refl _ _ | with_reducible assumption | with_reducible refine Below.drew ?_ | with_reducible refine below_drewN' ?_ _ | with_reducible refine Below.alloc ?_ ?_ _ | with_reducible refine Below.setCell ?_ ?_ _ | with_reducible refine below_step (by assumption) ?_ ?_ | omega | (simp; done) | (simp; omega)))⟩

theorem walk {H : Type} {enc : TypeId × Value → H} {W : World} {base : Nat} {v u x : Value} {d f g : DataW H} {p q r : List MemPlace}
    (hv : Value.okWide Try.prog W .any base 22 v) (h : DataW.Trod enc Try.prog W 0 (fun _ => true) true 22 v d p)
    (hu : Value.okWide Try.prog W .any base 22 u) (k : DataW.Trod enc Try.prog W 0 (fun _ => true) true 22 u f q)
    (hx : Value.okWide Try.prog W .any base 38 x) (m : DataW.Trod enc Try.prog W 0 (fun _ => true) true 38 x g r) :
    Calls Try.prog 5 #[v, u, x] W fun e W' => e = .returned (.bool true) ∧ Below W.heap.size W W' := by
  obtain ⟨c, l, kc, rfl, _, hF, hm, _⟩ := open_labs hv h
  obtain ⟨a, xs, ka, rfl, _, hD, hn, _⟩ := open_labs hu k
  obtain ⟨g, ts, kg, rfl, _, hT, _, hA⟩ := open_trms hx m
  exact walk1 c a g kc ka kg l xs ts W hF hD hm hn hT hA

set_option maxRecDepth 100000 in
theorem lifted (os : Os) (started : os.Started) (H : Type) (enc : TypeId × Value → H) :
    ReturnsInHanded {} Try.checked os 5 .any (Rows.labelsMeetsSpec.pre6 enc Try.prog Try.f5 Rows.labelsMeetsRow.domain false) (Rows.labelsMeetsSpec.post enc Try.prog Try.f5 false true false false) := by
  refine returnsInHanded_of_change (C := Try.checked) Try.own started (by kernel_rfl) Try.func5
    (ChangeSpec.witness6 (enc := enc) (C := Try.checked) false ⟨#[], #[.slice none 0 0, .slice none 0 0, .slice none 0 0], []⟩ 8 (by kernel_rfl) (by kernel_rfl) (by kernel_rfl) (by kernel_rfl)) ?_
  intro W base args ds gs before hval hW _ _
  have hW' := hW
  obtain ⟨p, q, hA, hV, rfl, hfz, hnd⟩ := hW
  rw [Try.params5] at hA hval
  obtain ⟨v0, v1, v2, d0, d1, d2, p0, p1, p2, rfl, rfl, rfl, h0, h1, h2⟩ := trodAll_three hA
  refine (walk (hval 0 22 v0 rfl rfl) h0 (hval 1 22 v1 rfl rfl) h1 (hval 2 38 v2 rfl rfl) h2).mono fun e W' ⟨he, hb⟩ => ?_
  exact ⟨_, he, law_post Try.laidOut hW' rfl (by kernel_rfl) (by kernel_rfl) Try.underlying4 rfl rfl rfl hb⟩

theorem over : Rows.labelsMeetsRow.holds Try.pinned (OpenSpec.ofChange Rows.labelsMeetsSpec) :=
  OpenClaim.holds_of_wide 5 Try.f5 rfl rfl rfl rfl rfl rfl rfl ⟨rfl, rfl, rfl, rfl, rfl⟩ rfl rfl rfl rfl rfl (by kernel_rfl) Try.func5 (by kernel_rfl)
    (of_decide_eq_true (by kernel_rfl)) (by unfold Func.isWrapper; first | (rw [if_pos (by decide +kernel)]; kernel_rfl) | (rw [if_neg (by decide +kernel)]; exact ⟨rfl, rfl⟩))
    (fun os started H enc _ => lifted os started H enc)

/-- The statement. -/
theorem proved : Rows.LabelsMeetsSaid := over
end labelsMeets
end Go.Proofs.Ytemeocgmlhmooaa
