/-
  The contracts of slices.IndexFunc and ContainsFunc over labels.isNoAtom, labels.isNumber, labels.RightTerm.
-/
import Derived.Test.YthbpnfpalcgfeaaLab9
namespace Go.Proofs.Ythbpnfpalcgfeaa
namespace Lb
set_option linter.unusedSimpArgs false
open Go.RowKit
set_option linter.unusedVariables false

set_option maxRecDepth 100000 in
theorem isnoatom_any (s : ByteArray) (w : World) :
    Calls Try.prog 141 #[.string s] w fun e w' => e = .returned (.bool (!weB s)) ∧ Below w.heap.size w w' := by
  obtain ⟨b, hb⟩ : ∃ b, weB s = b := ⟨_, rfl⟩
  have Hb := Lib.hid hb
  rw [hb]
  clear hb
  go_enter Try.func141, Try.ntmps141
  go_wp2_with (go_at_call 128; (with_reducible refine (lwordorempty_any s _).mono ?_); rw [Hb.out]; rintro e w1 ⟨rfl, hb1⟩; have hz1 := hb1.size)
  go_ret
  exact ⟨by first | rfl | simp, by (repeat' (first | with_reducible exact Below.refl _ _ | with_reducible assumption | with_reducible refine Below.drew ?_ | with_reducible refine below_drewN' ?_ _ | with_reducible refine Below.alloc ?_ ?_ _ | with_reducible refine Below.setCell ?_ ?_ _ | with_reducible refine below_step (by assumption) ?_ ?_ | omega | (simp; done) | (simp; omega)))⟩
set_option maxRecDepth 100000 in
theorem isnumber_any (s : ByteArray) (hs : s.size ≤ 1000000000) (w : World) :
    Calls Try.prog 142 #[.string s] w fun e w' => e = .returned (.bool (decide ((numV s).2 = 0))) ∧ Below w.heap.size w w' := by
  have A := fun V => number_any s hs V
  obtain ⟨⟨x, e⟩, hx⟩ : ∃ d, numV s = d := ⟨_, rfl⟩
  rw [hx] at A ⊢
  dsimp only at A ⊢
  have HA := Lib.hid A
  clear A hx
  by_cases h : e = 0
  · have g : (e == 0) = true := by simpa using h
    rw [decide_eq_true h]
    clear h
    go_enter Try.func142, Try.ntmps142
    go_wp2_with (go_at_call 136; (with_reducible refine (HA.out _).mono ?_); rintro e w1 ⟨rfl, hb1⟩; have hz1 := hb1.size)
    go_ret
    exact ⟨by first | rfl | simp, by (repeat' (first | with_reducible exact Below.refl _ _ | with_reducible assumption | with_reducible refine Below.drew ?_ | with_reducible refine below_drewN' ?_ _ | with_reducible refine Below.alloc ?_ ?_ _ | with_reducible refine Below.setCell ?_ ?_ _ | with_reducible refine below_step (by assumption) ?_ ?_ | omega | (simp; done) | (simp; omega)))⟩
  · have g : (e == 0) = false := by simpa using h
    rw [decide_eq_false h]
    clear h
    go_enter Try.func142, Try.ntmps142
    go_wp2_with (go_at_call 136; (with_reducible refine (HA.out _).mono ?_); rintro e w1 ⟨rfl, hb1⟩; have hz1 := hb1.size)
    go_ret
    exact ⟨by first | rfl | simp, by (repeat' (first | with_reducible exact Below.refl _ _ | with_reducible assumption | with_reducible refine Below.drew ?_ | with_reducible refine below_drewN' ?_ _ | with_reducible refine Below.alloc ?_ ?_ _ | with_reducible refine Below.setCell ?_ ?_ _ | with_reducible refine below_step (by assumption) ?_ ?_ | omega | (simp; done) | (simp; omega)))⟩

set_option maxRecDepth 100000 in
set_option maxHeartbeats 4000000 in
theorem indexf_any (c : Option Addr) (kc : Nat) (l : List ByteArray) (w : World) (hF : TxtL w c l) (hm : l.length ≤ 1000000) :
    Calls Try.prog 146 #[.slice c l.length kc, .func (.func 141) #[] #[]] w fun e w' => e = .returned (.int .i64 (idxI (fun s => !weB s) l)) ∧ Below w.heap.size w w' := by
  have HF := Lib.hid hF
  clear hF
  obtain ⟨n, hln⟩ : ∃ n, l.length = n := ⟨_, rfl⟩
  rw [hln] at hm ⊢
  have Hln := Lib.hid hln
  clear hln
  go_enter Try.func146, Try.ntmps146
  go_wp2
  go_loopw [8] (fun i wr => ∃ k : Nat, k ≤ n ∧ i = .int .i64 k ∧ (l.take k).any (fun s => !weB s) = false ∧ Below w.heap.size w wr) (fun i _ => n - (intOf i).toNat)
  case atStart => exact ⟨0, by omega, rfl, rfl, by (repeat' (first | with_reducible exact Below.refl _ _ | with_reducible assumption | with_reducible refine Below.drew ?_ | with_reducible refine below_drewN' ?_ _ | with_reducible refine Below.alloc ?_ ?_ _ | with_reducible refine Below.setCell ?_ ?_ _ | with_reducible refine below_step (by assumption) ?_ ?_ | omega | (simp; done) | (simp; omega)))⟩
  case round =>
    obtain ⟨k, hk, rfl, hE, hB⟩ := hrel
    obtain ⟨hcB, hfB⟩ := bcell hB
    have hbz := hB.size
    have HE := Lib.hid hE
    have HB := Lib.hid hB
    clear hE
    by_cases hlt : k < n
    · obtain ⟨x, hx⟩ := mem_at (l := l) (k := k) (by rw [Hln.out]; exact hlt)
      obtain ⟨b, off, rfl, hb, hc⟩ := HF.out (by rw [Hln.out]; omega)
      have hbw : b < wr.heap.size := by omega
      have c0 := txt_cell (hc k x hx)
      rw [Nat.mul_one] at c0
      have Hx := Lib.hid hx
      clear hc hx
      have A := fun V => isnoatom_any x V
      cases hv : weB x
      · have Hs := Lib.hid (idx_at (p := fun s => !weB s) Hx.out HE.out (by rw [hv]; rfl))
        rw [hv] at A
        have HA := Lib.hid A
        clear hv A
        go_wp2_with (go_at_call 141; (with_reducible refine (HA.out _).mono ?_); rintro e w1 ⟨rfl, hb1⟩; have hz1 := hb1.size)
        go_ret
        exact ⟨by rw [Hs.out]; rfl, by (repeat' (first | with_reducible exact Below.refl _ _ | with_reducible assumption | with_reducible refine Below.drew ?_ | with_reducible refine below_drewN' ?_ _ | with_reducible refine Below.alloc ?_ ?_ _ | with_reducible refine Below.setCell ?_ ?_ _ | with_reducible refine below_step (by assumption) ?_ ?_ | omega | (simp; done) | (simp; omega)))⟩
      · have Hs := Lib.hid (any_take1 (P := fun s => !weB s) Hx.out (by rw [hv]; rfl) HE.out)
        rw [hv] at A
        have HA := Lib.hid A
        clear hv A
        go_wp2_with (go_at_call 141; (with_reducible refine (HA.out _).mono ?_); rintro e w1 ⟨rfl, hb1⟩; have hz1 := hb1.size)
        go_roundw
        case rel => exact ⟨k + 1, by omega, by go_num, Hs.out, by (repeat' (first | with_reducible exact Below.refl _ _ | with_reducible assumption | with_reducible refine Below.drew ?_ | with_reducible refine below_drewN' ?_ _ | with_reducible refine Below.alloc ?_ ?_ _ | with_reducible refine Below.setCell ?_ ?_ _ | with_reducible refine below_step (by assumption) ?_ ?_ | omega | (simp; done) | (simp; omega)))⟩
        case measure => simp [intOf]; omega
    · obtain rfl : k = n := by omega
      have Hs := Lib.hid (idx_no (p := fun s => !weB s) Hln.out HE.out)
      go_wp2
      go_ret
      exact ⟨by rw [Hs.out]; rfl, by (repeat' (first | with_reducible exact Below.refl _ _ | with_reducible assumption | with_reducible refine Below.drew ?_ | with_reducible refine below_drewN' ?_ _ | with_reducible refine Below.alloc ?_ ?_ _ | with_reducible refine Below.setCell ?_ ?_ _ | with_reducible refine below_step (by assumption) ?_ ?_ | omega | (simp; done) | (simp; omega)))⟩
set_option maxRecDepth 100000 in
theorem containsf_any (c : Option Addr) (kc : Nat) (l : List ByteArray) (w : World) (hF : TxtL w c l) (hm : l.length ≤ 1000000) :
    Calls Try.prog 140 #[.slice c l.length kc, .func (.func 141) #[] #[]] w fun e w' => e = .returned (.bool (l.any fun s => !weB s)) ∧ Below w.heap.size w w' := by
  rw [← idx_geq]
  have A := fun V (h : TxtL V c l) => indexf_any c kc l V h hm
  obtain ⟨i, hi⟩ : ∃ i, idxI (fun s => !weB s) l = i := ⟨_, rfl⟩
  rw [hi]
  simp only [hi] at A
  clear hi
  have HA := Lib.hid A
  clear A
  go_enter Try.func140, Try.ntmps140
  go_wp2_with (go_at_call 146; (with_reducible refine (HA.out _ (hF.mono (by (repeat' (first | with_reducible exact Below.refl _ _ | with_reducible assumption | with_reducible refine Below.drew ?_ | with_reducible refine below_drewN' ?_ _ | with_reducible refine Below.alloc ?_ ?_ _ | with_reducible refine Below.setCell ?_ ?_ _ | with_reducible refine below_step (by assumption) ?_ ?_ | omega | (simp; done) | (simp; omega)))))).mono ?_); rintro e w1 ⟨rfl, hb1⟩; have hz1 := hb1.size; (try simp at hz1))
  go_ret
  exact ⟨by first | rfl | simp, by (repeat' (first | with_reducible exact Below.refl _ _ | with_reducible assumption | with_reducible refine Below.drew ?_ | with_reducible refine below_drewN' ?_ _ | with_reducible refine Below.alloc ?_ ?_ _ | with_reducible refine Below.setCell ?_ ?_ _ | with_reducible refine below_step (by assumption) ?_ ?_ | omega | (simp; done) | (simp; omega)))⟩

/-- Whether a term is right. -/
def rtrm (t : Trm) : Bool := wordB t.key && (if t.op = 1 ∨ t.op = 2 then decide (1 ≤ t.vals.length) && (decide (t.vals.length ≤ 16) && t.vals.all weB)
  else if t.op = 3 ∨ t.op = 4 then decide (t.vals.length = 0)
  else if t.op = 5 ∨ t.op = 6 then decide (t.vals.length = 1) && decide ((numV (t.vals[0]?.getD emp)).2 = 0) else false)
theorem all_any (l : List ByteArray) : l.all weB = !(l.any fun s => !weB s) := by rw [List.not_any_eq_all_not]; simp

set_option maxRecDepth 100000 in
set_option maxHeartbeats 8000000 in
theorem rightterm_any (t : Trm) (w : World) (hT : TrmAt w t) (hn : t.vals.length ≤ 1000000) (hs : ∀ v ∈ t.vals, v.size ≤ 1000000000) :
    Calls Try.prog 134 #[.agg #[.string t.key, .int .i64 t.op, .slice t.va t.vals.length t.vk]] w fun e w' => e = .returned (.bool (rtrm t)) ∧ Below w.heap.size w w' := by
  obtain ⟨key, op, va, vk, vals⟩ := t
  obtain ⟨hT, -⟩ := hT
  dsimp only at hT hn hs ⊢
  unfold rtrm
  dsimp only
  rw [all_any]
  have C := fun V (h : TxtL V va vals) => containsf_any va vk vals V h hn
  obtain ⟨ci, hci⟩ : ∃ g, (vals.any fun s => !weB s) = g := ⟨_, rfl⟩
  rw [hci] at C ⊢
  have HC := Lib.hid C
  have HT := Lib.hid hT
  clear hT hci C
  cases k1 : wordB key
  · have K1 := Lib.hid k1
    clear k1
    rw [Bool.false_and]
    go_enter Try.func134, Try.ntmps134
    go_wp2_with (go_at_call 107; (with_reducible refine (word_any key _).mono ?_); rw [K1.out]; rintro e w1 ⟨rfl, hb1⟩; obtain ⟨hc1, hf1⟩ := bcell hb1; have hz1 := hb1.size; (try simp at hz1); have z1_0 : w.heap.size < w1.heap.size := (by omega); have y1_0 : w.heap.size ≤ w1.heap.size := (by omega); have HB1 := Lib.hid (show Below w.heap.size w w1 by (repeat' (first | with_reducible exact Below.refl _ _ | with_reducible assumption | with_reducible refine Below.drew ?_ | with_reducible refine below_drewN' ?_ _ | with_reducible refine Below.alloc ?_ ?_ _ | with_reducible refine Below.setCell ?_ ?_ _ | with_reducible refine below_step (by assumption) ?_ ?_ | omega | (simp; done) | (simp; omega)))))
    go_ret
    exact ⟨rfl, by (repeat' (first | with_reducible exact Below.refl _ _ | with_reducible assumption | with_reducible refine Below.drew ?_ | with_reducible refine below_drewN' ?_ _ | with_reducible refine Below.alloc ?_ ?_ _ | with_reducible refine Below.setCell ?_ ?_ _ | with_reducible refine below_step (by assumption) ?_ ?_ | omega | (simp; done) | (simp; omega)))⟩
  · have K1 := Lib.hid k1
    clear k1
    rw [Bool.true_and]
    rcases op_cases op with ⟨e0, h⟩ | ⟨e0, h1, h⟩ | ⟨e0, h1, h2, h⟩ | ⟨e0, h1, h2, h3, h⟩ | ⟨e0, h1, h2, h3, h4, h⟩ | ⟨e0, h1, h2, h3, h4, h5, h⟩ | ⟨e0, h1, h2, h3, h4, h5, h⟩
    · subst e0
      rw [if_pos (by decide)]
      by_cases g1 : 1 ≤ vals.length
      · by_cases g16 : vals.length ≤ 16
        · have hh1 : decide (1 ≤ (vals.length : Int)) = true := decide_eq_true (by omega)
          have hh2 : decide ((vals.length : Int) ≤ 16) = true := decide_eq_true (by omega)
          rw [decide_eq_true g1, decide_eq_true g16]
          clear g1 g16
          go_enter Try.func134, Try.ntmps134
          go_wp2_with (first | (go_at_call 107; (with_reducible refine (word_any key _).mono ?_); rw [K1.out]; rintro e w1 ⟨rfl, hb1⟩; obtain ⟨hc1, hf1⟩ := bcell hb1; have hz1 := hb1.size; (try simp at hz1); have z1_0 : w.heap.size < w1.heap.size := (by omega); have y1_0 : w.heap.size ≤ w1.heap.size := (by omega); have HB1 := Lib.hid (show Below w.heap.size w w1 by (repeat' (first | with_reducible exact Below.refl _ _ | with_reducible assumption | with_reducible refine Below.drew ?_ | with_reducible refine below_drewN' ?_ _ | with_reducible refine Below.alloc ?_ ?_ _ | with_reducible refine Below.setCell ?_ ?_ _ | with_reducible refine below_step (by assumption) ?_ ?_ | omega | (simp; done) | (simp; omega))))) | (go_at_call 140; (with_reducible refine (HC.out _ (HT.out.mono HB1.out)).mono ?_); rintro e w2 ⟨rfl, hb2⟩; have hz2 := hb2.size))
          go_ret
          exact ⟨by simp, by (repeat' (first | with_reducible exact Below.refl _ _ | with_reducible assumption | with_reducible refine Below.drew ?_ | with_reducible refine below_drewN' ?_ _ | with_reducible refine Below.alloc ?_ ?_ _ | with_reducible refine Below.setCell ?_ ?_ _ | with_reducible refine below_step (by assumption) ?_ ?_ | omega | (simp; done) | (simp; omega)))⟩
        · have hh1 : decide (1 ≤ (vals.length : Int)) = true := decide_eq_true (by omega)
          have hh2 : decide ((vals.length : Int) ≤ 16) = false := decide_eq_false (by omega)
          rw [decide_eq_true g1, decide_eq_false g16]
          clear g1 g16
          go_enter Try.func134, Try.ntmps134
          go_wp2_with (first | (go_at_call 107; (with_reducible refine (word_any key _).mono ?_); rw [K1.out]; rintro e w1 ⟨rfl, hb1⟩; obtain ⟨hc1, hf1⟩ := bcell hb1; have hz1 := hb1.size; (try simp at hz1); have z1_0 : w.heap.size < w1.heap.size := (by omega); have y1_0 : w.heap.size ≤ w1.heap.size := (by omega); have HB1 := Lib.hid (show Below w.heap.size w w1 by (repeat' (first | with_reducible exact Below.refl _ _ | with_reducible assumption | with_reducible refine Below.drew ?_ | with_reducible refine below_drewN' ?_ _ | with_reducible refine Below.alloc ?_ ?_ _ | with_reducible refine Below.setCell ?_ ?_ _ | with_reducible refine below_step (by assumption) ?_ ?_ | omega | (simp; done) | (simp; omega))))) | (go_at_call 140; (with_reducible refine (HC.out _ (HT.out.mono HB1.out)).mono ?_); rintro e w2 ⟨rfl, hb2⟩; have hz2 := hb2.size))
          go_ret
          exact ⟨by simp, by (repeat' (first | with_reducible exact Below.refl _ _ | with_reducible assumption | with_reducible refine Below.drew ?_ | with_reducible refine below_drewN' ?_ _ | with_reducible refine Below.alloc ?_ ?_ _ | with_reducible refine Below.setCell ?_ ?_ _ | with_reducible refine below_step (by assumption) ?_ ?_ | omega | (simp; done) | (simp; omega)))⟩
      · have hh1 : decide (1 ≤ (vals.length : Int)) = false := decide_eq_false (by omega)
        rw [decide_eq_false g1]
        clear g1
        go_enter Try.func134, Try.ntmps134
        go_wp2_with (first | (go_at_call 107; (with_reducible refine (word_any key _).mono ?_); rw [K1.out]; rintro e w1 ⟨rfl, hb1⟩; obtain ⟨hc1, hf1⟩ := bcell hb1; have hz1 := hb1.size; (try simp at hz1); have z1_0 : w.heap.size < w1.heap.size := (by omega); have y1_0 : w.heap.size ≤ w1.heap.size := (by omega); have HB1 := Lib.hid (show Below w.heap.size w w1 by (repeat' (first | with_reducible exact Below.refl _ _ | with_reducible assumption | with_reducible refine Below.drew ?_ | with_reducible refine below_drewN' ?_ _ | with_reducible refine Below.alloc ?_ ?_ _ | with_reducible refine Below.setCell ?_ ?_ _ | with_reducible refine below_step (by assumption) ?_ ?_ | omega | (simp; done) | (simp; omega))))) | (go_at_call 140; (with_reducible refine (HC.out _ (HT.out.mono HB1.out)).mono ?_); rintro e w2 ⟨rfl, hb2⟩; have hz2 := hb2.size))
        go_ret
        exact ⟨by simp, by (repeat' (first | with_reducible exact Below.refl _ _ | with_reducible assumption | with_reducible refine Below.drew ?_ | with_reducible refine below_drewN' ?_ _ | with_reducible refine Below.alloc ?_ ?_ _ | with_reducible refine Below.setCell ?_ ?_ _ | with_reducible refine below_step (by assumption) ?_ ?_ | omega | (simp; done) | (simp; omega)))⟩
    · subst e0
      rw [if_pos (by decide)]
      by_cases g1 : 1 ≤ vals.length
      · by_cases g16 : vals.length ≤ 16
        · have hh1 : decide (1 ≤ (vals.length : Int)) = true := decide_eq_true (by omega)
          have hh2 : decide ((vals.length : Int) ≤ 16) = true := decide_eq_true (by omega)
          rw [decide_eq_true g1, decide_eq_true g16]
          clear g1 g16
          go_enter Try.func134, Try.ntmps134
          go_wp2_with (first | (go_at_call 107; (with_reducible refine (word_any key _).mono ?_); rw [K1.out]; rintro e w1 ⟨rfl, hb1⟩; obtain ⟨hc1, hf1⟩ := bcell hb1; have hz1 := hb1.size; (try simp at hz1); have z1_0 : w.heap.size < w1.heap.size := (by omega); have y1_0 : w.heap.size ≤ w1.heap.size := (by omega); have HB1 := Lib.hid (show Below w.heap.size w w1 by (repeat' (first | with_reducible exact Below.refl _ _ | with_reducible assumption | with_reducible refine Below.drew ?_ | with_reducible refine below_drewN' ?_ _ | with_reducible refine Below.alloc ?_ ?_ _ | with_reducible refine Below.setCell ?_ ?_ _ | with_reducible refine below_step (by assumption) ?_ ?_ | omega | (simp; done) | (simp; omega))))) | (go_at_call 140; (with_reducible refine (HC.out _ (HT.out.mono HB1.out)).mono ?_); rintro e w2 ⟨rfl, hb2⟩; have hz2 := hb2.size))
          go_ret
          exact ⟨by simp, by (repeat' (first | with_reducible exact Below.refl _ _ | with_reducible assumption | with_reducible refine Below.drew ?_ | with_reducible refine below_drewN' ?_ _ | with_reducible refine Below.alloc ?_ ?_ _ | with_reducible refine Below.setCell ?_ ?_ _ | with_reducible refine below_step (by assumption) ?_ ?_ | omega | (simp; done) | (simp; omega)))⟩
        · have hh1 : decide (1 ≤ (vals.length : Int)) = true := decide_eq_true (by omega)
          have hh2 : decide ((vals.length : Int) ≤ 16) = false := decide_eq_false (by omega)
          rw [decide_eq_true g1, decide_eq_false g16]
          clear g1 g16
          go_enter Try.func134, Try.ntmps134
          go_wp2_with (first | (go_at_call 107; (with_reducible refine (word_any key _).mono ?_); rw [K1.out]; rintro e w1 ⟨rfl, hb1⟩; obtain ⟨hc1, hf1⟩ := bcell hb1; have hz1 := hb1.size; (try simp at hz1); have z1_0 : w.heap.size < w1.heap.size := (by omega); have y1_0 : w.heap.size ≤ w1.heap.size := (by omega); have HB1 := Lib.hid (show Below w.heap.size w w1 by (repeat' (first | with_reducible exact Below.refl _ _ | with_reducible assumption | with_reducible refine Below.drew ?_ | with_reducible refine below_drewN' ?_ _ | with_reducible refine Below.alloc ?_ ?_ _ | with_reducible refine Below.setCell ?_ ?_ _ | with_reducible refine below_step (by assumption) ?_ ?_ | omega | (simp; done) | (simp; omega))))) | (go_at_call 140; (with_reducible refine (HC.out _ (HT.out.mono HB1.out)).mono ?_); rintro e w2 ⟨rfl, hb2⟩; have hz2 := hb2.size))
          go_ret
          exact ⟨by simp, by (repeat' (first | with_reducible exact Below.refl _ _ | with_reducible assumption | with_reducible refine Below.drew ?_ | with_reducible refine below_drewN' ?_ _ | with_reducible refine Below.alloc ?_ ?_ _ | with_reducible refine Below.setCell ?_ ?_ _ | with_reducible refine below_step (by assumption) ?_ ?_ | omega | (simp; done) | (simp; omega)))⟩
      · have hh1 : decide (1 ≤ (vals.length : Int)) = false := decide_eq_false (by omega)
        rw [decide_eq_false g1]
        clear g1
        go_enter Try.func134, Try.ntmps134
        go_wp2_with (first | (go_at_call 107; (with_reducible refine (word_any key _).mono ?_); rw [K1.out]; rintro e w1 ⟨rfl, hb1⟩; obtain ⟨hc1, hf1⟩ := bcell hb1; have hz1 := hb1.size; (try simp at hz1); have z1_0 : w.heap.size < w1.heap.size := (by omega); have y1_0 : w.heap.size ≤ w1.heap.size := (by omega); have HB1 := Lib.hid (show Below w.heap.size w w1 by (repeat' (first | with_reducible exact Below.refl _ _ | with_reducible assumption | with_reducible refine Below.drew ?_ | with_reducible refine below_drewN' ?_ _ | with_reducible refine Below.alloc ?_ ?_ _ | with_reducible refine Below.setCell ?_ ?_ _ | with_reducible refine below_step (by assumption) ?_ ?_ | omega | (simp; done) | (simp; omega))))) | (go_at_call 140; (with_reducible refine (HC.out _ (HT.out.mono HB1.out)).mono ?_); rintro e w2 ⟨rfl, hb2⟩; have hz2 := hb2.size))
        go_ret
        exact ⟨by simp, by (repeat' (first | with_reducible exact Below.refl _ _ | with_reducible assumption | with_reducible refine Below.drew ?_ | with_reducible refine below_drewN' ?_ _ | with_reducible refine Below.alloc ?_ ?_ _ | with_reducible refine Below.setCell ?_ ?_ _ | with_reducible refine below_step (by assumption) ?_ ?_ | omega | (simp; done) | (simp; omega)))⟩
    · subst e0
      rw [if_neg (by decide), if_pos (by decide)]
      by_cases g0 : vals.length = 0
      · have hh1 : ((vals.length : Int) == 0) = true := by rw [g0]; rfl
        rw [decide_eq_true g0]
        clear g0
        go_enter Try.func134, Try.ntmps134
        go_wp2_with (first | (go_at_call 107; (with_reducible refine (word_any key _).mono ?_); rw [K1.out]; rintro e w1 ⟨rfl, hb1⟩; obtain ⟨hc1, hf1⟩ := bcell hb1; have hz1 := hb1.size; (try simp at hz1); have z1_0 : w.heap.size < w1.heap.size := (by omega); have y1_0 : w.heap.size ≤ w1.heap.size := (by omega); have HB1 := Lib.hid (show Below w.heap.size w w1 by (repeat' (first | with_reducible exact Below.refl _ _ | with_reducible assumption | with_reducible refine Below.drew ?_ | with_reducible refine below_drewN' ?_ _ | with_reducible refine Below.alloc ?_ ?_ _ | with_reducible refine Below.setCell ?_ ?_ _ | with_reducible refine below_step (by assumption) ?_ ?_ | omega | (simp; done) | (simp; omega))))) | (go_at_call 140; (with_reducible refine (HC.out _ (HT.out.mono HB1.out)).mono ?_); rintro e w2 ⟨rfl, hb2⟩; have hz2 := hb2.size))
        go_ret
        exact ⟨by simp, by (repeat' (first | with_reducible exact Below.refl _ _ | with_reducible assumption | with_reducible refine Below.drew ?_ | with_reducible refine below_drewN' ?_ _ | with_reducible refine Below.alloc ?_ ?_ _ | with_reducible refine Below.setCell ?_ ?_ _ | with_reducible refine below_step (by assumption) ?_ ?_ | omega | (simp; done) | (simp; omega)))⟩
      · have hh1 : ((vals.length : Int) == 0) = false := by rw [beq_eq_false_iff_ne]; omega
        rw [decide_eq_false g0]
        clear g0
        go_enter Try.func134, Try.ntmps134
        go_wp2_with (first | (go_at_call 107; (with_reducible refine (word_any key _).mono ?_); rw [K1.out]; rintro e w1 ⟨rfl, hb1⟩; obtain ⟨hc1, hf1⟩ := bcell hb1; have hz1 := hb1.size; (try simp at hz1); have z1_0 : w.heap.size < w1.heap.size := (by omega); have y1_0 : w.heap.size ≤ w1.heap.size := (by omega); have HB1 := Lib.hid (show Below w.heap.size w w1 by (repeat' (first | with_reducible exact Below.refl _ _ | with_reducible assumption | with_reducible refine Below.drew ?_ | with_reducible refine below_drewN' ?_ _ | with_reducible refine Below.alloc ?_ ?_ _ | with_reducible refine Below.setCell ?_ ?_ _ | with_reducible refine below_step (by assumption) ?_ ?_ | omega | (simp; done) | (simp; omega))))) | (go_at_call 140; (with_reducible refine (HC.out _ (HT.out.mono HB1.out)).mono ?_); rintro e w2 ⟨rfl, hb2⟩; have hz2 := hb2.size))
        go_ret
        exact ⟨by simp, by (repeat' (first | with_reducible exact Below.refl _ _ | with_reducible assumption | with_reducible refine Below.drew ?_ | with_reducible refine below_drewN' ?_ _ | with_reducible refine Below.alloc ?_ ?_ _ | with_reducible refine Below.setCell ?_ ?_ _ | with_reducible refine below_step (by assumption) ?_ ?_ | omega | (simp; done) | (simp; omega)))⟩
    · subst e0
      rw [if_neg (by decide), if_pos (by decide)]
      by_cases g0 : vals.length = 0
      · have hh1 : ((vals.length : Int) == 0) = true := by rw [g0]; rfl
        rw [decide_eq_true g0]
        clear g0
        go_enter Try.func134, Try.ntmps134
        go_wp2_with (first | (go_at_call 107; (with_reducible refine (word_any key _).mono ?_); rw [K1.out]; rintro e w1 ⟨rfl, hb1⟩; obtain ⟨hc1, hf1⟩ := bcell hb1; have hz1 := hb1.size; (try simp at hz1); have z1_0 : w.heap.size < w1.heap.size := (by omega); have y1_0 : w.heap.size ≤ w1.heap.size := (by omega); have HB1 := Lib.hid (show Below w.heap.size w w1 by (repeat' (first | with_reducible exact Below.refl _ _ | with_reducible assumption | with_reducible refine Below.drew ?_ | with_reducible refine below_drewN' ?_ _ | with_reducible refine Below.alloc ?_ ?_ _ | with_reducible refine Below.setCell ?_ ?_ _ | with_reducible refine below_step (by assumption) ?_ ?_ | omega | (simp; done) | (simp; omega))))) | (go_at_call 140; (with_reducible refine (HC.out _ (HT.out.mono HB1.out)).mono ?_); rintro e w2 ⟨rfl, hb2⟩; have hz2 := hb2.size))
        go_ret
        exact ⟨by simp, by (repeat' (first | with_reducible exact Below.refl _ _ | with_reducible assumption | with_reducible refine Below.drew ?_ | with_reducible refine below_drewN' ?_ _ | with_reducible refine Below.alloc ?_ ?_ _ | with_reducible refine Below.setCell ?_ ?_ _ | with_reducible refine below_step (by assumption) ?_ ?_ | omega | (simp; done) | (simp; omega)))⟩
      · have hh1 : ((vals.length : Int) == 0) = false := by rw [beq_eq_false_iff_ne]; omega
        rw [decide_eq_false g0]
        clear g0
        go_enter Try.func134, Try.ntmps134
        go_wp2_with (first | (go_at_call 107; (with_reducible refine (word_any key _).mono ?_); rw [K1.out]; rintro e w1 ⟨rfl, hb1⟩; obtain ⟨hc1, hf1⟩ := bcell hb1; have hz1 := hb1.size; (try simp at hz1); have z1_0 : w.heap.size < w1.heap.size := (by omega); have y1_0 : w.heap.size ≤ w1.heap.size := (by omega); have HB1 := Lib.hid (show Below w.heap.size w w1 by (repeat' (first | with_reducible exact Below.refl _ _ | with_reducible assumption | with_reducible refine Below.drew ?_ | with_reducible refine below_drewN' ?_ _ | with_reducible refine Below.alloc ?_ ?_ _ | with_reducible refine Below.setCell ?_ ?_ _ | with_reducible refine below_step (by assumption) ?_ ?_ | omega | (simp; done) | (simp; omega))))) | (go_at_call 140; (with_reducible refine (HC.out _ (HT.out.mono HB1.out)).mono ?_); rintro e w2 ⟨rfl, hb2⟩; have hz2 := hb2.size))
        go_ret
        exact ⟨by simp, by (repeat' (first | with_reducible exact Below.refl _ _ | with_reducible assumption | with_reducible refine Below.drew ?_ | with_reducible refine below_drewN' ?_ _ | with_reducible refine Below.alloc ?_ ?_ _ | with_reducible refine Below.setCell ?_ ?_ _ | with_reducible refine below_step (by assumption) ?_ ?_ | omega | (simp; done) | (simp; omega)))⟩
    · subst e0
      rw [if_neg (by decide), if_neg (by decide), if_pos (by decide)]
      by_cases hone : vals.length = 1
      · obtain ⟨v0, hv0⟩ : ∃ v0, vals = [v0] := by
          match vals, hone with
          | [v0], _ => exact ⟨v0, rfl⟩
        subst hv0
        obtain ⟨b, off, rfl, hb, hc⟩ := HT.out (by simp)
        have c0 := txt_cell (hc 0 v0 rfl)
        simp only [Nat.zero_mul, Nat.add_zero] at c0
        have N := fun V => isnumber_any v0 (hs v0 List.mem_cons_self) V
        have ev : ([v0] : List ByteArray)[0]?.getD emp = v0 := rfl
        rw [ev, decide_eq_true hone]
        obtain ⟨nb, hnb⟩ : ∃ nb, decide ((numV v0).2 = 0) = nb := ⟨_, rfl⟩
        rw [hnb] at N ⊢
        have HN := Lib.hid N
        clear N hc hnb ev
        go_enter Try.func134, Try.ntmps134
        go_wp2_with (first | ((go_at_call 107; (with_reducible refine (word_any key _).mono ?_); rw [K1.out]; rintro e w1 ⟨rfl, hb1⟩; obtain ⟨hc1, hf1⟩ := bcell hb1; have hz1 := hb1.size; (try simp at hz1); have z1_0 : w.heap.size < w1.heap.size := (by omega); have y1_0 : w.heap.size ≤ w1.heap.size := (by omega); have HB1 := Lib.hid (show Below w.heap.size w w1 by (repeat' (first | with_reducible exact Below.refl _ _ | with_reducible assumption | with_reducible refine Below.drew ?_ | with_reducible refine below_drewN' ?_ _ | with_reducible refine Below.alloc ?_ ?_ _ | with_reducible refine Below.setCell ?_ ?_ _ | with_reducible refine below_step (by assumption) ?_ ?_ | omega | (simp; done) | (simp; omega))))); have hbv : b < w1.heap.size := (by omega)) | (go_at_call 142; (with_reducible refine (HN.out _).mono ?_); rintro e w2 ⟨rfl, hb2⟩; have hz2 := hb2.size))
        go_ret
        exact ⟨by simp, by (repeat' (first | with_reducible exact Below.refl _ _ | with_reducible assumption | with_reducible refine Below.drew ?_ | with_reducible refine below_drewN' ?_ _ | with_reducible refine Below.alloc ?_ ?_ _ | with_reducible refine Below.setCell ?_ ?_ _ | with_reducible refine below_step (by assumption) ?_ ?_ | omega | (simp; done) | (simp; omega)))⟩
      · have hh1 : ((vals.length : Int) == 1) = false := by rw [beq_eq_false_iff_ne]; omega
        rw [decide_eq_false hone]
        clear hone
        go_enter Try.func134, Try.ntmps134
        go_wp2_with (first | (go_at_call 107; (with_reducible refine (word_any key _).mono ?_); rw [K1.out]; rintro e w1 ⟨rfl, hb1⟩; obtain ⟨hc1, hf1⟩ := bcell hb1; have hz1 := hb1.size; (try simp at hz1); have z1_0 : w.heap.size < w1.heap.size := (by omega); have y1_0 : w.heap.size ≤ w1.heap.size := (by omega); have HB1 := Lib.hid (show Below w.heap.size w w1 by (repeat' (first | with_reducible exact Below.refl _ _ | with_reducible assumption | with_reducible refine Below.drew ?_ | with_reducible refine below_drewN' ?_ _ | with_reducible refine Below.alloc ?_ ?_ _ | with_reducible refine Below.setCell ?_ ?_ _ | with_reducible refine below_step (by assumption) ?_ ?_ | omega | (simp; done) | (simp; omega))))) | (go_at_call 140; (with_reducible refine (HC.out _ (HT.out.mono HB1.out)).mono ?_); rintro e w2 ⟨rfl, hb2⟩; have hz2 := hb2.size))
        go_ret
        exact ⟨by simp, by (repeat' (first | with_reducible exact Below.refl _ _ | with_reducible assumption | with_reducible refine Below.drew ?_ | with_reducible refine below_drewN' ?_ _ | with_reducible refine Below.alloc ?_ ?_ _ | with_reducible refine Below.setCell ?_ ?_ _ | with_reducible refine below_step (by assumption) ?_ ?_ | omega | (simp; done) | (simp; omega)))⟩
    · subst e0
      rw [if_neg (by decide), if_neg (by decide), if_pos (by decide)]
      by_cases hone : vals.length = 1
      · obtain ⟨v0, hv0⟩ : ∃ v0, vals = [v0] := by
          match vals, hone with
          | [v0], _ => exact ⟨v0, rfl⟩
        subst hv0
        obtain ⟨b, off, rfl, hb, hc⟩ := HT.out (by simp)
        have c0 := txt_cell (hc 0 v0 rfl)
        simp only [Nat.zero_mul, Nat.add_zero] at c0
        have N := fun V => isnumber_any v0 (hs v0 List.mem_cons_self) V
        have ev : ([v0] : List ByteArray)[0]?.getD emp = v0 := rfl
        rw [ev, decide_eq_true hone]
        obtain ⟨nb, hnb⟩ : ∃ nb, decide ((numV v0).2 = 0) = nb := ⟨_, rfl⟩
        rw [hnb] at N ⊢
        have HN := Lib.hid N
        clear N hc hnb ev
        go_enter Try.func134, Try.ntmps134
        go_wp2_with (first | ((go_at_call 107; (with_reducible refine (word_any key _).mono ?_); rw [K1.out]; rintro e w1 ⟨rfl, hb1⟩; obtain ⟨hc1, hf1⟩ := bcell hb1; have hz1 := hb1.size; (try simp at hz1); have z1_0 : w.heap.size < w1.heap.size := (by omega); have y1_0 : w.heap.size ≤ w1.heap.size := (by omega); have HB1 := Lib.hid (show Below w.heap.size w w1 by (repeat' (first | with_reducible exact Below.refl _ _ | with_reducible assumption | with_reducible refine Below.drew ?_ | with_reducible refine below_drewN' ?_ _ | with_reducible refine Below.alloc ?_ ?_ _ | with_reducible refine Below.setCell ?_ ?_ _ | with_reducible refine below_step (by assumption) ?_ ?_ | omega | (simp; done) | (simp; omega))))); have hbv : b < w1.heap.size := (by omega)) | (go_at_call 142; (with_reducible refine (HN.out _).mono ?_); rintro e w2 ⟨rfl, hb2⟩; have hz2 := hb2.size))
        go_ret
        exact ⟨by simp, by (repeat' (first | with_reducible exact Below.refl _ _ | with_reducible assumption | with_reducible refine Below.drew ?_ | with_reducible refine below_drewN' ?_ _ | with_reducible refine Below.alloc ?_ ?_ _ | with_reducible refine Below.setCell ?_ ?_ _ | with_reducible refine below_step (by assumption) ?_ ?_ | omega | (simp; done) | (simp; omega)))⟩
      · have hh1 : ((vals.length : Int) == 1) = false := by rw [beq_eq_false_iff_ne]; omega
        rw [decide_eq_false hone]
        clear hone
        go_enter Try.func134, Try.ntmps134
        go_wp2_with (first | (go_at_call 107; (with_reducible refine (word_any key _).mono ?_); rw [K1.out]; rintro e w1 ⟨rfl, hb1⟩; obtain ⟨hc1, hf1⟩ := bcell hb1; have hz1 := hb1.size; (try simp at hz1); have z1_0 : w.heap.size < w1.heap.size := (by omega); have y1_0 : w.heap.size ≤ w1.heap.size := (by omega); have HB1 := Lib.hid (show Below w.heap.size w w1 by (repeat' (first | with_reducible exact Below.refl _ _ | with_reducible assumption | with_reducible refine Below.drew ?_ | with_reducible refine below_drewN' ?_ _ | with_reducible refine Below.alloc ?_ ?_ _ | with_reducible refine Below.setCell ?_ ?_ _ | with_reducible refine below_step (by assumption) ?_ ?_ | omega | (simp; done) | (simp; omega))))) | (go_at_call 140; (with_reducible refine (HC.out _ (HT.out.mono HB1.out)).mono ?_); rintro e w2 ⟨rfl, hb2⟩; have hz2 := hb2.size))
        go_ret
        exact ⟨by simp, by (repeat' (first | with_reducible exact Below.refl _ _ | with_reducible assumption | with_reducible refine Below.drew ?_ | with_reducible refine below_drewN' ?_ _ | with_reducible refine Below.alloc ?_ ?_ _ | with_reducible refine Below.setCell ?_ ?_ _ | with_reducible refine below_step (by assumption) ?_ ?_ | omega | (simp; done) | (simp; omega)))⟩
    · obtain ⟨e1, e2, e3, e4, e5, e6⟩ := e0
      rw [if_neg (by omega), if_neg (by omega), if_neg (by omega)]
      go_enter Try.func134, Try.ntmps134
      go_wp2_with (first | (go_at_call 107; (with_reducible refine (word_any key _).mono ?_); rw [K1.out]; rintro e w1 ⟨rfl, hb1⟩; obtain ⟨hc1, hf1⟩ := bcell hb1; have hz1 := hb1.size; (try simp at hz1); have z1_0 : w.heap.size < w1.heap.size := (by omega); have y1_0 : w.heap.size ≤ w1.heap.size := (by omega); have HB1 := Lib.hid (show Below w.heap.size w w1 by (repeat' (first | with_reducible exact Below.refl _ _ | with_reducible assumption | with_reducible refine Below.drew ?_ | with_reducible refine below_drewN' ?_ _ | with_reducible refine Below.alloc ?_ ?_ _ | with_reducible refine Below.setCell ?_ ?_ _ | with_reducible refine below_step (by assumption) ?_ ?_ | omega | (simp; done) | (simp; omega))))) | (go_at_call 140; (with_reducible refine (HC.out _ (HT.out.mono HB1.out)).mono ?_); rintro e w2 ⟨rfl, hb2⟩; have hz2 := hb2.size))
      go_ret
      exact ⟨by rfl, by (repeat' (first | with_reducible exact Below.refl _ _ | with_reducible assumption | with_reducible refine Below.drew ?_ | with_reducible refine below_drewN' ?_ _ | with_reducible refine Below.alloc ?_ ?_ _ | with_reducible refine Below.setCell ?_ ?_ _ | with_reducible refine below_step (by assumption) ?_ ?_ | omega | (simp; done) | (simp; omega)))⟩
end Lb
end Go.Proofs.Ythbpnfpalcgfeaa
