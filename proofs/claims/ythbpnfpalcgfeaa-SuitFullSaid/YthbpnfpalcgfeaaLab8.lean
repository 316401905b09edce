/-
  The contracts of labels.Meets, triremeref05.Meets.
-/
import Derived.Test.YthbpnfpalcgfeaaLab7
namespace Go.Proofs.Ythbpnfpalcgfeaa
namespace Lb
set_option linter.unusedSimpArgs false
open Go.RowKit
set_option linter.unusedVariables false

set_option maxRecDepth 100000 in
set_option maxHeartbeats 8000000 in
theorem meets_any (c : Option Addr) (kc : Nat) (l : List Lab) (t : Trm) (w : World) (hF : LabL w c l) (hT : TrmAt w t) (hm : l.length ≤ 1000) (hn : t.vals.length ≤ 1000000) (hv : ∀ x ∈ l, x.val.size ≤ 1000000000) (hs : ∀ v ∈ t.vals, v.size ≤ 1000000000) :
    Calls Try.prog 94 #[.slice c l.length kc, .agg #[.string t.key, .int .i64 t.op, .slice t.va t.vals.length t.vk]] w fun e w' => e = .returned (.bool (meetP l t)) ∧ Below w.heap.size w w' := by
  obtain ⟨key, op, va, vk, vals⟩ := t
  obtain ⟨hT, -⟩ := hT
  dsimp only at hT hn hs ⊢
  have hsz := getV_size (key := key) hv
  have A := fun V (h : LabL V c l) => get_any c kc l key V h (by unfold maxLen; omega)
  unfold meetP
  dsimp only
  obtain ⟨gv, hgv⟩ : ∃ g, getV l key = g := ⟨_, rfl⟩
  rw [hgv] at hsz ⊢
  simp only [hgv] at A
  have B := fun V (h : TxtL V va vals) => containss_any va vk vals gv V h hn
  obtain ⟨ci, hci⟩ : ∃ g, vals.any (strB gv) = g := ⟨_, rfl⟩
  rw [hci] at B ⊢
  have HB := Lib.hid B
  have HF := Lib.hid hF
  have HT := Lib.hid hT
  clear hF hT hgv hci B hv
  cases hg : getB l key
  all_goals
    simp only [hg] at A
    have HA := Lib.hid A
    clear A hg
    rcases op_cases op with ⟨e0, h⟩ | ⟨e0, h1, h⟩ | ⟨e0, h1, h2, h⟩ | ⟨e0, h1, h2, h3, h⟩ | ⟨e0, h1, h2, h3, h4, h⟩ | ⟨e0, h1, h2, h3, h4, h5, h⟩ | ⟨e0, h1, h2, h3, h4, h5, h⟩
  case false.inl =>
    subst e0
    go_enter Try.func94, Try.ntmps94
    go_wp2_with (first | (go_at_call 78; (with_reducible refine (HA.out _ (HF.out.mono (by (repeat' (first | with_reducible exact Below.refl _ _ | with_reducible assumption | with_reducible refine Below.drew ?_ | with_reducible refine below_drewN' ?_ _ | with_reducible refine Below.alloc ?_ ?_ _ | with_reducible refine Below.setCell ?_ ?_ _ | with_reducible refine below_step (by assumption) ?_ ?_ | omega | (simp; done) | (simp; omega)))))).mono ?_); rintro e w1 ⟨rfl, hb1⟩; obtain ⟨hc1, hf1⟩ := bcell hb1; have hz1 := hb1.size; (try simp at hz1); have z1_0 : w.heap.size < w1.heap.size := (by omega); have y1_0 : w.heap.size ≤ w1.heap.size := (by omega); have HB1 := Lib.hid (show Below w.heap.size w w1 by (repeat' (first | with_reducible exact Below.refl _ _ | with_reducible assumption | with_reducible refine Below.drew ?_ | with_reducible refine below_drewN' ?_ _ | with_reducible refine Below.alloc ?_ ?_ _ | with_reducible refine Below.setCell ?_ ?_ _ | with_reducible refine below_step (by assumption) ?_ ?_ | omega | (simp; done) | (simp; omega))))) | (go_at_call 79; (with_reducible refine (HB.out _ (HT.out.mono HB1.out)).mono ?_); rintro e w2 ⟨rfl, hb2⟩; have hz2 := hb2.size))
    go_ret
    exact ⟨by simp [*], by (repeat' (first | with_reducible exact Below.refl _ _ | with_reducible assumption | with_reducible refine Below.drew ?_ | with_reducible refine below_drewN' ?_ _ | with_reducible refine Below.alloc ?_ ?_ _ | with_reducible refine Below.setCell ?_ ?_ _ | with_reducible refine below_step (by assumption) ?_ ?_ | omega | (simp; done) | (simp; omega)))⟩
  case false.inr.inl =>
    subst e0
    go_enter Try.func94, Try.ntmps94
    go_wp2_with (first | (go_at_call 78; (with_reducible refine (HA.out _ (HF.out.mono (by (repeat' (first | with_reducible exact Below.refl _ _ | with_reducible assumption | with_reducible refine Below.drew ?_ | with_reducible refine below_drewN' ?_ _ | with_reducible refine Below.alloc ?_ ?_ _ | with_reducible refine Below.setCell ?_ ?_ _ | with_reducible refine below_step (by assumption) ?_ ?_ | omega | (simp; done) | (simp; omega)))))).mono ?_); rintro e w1 ⟨rfl, hb1⟩; obtain ⟨hc1, hf1⟩ := bcell hb1; have hz1 := hb1.size; (try simp at hz1); have z1_0 : w.heap.size < w1.heap.size := (by omega); have y1_0 : w.heap.size ≤ w1.heap.size := (by omega); have HB1 := Lib.hid (show Below w.heap.size w w1 by (repeat' (first | with_reducible exact Below.refl _ _ | with_reducible assumption | with_reducible refine Below.drew ?_ | with_reducible refine below_drewN' ?_ _ | with_reducible refine Below.alloc ?_ ?_ _ | with_reducible refine Below.setCell ?_ ?_ _ | with_reducible refine below_step (by assumption) ?_ ?_ | omega | (simp; done) | (simp; omega))))) | (go_at_call 79; (with_reducible refine (HB.out _ (HT.out.mono HB1.out)).mono ?_); rintro e w2 ⟨rfl, hb2⟩; have hz2 := hb2.size))
    go_ret
    exact ⟨by simp [*], by (repeat' (first | with_reducible exact Below.refl _ _ | with_reducible assumption | with_reducible refine Below.drew ?_ | with_reducible refine below_drewN' ?_ _ | with_reducible refine Below.alloc ?_ ?_ _ | with_reducible refine Below.setCell ?_ ?_ _ | with_reducible refine below_step (by assumption) ?_ ?_ | omega | (simp; done) | (simp; omega)))⟩
  case false.inr.inr.inl =>
    subst e0
    go_enter Try.func94, Try.ntmps94
    go_wp2_with (first | (go_at_call 78; (with_reducible refine (HA.out _ (HF.out.mono (by (repeat' (first | with_reducible exact Below.refl _ _ | with_reducible assumption | with_reducible refine Below.drew ?_ | with_reducible refine below_drewN' ?_ _ | with_reducible refine Below.alloc ?_ ?_ _ | with_reducible refine Below.setCell ?_ ?_ _ | with_reducible refine below_step (by assumption) ?_ ?_ | omega | (simp; done) | (simp; omega)))))).mono ?_); rintro e w1 ⟨rfl, hb1⟩; obtain ⟨hc1, hf1⟩ := bcell hb1; have hz1 := hb1.size; (try simp at hz1); have z1_0 : w.heap.size < w1.heap.size := (by omega); have y1_0 : w.heap.size ≤ w1.heap.size := (by omega); have HB1 := Lib.hid (show Below w.heap.size w w1 by (repeat' (first | with_reducible exact Below.refl _ _ | with_reducible assumption | with_reducible refine Below.drew ?_ | with_reducible refine below_drewN' ?_ _ | with_reducible refine Below.alloc ?_ ?_ _ | with_reducible refine Below.setCell ?_ ?_ _ | with_reducible refine below_step (by assumption) ?_ ?_ | omega | (simp; done) | (simp; omega))))) | (go_at_call 79; (with_reducible refine (HB.out _ (HT.out.mono HB1.out)).mono ?_); rintro e w2 ⟨rfl, hb2⟩; have hz2 := hb2.size))
    go_ret
    exact ⟨by simp [*], by (repeat' (first | with_reducible exact Below.refl _ _ | with_reducible assumption | with_reducible refine Below.drew ?_ | with_reducible refine below_drewN' ?_ _ | with_reducible refine Below.alloc ?_ ?_ _ | with_reducible refine Below.setCell ?_ ?_ _ | with_reducible refine below_step (by assumption) ?_ ?_ | omega | (simp; done) | (simp; omega)))⟩
  case false.inr.inr.inr.inl =>
    subst e0
    go_enter Try.func94, Try.ntmps94
    go_wp2_with (first | (go_at_call 78; (with_reducible refine (HA.out _ (HF.out.mono (by (repeat' (first | with_reducible exact Below.refl _ _ | with_reducible assumption | with_reducible refine Below.drew ?_ | with_reducible refine below_drewN' ?_ _ | with_reducible refine Below.alloc ?_ ?_ _ | with_reducible refine Below.setCell ?_ ?_ _ | with_reducible refine below_step (by assumption) ?_ ?_ | omega | (simp; done) | (simp; omega)))))).mono ?_); rintro e w1 ⟨rfl, hb1⟩; obtain ⟨hc1, hf1⟩ := bcell hb1; have hz1 := hb1.size; (try simp at hz1); have z1_0 : w.heap.size < w1.heap.size := (by omega); have y1_0 : w.heap.size ≤ w1.heap.size := (by omega); have HB1 := Lib.hid (show Below w.heap.size w w1 by (repeat' (first | with_reducible exact Below.refl _ _ | with_reducible assumption | with_reducible refine Below.drew ?_ | with_reducible refine below_drewN' ?_ _ | with_reducible refine Below.alloc ?_ ?_ _ | with_reducible refine Below.setCell ?_ ?_ _ | with_reducible refine below_step (by assumption) ?_ ?_ | omega | (simp; done) | (simp; omega))))) | (go_at_call 79; (with_reducible refine (HB.out _ (HT.out.mono HB1.out)).mono ?_); rintro e w2 ⟨rfl, hb2⟩; have hz2 := hb2.size))
    go_ret
    exact ⟨by simp [*], by (repeat' (first | with_reducible exact Below.refl _ _ | with_reducible assumption | with_reducible refine Below.drew ?_ | with_reducible refine below_drewN' ?_ _ | with_reducible refine Below.alloc ?_ ?_ _ | with_reducible refine Below.setCell ?_ ?_ _ | with_reducible refine below_step (by assumption) ?_ ?_ | omega | (simp; done) | (simp; omega)))⟩
  case true.inl =>
    subst e0
    go_enter Try.func94, Try.ntmps94
    go_wp2_with (first | (go_at_call 78; (with_reducible refine (HA.out _ (HF.out.mono (by (repeat' (first | with_reducible exact Below.refl _ _ | with_reducible assumption | with_reducible refine Below.drew ?_ | with_reducible refine below_drewN' ?_ _ | with_reducible refine Below.alloc ?_ ?_ _ | with_reducible refine Below.setCell ?_ ?_ _ | with_reducible refine below_step (by assumption) ?_ ?_ | omega | (simp; done) | (simp; omega)))))).mono ?_); rintro e w1 ⟨rfl, hb1⟩; obtain ⟨hc1, hf1⟩ := bcell hb1; have hz1 := hb1.size; (try simp at hz1); have z1_0 : w.heap.size < w1.heap.size := (by omega); have y1_0 : w.heap.size ≤ w1.heap.size := (by omega); have HB1 := Lib.hid (show Below w.heap.size w w1 by (repeat' (first | with_reducible exact Below.refl _ _ | with_reducible assumption | with_reducible refine Below.drew ?_ | with_reducible refine below_drewN' ?_ _ | with_reducible refine Below.alloc ?_ ?_ _ | with_reducible refine Below.setCell ?_ ?_ _ | with_reducible refine below_step (by assumption) ?_ ?_ | omega | (simp; done) | (simp; omega))))) | (go_at_call 79; (with_reducible refine (HB.out _ (HT.out.mono HB1.out)).mono ?_); rintro e w2 ⟨rfl, hb2⟩; have hz2 := hb2.size))
    go_ret
    exact ⟨by simp [*], by (repeat' (first | with_reducible exact Below.refl _ _ | with_reducible assumption | with_reducible refine Below.drew ?_ | with_reducible refine below_drewN' ?_ _ | with_reducible refine Below.alloc ?_ ?_ _ | with_reducible refine Below.setCell ?_ ?_ _ | with_reducible refine below_step (by assumption) ?_ ?_ | omega | (simp; done) | (simp; omega)))⟩
  case true.inr.inl =>
    subst e0
    go_enter Try.func94, Try.ntmps94
    go_wp2_with (first | (go_at_call 78; (with_reducible refine (HA.out _ (HF.out.mono (by (repeat' (first | with_reducible exact Below.refl _ _ | with_reducible assumption | with_reducible refine Below.drew ?_ | with_reducible refine below_drewN' ?_ _ | with_reducible refine Below.alloc ?_ ?_ _ | with_reducible refine Below.setCell ?_ ?_ _ | with_reducible refine below_step (by assumption) ?_ ?_ | omega | (simp; done) | (simp; omega)))))).mono ?_); rintro e w1 ⟨rfl, hb1⟩; obtain ⟨hc1, hf1⟩ := bcell hb1; have hz1 := hb1.size; (try simp at hz1); have z1_0 : w.heap.size < w1.heap.size := (by omega); have y1_0 : w.heap.size ≤ w1.heap.size := (by omega); have HB1 := Lib.hid (show Below w.heap.size w w1 by (repeat' (first | with_reducible exact Below.refl _ _ | with_reducible assumption | with_reducible refine Below.drew ?_ | with_reducible refine below_drewN' ?_ _ | with_reducible refine Below.alloc ?_ ?_ _ | with_reducible refine Below.setCell ?_ ?_ _ | with_reducible refine below_step (by assumption) ?_ ?_ | omega | (simp; done) | (simp; omega))))) | (go_at_call 79; (with_reducible refine (HB.out _ (HT.out.mono HB1.out)).mono ?_); rintro e w2 ⟨rfl, hb2⟩; have hz2 := hb2.size))
    go_ret
    exact ⟨by simp [*], by (repeat' (first | with_reducible exact Below.refl _ _ | with_reducible assumption | with_reducible refine Below.drew ?_ | with_reducible refine below_drewN' ?_ _ | with_reducible refine Below.alloc ?_ ?_ _ | with_reducible refine Below.setCell ?_ ?_ _ | with_reducible refine below_step (by assumption) ?_ ?_ | omega | (simp; done) | (simp; omega)))⟩
  case true.inr.inr.inl =>
    subst e0
    go_enter Try.func94, Try.ntmps94
    go_wp2_with (first | (go_at_call 78; (with_reducible refine (HA.out _ (HF.out.mono (by (repeat' (first | with_reducible exact Below.refl _ _ | with_reducible assumption | with_reducible refine Below.drew ?_ | with_reducible refine below_drewN' ?_ _ | with_reducible refine Below.alloc ?_ ?_ _ | with_reducible refine Below.setCell ?_ ?_ _ | with_reducible refine below_step (by assumption) ?_ ?_ | omega | (simp; done) | (simp; omega)))))).mono ?_); rintro e w1 ⟨rfl, hb1⟩; obtain ⟨hc1, hf1⟩ := bcell hb1; have hz1 := hb1.size; (try simp at hz1); have z1_0 : w.heap.size < w1.heap.size := (by omega); have y1_0 : w.heap.size ≤ w1.heap.size := (by omega); have HB1 := Lib.hid (show Below w.heap.size w w1 by (repeat' (first | with_reducible exact Below.refl _ _ | with_reducible assumption | with_reducible refine Below.drew ?_ | with_reducible refine below_drewN' ?_ _ | with_reducible refine Below.alloc ?_ ?_ _ | with_reducible refine Below.setCell ?_ ?_ _ | with_reducible refine below_step (by assumption) ?_ ?_ | omega | (simp; done) | (simp; omega))))) | (go_at_call 79; (with_reducible refine (HB.out _ (HT.out.mono HB1.out)).mono ?_); rintro e w2 ⟨rfl, hb2⟩; have hz2 := hb2.size))
    go_ret
    exact ⟨by simp [*], by (repeat' (first | with_reducible exact Below.refl _ _ | with_reducible assumption | with_reducible refine Below.drew ?_ | with_reducible refine below_drewN' ?_ _ | with_reducible refine Below.alloc ?_ ?_ _ | with_reducible refine Below.setCell ?_ ?_ _ | with_reducible refine below_step (by assumption) ?_ ?_ | omega | (simp; done) | (simp; omega)))⟩
  case true.inr.inr.inr.inl =>
    subst e0
    go_enter Try.func94, Try.ntmps94
    go_wp2_with (first | (go_at_call 78; (with_reducible refine (HA.out _ (HF.out.mono (by (repeat' (first | with_reducible exact Below.refl _ _ | with_reducible assumption | with_reducible refine Below.drew ?_ | with_reducible refine below_drewN' ?_ _ | with_reducible refine Below.alloc ?_ ?_ _ | with_reducible refine Below.setCell ?_ ?_ _ | with_reducible refine below_step (by assumption) ?_ ?_ | omega | (simp; done) | (simp; omega)))))).mono ?_); rintro e w1 ⟨rfl, hb1⟩; obtain ⟨hc1, hf1⟩ := bcell hb1; have hz1 := hb1.size; (try simp at hz1); have z1_0 : w.heap.size < w1.heap.size := (by omega); have y1_0 : w.heap.size ≤ w1.heap.size := (by omega); have HB1 := Lib.hid (show Below w.heap.size w w1 by (repeat' (first | with_reducible exact Below.refl _ _ | with_reducible assumption | with_reducible refine Below.drew ?_ | with_reducible refine below_drewN' ?_ _ | with_reducible refine Below.alloc ?_ ?_ _ | with_reducible refine Below.setCell ?_ ?_ _ | with_reducible refine below_step (by assumption) ?_ ?_ | omega | (simp; done) | (simp; omega))))) | (go_at_call 79; (with_reducible refine (HB.out _ (HT.out.mono HB1.out)).mono ?_); rintro e w2 ⟨rfl, hb2⟩; have hz2 := hb2.size))
    go_ret
    exact ⟨by simp [*], by (repeat' (first | with_reducible exact Below.refl _ _ | with_reducible assumption | with_reducible refine Below.drew ?_ | with_reducible refine below_drewN' ?_ _ | with_reducible refine Below.alloc ?_ ?_ _ | with_reducible refine Below.setCell ?_ ?_ _ | with_reducible refine below_step (by assumption) ?_ ?_ | omega | (simp; done) | (simp; omega)))⟩
  case false.inr.inr.inr.inr.inr.inr =>
    obtain ⟨e1, e2, e3, e4, e5, e6⟩ := e0
    go_enter Try.func94, Try.ntmps94
    go_wp2_with (first | (go_at_call 78; (with_reducible refine (HA.out _ (HF.out.mono (by (repeat' (first | with_reducible exact Below.refl _ _ | with_reducible assumption | with_reducible refine Below.drew ?_ | with_reducible refine below_drewN' ?_ _ | with_reducible refine Below.alloc ?_ ?_ _ | with_reducible refine Below.setCell ?_ ?_ _ | with_reducible refine below_step (by assumption) ?_ ?_ | omega | (simp; done) | (simp; omega)))))).mono ?_); rintro e w1 ⟨rfl, hb1⟩; obtain ⟨hc1, hf1⟩ := bcell hb1; have hz1 := hb1.size; (try simp at hz1); have z1_0 : w.heap.size < w1.heap.size := (by omega); have y1_0 : w.heap.size ≤ w1.heap.size := (by omega); have HB1 := Lib.hid (show Below w.heap.size w w1 by (repeat' (first | with_reducible exact Below.refl _ _ | with_reducible assumption | with_reducible refine Below.drew ?_ | with_reducible refine below_drewN' ?_ _ | with_reducible refine Below.alloc ?_ ?_ _ | with_reducible refine Below.setCell ?_ ?_ _ | with_reducible refine below_step (by assumption) ?_ ?_ | omega | (simp; done) | (simp; omega))))) | (go_at_call 79; (with_reducible refine (HB.out _ (HT.out.mono HB1.out)).mono ?_); rintro e w2 ⟨rfl, hb2⟩; have hz2 := hb2.size))
    go_ret
    exact ⟨by simp [*], by (repeat' (first | with_reducible exact Below.refl _ _ | with_reducible assumption | with_reducible refine Below.drew ?_ | with_reducible refine below_drewN' ?_ _ | with_reducible refine Below.alloc ?_ ?_ _ | with_reducible refine Below.setCell ?_ ?_ _ | with_reducible refine below_step (by assumption) ?_ ?_ | omega | (simp; done) | (simp; omega)))⟩
  case true.inr.inr.inr.inr.inr.inr =>
    obtain ⟨e1, e2, e3, e4, e5, e6⟩ := e0
    go_enter Try.func94, Try.ntmps94
    go_wp2_with (first | (go_at_call 78; (with_reducible refine (HA.out _ (HF.out.mono (by (repeat' (first | with_reducible exact Below.refl _ _ | with_reducible assumption | with_reducible refine Below.drew ?_ | with_reducible refine below_drewN' ?_ _ | with_reducible refine Below.alloc ?_ ?_ _ | with_reducible refine Below.setCell ?_ ?_ _ | with_reducible refine below_step (by assumption) ?_ ?_ | omega | (simp; done) | (simp; omega)))))).mono ?_); rintro e w1 ⟨rfl, hb1⟩; obtain ⟨hc1, hf1⟩ := bcell hb1; have hz1 := hb1.size; (try simp at hz1); have z1_0 : w.heap.size < w1.heap.size := (by omega); have y1_0 : w.heap.size ≤ w1.heap.size := (by omega); have HB1 := Lib.hid (show Below w.heap.size w w1 by (repeat' (first | with_reducible exact Below.refl _ _ | with_reducible assumption | with_reducible refine Below.drew ?_ | with_reducible refine below_drewN' ?_ _ | with_reducible refine Below.alloc ?_ ?_ _ | with_reducible refine Below.setCell ?_ ?_ _ | with_reducible refine below_step (by assumption) ?_ ?_ | omega | (simp; done) | (simp; omega))))) | (go_at_call 79; (with_reducible refine (HB.out _ (HT.out.mono HB1.out)).mono ?_); rintro e w2 ⟨rfl, hb2⟩; have hz2 := hb2.size))
    go_ret
    exact ⟨by simp [*], by (repeat' (first | with_reducible exact Below.refl _ _ | with_reducible assumption | with_reducible refine Below.drew ?_ | with_reducible refine below_drewN' ?_ _ | with_reducible refine Below.alloc ?_ ?_ _ | with_reducible refine Below.setCell ?_ ?_ _ | with_reducible refine below_step (by assumption) ?_ ?_ | omega | (simp; done) | (simp; omega)))⟩
  case false.inr.inr.inr.inr.inl =>
    subst e0
    go_enter Try.func94, Try.ntmps94
    go_wp2_with (go_at_call 78; (with_reducible refine (HA.out _ (HF.out.mono (by (repeat' (first | with_reducible exact Below.refl _ _ | with_reducible assumption | with_reducible refine Below.drew ?_ | with_reducible refine below_drewN' ?_ _ | with_reducible refine Below.alloc ?_ ?_ _ | with_reducible refine Below.setCell ?_ ?_ _ | with_reducible refine below_step (by assumption) ?_ ?_ | omega | (simp; done) | (simp; omega)))))).mono ?_); rintro e w1 ⟨rfl, hb1⟩; obtain ⟨hc1, hf1⟩ := bcell hb1; have hz1 := hb1.size; (try simp at hz1); have z1_0 : w.heap.size < w1.heap.size := (by omega); have y1_0 : w.heap.size ≤ w1.heap.size := (by omega); have HB1 := Lib.hid (show Below w.heap.size w w1 by (repeat' (first | with_reducible exact Below.refl _ _ | with_reducible assumption | with_reducible refine Below.drew ?_ | with_reducible refine below_drewN' ?_ _ | with_reducible refine Below.alloc ?_ ?_ _ | with_reducible refine Below.setCell ?_ ?_ _ | with_reducible refine below_step (by assumption) ?_ ?_ | omega | (simp; done) | (simp; omega)))))
    have hcH := held_cell
    refine region_below (by kernel_rfl) (by kernel_rfl) ?_
    repeat
      ((with_reducible refine wpQuiet_step (fun K hK => ?_))
       go_simp
       first
         | ((with_reducible refine hK _ ?_); clear hK K)
         | (apply Exists.intro
            (with_reducible refine ⟨fun n => ?_, hK _ ?_⟩)
            (fail)
            clear hK K))
    with_reducible refine wpQuiet_nil ?_
    intro w3 hw2
    clear hcH
    obtain ⟨⟨_, hb3⟩, rfl⟩ := hw2
    (try dsimp only)
    obtain ⟨hc3, hf3⟩ := bcell hb3
    have hz3 := hb3.size
    (try simp at hz3)
    go_wp2
    go_ret
    exact ⟨by simp, by (repeat' (first | with_reducible exact Below.refl _ _ | with_reducible assumption | with_reducible refine Below.drew ?_ | with_reducible refine below_drewN' ?_ _ | with_reducible refine Below.alloc ?_ ?_ _ | with_reducible refine Below.setCell ?_ ?_ _ | with_reducible refine below_step (by assumption) ?_ ?_ | omega | (simp; done) | (simp; omega)))⟩
  case false.inr.inr.inr.inr.inr.inl =>
    subst e0
    go_enter Try.func94, Try.ntmps94
    go_wp2_with (go_at_call 78; (with_reducible refine (HA.out _ (HF.out.mono (by (repeat' (first | with_reducible exact Below.refl _ _ | with_reducible assumption | with_reducible refine Below.drew ?_ | with_reducible refine below_drewN' ?_ _ | with_reducible refine Below.alloc ?_ ?_ _ | with_reducible refine Below.setCell ?_ ?_ _ | with_reducible refine below_step (by assumption) ?_ ?_ | omega | (simp; done) | (simp; omega)))))).mono ?_); rintro e w1 ⟨rfl, hb1⟩; obtain ⟨hc1, hf1⟩ := bcell hb1; have hz1 := hb1.size; (try simp at hz1); have z1_0 : w.heap.size < w1.heap.size := (by omega); have y1_0 : w.heap.size ≤ w1.heap.size := (by omega); have HB1 := Lib.hid (show Below w.heap.size w w1 by (repeat' (first | with_reducible exact Below.refl _ _ | with_reducible assumption | with_reducible refine Below.drew ?_ | with_reducible refine below_drewN' ?_ _ | with_reducible refine Below.alloc ?_ ?_ _ | with_reducible refine Below.setCell ?_ ?_ _ | with_reducible refine below_step (by assumption) ?_ ?_ | omega | (simp; done) | (simp; omega)))))
    have hcH := held_cell
    refine region_below (by kernel_rfl) (by kernel_rfl) ?_
    repeat
      ((with_reducible refine wpQuiet_step (fun K hK => ?_))
       go_simp
       first
         | ((with_reducible refine hK _ ?_); clear hK K)
         | (apply Exists.intro
            (with_reducible refine ⟨fun n => ?_, hK _ ?_⟩)
            (fail)
            clear hK K))
    with_reducible refine wpQuiet_nil ?_
    intro w3 hw2
    clear hcH
    obtain ⟨⟨_, hb3⟩, rfl⟩ := hw2
    (try dsimp only)
    obtain ⟨hc3, hf3⟩ := bcell hb3
    have hz3 := hb3.size
    (try simp at hz3)
    go_wp2
    go_ret
    exact ⟨by simp, by (repeat' (first | with_reducible exact Below.refl _ _ | with_reducible assumption | with_reducible refine Below.drew ?_ | with_reducible refine below_drewN' ?_ _ | with_reducible refine Below.alloc ?_ ?_ _ | with_reducible refine Below.setCell ?_ ?_ _ | with_reducible refine below_step (by assumption) ?_ ?_ | omega | (simp; done) | (simp; omega)))⟩
  all_goals
    subst e0
    by_cases hone : vals.length = 1
    · obtain ⟨v0, hv0⟩ : ∃ v0, vals = [v0] := by
        match vals, hone with
        | [v0], _ => exact ⟨v0, rfl⟩
      subst hv0
      obtain ⟨b, off, rfl, hb, hc⟩ := HT.out (by simp)
      have c0 := txt_cell (hc 0 v0 rfl)
      simp only [Nat.zero_mul, Nat.add_zero] at c0
      have X := fun op V => exceeds_any gv v0 op hsz (hs v0 List.mem_cons_self) V
      have HX := Lib.hid X
      clear X hc
      go_enter Try.func94, Try.ntmps94
      go_wp2_with (first | (go_at_call 78; (with_reducible refine (HA.out _ (HF.out.mono (by (repeat' (first | with_reducible exact Below.refl _ _ | with_reducible assumption | with_reducible refine Below.drew ?_ | with_reducible refine below_drewN' ?_ _ | with_reducible refine Below.alloc ?_ ?_ _ | with_reducible refine Below.setCell ?_ ?_ _ | with_reducible refine below_step (by assumption) ?_ ?_ | omega | (simp; done) | (simp; omega)))))).mono ?_); rintro e w1 ⟨rfl, hb1⟩; obtain ⟨hc1, hf1⟩ := bcell hb1; have hz1 := hb1.size; (try simp at hz1); have z1_0 : w.heap.size < w1.heap.size := (by omega); have y1_0 : w.heap.size ≤ w1.heap.size := (by omega); have HB1 := Lib.hid (show Below w.heap.size w w1 by (repeat' (first | with_reducible exact Below.refl _ _ | with_reducible assumption | with_reducible refine Below.drew ?_ | with_reducible refine below_drewN' ?_ _ | with_reducible refine Below.alloc ?_ ?_ _ | with_reducible refine Below.setCell ?_ ?_ _ | with_reducible refine below_step (by assumption) ?_ ?_ | omega | (simp; done) | (simp; omega))))))
      have hbv : b < w1.heap.size := by omega
      have hcH := held_cell
      refine region_below (by kernel_rfl) (by kernel_rfl) ?_
      repeat
        ((with_reducible refine wpQuiet_step (fun K hK => ?_))
         go_simp
         first
           | ((with_reducible refine hK _ ?_); clear hK K)
           | (apply Exists.intro
              (with_reducible refine ⟨fun n => ?_, hK _ ?_⟩)
              ((go_at_call 117; exact held_calls (HX.out _ _)))
              clear hK K))
      with_reducible refine wpQuiet_nil ?_
      intro w3 hw2
      clear hcH
      obtain ⟨⟨_, hb3⟩, rfl⟩ := hw2
      (try dsimp only)
      obtain ⟨hc3, hf3⟩ := bcell hb3
      have hz3 := hb3.size
      (try simp at hz3)
      go_wp2
      go_ret
      exact ⟨by simp, by (repeat' (first | with_reducible exact Below.refl _ _ | with_reducible assumption | with_reducible refine Below.drew ?_ | with_reducible refine below_drewN' ?_ _ | with_reducible refine Below.alloc ?_ ?_ _ | with_reducible refine Below.setCell ?_ ?_ _ | with_reducible refine below_step (by assumption) ?_ ?_ | omega | (simp; done) | (simp; omega)))⟩
    · have hone2 : ((vals.length : Int) == 1) = false := by rw [beq_eq_false_iff_ne]; omega
      go_enter Try.func94, Try.ntmps94
      go_wp2_with (go_at_call 78; (with_reducible refine (HA.out _ (HF.out.mono (by (repeat' (first | with_reducible exact Below.refl _ _ | with_reducible assumption | with_reducible refine Below.drew ?_ | with_reducible refine below_drewN' ?_ _ | with_reducible refine Below.alloc ?_ ?_ _ | with_reducible refine Below.setCell ?_ ?_ _ | with_reducible refine below_step (by assumption) ?_ ?_ | omega | (simp; done) | (simp; omega)))))).mono ?_); rintro e w1 ⟨rfl, hb1⟩; obtain ⟨hc1, hf1⟩ := bcell hb1; have hz1 := hb1.size; (try simp at hz1); have z1_0 : w.heap.size < w1.heap.size := (by omega); have y1_0 : w.heap.size ≤ w1.heap.size := (by omega); have HB1 := Lib.hid (show Below w.heap.size w w1 by (repeat' (first | with_reducible exact Below.refl _ _ | with_reducible assumption | with_reducible refine Below.drew ?_ | with_reducible refine below_drewN' ?_ _ | with_reducible refine Below.alloc ?_ ?_ _ | with_reducible refine Below.setCell ?_ ?_ _ | with_reducible refine below_step (by assumption) ?_ ?_ | omega | (simp; done) | (simp; omega)))))
      have hcH := held_cell
      refine region_below (by kernel_rfl) (by kernel_rfl) ?_
      repeat
        ((with_reducible refine wpQuiet_step (fun K hK => ?_))
         go_simp
         first
           | ((with_reducible refine hK _ ?_); clear hK K)
           | (apply Exists.intro
              (with_reducible refine ⟨fun n => ?_, hK _ ?_⟩)
              (fail)
              clear hK K))
      with_reducible refine wpQuiet_nil ?_
      intro w3 hw2
      clear hcH
      obtain ⟨⟨_, hb3⟩, rfl⟩ := hw2
      (try dsimp only)
      obtain ⟨hc3, hf3⟩ := bcell hb3
      have hz3 := hb3.size
      (try simp at hz3)
      go_wp2
      go_ret
      exact ⟨by simp [hone], by (repeat' (first | with_reducible exact Below.refl _ _ | with_reducible assumption | with_reducible refine Below.drew ?_ | with_reducible refine below_drewN' ?_ _ | with_reducible refine Below.alloc ?_ ?_ _ | with_reducible refine Below.setCell ?_ ?_ _ | with_reducible refine below_step (by assumption) ?_ ?_ | omega | (simp; done) | (simp; omega)))⟩
end Lb
end Go.Proofs.Ythbpnfpalcgfeaa
