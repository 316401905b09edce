/-
  Labels: the document's All.
-/
import Derived.Test.YthbpnfpalcgfeaaGreatLab15
namespace Go.Proofs.YthbpnfpalcgfeaaGreat
namespace Lb
open Go.RowKit
set_option linter.unusedVariables false
set_option linter.unusedSimpArgs false

set_option maxRecDepth 100000 in
set_option maxHeartbeats 4000000 in
theorem refall_any (c a : Option Addr) (kc ka : Nat) (l : List Lab) (ts : List Trm) (w : World) (hF : LabL w c l) (hT : TrmL w a ts) (hA : ∀ t ∈ ts, TrmAt w t) (hm : l.length ≤ 1000) (hn : ts.length ≤ 1000000) (hn2 : ∀ t ∈ ts, t.vals.length ≤ 1000000)
    (hv : ∀ x ∈ l, x.val.size ≤ 1000000000) (hs : ∀ t ∈ ts, ∀ v ∈ t.vals, v.size ≤ 1000000000) (hr : ∀ t ∈ ts, rtrm t = true) :
    Calls Tryz.prog 77 #[.slice c l.length kc, .slice a ts.length ka] w fun e w' => e = .returned (.bool (ts.all (meetP l))) ∧ Below w.heap.size w w' := by
  have HF := Lib.hid hF
  have HT := Lib.hid hT
  have HA := Lib.hid hA
  have Hn2 := Lib.hid hn2
  have Hv := Lib.hid hv
  have Hsz := Lib.hid hs
  have Hr := Lib.hid hr
  clear hF hT hA hn2 hv hs hr
  obtain ⟨n, hln⟩ : ∃ n, ts.length = n := ⟨_, rfl⟩
  rw [hln] at hn ⊢
  have Hln := Lib.hid hln
  clear hln
  go_enter Tryz.func77, Tryz.ntmps77
  go_wp2
  go_loopw [5] (fun i wr => ∃ k : Nat, k ≤ n ∧ i = .int .i64 k ∧ (ts.take k).all (meetP l) = true ∧ Below w.heap.size w wr) (fun i _ => n - (intOf i).toNat)
  case atStart => exact ⟨0, by omega, rfl, rfl, by (repeat' (first | with_reducible exact Below.refl _ _ | with_reducible assumption | with_reducible refine Below.drew ?_ | with_reducible refine below_drewN' ?_ _ | with_reducible refine Below.alloc ?_ ?_ _ | with_reducible refine Below.setCell ?_ ?_ _ | with_reducible refine below_step (by assumption) ?_ ?_ | omega | (simp; done) | (simp; omega)))⟩
  case round =>
    obtain ⟨k, hk, rfl, hE, hB⟩ := hrel
    obtain ⟨hcB, hfB⟩ := bcell hB
    have hbz := hB.size
    have HE := Lib.hid hE
    have HB := Lib.hid hB
    clear hE
    by_cases hlt : k < n
    · obtain ⟨t, hx⟩ := mem_at (l := ts) (k := k) (by rw [Hln.out]; exact hlt)
      obtain ⟨b, off, rfl, hb, hc⟩ := HT.out (by rw [Hln.out]; omega)
      have hbw : b < wr.heap.size := by omega
      obtain ⟨c0, c1, c2⟩ := trm_cells (hc k t hx)
      have hmem := List.mem_of_getElem? hx
      have A := fun V (h : LabL V c l) (h2 : TrmAt V t) => refmeets_any c kc l t V h h2 hm (Hn2.out t hmem) Hv.out (Hsz.out t hmem) (Hr.out t hmem)
      have HAt := Lib.hid (HA.out t hmem)
      have Hx := Lib.hid hx
      clear hc hx hmem
      cases hv : meetP l t
      · have Hs := Lib.hid (show ts.all (meetP l) = false from all_bad Hx.out hv)
        simp only [hv] at A
        have HM := Lib.hid A
        clear hv A
        go_wp2_with (go_at_call 103; (with_reducible refine (HM.out _ (HF.out.mono (by (repeat' (first | with_reducible exact Below.refl _ _ | with_reducible assumption | with_reducible refine Below.drew ?_ | with_reducible refine below_drewN' ?_ _ | with_reducible refine Below.alloc ?_ ?_ _ | with_reducible refine Below.setCell ?_ ?_ _ | with_reducible refine below_step (by assumption) ?_ ?_ | omega | (simp; done) | (simp; omega))))) (HAt.out.mono (by (repeat' (first | with_reducible exact Below.refl _ _ | with_reducible assumption | with_reducible refine Below.drew ?_ | with_reducible refine below_drewN' ?_ _ | with_reducible refine Below.alloc ?_ ?_ _ | with_reducible refine Below.setCell ?_ ?_ _ | with_reducible refine below_step (by assumption) ?_ ?_ | omega | (simp; done) | (simp; omega)))))).mono ?_); rintro e w1 ⟨rfl, hb1⟩; have hz1 := hb1.size)
        go_ret
        exact ⟨by rw [Hs.out]; rfl, by (repeat' (first | with_reducible exact Below.refl _ _ | with_reducible assumption | with_reducible refine Below.drew ?_ | with_reducible refine below_drewN' ?_ _ | with_reducible refine Below.alloc ?_ ?_ _ | with_reducible refine Below.setCell ?_ ?_ _ | with_reducible refine below_step (by assumption) ?_ ?_ | omega | (simp; done) | (simp; omega)))⟩
      · have Hs := Lib.hid (all_take1 Hx.out hv HE.out)
        simp only [hv] at A
        have HM := Lib.hid A
        clear hv A
        go_wp2_with (go_at_call 103; (with_reducible refine (HM.out _ (HF.out.mono (by (repeat' (first | with_reducible exact Below.refl _ _ | with_reducible assumption | with_reducible refine Below.drew ?_ | with_reducible refine below_drewN' ?_ _ | with_reducible refine Below.alloc ?_ ?_ _ | with_reducible refine Below.setCell ?_ ?_ _ | with_reducible refine below_step (by assumption) ?_ ?_ | omega | (simp; done) | (simp; omega))))) (HAt.out.mono (by (repeat' (first | with_reducible exact Below.refl _ _ | with_reducible assumption | with_reducible refine Below.drew ?_ | with_reducible refine below_drewN' ?_ _ | with_reducible refine Below.alloc ?_ ?_ _ | with_reducible refine Below.setCell ?_ ?_ _ | with_reducible refine below_step (by assumption) ?_ ?_ | omega | (simp; done) | (simp; omega)))))).mono ?_); rintro e w1 ⟨rfl, hb1⟩; have hz1 := hb1.size)
        go_roundw
        case rel => exact ⟨k + 1, by omega, by go_num, Hs.out, by (repeat' (first | with_reducible exact Below.refl _ _ | with_reducible assumption | with_reducible refine Below.drew ?_ | with_reducible refine below_drewN' ?_ _ | with_reducible refine Below.alloc ?_ ?_ _ | with_reducible refine Below.setCell ?_ ?_ _ | with_reducible refine below_step (by assumption) ?_ ?_ | omega | (simp; done) | (simp; omega)))⟩
        case measure => simp [intOf]; omega
    · obtain rfl : k = n := by omega
      have Hs := Lib.hid (show ts.all (meetP l) = true from all_done Hln.out HE.out)
      go_wp2
      go_ret
      exact ⟨by rw [Hs.out]; rfl, by (repeat' (first | with_reducible exact Below.refl _ _ | with_reducible assumption | with_reducible refine Below.drew ?_ | with_reducible refine below_drewN' ?_ _ | with_reducible refine Below.alloc ?_ ?_ _ | with_reducible refine Below.setCell ?_ ?_ _ | with_reducible refine below_step (by assumption) ?_ ?_ | omega | (simp; done) | (simp; omega)))⟩
end Lb
end Go.Proofs.YthbpnfpalcgfeaaGreat
