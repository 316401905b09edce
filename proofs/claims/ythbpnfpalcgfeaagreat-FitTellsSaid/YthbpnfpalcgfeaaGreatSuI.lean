/-
  The contracts of slices.Index and Contains over numbers.
-/
import Derived.Test.YthbpnfpalcgfeaaGreatLabNB
import Derived.Test.YthbpnfpalcgfeaaGreatND
namespace Go.Proofs.YthbpnfpalcgfeaaGreat
namespace Lb
set_option linter.unusedSimpArgs false
open Go.RowKit
set_option linter.unusedVariables false

def intB (v x : Int) : Bool := v == x
set_option maxRecDepth 100000 in
set_option maxHeartbeats 4000000 in
theorem indexi_any (c : Option Addr) (kc : Nat) (l : List Int) (v : Int) (w : World) (hF : PrtL w c l) (hm : l.length ≤ 1000000) :
    Calls Tryz.prog 117 #[.slice c l.length kc, .int .i64 v] w fun e w' => e = .returned (.int .i64 (idxI (intB v) l)) ∧ Below w.heap.size w w' := by
  have HF := Lib.hid hF
  clear hF
  obtain ⟨n, hln⟩ : ∃ n, l.length = n := ⟨_, rfl⟩
  rw [hln] at hm ⊢
  have Hln := Lib.hid hln
  clear hln
  go_enter Tryz.func117, Tryz.ntmps117
  go_wp2
  go_loopw [8] (fun i wr => ∃ k : Nat, k ≤ n ∧ i = .int .i64 k ∧ (l.take k).any (intB v) = false ∧ Below w.heap.size w wr) (fun i _ => n - (intOf i).toNat)
  case atStart => exact ⟨0, by omega, rfl, rfl, by (repeat' (first | with_reducible exact Below.refl _ _ | with_reducible assumption | with_reducible refine Below.drew ?_ | with_reducible refine below_drewN' ?_ _ | with_reducible refine Below.alloc ?_ ?_ _ | with_reducible refine Below.setCell ?_ ?_ _ | with_reducible refine below_step (by assumption) ?_ ?_ | omega | (simp; done) | (simp; omega)))⟩
  case round =>
    obtain ⟨k, hk, rfl, hE, hB⟩ := hrel
    obtain ⟨hcB, hfB⟩ := bcell hB
    have hbz := hB.size
    have HE := Lib.hid hE
    have HB := Lib.hid hB
    clear hE
    by_cases hlt : k < n
    · obtain ⟨x, hx⟩ := mem_at (l := l) (k := k) (by rw [Hln.out]; exact hlt)
      obtain ⟨b, off, rfl, hb, hc⟩ := HF.out (by rw [Hln.out]; omega)
      have hbw : b < wr.heap.size := by omega
      have c0 := hc k x hx 0 (by decide)
      dsimp only [pcs, List.getElem?_cons_zero] at c0
      rw [Nat.mul_one, Nat.add_zero] at c0
      have Hx := Lib.hid hx
      clear hc hx
      cases hv : intB v x
      · have Hs := Lib.hid (any_take1 (P := intB v) Hx.out hv HE.out)
        have k1 : (v == x) = false := hv
        clear hv
        go_wp2
        go_roundw
        case rel => exact ⟨k + 1, by omega, by go_num, Hs.out, by (repeat' (first | with_reducible exact Below.refl _ _ | with_reducible assumption | with_reducible refine Below.drew ?_ | with_reducible refine below_drewN' ?_ _ | with_reducible refine Below.alloc ?_ ?_ _ | with_reducible refine Below.setCell ?_ ?_ _ | with_reducible refine below_step (by assumption) ?_ ?_ | omega | (simp; done) | (simp; omega)))⟩
        case measure => simp [intOf]; omega
      · have Hs := Lib.hid (idx_at (p := intB v) Hx.out HE.out hv)
        have k1 : (v == x) = true := hv
        clear hv
        go_wp2
        go_ret
        exact ⟨by rw [Hs.out]; rfl, by (repeat' (first | with_reducible exact Below.refl _ _ | with_reducible assumption | with_reducible refine Below.drew ?_ | with_reducible refine below_drewN' ?_ _ | with_reducible refine Below.alloc ?_ ?_ _ | with_reducible refine Below.setCell ?_ ?_ _ | with_reducible refine below_step (by assumption) ?_ ?_ | omega | (simp; done) | (simp; omega)))⟩
    · obtain rfl : k = n := by omega
      have Hs := Lib.hid (idx_no (p := intB v) Hln.out HE.out)
      go_wp2
      go_ret
      exact ⟨by rw [Hs.out]; rfl, by (repeat' (first | with_reducible exact Below.refl _ _ | with_reducible assumption | with_reducible refine Below.drew ?_ | with_reducible refine below_drewN' ?_ _ | with_reducible refine Below.alloc ?_ ?_ _ | with_reducible refine Below.setCell ?_ ?_ _ | with_reducible refine below_step (by assumption) ?_ ?_ | omega | (simp; done) | (simp; omega)))⟩

set_option maxRecDepth 100000 in
theorem containsi_any (c : Option Addr) (kc : Nat) (l : List Int) (v : Int) (w : World) (hF : PrtL w c l) (hm : l.length ≤ 1000000) :
    Calls Tryz.prog 98 #[.slice c l.length kc, .int .i64 v] w fun e w' => e = .returned (.bool (l.any (intB v))) ∧ Below w.heap.size w w' := by
  rw [← idx_geq]
  have A := fun V (h : PrtL V c l) => indexi_any c kc l v V h hm
  obtain ⟨i, hi⟩ : ∃ i, idxI (intB v) l = i := ⟨_, rfl⟩
  rw [hi]
  simp only [hi] at A
  clear hi
  have HA := Lib.hid A
  clear A
  go_enter Tryz.func98, Tryz.ntmps98
  go_wp2_with (go_at_call 117; (with_reducible refine (HA.out _ (hF.mono (by (repeat' (first | with_reducible exact Below.refl _ _ | with_reducible assumption | with_reducible refine Below.drew ?_ | with_reducible refine below_drewN' ?_ _ | with_reducible refine Below.alloc ?_ ?_ _ | with_reducible refine Below.setCell ?_ ?_ _ | with_reducible refine below_step (by assumption) ?_ ?_ | omega | (simp; done) | (simp; omega)))))).mono ?_); rintro e w1 ⟨rfl, hb1⟩; have hz1 := hb1.size; (try simp at hz1))
  go_ret
  exact ⟨by first | rfl | simp, by (repeat' (first | with_reducible exact Below.refl _ _ | with_reducible assumption | with_reducible refine Below.drew ?_ | with_reducible refine below_drewN' ?_ _ | with_reducible refine Below.alloc ?_ ?_ _ | with_reducible refine Below.setCell ?_ ?_ _ | with_reducible refine below_step (by assumption) ?_ ?_ | omega | (simp; done) | (simp; omega)))⟩
end Lb
end Go.Proofs.YthbpnfpalcgfeaaGreat
