/-
  The contract of permit.State.whyFix.
-/
import Derived.Test.YtmkdfcggjlhcpaaPe1
import Derived.BigQuiet
namespace Go.Proofs.Ytmkdfcggjlhcpaa
open Go.RowKit
set_option linter.unusedVariables false
set_option linter.unusedSimpArgs false

set_option maxRecDepth 100000 in
set_option maxHeartbeats 4000000 in
theorem whyfix_any (s : St) (j : Nat) (g : Gp) (t n : Int) (w : World) (hI : StIn w s) (hg : s.C[j]? = some g) (ht : s.T[j]? = some t) (hT : s.T.length ≤ 1000) (hC : s.C.length ≤ 1000) (hL : s.L.length ≤ 1000000)
    (h0 : 0 ≤ t) (h1 : t ≤ 200) (hm0 : 0 ≤ g.mn) (hm1 : g.mn ≤ 200) (hn : 1 ≤ n) (hn1 : n ≤ 9223372036854775807) :
    Calls Try.prog 50 #[.agg #[.slice s.ga s.C.length s.gk, .slice s.ta s.T.length s.tk, .slice s.ia s.L.length s.ik, .int .i64 s.c0, .int .i64 s.c1, .int .i64 s.c2, .slice s.ra s.R.length s.rk, .int .i64 s.un, .int .i64 s.sh], .int .i64 (j : Int), .int .i64 n] w fun e w' => e = .returned (.int .i64 (if t - n < g.mn ∨ t - n < (sizeI s.L g.nm : Int) then 20 else 0)) ∧ Below w.heap.size w w' := by
  have HTg := Lib.hid (fun V (hV : Below w.heap.size w V) => ptarget_any s j t V (hI.mono hV) ht (by omega))
  have hjn := lt_at hg
  obtain ⟨b2, o2, hb2, hbw2, hc2⟩ := hI.g (by omega)
  obtain ⟨x0, x1, -⟩ := grow_cells (hc2 j g hg)
  have HI := Lib.hid hI.i
  obtain ⟨nm, hnm⟩ : ∃ nm, g.nm = nm := ⟨_, rfl⟩
  obtain ⟨mn, hmn⟩ : ∃ mn, g.mn = mn := ⟨_, rfl⟩
  rw [hnm] at x0 ⊢
  rw [hmn] at x1 hm0 hm1 ⊢
  clear hI hg ht hc2 hnm hmn hT
  obtain ⟨ga, C, gk, ta, T, tk, ia, L, ik, z0, z1, z2, ra, R, rk, un, sh⟩ := s
  dsimp only at HTg HI hjn hb2 hL hC ⊢
  subst hb2
  obtain ⟨m, hm⟩ : ∃ m, L.length = m := ⟨_, rfl⟩
  obtain ⟨N, hN⟩ : ∃ N, C.length = N := ⟨_, rfl⟩
  obtain ⟨M, hM⟩ : ∃ M, T.length = M := ⟨_, rfl⟩
  have Hm := Lib.hid hm
  rw [hm] at HTg hL ⊢
  rw [hN] at HTg hjn hC ⊢
  rw [hM] at HTg ⊢
  clear hm hN hM
  obtain ⟨rz, hrz⟩ : ∃ rz : Int, (if t - n < mn ∨ t - n < (sizeI L nm : Int) then 20 else 0) = rz := ⟨_, rfl⟩
  rw [hrz]
  have HRz := Lib.hid hrz
  clear hrz
  go_enter Try.func50, Try.ntmps50
  go_wp2
  obtain ⟨W, hW⟩ : ∃ W, W = w.alloc (.cells #[.slice (some ⟨b2, o2, none⟩) N gk, .slice ta M tk, .slice ia m ik, .int .i64 z0, .int .i64 z1, .int .i64 z2, .slice ra R.length rk, .int .i64 un, .int .i64 sh] 33) := ⟨_, rfl⟩
  have HW := Lib.hid (show Below w.heap.size w W by rw [hW]; (repeat' (first | with_reducible exact Below.refl _ _ | with_reducible assumption | with_reducible refine Below.drew ?_ | with_reducible refine below_drewN' ?_ _ | with_reducible refine Below.alloc ?_ ?_ _ | with_reducible refine Below.setCell ?_ ?_ _ | with_reducible refine below_step (by assumption) ?_ ?_ | omega | (simp; done) | (simp; omega))))
  have hWz : w.heap.size < W.heap.size := by rw [hW]; simp
  have HBl := Lib.hid (show Blk W w.heap.size 33 [.slice (some ⟨b2, o2, none⟩) N gk, .slice ta M tk, .slice ia m ik, .int .i64 z0, .int .i64 z1, .int .i64 z2, .slice ra R.length rk, .int .i64 un, .int .i64 sh] by rw [hW]; exact Blk.new w _ _)
  rw [← hW]
  clear hW
  go_loopw [7, 15] (fun vn vi wr => ∃ k : Nat, k ≤ m ∧ vi = .int .i64 k ∧ vn = .int .i64 (sizeI (L.take k) nm) ∧ Below W.heap.size W wr) (fun _ vi _ => m - (intOf vi).toNat)
  case atStart => exact ⟨0, Nat.zero_le _, rfl, rfl, by (repeat' (first | with_reducible exact Below.refl _ _ | with_reducible assumption | with_reducible refine Below.drew ?_ | with_reducible refine below_drewN' ?_ _ | with_reducible refine Below.alloc ?_ ?_ _ | with_reducible refine Below.setCell ?_ ?_ _ | with_reducible refine below_step (by assumption) ?_ ?_ | omega | (simp; done) | (simp; omega)))⟩
  case round =>
    obtain ⟨k, hk, rfl, rfl, hB⟩ := hrel
    have HB := Lib.hid (HW.out.trans (hB.mono (by omega)))
    have HY := Lib.hid (HBl.out.below hB)
    obtain ⟨hcB, hfB⟩ := bcell HB.out
    have hzB := hB.size
    have hww : w.heap.size < wr.heap.size := by omega
    have y0 := HY.out.cell 0
    have y1 := HY.out.cell 1
    have y2 := HY.out.cell 2
    have y3 := HY.out.cell 3
    have y4 := HY.out.cell 4
    have y5 := HY.out.cell 5
    have y6 := HY.out.cell 6
    have y7 := HY.out.cell 7
    have y8 := HY.out.cell 8
    dsimp only [List.getElem?_cons_zero, List.getElem?_cons_succ] at y0 y1 y2 y3 y4 y5 y6 y7 y8
    have hb2r : b2 < wr.heap.size := by omega
    by_cases hlt : k < m
    · obtain ⟨x, hx⟩ := mem_at (l := L) (k := k) (by rw [Hm.out]; exact hlt)
      obtain ⟨q, o, rfl, hq, hc⟩ := HI.out (by rw [Hm.out]; omega)
      have hqw : q < wr.heap.size := by omega
      obtain ⟨d0, d1, d2, d3, d4⟩ := irow_cells (hc k x hx)
      have hst := Lib.hid (sizeI_take hx nm)
      have hcl := sizeI_le (L.take k) nm
      have h8 : (L.take k).length ≤ k := List.length_take_le _ _
      obtain ⟨z, hz⟩ : ∃ z, sizeI (L.take k) nm = z := ⟨_, rfl⟩
      rw [hz] at hcl hst ⊢
      have Hz := Lib.hid hz
      clear hc hx hz
      by_cases hg : x.gp = nm
      · have k1 := ctx_eq hg
        by_cases h3 : x.st = 3
        · have k3 : (x.st != 3) = false := by rw [h3]; rfl
          have He := Lib.hid (show sizeI (L.take (k + 1)) nm = z from by rw [hst.out, if_neg (fun h => h.2 h3)]; rfl)
          clear h3 hg
          go_wp2
          go_quiet (skip)
          go_wp2
          go_roundw
          case rel => exact ⟨k + 1, by omega, by go_num, by rw [He.out], by (repeat' (first | with_reducible exact Below.refl _ _ | with_reducible assumption | with_reducible refine Below.drew ?_ | with_reducible refine below_drewN' ?_ _ | with_reducible refine Below.alloc ?_ ?_ _ | with_reducible refine Below.setCell ?_ ?_ _ | with_reducible refine below_step (by assumption) ?_ ?_ | omega | (simp; done) | (simp; omega)))⟩
          case measure => simp [intOf]; omega
        · have k3 : (x.st != 3) = true := by simpa using h3
          have He := Lib.hid (show sizeI (L.take (k + 1)) nm = z + 1 from by rw [hst.out, if_pos ⟨hg, h3⟩])
          clear h3 hg
          go_wp2
          go_quiet (skip)
          go_wp2
          go_roundw
          case rel => exact ⟨k + 1, by omega, by go_num, by rw [He.out]; go_num, by (repeat' (first | with_reducible exact Below.refl _ _ | with_reducible assumption | with_reducible refine Below.drew ?_ | with_reducible refine below_drewN' ?_ _ | with_reducible refine Below.alloc ?_ ?_ _ | with_reducible refine Below.setCell ?_ ?_ _ | with_reducible refine below_step (by assumption) ?_ ?_ | omega | (simp; done) | (simp; omega)))⟩
          case measure => simp [intOf]; omega
      · have k1 := ctx_ne hg
        have He := Lib.hid (show sizeI (L.take (k + 1)) nm = z from by rw [hst.out, if_neg (fun h => hg h.1)]; rfl)
        clear hg
        go_wp2
        go_quiet (skip)
        go_wp2
        go_roundw
        case rel => exact ⟨k + 1, by omega, by go_num, by rw [He.out], by (repeat' (first | with_reducible exact Below.refl _ _ | with_reducible assumption | with_reducible refine Below.drew ?_ | with_reducible refine below_drewN' ?_ _ | with_reducible refine Below.alloc ?_ ?_ _ | with_reducible refine Below.setCell ?_ ?_ _ | with_reducible refine below_step (by assumption) ?_ ?_ | omega | (simp; done) | (simp; omega)))⟩
        case measure => simp [intOf]; omega
    · obtain rfl : k = m := by omega
      have hse : sizeI (L.take k) nm = sizeI L nm := by rw [List.take_of_length_le (Nat.le_of_eq Hm.out)]
      have hsl := sizeI_le L nm
      rw [Hm.out] at hsl
      rw [hse]
      have hrz := HRz.out
      obtain ⟨z, hz⟩ : ∃ z, sizeI L nm = z := ⟨_, rfl⟩
      rw [hz] at hsl hrz ⊢
      clear hse hz
      have k0 : IntKind.i64.wrap (t - n) = t - n := wrap_in (by omega) (by omega)
      have k1 : decide (t < t - n) = false := decide_eq_false (by omega)
      by_cases hv : t - n < mn ∨ t - n < (z : Int)
      · rw [if_pos hv] at hrz
        subst hrz
        by_cases hmz : (z : Int) < mn
        · have k2 : decide (t - n < mn) = true := decide_eq_true (by omega)
          clear hv
          go_wp2_with (go_at_call 20; (with_reducible refine (HTg.out _ HB.out).mono ?_); rintro e w3 ⟨rfl, hb3⟩; obtain ⟨hc3, hf3⟩ := bcell hb3; have hz3 := hb3.size; have HB3 := Lib.hid (HB.out.trans (hb3.mono HB.out.size)))
          go_ret
          exact ⟨rfl, HB3.out⟩
        · have k2 : decide (t - n < (z : Int)) = true := decide_eq_true (by omega)
          clear hv
          go_wp2_with (go_at_call 20; (with_reducible refine (HTg.out _ HB.out).mono ?_); rintro e w3 ⟨rfl, hb3⟩; obtain ⟨hc3, hf3⟩ := bcell hb3; have hz3 := hb3.size; have HB3 := Lib.hid (HB.out.trans (hb3.mono HB.out.size)))
          go_ret
          exact ⟨rfl, HB3.out⟩
      · rw [if_neg hv] at hrz
        subst hrz
        by_cases hmz : (z : Int) < mn
        · have k2 : decide (t - n < mn) = false := decide_eq_false (by omega)
          clear hv
          go_wp2_with (go_at_call 20; (with_reducible refine (HTg.out _ HB.out).mono ?_); rintro e w3 ⟨rfl, hb3⟩; obtain ⟨hc3, hf3⟩ := bcell hb3; have hz3 := hb3.size; have HB3 := Lib.hid (HB.out.trans (hb3.mono HB.out.size)))
          go_ret
          exact ⟨rfl, HB3.out⟩
        · have k2 : decide (t - n < (z : Int)) = false := decide_eq_false (by omega)
          clear hv
          go_wp2_with (go_at_call 20; (with_reducible refine (HTg.out _ HB.out).mono ?_); rintro e w3 ⟨rfl, hb3⟩; obtain ⟨hc3, hf3⟩ := bcell hb3; have hz3 := hb3.size; have HB3 := Lib.hid (HB.out.trans (hb3.mono HB.out.size)))
          go_ret
          exact ⟨rfl, HB3.out⟩
end Go.Proofs.Ytmkdfcggjlhcpaa
