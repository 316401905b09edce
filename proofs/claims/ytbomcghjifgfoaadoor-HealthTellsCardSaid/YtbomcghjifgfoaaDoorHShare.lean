/-
  How many machines of groups are not ready: health.Share, triremeref29.Share.
-/
import Derived.Test.YtbomcghjifgfoaaDoorMacO
import Derived.Test.YtbomcghjifgfoaaDoorFilt
namespace Go.Proofs.YtbomcghjifgfoaaDoor
open Go.RowKit
set_option linter.unusedVariables false

theorem mrow10 {w : World} {b o : Nat} {m : Mac} (h : ∀ r, r < 10 → w.cell? ⟨b, o + r, none⟩ = (mrow m)[r]?) :
    w.cell? ⟨b, o, none⟩ = some (.string m.nm) ∧ w.cell? ⟨b, o + 1, none⟩ = some (.string m.gp) ∧
    w.cell? ⟨b, o + 2, none⟩ = some (.int .i64 m.r0) ∧ w.cell? ⟨b, o + 3, none⟩ = some (.int .i64 m.r1) ∧ w.cell? ⟨b, o + 4, none⟩ = some (.int .i64 m.r2) ∧ w.cell? ⟨b, o + 5, none⟩ = some (.int .i64 m.r3) ∧ w.cell? ⟨b, o + 6, none⟩ = some (.int .i64 m.r4) ∧
    w.cell? ⟨b, o + 7, none⟩ = some (.slice m.la m.labs.length m.lk) ∧ w.cell? ⟨b, o + 8, none⟩ = some (.slice m.ta m.tnts.length m.tk) ∧ w.cell? ⟨b, o + 9, none⟩ = some (.bool m.rd) :=
  ⟨h 0 (by decide), h 1 (by decide), h 2 (by decide), h 3 (by decide), h 4 (by decide), h 5 (by decide), h 6 (by decide), h 7 (by decide), h 8 (by decide), h 9 (by decide)⟩
def inG (m : Mac) : Bool := !decide (m.gp = emp)
def badG (m : Mac) : Bool := !decide (m.gp = emp) && !m.rd
def shareV (ms : List Mac) : Int := if (ms.filter inG).length = 0 then 0 else 1000 * ((ms.filter badG).length : Int) / ((ms.filter inG).length : Int)
theorem bad_le (l : List Mac) : (l.filter badG).length ≤ (l.filter inG).length := by
  have h : l.filter badG = (l.filter inG).filter badG := by
    rw [List.filter_filter]
    congr 1
    funext m
    unfold badG inG
    cases decide (m.gp = emp) <;> simp
  rw [h]
  exact List.length_filter_le _ _
theorem share_cases (m : Mac) : (m.gp = emp ∧ inG m = false ∧ badG m = false) ∨ (¬ m.gp = emp ∧ m.rd = true ∧ inG m = true ∧ badG m = false) ∨ (¬ m.gp = emp ∧ m.rd = false ∧ inG m = true ∧ badG m = true) := by
  unfold inG badG
  by_cases h : m.gp = emp <;> cases m.rd <;> simp [h]
set_option maxRecDepth 100000 in
set_option maxHeartbeats 2000000 in
theorem share_any (c : Option Addr) (kc : Nat) (xs : List Mac) (w : World) (hF : MacL w c xs) (hm : xs.length ≤ 1000000) :
    Calls Tryd.prog 9 #[.slice c xs.length kc] w fun e w' => e = .returned (.int .i64 (shareV xs)) ∧ Below w.heap.size w w' := by
  have HF := Lib.hid hF
  have HV := Lib.hid (show shareV xs = if (xs.filter inG).length = 0 then 0 else 1000 * ((xs.filter badG).length : Int) / ((xs.filter inG).length : Int) from rfl)
  clear hF
  obtain ⟨n, hln⟩ : ∃ n, xs.length = n := ⟨_, rfl⟩
  rw [hln] at hm ⊢
  have Hln := Lib.hid hln
  clear hln
  go_enter Tryd.func9, Tryd.ntmps9
  go_wp2
  go_loopw [3, 4, 5, 8] (fun v u _ i wr => ∃ k : Nat, k ≤ n ∧ i = .int .i64 k ∧ v = .int .i64 ((xs.take k).filter inG).length ∧ u = .int .i64 ((xs.take k).filter badG).length ∧ Below w.heap.size w wr) (fun _ _ _ i _ => n - (intOf i).toNat)
  case atStart => exact ⟨0, by omega, rfl, rfl, rfl, by (repeat' (first | with_reducible exact Below.refl _ _ | with_reducible assumption | with_reducible refine Below.drew ?_ | with_reducible refine below_drewN' ?_ _ | with_reducible refine Below.alloc ?_ ?_ _ | with_reducible refine Below.setCell ?_ ?_ _ | with_reducible refine below_step (by assumption) ?_ ?_ | omega | (simp; done) | (simp; omega)))⟩
  case round =>
    obtain ⟨k, hk, rfl, rfl, rfl, hB⟩ := hrel
    obtain ⟨hcB, hfB⟩ := bcell hB
    have hbz := hB.size
    have hL := filt_len inG xs k
    have hL2 := bad_le (xs.take k)
    obtain ⟨q, hq⟩ : ∃ q, ((xs.take k).filter inG).length = q := ⟨_, rfl⟩
    obtain ⟨p, hp⟩ : ∃ q, ((xs.take k).filter badG).length = q := ⟨_, rfl⟩
    have Hq := Lib.hid hq
    have Hp := Lib.hid hp
    rw [hq] at hL hL2
    rw [hp] at hL2
    (try rw [hq]); (try rw [hp])
    clear hq hp
    by_cases hlt : k < n
    · skip
      obtain ⟨x, hx⟩ := mem_at (l := xs) (k := k) (by rw [Hln.out]; exact hlt)
      have Hx := Lib.hid hx
      obtain ⟨b, off, rfl, hb, hc⟩ := HF.out (by rw [Hln.out]; omega)
      have hbw : b < wr.heap.size := by omega
      obtain ⟨d0, d1, d2, d3, d4, d5, d6, d7, d8, d9⟩ := mrow10 (hc k x hx)
      clear hc hx
      rcases share_cases x with ⟨h1, v1, v2⟩ | ⟨h1, h2, v1, v2⟩ | ⟨h1, h2, v1, v2⟩
      · have Hs := Lib.hid (show ((xs.take (k + 1)).filter inG).length = q by rw [filt_no Hx.out v1, Hq.out])
        have Ht := Lib.hid (show ((xs.take (k + 1)).filter badG).length = p by rw [filt_no Hx.out v2, Hp.out])
        obtain ⟨g1, g2, g3, g4⟩ := emp_lits h1
        have g5 : (x.gp.toList != []) = false := by rw [bne, g1]; rfl
        clear v1 v2 h1
        go_wp2
        go_roundw
        case rel => exact ⟨k + 1, by omega, by go_num, by rw [Hs.out], by rw [Ht.out], by (repeat' (first | with_reducible exact Below.refl _ _ | with_reducible assumption | with_reducible refine Below.drew ?_ | with_reducible refine below_drewN' ?_ _ | with_reducible refine Below.alloc ?_ ?_ _ | with_reducible refine Below.setCell ?_ ?_ _ | with_reducible refine below_step (by assumption) ?_ ?_ | omega | (simp; done) | (simp; omega)))⟩
        case measure => simp [intOf]; omega
      · have Hs := Lib.hid (show ((xs.take (k + 1)).filter inG).length = q + 1 by rw [filt_yes Hx.out v1, List.length_append, Hq.out]; rfl)
        have Ht := Lib.hid (show ((xs.take (k + 1)).filter badG).length = p by rw [filt_no Hx.out v2, Hp.out])
        obtain ⟨g1, g2, g3, g4⟩ := emp_litn h1
        have g5 : (x.gp.toList != []) = true := by rw [bne, g1]; rfl
        rw [h2] at d9
        clear v1 v2 h1 h2
        go_wp2
        go_roundw
        case rel => exact ⟨k + 1, by omega, by go_num, by rw [Hs.out]; go_num, by rw [Ht.out], by (repeat' (first | with_reducible exact Below.refl _ _ | with_reducible assumption | with_reducible refine Below.drew ?_ | with_reducible refine below_drewN' ?_ _ | with_reducible refine Below.alloc ?_ ?_ _ | with_reducible refine Below.setCell ?_ ?_ _ | with_reducible refine below_step (by assumption) ?_ ?_ | omega | (simp; done) | (simp; omega)))⟩
        case measure => simp [intOf]; omega
      · have Hs := Lib.hid (show ((xs.take (k + 1)).filter inG).length = q + 1 by rw [filt_yes Hx.out v1, List.length_append, Hq.out]; rfl)
        have Ht := Lib.hid (show ((xs.take (k + 1)).filter badG).length = p + 1 by rw [filt_yes Hx.out v2, List.length_append, Hp.out]; rfl)
        obtain ⟨g1, g2, g3, g4⟩ := emp_litn h1
        have g5 : (x.gp.toList != []) = true := by rw [bne, g1]; rfl
        rw [h2] at d9
        clear v1 v2 h1 h2
        go_wp2
        go_roundw
        case rel => exact ⟨k + 1, by omega, by go_num, by rw [Hs.out]; go_num, by rw [Ht.out]; go_num, by (repeat' (first | with_reducible exact Below.refl _ _ | with_reducible assumption | with_reducible refine Below.drew ?_ | with_reducible refine below_drewN' ?_ _ | with_reducible refine Below.alloc ?_ ?_ _ | with_reducible refine Below.setCell ?_ ?_ _ | with_reducible refine below_step (by assumption) ?_ ?_ | omega | (simp; done) | (simp; omega)))⟩
        case measure => simp [intOf]; omega
    · obtain rfl : k = n := by omega
      have Hr := Lib.hid (show shareV xs = if q = 0 then 0 else 1000 * (p : Int) / (q : Int) by rw [HV.out, ← filt_all inG Hln.out, ← filt_all badG Hln.out, Hq.out, Hp.out])
      by_cases hq0 : q = 0
      · subst hq0
        go_wp2
        go_ret
        exact ⟨by rw [Hr.out]; rfl, by (repeat' (first | with_reducible exact Below.refl _ _ | with_reducible assumption | with_reducible refine Below.drew ?_ | with_reducible refine below_drewN' ?_ _ | with_reducible refine Below.alloc ?_ ?_ _ | with_reducible refine Below.setCell ?_ ?_ _ | with_reducible refine below_step (by assumption) ?_ ?_ | omega | (simp; done) | (simp; omega)))⟩
      · have hq1 : ((q : Int) == 0) = false := by rw [beq_eq_false_iff_ne]; omega
        have hq2 : (0 : Int) < q := by omega
        have Hq0 := Lib.hid hq0
        clear hq0
        go_wp2
        go_ret
        exact ⟨by rw [Hr.out, if_neg Hq0.out]; rfl, by (repeat' (first | with_reducible exact Below.refl _ _ | with_reducible assumption | with_reducible refine Below.drew ?_ | with_reducible refine below_drewN' ?_ _ | with_reducible refine Below.alloc ?_ ?_ _ | with_reducible refine Below.setCell ?_ ?_ _ | with_reducible refine below_step (by assumption) ?_ ?_ | omega | (simp; done) | (simp; omega)))⟩
set_option maxRecDepth 100000 in
set_option maxHeartbeats 2000000 in
theorem refshare_any (c : Option Addr) (kc : Nat) (xs : List Mac) (w : World) (hF : MacL w c xs) (hm : xs.length ≤ 1000000) :
    Calls Tryd.prog 10 #[.slice c xs.length kc] w fun e w' => e = .returned (.int .i64 (shareV xs)) ∧ Below w.heap.size w w' := by
  have HF := Lib.hid hF
  have HV := Lib.hid (show shareV xs = if (xs.filter inG).length = 0 then 0 else 1000 * ((xs.filter badG).length : Int) / ((xs.filter inG).length : Int) from rfl)
  clear hF
  obtain ⟨n, hln⟩ : ∃ n, xs.length = n := ⟨_, rfl⟩
  rw [hln] at hm ⊢
  have Hln := Lib.hid hln
  clear hln
  go_enter Tryd.func10, Tryd.ntmps10
  go_wp2
  go_loopw [3, 4, 5] (fun v u i wr => ∃ k : Nat, k ≤ n ∧ i = .int .i64 k ∧ v = .int .i64 ((xs.take k).filter inG).length ∧ u = .int .i64 ((xs.take k).filter badG).length ∧ Below w.heap.size w wr) (fun _ _ i _ => n - (intOf i).toNat)
  case atStart => exact ⟨0, by omega, rfl, rfl, rfl, by (repeat' (first | with_reducible exact Below.refl _ _ | with_reducible assumption | with_reducible refine Below.drew ?_ | with_reducible refine below_drewN' ?_ _ | with_reducible refine Below.alloc ?_ ?_ _ | with_reducible refine Below.setCell ?_ ?_ _ | with_reducible refine below_step (by assumption) ?_ ?_ | omega | (simp; done) | (simp; omega)))⟩
  case round =>
    obtain ⟨k, hk, rfl, rfl, rfl, hB⟩ := hrel
    obtain ⟨hcB, hfB⟩ := bcell hB
    have hbz := hB.size
    have hL := filt_len inG xs k
    have hL2 := bad_le (xs.take k)
    obtain ⟨q, hq⟩ : ∃ q, ((xs.take k).filter inG).length = q := ⟨_, rfl⟩
    obtain ⟨p, hp⟩ : ∃ q, ((xs.take k).filter badG).length = q := ⟨_, rfl⟩
    have Hq := Lib.hid hq
    have Hp := Lib.hid hp
    rw [hq] at hL hL2
    rw [hp] at hL2
    (try rw [hq]); (try rw [hp])
    clear hq hp
    by_cases hlt : k < n
    · skip
      obtain ⟨x, hx⟩ := mem_at (l := xs) (k := k) (by rw [Hln.out]; exact hlt)
      have Hx := Lib.hid hx
      obtain ⟨b, off, rfl, hb, hc⟩ := HF.out (by rw [Hln.out]; omega)
      have hbw : b < wr.heap.size := by omega
      obtain ⟨d0, d1, d2, d3, d4, d5, d6, d7, d8, d9⟩ := mrow10 (hc k x hx)
      clear hc hx
      rcases share_cases x with ⟨h1, v1, v2⟩ | ⟨h1, h2, v1, v2⟩ | ⟨h1, h2, v1, v2⟩
      · have Hs := Lib.hid (show ((xs.take (k + 1)).filter inG).length = q by rw [filt_no Hx.out v1, Hq.out])
        have Ht := Lib.hid (show ((xs.take (k + 1)).filter badG).length = p by rw [filt_no Hx.out v2, Hp.out])
        obtain ⟨g1, g2, g3, g4⟩ := emp_lits h1
        have g5 : (x.gp.toList != []) = false := by rw [bne, g1]; rfl
        clear v1 v2 h1
        go_wp2
        go_roundw
        case rel => exact ⟨k + 1, by omega, by go_num, by rw [Hs.out], by rw [Ht.out], by (repeat' (first | with_reducible exact Below.refl _ _ | with_reducible assumption | with_reducible refine Below.drew ?_ | with_reducible refine below_drewN' ?_ _ | with_reducible refine Below.alloc ?_ ?_ _ | with_reducible refine Below.setCell ?_ ?_ _ | with_reducible refine below_step (by assumption) ?_ ?_ | omega | (simp; done) | (simp; omega)))⟩
        case measure => simp [intOf]; omega
      · have Hs := Lib.hid (show ((xs.take (k + 1)).filter inG).length = q + 1 by rw [filt_yes Hx.out v1, List.length_append, Hq.out]; rfl)
        have Ht := Lib.hid (show ((xs.take (k + 1)).filter badG).length = p by rw [filt_no Hx.out v2, Hp.out])
        obtain ⟨g1, g2, g3, g4⟩ := emp_litn h1
        have g5 : (x.gp.toList != []) = true := by rw [bne, g1]; rfl
        rw [h2] at d9
        clear v1 v2 h1 h2
        go_wp2
        go_roundw
        case rel => exact ⟨k + 1, by omega, by go_num, by rw [Hs.out]; go_num, by rw [Ht.out], by (repeat' (first | with_reducible exact Below.refl _ _ | with_reducible assumption | with_reducible refine Below.drew ?_ | with_reducible refine below_drewN' ?_ _ | with_reducible refine Below.alloc ?_ ?_ _ | with_reducible refine Below.setCell ?_ ?_ _ | with_reducible refine below_step (by assumption) ?_ ?_ | omega | (simp; done) | (simp; omega)))⟩
        case measure => simp [intOf]; omega
      · have Hs := Lib.hid (show ((xs.take (k + 1)).filter inG).length = q + 1 by rw [filt_yes Hx.out v1, List.length_append, Hq.out]; rfl)
        have Ht := Lib.hid (show ((xs.take (k + 1)).filter badG).length = p + 1 by rw [filt_yes Hx.out v2, List.length_append, Hp.out]; rfl)
        obtain ⟨g1, g2, g3, g4⟩ := emp_litn h1
        have g5 : (x.gp.toList != []) = true := by rw [bne, g1]; rfl
        rw [h2] at d9
        clear v1 v2 h1 h2
        go_wp2
        go_roundw
        case rel => exact ⟨k + 1, by omega, by go_num, by rw [Hs.out]; go_num, by rw [Ht.out]; go_num, by (repeat' (first | with_reducible exact Below.refl _ _ | with_reducible assumption | with_reducible refine Below.drew ?_ | with_reducible refine below_drewN' ?_ _ | with_reducible refine Below.alloc ?_ ?_ _ | with_reducible refine Below.setCell ?_ ?_ _ | with_reducible refine below_step (by assumption) ?_ ?_ | omega | (simp; done) | (simp; omega)))⟩
        case measure => simp [intOf]; omega
    · obtain rfl : k = n := by omega
      have Hr := Lib.hid (show shareV xs = if q = 0 then 0 else 1000 * (p : Int) / (q : Int) by rw [HV.out, ← filt_all inG Hln.out, ← filt_all badG Hln.out, Hq.out, Hp.out])
      by_cases hq0 : q = 0
      · subst hq0
        go_wp2
        go_ret
        exact ⟨by rw [Hr.out]; rfl, by (repeat' (first | with_reducible exact Below.refl _ _ | with_reducible assumption | with_reducible refine Below.drew ?_ | with_reducible refine below_drewN' ?_ _ | with_reducible refine Below.alloc ?_ ?_ _ | with_reducible refine Below.setCell ?_ ?_ _ | with_reducible refine below_step (by assumption) ?_ ?_ | omega | (simp; done) | (simp; omega)))⟩
      · have hq1 : ((q : Int) == 0) = false := by rw [beq_eq_false_iff_ne]; omega
        have hq2 : (0 : Int) < q := by omega
        have Hq0 := Lib.hid hq0
        clear hq0
        go_wp2
        go_ret
        exact ⟨by rw [Hr.out, if_neg Hq0.out]; rfl, by (repeat' (first | with_reducible exact Below.refl _ _ | with_reducible assumption | with_reducible refine Below.drew ?_ | with_reducible refine below_drewN' ?_ _ | with_reducible refine Below.alloc ?_ ?_ _ | with_reducible refine Below.setCell ?_ ?_ _ | with_reducible refine below_step (by assumption) ?_ ?_ | omega | (simp; done) | (simp; omega)))⟩
end Go.Proofs.YtbomcghjifgfoaaDoor
