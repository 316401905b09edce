/-
  Counting instances: health.Size, triremeref29.Size; triremeref17.Insts at what is alike; triremelaw29.light.
-/
import Derived.Test.YtbomcghjifgfoaaDoorHIns
namespace Go.Proofs.YtbomcghjifgfoaaDoor
open Go.RowKit
set_option linter.unusedVariables false

def szI (name : ByteArray) (x : Ins) : Bool := strB x.gp name && !decide (x.st = 3)
theorem szI_cases (name : ByteArray) (x : Ins) : ((x.gp.toList == name.toList) = false ∧ szI name x = false) ∨ ((x.gp.toList == name.toList) = true ∧ (x.st == 3) = true ∧ (x.st != 3) = false ∧ szI name x = false) ∨ ((x.gp.toList == name.toList) = true ∧ (x.st == 3) = false ∧ (x.st != 3) = true ∧ szI name x = true) := by
  rw [strB_list]
  unfold szI
  cases strB x.gp name <;> by_cases h : x.st = 3 <;> simp [h]
set_option maxRecDepth 100000 in
set_option maxHeartbeats 2000000 in
theorem size_any (c : Option Addr) (kc : Nat) (xs : List Ins) (name : ByteArray) (w : World) (hF : InsL w c xs) (hm : xs.length ≤ 1000000) :
    Calls Tryd.prog 16 #[.slice c xs.length kc, .string name] w fun e w' => e = .returned (.int .i64 (xs.filter (szI name)).length) ∧ Below w.heap.size w w' := by
  have HF := Lib.hid hF
  clear hF
  obtain ⟨n, hln⟩ : ∃ n, xs.length = n := ⟨_, rfl⟩
  rw [hln] at hm ⊢
  have Hln := Lib.hid hln
  clear hln
  go_enter Tryd.func16, Tryd.ntmps16
  go_wp2
  go_loopw [5, 6, 9] (fun v _ i wr => ∃ k : Nat, k ≤ n ∧ i = .int .i64 k ∧ v = .int .i64 ((xs.take k).filter (szI name)).length ∧ Below w.heap.size w wr) (fun _ _ i _ => n - (intOf i).toNat)
  case atStart => exact ⟨0, by omega, rfl, rfl, by (repeat' (first | with_reducible exact Below.refl _ _ | with_reducible assumption | with_reducible refine Below.drew ?_ | with_reducible refine below_drewN' ?_ _ | with_reducible refine Below.alloc ?_ ?_ _ | with_reducible refine Below.setCell ?_ ?_ _ | with_reducible refine below_step (by assumption) ?_ ?_ | omega | (simp; done) | (simp; omega)))⟩
  case round =>
    obtain ⟨k, hk, rfl, rfl, hB⟩ := hrel
    obtain ⟨hcB, hfB⟩ := bcell hB
    have hbz := hB.size
    have HB := Lib.hid hB
    have hL := filt_len (szI name) xs k
    obtain ⟨q, hq⟩ : ∃ q, ((xs.take k).filter (szI name)).length = q := ⟨_, rfl⟩
    have Hq := Lib.hid hq
    rw [hq] at hL
    (try rw [hq])
    clear hq
    by_cases hlt : k < n
    · skip
      obtain ⟨x, hx⟩ := mem_at (l := xs) (k := k) (by rw [Hln.out]; exact hlt)
      have Hx := Lib.hid hx
      obtain ⟨b, off, rfl, hb, hc⟩ := HF.out (by rw [Hln.out]; omega)
      have hbw : b < wr.heap.size := by omega
      obtain ⟨d0, d1, d2, d3, d4⟩ := irow_cells (hc k x hx)
      clear hc hx
      rcases szI_cases name x with ⟨k1, hv⟩ | ⟨k1, k2, k3, hv⟩ | ⟨k1, k2, k3, hv⟩
      rotate_right
      · skip
        have Hs := Lib.hid (show ((xs.take (k + 1)).filter (szI name)).length = q + 1 by rw [filt_yes Hx.out (P := szI name) (show (szI name) x = true from hv), List.length_append, Hq.out]; rfl)
        clear hv
        go_wp2
        go_roundw
        case rel => exact ⟨k + 1, by omega, by go_num, by first | (rw [Hs.out]; done) | (rw [Hs.out]; go_num), by (repeat' (first | with_reducible exact Below.refl _ _ | with_reducible assumption | with_reducible refine Below.drew ?_ | with_reducible refine below_drewN' ?_ _ | with_reducible refine Below.alloc ?_ ?_ _ | with_reducible refine Below.setCell ?_ ?_ _ | with_reducible refine below_step (by assumption) ?_ ?_ | omega | (simp; done) | (simp; omega)))⟩
        case measure => simp [intOf]; omega
      all_goals
        have Hs := Lib.hid (show ((xs.take (k + 1)).filter (szI name)).length = q by rw [filt_no Hx.out (P := szI name) (show (szI name) x = false from hv), Hq.out])
        clear hv
        go_wp2
        go_roundw
        case rel => exact ⟨k + 1, by omega, by go_num, by first | (rw [Hs.out]; done) | (rw [Hs.out]; go_num), by (repeat' (first | with_reducible exact Below.refl _ _ | with_reducible assumption | with_reducible refine Below.drew ?_ | with_reducible refine below_drewN' ?_ _ | with_reducible refine Below.alloc ?_ ?_ _ | with_reducible refine Below.setCell ?_ ?_ _ | with_reducible refine below_step (by assumption) ?_ ?_ | omega | (simp; done) | (simp; omega)))⟩
        case measure => simp [intOf]; omega
    · obtain rfl : k = n := by omega
      have Hr := Lib.hid (show (xs.filter (szI name)).length = q by rw [← filt_all _ Hln.out]; exact Hq.out)
      go_wp2
      go_ret
      exact ⟨by rw [Hr.out]; rfl, by (repeat' (first | with_reducible exact Below.refl _ _ | with_reducible assumption | with_reducible refine Below.drew ?_ | with_reducible refine below_drewN' ?_ _ | with_reducible refine Below.alloc ?_ ?_ _ | with_reducible refine Below.setCell ?_ ?_ _ | with_reducible refine below_step (by assumption) ?_ ?_ | omega | (simp; done) | (simp; omega)))⟩
set_option maxRecDepth 100000 in
set_option maxHeartbeats 2000000 in
theorem refsize_any (c : Option Addr) (kc : Nat) (xs : List Ins) (name : ByteArray) (w : World) (hF : InsL w c xs) (hm : xs.length ≤ 1000000) :
    Calls Tryd.prog 17 #[.slice c xs.length kc, .string name] w fun e w' => e = .returned (.int .i64 (xs.filter (szI name)).length) ∧ Below w.heap.size w w' := by
  have HF := Lib.hid hF
  clear hF
  obtain ⟨n, hln⟩ : ∃ n, xs.length = n := ⟨_, rfl⟩
  rw [hln] at hm ⊢
  have Hln := Lib.hid hln
  clear hln
  go_enter Tryd.func17, Tryd.ntmps17
  go_wp2
  go_loopw [5, 6] (fun v i wr => ∃ k : Nat, k ≤ n ∧ i = .int .i64 k ∧ v = .int .i64 ((xs.take k).filter (szI name)).length ∧ Below w.heap.size w wr) (fun _ i _ => n - (intOf i).toNat)
  case atStart => exact ⟨0, by omega, rfl, rfl, by (repeat' (first | with_reducible exact Below.refl _ _ | with_reducible assumption | with_reducible refine Below.drew ?_ | with_reducible refine below_drewN' ?_ _ | with_reducible refine Below.alloc ?_ ?_ _ | with_reducible refine Below.setCell ?_ ?_ _ | with_reducible refine below_step (by assumption) ?_ ?_ | omega | (simp; done) | (simp; omega)))⟩
  case round =>
    obtain ⟨k, hk, rfl, rfl, hB⟩ := hrel
    obtain ⟨hcB, hfB⟩ := bcell hB
    have hbz := hB.size
    have HB := Lib.hid hB
    have hL := filt_len (szI name) xs k
    obtain ⟨q, hq⟩ : ∃ q, ((xs.take k).filter (szI name)).length = q := ⟨_, rfl⟩
    have Hq := Lib.hid hq
    rw [hq] at hL
    (try rw [hq])
    clear hq
    by_cases hlt : k < n
    · skip
      obtain ⟨x, hx⟩ := mem_at (l := xs) (k := k) (by rw [Hln.out]; exact hlt)
      have Hx := Lib.hid hx
      obtain ⟨b, off, rfl, hb, hc⟩ := HF.out (by rw [Hln.out]; omega)
      have hbw : b < wr.heap.size := by omega
      obtain ⟨d0, d1, d2, d3, d4⟩ := irow_cells (hc k x hx)
      clear hc hx
      rcases szI_cases name x with ⟨k1, hv⟩ | ⟨k1, k2, k3, hv⟩ | ⟨k1, k2, k3, hv⟩
      rotate_right
      · skip
        have Hs := Lib.hid (show ((xs.take (k + 1)).filter (szI name)).length = q + 1 by rw [filt_yes Hx.out (P := szI name) (show (szI name) x = true from hv), List.length_append, Hq.out]; rfl)
        clear hv
        go_wp2
        go_roundw
        case rel => exact ⟨k + 1, by omega, by go_num, by first | (rw [Hs.out]; done) | (rw [Hs.out]; go_num), by (repeat' (first | with_reducible exact Below.refl _ _ | with_reducible assumption | with_reducible refine Below.drew ?_ | with_reducible refine below_drewN' ?_ _ | with_reducible refine Below.alloc ?_ ?_ _ | with_reducible refine Below.setCell ?_ ?_ _ | with_reducible refine below_step (by assumption) ?_ ?_ | omega | (simp; done) | (simp; omega)))⟩
        case measure => simp [intOf]; omega
      all_goals
        have Hs := Lib.hid (show ((xs.take (k + 1)).filter (szI name)).length = q by rw [filt_no Hx.out (P := szI name) (show (szI name) x = false from hv), Hq.out])
        clear hv
        go_wp2
        go_roundw
        case rel => exact ⟨k + 1, by omega, by go_num, by first | (rw [Hs.out]; done) | (rw [Hs.out]; go_num), by (repeat' (first | with_reducible exact Below.refl _ _ | with_reducible assumption | with_reducible refine Below.drew ?_ | with_reducible refine below_drewN' ?_ _ | with_reducible refine Below.alloc ?_ ?_ _ | with_reducible refine Below.setCell ?_ ?_ _ | with_reducible refine below_step (by assumption) ?_ ?_ | omega | (simp; done) | (simp; omega)))⟩
        case measure => simp [intOf]; omega
    · obtain rfl : k = n := by omega
      have Hr := Lib.hid (show (xs.filter (szI name)).length = q by rw [← filt_all _ Hln.out]; exact Hq.out)
      go_wp2
      go_ret
      exact ⟨by rw [Hr.out]; rfl, by (repeat' (first | with_reducible exact Below.refl _ _ | with_reducible assumption | with_reducible refine Below.drew ?_ | with_reducible refine below_drewN' ?_ _ | with_reducible refine Below.alloc ?_ ?_ _ | with_reducible refine Below.setCell ?_ ?_ _ | with_reducible refine below_step (by assumption) ?_ ?_ | omega | (simp; done) | (simp; omega)))⟩

theorem guard_ins (op : BinOp) (x y : Operand) (xs ys : Array Value) (w : World) : (eqGuard op 29 x y (.agg xs) (.agg ys)).run Tryd.prog w = .ok () w := run_eqGuard_agg w op _ x y xs ys (by kernel_rfl)
theorem neq_ins (x : Ins) (w : World) : (binOp .neq 29 (.agg #[.string (x).nm, .string (x).gp, .int .i64 (x).st, .int .i64 (x).lf, .int .i64 (x).si]) (.agg #[.string (x).nm, .string (x).gp, .int .i64 (x).st, .int .i64 (x).lf, .int .i64 (x).si])).run Tryd.prog w = .ok (.bool false) w := by
  have hus := Tryd.underlying9
  have has := Tryd.isAgg9
  have hzs := Tryd.sizeOf9
  have hui := Tryd.underlying3
  have hai := Tryd.isAgg3
  have hzi := Tryd.sizeOf3
  have hS : Tryd.prog.underlying 29 = some (.struct (Tryd.prog.fieldsOf 29)) := by kernel_rfl
  have hp : Tryd.prog.stoodInHeld 29 = false := by kernel_rfl
  rw [run_neq_struct, show (10000 : Nat) = 9999 + 1 from rfl, run_equalIn_agg w 9999 29 _ _ hS hp]
  simp only [Program.fieldsOf, Tryd.underlying29]
  go_simp

set_option maxRecDepth 100000 in
set_option maxHeartbeats 2000000 in
theorem insts_same (a b : Option Addr) (ka kb n : Nat) (l : List Ins) (w : World) (hF : InsL w a l) (hG : InsL w b l) (hl : l.length = n) (hn : n ≤ 1000000) :
    Calls Tryd.prog 11 #[.slice a n ka, .slice b n kb] w fun e w' => e = .returned (.bool true) ∧ Below w.heap.size w w' := by
  have HF := Lib.hid hF
  have HG := Lib.hid hG
  have Hl := Lib.hid hl
  clear hF hG hl
  have hg := guard_ins
  have k0 : ((n : Int) != n) = false := by simp
  go_enter Tryd.func11, Tryd.ntmps11
  go_wp2
  go_loopw [5] (fun i wr => ∃ k : Nat, k ≤ n ∧ i = .int .i64 k ∧ Below w.heap.size w wr) (fun i _ => n - (intOf i).toNat)
  case atStart => exact ⟨0, by omega, rfl, by (repeat' (first | with_reducible exact Below.refl _ _ | with_reducible assumption | with_reducible refine Below.drew ?_ | with_reducible refine below_drewN' ?_ _ | with_reducible refine Below.alloc ?_ ?_ _ | with_reducible refine Below.setCell ?_ ?_ _ | with_reducible refine below_step (by assumption) ?_ ?_ | omega | (simp; done) | (simp; omega)))⟩
  case round =>
    obtain ⟨k, hk, rfl, hB⟩ := hrel
    obtain ⟨hcB, hfB⟩ := bcell hB
    have hbz := hB.size
    by_cases hlt : k < n
    · obtain ⟨x, hx⟩ := mem_at (l := l) (k := k) (by rw [Hl.out]; exact hlt)
      obtain ⟨b1, o1, rfl, hb1, hc1⟩ := HF.out (by rw [Hl.out]; omega)
      obtain ⟨b2, o2, rfl, hb2, hc2⟩ := HG.out (by rw [Hl.out]; omega)
      have hbw1 : b1 < wr.heap.size := by omega
      have hbw2 : b2 < wr.heap.size := by omega
      obtain ⟨d0, d1, d2, d3, d4⟩ := irow_cells (hc1 k x hx)
      obtain ⟨f0, f1, f2, f3, f4⟩ := irow_cells (hc2 k x hx)
      have hq := neq_ins x
      clear hc1 hc2 hx
      go_wp2
      go_quiet (fail)
      go_wp2
      go_roundw
      case rel => exact ⟨k + 1, by omega, by go_num, by (repeat' (first | with_reducible exact Below.refl _ _ | with_reducible assumption | with_reducible refine Below.drew ?_ | with_reducible refine below_drewN' ?_ _ | with_reducible refine Below.alloc ?_ ?_ _ | with_reducible refine Below.setCell ?_ ?_ _ | with_reducible refine below_step (by assumption) ?_ ?_ | omega | (simp; done) | (simp; omega)))⟩
      case measure => simp [intOf]; omega
    · go_wp2
      go_ret
      exact ⟨rfl, by (repeat' (first | with_reducible exact Below.refl _ _ | with_reducible assumption | with_reducible refine Below.drew ?_ | with_reducible refine below_drewN' ?_ _ | with_reducible refine Below.alloc ?_ ?_ _ | with_reducible refine Below.setCell ?_ ?_ _ | with_reducible refine below_step (by assumption) ?_ ?_ | omega | (simp; done) | (simp; omega)))⟩

def lightI (l : List Ins) : Bool := decide (l.length ≤ 60) && l.all fun x => decide (x.nm.size ≤ 300 ∧ x.gp.size ≤ 300)
set_option maxRecDepth 100000 in
set_option maxHeartbeats 2000000 in
theorem light29_any (c : Option Addr) (kc : Nat) (xs : List Ins) (w : World) (hF : InsL w c xs) (hm : xs.length ≤ maxLen) :
    Calls Tryd.prog 7 #[.slice c xs.length kc] w fun e w' => e = .returned (.bool (lightI xs)) ∧ Below w.heap.size w w' := by
  have HF := Lib.hid hF
  unfold maxLen at hm
  have Hv := Lib.hid (show lightI xs = (decide (xs.length ≤ 60) && xs.all fun x => decide (x.nm.size ≤ 300 ∧ x.gp.size ≤ 300)) from rfl)
  clear hF
  obtain ⟨n, hln⟩ : ∃ n, xs.length = n := ⟨_, rfl⟩
  rw [hln] at hm ⊢
  have Hln := Lib.hid hln
  clear hln
  by_cases h60 : n ≤ 60
  · go_enter Tryd.func7, Tryd.ntmps7
    go_wp2
    go_loopw [3] (fun i wr => ∃ k : Nat, k ≤ n ∧ i = .int .i64 k ∧ ((xs.take k).all fun x => decide (x.nm.size ≤ 300 ∧ x.gp.size ≤ 300)) = true ∧ Below w.heap.size w wr) (fun i _ => n - (intOf i).toNat)
    case atStart => exact ⟨0, by omega, rfl, rfl, by (repeat' (first | with_reducible exact Below.refl _ _ | with_reducible assumption | with_reducible refine Below.drew ?_ | with_reducible refine below_drewN' ?_ _ | with_reducible refine Below.alloc ?_ ?_ _ | with_reducible refine Below.setCell ?_ ?_ _ | with_reducible refine below_step (by assumption) ?_ ?_ | omega | (simp; done) | (simp; omega)))⟩
    case round =>
      obtain ⟨k, hk, rfl, hE, hB⟩ := hrel
      obtain ⟨hcB, hfB⟩ := bcell hB
      have hbz := hB.size
      have HE := Lib.hid hE
      clear hE
      by_cases hlt : k < n
      · skip
        obtain ⟨x, hx⟩ := mem_at (l := xs) (k := k) (by rw [Hln.out]; exact hlt)
        have Hx := Lib.hid hx
        obtain ⟨b, off, rfl, hb, hc⟩ := HF.out (by rw [Hln.out]; omega)
        have hbw : b < wr.heap.size := by omega
        obtain ⟨d0, d1, d2, d3, d4⟩ := irow_cells (hc k x hx)
        clear hc hx
        rcases short_cases x.nm.size x.gp.size with ⟨h1, hv⟩ | ⟨h1, h2, hv⟩ | ⟨h1, h2, hv⟩
        rotate_right
        · have Hs := Lib.hid (all_take1 (P := fun x : Ins => decide (x.nm.size ≤ 300 ∧ x.gp.size ≤ 300)) Hx.out (decide_eq_true hv) HE.out)
          have k1 : decide ((300 : Int) < (x.nm.size : Int)) = false := decide_eq_false (by omega)
          have k2 : decide ((300 : Int) < (x.gp.size : Int)) = false := decide_eq_false (by omega)
          clear hv h1 h2
          go_wp2
          go_roundw
          case rel => exact ⟨k + 1, by omega, by go_num, Hs.out, by (repeat' (first | with_reducible exact Below.refl _ _ | with_reducible assumption | with_reducible refine Below.drew ?_ | with_reducible refine below_drewN' ?_ _ | with_reducible refine Below.alloc ?_ ?_ _ | with_reducible refine Below.setCell ?_ ?_ _ | with_reducible refine below_step (by assumption) ?_ ?_ | omega | (simp; done) | (simp; omega)))⟩
          case measure => simp [intOf]; omega
        · have Hs := Lib.hid (all_bad (P := fun x : Ins => decide (x.nm.size ≤ 300 ∧ x.gp.size ≤ 300)) Hx.out (decide_eq_false hv))
          have k1 : decide ((300 : Int) < (x.nm.size : Int)) = true := decide_eq_true (by omega)
          clear hv h1
          go_wp2
          go_ret
          exact ⟨by rw [Hv.out, Hs.out, Bool.and_false]; rfl, by (repeat' (first | with_reducible exact Below.refl _ _ | with_reducible assumption | with_reducible refine Below.drew ?_ | with_reducible refine below_drewN' ?_ _ | with_reducible refine Below.alloc ?_ ?_ _ | with_reducible refine Below.setCell ?_ ?_ _ | with_reducible refine below_step (by assumption) ?_ ?_ | omega | (simp; done) | (simp; omega)))⟩
        · have Hs := Lib.hid (all_bad (P := fun x : Ins => decide (x.nm.size ≤ 300 ∧ x.gp.size ≤ 300)) Hx.out (decide_eq_false hv))
          have k1 : decide ((300 : Int) < (x.nm.size : Int)) = false := decide_eq_false (by omega)
          have k2 : decide ((300 : Int) < (x.gp.size : Int)) = true := decide_eq_true (by omega)
          clear hv h1 h2
          go_wp2
          go_ret
          exact ⟨by rw [Hv.out, Hs.out, Bool.and_false]; rfl, by (repeat' (first | with_reducible exact Below.refl _ _ | with_reducible assumption | with_reducible refine Below.drew ?_ | with_reducible refine below_drewN' ?_ _ | with_reducible refine Below.alloc ?_ ?_ _ | with_reducible refine Below.setCell ?_ ?_ _ | with_reducible refine below_step (by assumption) ?_ ?_ | omega | (simp; done) | (simp; omega)))⟩
      · obtain rfl : k = n := by omega
        have Hs := Lib.hid (all_done (P := fun x : Ins => decide (x.nm.size ≤ 300 ∧ x.gp.size ≤ 300)) Hln.out HE.out)
        have Hd := Lib.hid (decide_eq_true h60)
        go_wp2
        go_ret
        exact ⟨by rw [Hv.out, Hs.out, Hln.out, Hd.out]; rfl, by (repeat' (first | with_reducible exact Below.refl _ _ | with_reducible assumption | with_reducible refine Below.drew ?_ | with_reducible refine below_drewN' ?_ _ | with_reducible refine Below.alloc ?_ ?_ _ | with_reducible refine Below.setCell ?_ ?_ _ | with_reducible refine below_step (by assumption) ?_ ?_ | omega | (simp; done) | (simp; omega)))⟩
  · have hgt : 60 < n := by omega
    have Hd := Lib.hid (decide_eq_false h60)
    go_enter Tryd.func7, Tryd.ntmps7
    go_wp2
    go_ret
    exact ⟨by rw [Hv.out, Hln.out, Hd.out]; rfl, by (repeat' (first | with_reducible exact Below.refl _ _ | with_reducible assumption | with_reducible refine Below.drew ?_ | with_reducible refine below_drewN' ?_ _ | with_reducible refine Below.alloc ?_ ?_ _ | with_reducible refine Below.setCell ?_ ?_ _ | with_reducible refine below_step (by assumption) ?_ ?_ | omega | (simp; done) | (simp; omega)))⟩
end Go.Proofs.YtbomcghjifgfoaaDoor
