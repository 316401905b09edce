/-
  caps.Within with machines that stand for many (amounts up to 2^59); triremeref23.Right.
-/
import Derived.Test.YtmkdfcggjlhcpaaMD
import Derived.Test.YtmkdfcggjlhcpaaMA
import Derived.Laws.EntriesVeiled
namespace Go.Proofs.Ytmkdfcggjlhcpaa
open Go.RowKit
set_option linter.unusedVariables false
set_option linter.unusedSimpArgs false

def mcs (m : Mac) : List Value := [.string m.nm, .string m.gp, .int .i64 m.r0, .int .i64 m.r1, .int .i64 m.r2, .int .i64 m.r3, .int .i64 m.r4, .slice m.la m.labs.length m.lk, .slice m.ta m.tnts.length m.tk, .bool m.rd]
theorem mcs_len (m : Mac) : (mcs m).length = 10 := rfl
theorem mcs_one (m : Mac) : ∀ u ∈ mcs m, u.oneCell' = true := by
  intro u hu
  simp only [mcs, List.mem_cons, List.not_mem_nil, or_false] at hu
  rcases hu with rfl | rfl | rfl | rfl | rfl | rfl | rfl | rfl | rfl | rfl <;> rfl
abbrev MacsAt := RowsAt mcs 10
theorem mac_cells {w : World} {b o : Nat} {m : Mac} (h : ∀ r, r < 10 → w.cell? ⟨b, o + r, none⟩ = (mcs m)[r]?) :
    w.cell? ⟨b, o, none⟩ = some (.string m.nm) ∧ w.cell? ⟨b, o + 1, none⟩ = some (.string m.gp) ∧ w.cell? ⟨b, o + 2, none⟩ = some (.int .i64 m.r0) ∧ w.cell? ⟨b, o + 3, none⟩ = some (.int .i64 m.r1) ∧
    w.cell? ⟨b, o + 4, none⟩ = some (.int .i64 m.r2) ∧ w.cell? ⟨b, o + 5, none⟩ = some (.int .i64 m.r3) ∧ w.cell? ⟨b, o + 6, none⟩ = some (.int .i64 m.r4) ∧ w.cell? ⟨b, o + 7, none⟩ = some (.slice m.la m.labs.length m.lk) ∧
    w.cell? ⟨b, o + 8, none⟩ = some (.slice m.ta m.tnts.length m.tk) ∧ w.cell? ⟨b, o + 9, none⟩ = some (.bool m.rd) :=
  ⟨h 0 (by decide), h 1 (by decide), h 2 (by decide), h 3 (by decide), h 4 (by decide), h 5 (by decide), h 6 (by decide), h 7 (by decide), h 8 (by decide), h 9 (by decide)⟩

/-- What a machine counts for: itself, its Cpu, its Mem. -/
def amt (q : Nat) (m : Mac) : Int := if q = 0 then 1 else if q = 1 then m.r0 else m.r1
/-- What is left of a cap, or what it is below nothing where it ends. -/
def roomL : Int → List Int → Int
  | r, [] => r
  | r, a :: l => if r - a < 0 then r - a else roomL (r - a) l

set_option maxRecDepth 100000 in
set_option maxHeartbeats 4000000 in
theorem room0_any (most : Int) (h0 : 0 ≤ most) (h1 : most ≤ 288230376151711744) (c : Option Addr) (kc : Nat) (ms : List Mac) (w : World) (hF : MacsAt w c ms) (hb : ∀ x ∈ ms, 0 ≤ amt 0 x ∧ amt 0 x ≤ 576460752303423488) (hm : ms.length ≤ 1000000) :
    Calls Try.prog 85 #[.agg #[.int .i64 most, .func (.func 92) #[] #[]], .slice c ms.length kc] w fun e w' => e = .returned (.int .i64 (roomL most (ms.map (amt 0)))) ∧ Below w.heap.size w w' := by
  have HF := Lib.hid hF
  have Hb := Lib.hid hb
  clear hF hb
  obtain ⟨n, hln⟩ : ∃ n, ms.length = n := ⟨_, rfl⟩
  rw [hln] at hm ⊢
  have Hln := Lib.hid hln
  clear hln
  go_enter Try.func85, Try.ntmps85
  go_wp2
  obtain ⟨W, hW⟩ : ∃ W, W = w.alloc (.cells #[.int .i64 most, .func (.func 92) #[] #[]] 123) := ⟨_, rfl⟩
  have HW := Lib.hid (show Below w.heap.size w W by rw [hW]; (repeat' (first | with_reducible exact Below.refl _ _ | with_reducible assumption | with_reducible refine Below.drew ?_ | with_reducible refine below_drewN' ?_ _ | with_reducible refine Below.alloc ?_ ?_ _ | with_reducible refine Below.setCell ?_ ?_ _ | with_reducible refine below_step (by assumption) ?_ ?_ | omega | (simp; done) | (simp; omega))))
  have hWz : w.heap.size < W.heap.size := by rw [hW]; simp
  have s0 : W.cell? ⟨w.heap.size, 0, none⟩ = some (.int .i64 most) := by rw [hW]; simp [go_sem]
  have s1 : W.cell? ⟨w.heap.size, 1, none⟩ = some (.func (.func 92) #[] #[]) := by rw [hW]; simp [go_sem]
  have HFW := Lib.hid (HF.out.mono HW.out)
  rw [← hW]
  clear hW
  go_loopw [5, 12] (fun v i wr => ∃ (k : Nat) (r : Int), k ≤ n ∧ i = .int .i64 k ∧ v = .int .i64 r ∧ 0 ≤ r ∧ r ≤ 288230376151711744 ∧ roomL most (ms.map (amt 0)) = roomL r ((ms.drop k).map (amt 0)) ∧ Below W.heap.size W wr) (fun _ i _ => n - (intOf i).toNat)
  case atStart => exact ⟨0, most, Nat.zero_le _, rfl, rfl, h0, h1, by rw [List.drop_zero], by (repeat' (first | with_reducible exact Below.refl _ _ | with_reducible assumption | with_reducible refine Below.drew ?_ | with_reducible refine below_drewN' ?_ _ | with_reducible refine Below.alloc ?_ ?_ _ | with_reducible refine Below.setCell ?_ ?_ _ | with_reducible refine below_step (by assumption) ?_ ?_ | omega | (simp; done) | (simp; omega)))⟩
  case round =>
    obtain ⟨k, r, hk, rfl, rfl, hr0, hr1, hE, hB⟩ := hrel
    obtain ⟨hcB, hfB⟩ := bcell hB
    have hbz := hB.size
    have HE := Lib.hid hE
    have HB := Lib.hid hB
    clear hE
    by_cases hlt : k < n
    · obtain ⟨x, hx⟩ := mem_at (l := ms) (k := k) (by rw [Hln.out]; exact hlt)
      obtain ⟨b, off, rfl, hb, hc⟩ := HFW.out (by rw [Hln.out]; omega)
      have hbw : b < wr.heap.size := by omega
      have hww : w.heap.size < wr.heap.size := by omega
      obtain ⟨c0, c1, c2, c3, c4, c5, c6, c7, c8, c9⟩ := mac_cells (hc k x hx)
      have ha := Hb.out x (List.mem_of_getElem? hx)
      have hdr : (ms.drop k).map (amt 0) = amt 0 x :: (ms.drop (k + 1)).map (amt 0) := by
        obtain ⟨hkl, rfl⟩ := List.getElem?_eq_some_iff.1 hx
        rw [List.drop_eq_getElem_cons hkl, List.map_cons]
      have hE2 := HE.out
      rw [hdr, roomL] at hE2
      simp only [amt, if_true, if_false, Nat.one_ne_zero, (by decide : ¬ (2 : Nat) = 0), (by decide : ¬ (2 : Nat) = 1)] at hE2 ha
      clear hc hx hdr
      by_cases hneg : r - 1 < 0
      · rw [if_pos hneg] at hE2
        have H2 := Lib.hid hE2
        clear hE2
        go_wp2
        go_ret
        exact ⟨by rw [H2.out]; rfl, HW.out.trans (HB.out.mono (Nat.le_of_lt hWz) |>.trans (by (repeat' (first | with_reducible exact Below.refl _ _ | with_reducible assumption | with_reducible refine Below.drew ?_ | with_reducible refine below_drewN' ?_ _ | with_reducible refine Below.alloc ?_ ?_ _ | with_reducible refine Below.setCell ?_ ?_ _ | with_reducible refine below_step (by assumption) ?_ ?_ | omega | (simp; done) | (simp; omega)))))⟩
      · rw [if_neg hneg] at hE2
        have H2 := Lib.hid hE2
        clear hE2
        go_wp2
        go_roundw
        case rel => exact ⟨k + 1, r - 1, by omega, by go_num, by go_num, by omega, by omega, H2.out, by (repeat' (first | with_reducible exact Below.refl _ _ | with_reducible assumption | with_reducible refine Below.drew ?_ | with_reducible refine below_drewN' ?_ _ | with_reducible refine Below.alloc ?_ ?_ _ | with_reducible refine Below.setCell ?_ ?_ _ | with_reducible refine below_step (by assumption) ?_ ?_ | omega | (simp; done) | (simp; omega)))⟩
        case measure => simp [intOf]; omega
    · obtain rfl : k = n := by omega
      have H2 := Lib.hid (show roomL most (ms.map (amt 0)) = r by rw [HE.out, List.drop_of_length_le (Nat.le_of_eq Hln.out)]; rfl)
      go_wp2
      go_ret
      exact ⟨by rw [H2.out]; rfl, HW.out.trans (HB.out.mono (Nat.le_of_lt hWz))⟩
set_option maxRecDepth 100000 in
set_option maxHeartbeats 4000000 in
theorem room1_any (most : Int) (h0 : 0 ≤ most) (h1 : most ≤ 288230376151711744) (c : Option Addr) (kc : Nat) (ms : List Mac) (w : World) (hF : MacsAt w c ms) (hb : ∀ x ∈ ms, 0 ≤ amt 1 x ∧ amt 1 x ≤ 576460752303423488) (hm : ms.length ≤ 1000000) :
    Calls Try.prog 85 #[.agg #[.int .i64 most, .func (.func 93) #[] #[]], .slice c ms.length kc] w fun e w' => e = .returned (.int .i64 (roomL most (ms.map (amt 1)))) ∧ Below w.heap.size w w' := by
  have HF := Lib.hid hF
  have Hb := Lib.hid hb
  clear hF hb
  obtain ⟨n, hln⟩ : ∃ n, ms.length = n := ⟨_, rfl⟩
  rw [hln] at hm ⊢
  have Hln := Lib.hid hln
  clear hln
  go_enter Try.func85, Try.ntmps85
  go_wp2
  obtain ⟨W, hW⟩ : ∃ W, W = w.alloc (.cells #[.int .i64 most, .func (.func 93) #[] #[]] 123) := ⟨_, rfl⟩
  have HW := Lib.hid (show Below w.heap.size w W by rw [hW]; (repeat' (first | with_reducible exact Below.refl _ _ | with_reducible assumption | with_reducible refine Below.drew ?_ | with_reducible refine below_drewN' ?_ _ | with_reducible refine Below.alloc ?_ ?_ _ | with_reducible refine Below.setCell ?_ ?_ _ | with_reducible refine below_step (by assumption) ?_ ?_ | omega | (simp; done) | (simp; omega))))
  have hWz : w.heap.size < W.heap.size := by rw [hW]; simp
  have s0 : W.cell? ⟨w.heap.size, 0, none⟩ = some (.int .i64 most) := by rw [hW]; simp [go_sem]
  have s1 : W.cell? ⟨w.heap.size, 1, none⟩ = some (.func (.func 93) #[] #[]) := by rw [hW]; simp [go_sem]
  have HFW := Lib.hid (HF.out.mono HW.out)
  rw [← hW]
  clear hW
  go_loopw [5, 12] (fun v i wr => ∃ (k : Nat) (r : Int), k ≤ n ∧ i = .int .i64 k ∧ v = .int .i64 r ∧ 0 ≤ r ∧ r ≤ 288230376151711744 ∧ roomL most (ms.map (amt 1)) = roomL r ((ms.drop k).map (amt 1)) ∧ Below W.heap.size W wr) (fun _ i _ => n - (intOf i).toNat)
  case atStart => exact ⟨0, most, Nat.zero_le _, rfl, rfl, h0, h1, by rw [List.drop_zero], by (repeat' (first | with_reducible exact Below.refl _ _ | with_reducible assumption | with_reducible refine Below.drew ?_ | with_reducible refine below_drewN' ?_ _ | with_reducible refine Below.alloc ?_ ?_ _ | with_reducible refine Below.setCell ?_ ?_ _ | with_reducible refine below_step (by assumption) ?_ ?_ | omega | (simp; done) | (simp; omega)))⟩
  case round =>
    obtain ⟨k, r, hk, rfl, rfl, hr0, hr1, hE, hB⟩ := hrel
    obtain ⟨hcB, hfB⟩ := bcell hB
    have hbz := hB.size
    have HE := Lib.hid hE
    have HB := Lib.hid hB
    clear hE
    by_cases hlt : k < n
    · obtain ⟨x, hx⟩ := mem_at (l := ms) (k := k) (by rw [Hln.out]; exact hlt)
      obtain ⟨b, off, rfl, hb, hc⟩ := HFW.out (by rw [Hln.out]; omega)
      have hbw : b < wr.heap.size := by omega
      have hww : w.heap.size < wr.heap.size := by omega
      obtain ⟨c0, c1, c2, c3, c4, c5, c6, c7, c8, c9⟩ := mac_cells (hc k x hx)
      have ha := Hb.out x (List.mem_of_getElem? hx)
      have hdr : (ms.drop k).map (amt 1) = amt 1 x :: (ms.drop (k + 1)).map (amt 1) := by
        obtain ⟨hkl, rfl⟩ := List.getElem?_eq_some_iff.1 hx
        rw [List.drop_eq_getElem_cons hkl, List.map_cons]
      have hE2 := HE.out
      rw [hdr, roomL] at hE2
      simp only [amt, if_true, if_false, Nat.one_ne_zero, (by decide : ¬ (2 : Nat) = 0), (by decide : ¬ (2 : Nat) = 1)] at hE2 ha
      clear hc hx hdr
      by_cases hneg : r - x.r0 < 0
      · rw [if_pos hneg] at hE2
        have H2 := Lib.hid hE2
        clear hE2
        go_wp2
        go_ret
        exact ⟨by rw [H2.out]; rfl, HW.out.trans (HB.out.mono (Nat.le_of_lt hWz) |>.trans (by (repeat' (first | with_reducible exact Below.refl _ _ | with_reducible assumption | with_reducible refine Below.drew ?_ | with_reducible refine below_drewN' ?_ _ | with_reducible refine Below.alloc ?_ ?_ _ | with_reducible refine Below.setCell ?_ ?_ _ | with_reducible refine below_step (by assumption) ?_ ?_ | omega | (simp; done) | (simp; omega)))))⟩
      · rw [if_neg hneg] at hE2
        have H2 := Lib.hid hE2
        clear hE2
        go_wp2
        go_roundw
        case rel => exact ⟨k + 1, r - x.r0, by omega, by go_num, by go_num, by omega, by omega, H2.out, by (repeat' (first | with_reducible exact Below.refl _ _ | with_reducible assumption | with_reducible refine Below.drew ?_ | with_reducible refine below_drewN' ?_ _ | with_reducible refine Below.alloc ?_ ?_ _ | with_reducible refine Below.setCell ?_ ?_ _ | with_reducible refine below_step (by assumption) ?_ ?_ | omega | (simp; done) | (simp; omega)))⟩
        case measure => simp [intOf]; omega
    · obtain rfl : k = n := by omega
      have H2 := Lib.hid (show roomL most (ms.map (amt 1)) = r by rw [HE.out, List.drop_of_length_le (Nat.le_of_eq Hln.out)]; rfl)
      go_wp2
      go_ret
      exact ⟨by rw [H2.out]; rfl, HW.out.trans (HB.out.mono (Nat.le_of_lt hWz))⟩
set_option maxRecDepth 100000 in
set_option maxHeartbeats 4000000 in
theorem room2_any (most : Int) (h0 : 0 ≤ most) (h1 : most ≤ 288230376151711744) (c : Option Addr) (kc : Nat) (ms : List Mac) (w : World) (hF : MacsAt w c ms) (hb : ∀ x ∈ ms, 0 ≤ amt 2 x ∧ amt 2 x ≤ 576460752303423488) (hm : ms.length ≤ 1000000) :
    Calls Try.prog 85 #[.agg #[.int .i64 most, .func (.func 94) #[] #[]], .slice c ms.length kc] w fun e w' => e = .returned (.int .i64 (roomL most (ms.map (amt 2)))) ∧ Below w.heap.size w w' := by
  have HF := Lib.hid hF
  have Hb := Lib.hid hb
  clear hF hb
  obtain ⟨n, hln⟩ : ∃ n, ms.length = n := ⟨_, rfl⟩
  rw [hln] at hm ⊢
  have Hln := Lib.hid hln
  clear hln
  go_enter Try.func85, Try.ntmps85
  go_wp2
  obtain ⟨W, hW⟩ : ∃ W, W = w.alloc (.cells #[.int .i64 most, .func (.func 94) #[] #[]] 123) := ⟨_, rfl⟩
  have HW := Lib.hid (show Below w.heap.size w W by rw [hW]; (repeat' (first | with_reducible exact Below.refl _ _ | with_reducible assumption | with_reducible refine Below.drew ?_ | with_reducible refine below_drewN' ?_ _ | with_reducible refine Below.alloc ?_ ?_ _ | with_reducible refine Below.setCell ?_ ?_ _ | with_reducible refine below_step (by assumption) ?_ ?_ | omega | (simp; done) | (simp; omega))))
  have hWz : w.heap.size < W.heap.size := by rw [hW]; simp
  have s0 : W.cell? ⟨w.heap.size, 0, none⟩ = some (.int .i64 most) := by rw [hW]; simp [go_sem]
  have s1 : W.cell? ⟨w.heap.size, 1, none⟩ = some (.func (.func 94) #[] #[]) := by rw [hW]; simp [go_sem]
  have HFW := Lib.hid (HF.out.mono HW.out)
  rw [← hW]
  clear hW
  go_loopw [5, 12] (fun v i wr => ∃ (k : Nat) (r : Int), k ≤ n ∧ i = .int .i64 k ∧ v = .int .i64 r ∧ 0 ≤ r ∧ r ≤ 288230376151711744 ∧ roomL most (ms.map (amt 2)) = roomL r ((ms.drop k).map (amt 2)) ∧ Below W.heap.size W wr) (fun _ i _ => n - (intOf i).toNat)
  case atStart => exact ⟨0, most, Nat.zero_le _, rfl, rfl, h0, h1, by rw [List.drop_zero], by (repeat' (first | with_reducible exact Below.refl _ _ | with_reducible assumption | with_reducible refine Below.drew ?_ | with_reducible refine below_drewN' ?_ _ | with_reducible refine Below.alloc ?_ ?_ _ | with_reducible refine Below.setCell ?_ ?_ _ | with_reducible refine below_step (by assumption) ?_ ?_ | omega | (simp; done) | (simp; omega)))⟩
  case round =>
    obtain ⟨k, r, hk, rfl, rfl, hr0, hr1, hE, hB⟩ := hrel
    obtain ⟨hcB, hfB⟩ := bcell hB
    have hbz := hB.size
    have HE := Lib.hid hE
    have HB := Lib.hid hB
    clear hE
    by_cases hlt : k < n
    · obtain ⟨x, hx⟩ := mem_at (l := ms) (k := k) (by rw [Hln.out]; exact hlt)
      obtain ⟨b, off, rfl, hb, hc⟩ := HFW.out (by rw [Hln.out]; omega)
      have hbw : b < wr.heap.size := by omega
      have hww : w.heap.size < wr.heap.size := by omega
      obtain ⟨c0, c1, c2, c3, c4, c5, c6, c7, c8, c9⟩ := mac_cells (hc k x hx)
      have ha := Hb.out x (List.mem_of_getElem? hx)
      have hdr : (ms.drop k).map (amt 2) = amt 2 x :: (ms.drop (k + 1)).map (amt 2) := by
        obtain ⟨hkl, rfl⟩ := List.getElem?_eq_some_iff.1 hx
        rw [List.drop_eq_getElem_cons hkl, List.map_cons]
      have hE2 := HE.out
      rw [hdr, roomL] at hE2
      simp only [amt, if_true, if_false, Nat.one_ne_zero, (by decide : ¬ (2 : Nat) = 0), (by decide : ¬ (2 : Nat) = 1)] at hE2 ha
      clear hc hx hdr
      by_cases hneg : r - x.r1 < 0
      · rw [if_pos hneg] at hE2
        have H2 := Lib.hid hE2
        clear hE2
        go_wp2
        go_ret
        exact ⟨by rw [H2.out]; rfl, HW.out.trans (HB.out.mono (Nat.le_of_lt hWz) |>.trans (by (repeat' (first | with_reducible exact Below.refl _ _ | with_reducible assumption | with_reducible refine Below.drew ?_ | with_reducible refine below_drewN' ?_ _ | with_reducible refine Below.alloc ?_ ?_ _ | with_reducible refine Below.setCell ?_ ?_ _ | with_reducible refine below_step (by assumption) ?_ ?_ | omega | (simp; done) | (simp; omega)))))⟩
      · rw [if_neg hneg] at hE2
        have H2 := Lib.hid hE2
        clear hE2
        go_wp2
        go_roundw
        case rel => exact ⟨k + 1, r - x.r1, by omega, by go_num, by go_num, by omega, by omega, H2.out, by (repeat' (first | with_reducible exact Below.refl _ _ | with_reducible assumption | with_reducible refine Below.drew ?_ | with_reducible refine below_drewN' ?_ _ | with_reducible refine Below.alloc ?_ ?_ _ | with_reducible refine Below.setCell ?_ ?_ _ | with_reducible refine below_step (by assumption) ?_ ?_ | omega | (simp; done) | (simp; omega)))⟩
        case measure => simp [intOf]; omega
    · obtain rfl : k = n := by omega
      have H2 := Lib.hid (show roomL most (ms.map (amt 2)) = r by rw [HE.out, List.drop_of_length_le (Nat.le_of_eq Hln.out)]; rfl)
      go_wp2
      go_ret
      exact ⟨by rw [H2.out]; rfl, HW.out.trans (HB.out.mono (Nat.le_of_lt hWz))⟩

def capB (n : Int) : Bool := decide (0 ≤ n ∧ n ≤ 288230376151711744)
def rightC (c0 c1 c2 : Int) : Bool := capB c0 && capB c1 && capB c2
theorem capB_cases (n : Int) : (n < 0 ∧ capB n = false) ∨ (0 ≤ n ∧ 288230376151711744 < n ∧ capB n = false) ∨ (0 ≤ n ∧ n ≤ 288230376151711744 ∧ capB n = true) := by
  unfold capB
  by_cases h1 : 0 ≤ n
  · by_cases h2 : n ≤ 288230376151711744
    · exact .inr (.inr ⟨h1, h2, decide_eq_true ⟨h1, h2⟩⟩)
    · exact .inr (.inl ⟨h1, by omega, decide_eq_false fun h => h2 h.2⟩)
  · exact .inl ⟨by omega, decide_eq_false fun h => h1 h.1⟩

/-- A cap that is kept. -/
def keepB (q : Nat) (c : Int) (ms : List Mac) : Bool := decide (c = 0) || !decide (roomL c (ms.map (amt q)) < 0)
def withinB (c0 c1 c2 : Int) (ms : List Mac) : Bool := keepB 0 c0 ms && keepB 1 c1 ms && keepB 2 c2 ms
theorem keep_cases (q : Nat) (c : Int) (ms : List Mac) : ((c != 0) = false ∧ keepB q c ms = true) ∨ ((c != 0) = true ∧ roomL c (ms.map (amt q)) < 0 ∧ keepB q c ms = false) ∨ ((c != 0) = true ∧ 0 ≤ roomL c (ms.map (amt q)) ∧ keepB q c ms = true) := by
  unfold keepB
  by_cases h : c = 0
  · exact .inl ⟨by simp [h], by simp [h]⟩
  · by_cases h2 : roomL c (ms.map (amt q)) < 0
    · exact .inr (.inl ⟨by simpa using h, h2, by simp [h, h2]⟩)
    · exact .inr (.inr ⟨by simpa using h, by omega, by simp [h, h2]⟩)

/-- What machines count for is in bounds. -/
def MacsOk (ms : List Mac) : Prop := ∀ x ∈ ms, (0 ≤ x.r0 ∧ x.r0 ≤ 576460752303423488) ∧ (0 ≤ x.r1 ∧ x.r1 ≤ 576460752303423488)
theorem MacsOk.amt0 {ms : List Mac} (h : MacsOk ms) : ∀ x ∈ ms, 0 ≤ amt 0 x ∧ amt 0 x ≤ 576460752303423488 := fun x hx => by simp [amt]
theorem MacsOk.amt1 {ms : List Mac} (h : MacsOk ms) : ∀ x ∈ ms, 0 ≤ amt 1 x ∧ amt 1 x ≤ 576460752303423488 := fun x hx => by simpa [amt] using (h x hx).1
theorem MacsOk.amt2 {ms : List Mac} (h : MacsOk ms) : ∀ x ∈ ms, 0 ≤ amt 2 x ∧ amt 2 x ≤ 576460752303423488 := fun x hx => by simpa [amt] using (h x hx).2

set_option maxRecDepth 100000 in
set_option maxHeartbeats 8000000 in
theorem capwithin_any (c0 c1 c2 : Int) (hc : rightC c0 c1 c2 = true) (c : Option Addr) (kc : Nat) (ms : List Mac) (w : World) (hF : MacsAt w c ms) (hok : MacsOk ms) (hm : ms.length ≤ 1000000) :
    Calls Try.prog 69 #[.agg #[.int .i64 c0, .int .i64 c1, .int .i64 c2], .slice c ms.length kc] w fun e w' => e = .returned (.bool (withinB c0 c1 c2 ms)) ∧ Below w.heap.size w w' := by
  unfold rightC capB at hc
  rw [Bool.and_eq_true, Bool.and_eq_true, decide_eq_true_eq, decide_eq_true_eq, decide_eq_true_eq] at hc
  obtain ⟨⟨⟨l0, u0⟩, l1, u1⟩, l2, u2⟩ := hc
  have HF := Lib.hid hF
  have Hok := Lib.hid hok
  clear hF hok
  unfold withinB
  obtain ⟨r0, e0⟩ : ∃ r, roomL c0 (ms.map (amt 0)) = r := ⟨_, rfl⟩
  obtain ⟨r1, e1⟩ : ∃ r, roomL c1 (ms.map (amt 1)) = r := ⟨_, rfl⟩
  obtain ⟨r2, e2⟩ : ∃ r, roomL c2 (ms.map (amt 2)) = r := ⟨_, rfl⟩
  have k0 := keep_cases 0 c0 ms
  have k1 := keep_cases 1 c1 ms
  have k2 := keep_cases 2 c2 ms
  rw [e0] at k0
  rw [e1] at k1
  rw [e2] at k2
  have E0 := Lib.hid e0
  have E1 := Lib.hid e1
  have E2 := Lib.hid e2
  clear e0 e1 e2
  rcases k0 with ⟨a1, h0⟩ | ⟨a1, a2, h0⟩ | ⟨a1, a2, h0⟩
  rotate_left
  · rw [h0]
    clear h0 k1 k2
    go_enter Try.func69, Try.ntmps69
    go_wp2
    refine wp_loop_rounds 6 ?_
    iterate 6 ((try rw [rounds_succ]); (try go_wp2_with (first
    | ((with_reducible refine (room0_any c0 l0 u0 c kc ms _ (HF.out.mono (by (repeat' (first | with_reducible exact Below.refl _ _ | with_reducible assumption | with_reducible refine Below.drew ?_ | with_reducible refine below_drewN' ?_ _ | with_reducible refine Below.alloc ?_ ?_ _ | with_reducible refine Below.setCell ?_ ?_ _ | with_reducible refine below_step (by assumption) ?_ ?_ | omega | (simp; done) | (simp; omega))))) Hok.out.amt0 hm).mono ?_); rw [E0.out]; rintro e w5 ⟨rfl, hb5⟩; have hz5 := hb5.size; (try simp at hz5); obtain ⟨hc5, hf5⟩ := bcell hb5; have hx5 : w.heap.size + 1 < w5.heap.size := (by omega); have hy5 : w.heap.size + 1 + 1 < w5.heap.size := (by omega))
    | ((with_reducible refine (room1_any c1 l1 u1 c kc ms _ (HF.out.mono (by (repeat' (first | with_reducible exact Below.refl _ _ | with_reducible assumption | with_reducible refine Below.drew ?_ | with_reducible refine below_drewN' ?_ _ | with_reducible refine Below.alloc ?_ ?_ _ | with_reducible refine Below.setCell ?_ ?_ _ | with_reducible refine below_step (by assumption) ?_ ?_ | omega | (simp; done) | (simp; omega))))) Hok.out.amt1 hm).mono ?_); rw [E1.out]; rintro e w6 ⟨rfl, hb6⟩; have hz6 := hb6.size; (try simp at hz6); obtain ⟨hc6, hf6⟩ := bcell hb6; have hx6 : w.heap.size + 1 < w6.heap.size := (by omega); have hy6 : w.heap.size + 1 + 1 < w6.heap.size := (by omega))
    | ((with_reducible refine (room2_any c2 l2 u2 c kc ms _ (HF.out.mono (by (repeat' (first | with_reducible exact Below.refl _ _ | with_reducible assumption | with_reducible refine Below.drew ?_ | with_reducible refine below_drewN' ?_ _ | with_reducible refine Below.alloc ?_ ?_ _ | with_reducible refine Below.setCell ?_ ?_ _ | with_reducible refine below_step (by assumption) ?_ ?_ | omega | (simp; done) | (simp; omega))))) Hok.out.amt2 hm).mono ?_); rw [E2.out]; rintro e w7 ⟨rfl, hb7⟩; have hz7 := hb7.size; (try simp at hz7); obtain ⟨hc7, hf7⟩ := bcell hb7; have hx7 : w.heap.size + 1 < w7.heap.size := (by omega); have hy7 : w.heap.size + 1 + 1 < w7.heap.size := (by omega)))))
    go_ret
    exact ⟨rfl, by (repeat' (first | with_reducible exact Below.refl _ _ | with_reducible assumption | with_reducible refine Below.drew ?_ | with_reducible refine below_drewN' ?_ _ | with_reducible refine Below.alloc ?_ ?_ _ | with_reducible refine Below.setCell ?_ ?_ _ | with_reducible refine below_step (by assumption) ?_ ?_ | omega | (simp; done) | (simp; omega)))⟩
  all_goals
    rcases k1 with ⟨b1, h1⟩ | ⟨b1, b2, h1⟩ | ⟨b1, b2, h1⟩
    rotate_left
    · rw [h0, h1]
      clear h0 h1 k2
      go_enter Try.func69, Try.ntmps69
      go_wp2
      refine wp_loop_rounds 6 ?_
      iterate 6 ((try rw [rounds_succ]); (try go_wp2_with (first
      | ((with_reducible refine (room0_any c0 l0 u0 c kc ms _ (HF.out.mono (by (repeat' (first | with_reducible exact Below.refl _ _ | with_reducible assumption | with_reducible refine Below.drew ?_ | with_reducible refine below_drewN' ?_ _ | with_reducible refine Below.alloc ?_ ?_ _ | with_reducible refine Below.setCell ?_ ?_ _ | with_reducible refine below_step (by assumption) ?_ ?_ | omega | (simp; done) | (simp; omega))))) Hok.out.amt0 hm).mono ?_); rw [E0.out]; rintro e w5 ⟨rfl, hb5⟩; have hz5 := hb5.size; (try simp at hz5); obtain ⟨hc5, hf5⟩ := bcell hb5; have hx5 : w.heap.size + 1 < w5.heap.size := (by omega); have hy5 : w.heap.size + 1 + 1 < w5.heap.size := (by omega))
      | ((with_reducible refine (room1_any c1 l1 u1 c kc ms _ (HF.out.mono (by (repeat' (first | with_reducible exact Below.refl _ _ | with_reducible assumption | with_reducible refine Below.drew ?_ | with_reducible refine below_drewN' ?_ _ | with_reducible refine Below.alloc ?_ ?_ _ | with_reducible refine Below.setCell ?_ ?_ _ | with_reducible refine below_step (by assumption) ?_ ?_ | omega | (simp; done) | (simp; omega))))) Hok.out.amt1 hm).mono ?_); rw [E1.out]; rintro e w6 ⟨rfl, hb6⟩; have hz6 := hb6.size; (try simp at hz6); obtain ⟨hc6, hf6⟩ := bcell hb6; have hx6 : w.heap.size + 1 < w6.heap.size := (by omega); have hy6 : w.heap.size + 1 + 1 < w6.heap.size := (by omega))
      | ((with_reducible refine (room2_any c2 l2 u2 c kc ms _ (HF.out.mono (by (repeat' (first | with_reducible exact Below.refl _ _ | with_reducible assumption | with_reducible refine Below.drew ?_ | with_reducible refine below_drewN' ?_ _ | with_reducible refine Below.alloc ?_ ?_ _ | with_reducible refine Below.setCell ?_ ?_ _ | with_reducible refine below_step (by assumption) ?_ ?_ | omega | (simp; done) | (simp; omega))))) Hok.out.amt2 hm).mono ?_); rw [E2.out]; rintro e w7 ⟨rfl, hb7⟩; have hz7 := hb7.size; (try simp at hz7); obtain ⟨hc7, hf7⟩ := bcell hb7; have hx7 : w.heap.size + 1 < w7.heap.size := (by omega); have hy7 : w.heap.size + 1 + 1 < w7.heap.size := (by omega)))))
      go_ret
      exact ⟨rfl, by (repeat' (first | with_reducible exact Below.refl _ _ | with_reducible assumption | with_reducible refine Below.drew ?_ | with_reducible refine below_drewN' ?_ _ | with_reducible refine Below.alloc ?_ ?_ _ | with_reducible refine Below.setCell ?_ ?_ _ | with_reducible refine below_step (by assumption) ?_ ?_ | omega | (simp; done) | (simp; omega)))⟩
    all_goals
      rcases k2 with ⟨d1, h2⟩ | ⟨d1, d2, h2⟩ | ⟨d1, d2, h2⟩
      all_goals
        rw [h0, h1, h2]
        clear h0 h1 h2
        go_enter Try.func69, Try.ntmps69
        go_wp2
        refine wp_loop_rounds 6 ?_
        iterate 6 ((try rw [rounds_succ]); (try go_wp2_with (first
        | ((with_reducible refine (room0_any c0 l0 u0 c kc ms _ (HF.out.mono (by (repeat' (first | with_reducible exact Below.refl _ _ | with_reducible assumption | with_reducible refine Below.drew ?_ | with_reducible refine below_drewN' ?_ _ | with_reducible refine Below.alloc ?_ ?_ _ | with_reducible refine Below.setCell ?_ ?_ _ | with_reducible refine below_step (by assumption) ?_ ?_ | omega | (simp; done) | (simp; omega))))) Hok.out.amt0 hm).mono ?_); rw [E0.out]; rintro e w5 ⟨rfl, hb5⟩; have hz5 := hb5.size; (try simp at hz5); obtain ⟨hc5, hf5⟩ := bcell hb5; have hx5 : w.heap.size + 1 < w5.heap.size := (by omega); have hy5 : w.heap.size + 1 + 1 < w5.heap.size := (by omega))
        | ((with_reducible refine (room1_any c1 l1 u1 c kc ms _ (HF.out.mono (by (repeat' (first | with_reducible exact Below.refl _ _ | with_reducible assumption | with_reducible refine Below.drew ?_ | with_reducible refine below_drewN' ?_ _ | with_reducible refine Below.alloc ?_ ?_ _ | with_reducible refine Below.setCell ?_ ?_ _ | with_reducible refine below_step (by assumption) ?_ ?_ | omega | (simp; done) | (simp; omega))))) Hok.out.amt1 hm).mono ?_); rw [E1.out]; rintro e w6 ⟨rfl, hb6⟩; have hz6 := hb6.size; (try simp at hz6); obtain ⟨hc6, hf6⟩ := bcell hb6; have hx6 : w.heap.size + 1 < w6.heap.size := (by omega); have hy6 : w.heap.size + 1 + 1 < w6.heap.size := (by omega))
        | ((with_reducible refine (room2_any c2 l2 u2 c kc ms _ (HF.out.mono (by (repeat' (first | with_reducible exact Below.refl _ _ | with_reducible assumption | with_reducible refine Below.drew ?_ | with_reducible refine below_drewN' ?_ _ | with_reducible refine Below.alloc ?_ ?_ _ | with_reducible refine Below.setCell ?_ ?_ _ | with_reducible refine below_step (by assumption) ?_ ?_ | omega | (simp; done) | (simp; omega))))) Hok.out.amt2 hm).mono ?_); rw [E2.out]; rintro e w7 ⟨rfl, hb7⟩; have hz7 := hb7.size; (try simp at hz7); obtain ⟨hc7, hf7⟩ := bcell hb7; have hx7 : w.heap.size + 1 < w7.heap.size := (by omega); have hy7 : w.heap.size + 1 + 1 < w7.heap.size := (by omega)))))
        go_ret
        exact ⟨rfl, by (repeat' (first | with_reducible exact Below.refl _ _ | with_reducible assumption | with_reducible refine Below.drew ?_ | with_reducible refine below_drewN' ?_ _ | with_reducible refine Below.alloc ?_ ?_ _ | with_reducible refine Below.setCell ?_ ?_ _ | with_reducible refine below_step (by assumption) ?_ ?_ | omega | (simp; done) | (simp; omega)))⟩
set_option maxRecDepth 100000 in
theorem one23_any (n : Int) (w : World) :
    Calls Try.prog 24 #[.int .i64 n] w fun e w' => e = .returned (.bool (capB n)) ∧ Below w.heap.size w w' := by
  rcases capB_cases n with ⟨a1, h0⟩ | ⟨a1, a2, h0⟩ | ⟨a1, a2, h0⟩
  all_goals
    rw [h0]
    clear h0
    go_enter Try.func24, Try.ntmps24
    go_wp2
    go_ret
    exact ⟨by first | rfl | (simp; omega), by (repeat' (first | with_reducible exact Below.refl _ _ | with_reducible assumption | with_reducible refine Below.drew ?_ | with_reducible refine below_drewN' ?_ _ | with_reducible refine Below.alloc ?_ ?_ _ | with_reducible refine Below.setCell ?_ ?_ _ | with_reducible refine below_step (by assumption) ?_ ?_ | omega | (simp; done) | (simp; omega)))⟩

set_option maxRecDepth 100000 in
set_option maxHeartbeats 2000000 in
theorem right23_any (c0 c1 c2 : Int) (w : World) :
    Calls Try.prog 11 #[.agg #[.int .i64 c0, .int .i64 c1, .int .i64 c2]] w fun e w' => e = .returned (.bool (rightC c0 c1 c2)) ∧ Below w.heap.size w w' := by
  unfold rightC
  cases h0 : capB c0
  rotate_left
  cases h1 : capB c1
  rotate_left
  all_goals
    have H0 := Lib.hid h0
    first | (have H1 := Lib.hid h1) | skip
    clear h0
    first | clear h1 | skip
    go_enter Try.func11, Try.ntmps11
    go_wp2_with (first
      | (go_at_call 24; (with_reducible refine (one23_any c0 _).mono ?_); rw [H0.out]; rintro e w1 ⟨rfl, hb1⟩; obtain ⟨hc1, hf1⟩ := bcell hb1; have hz1 := hb1.size; (try simp at hz1); have hx1 : w.heap.size < w1.heap.size := (by omega))
      | (go_at_call 24; (with_reducible refine (one23_any c1 _).mono ?_); rw [H1.out]; rintro e w2 ⟨rfl, hb2⟩; obtain ⟨hc2, hf2⟩ := bcell hb2; have hz2 := hb2.size; have hx2 : w.heap.size < w2.heap.size := (by omega))
      | (go_at_call 24; (with_reducible refine (one23_any c2 _).mono ?_); rintro e w3 ⟨rfl, hb3⟩; have hz3 := hb3.size))
    go_ret
    exact ⟨by simp, by (repeat' (first | with_reducible exact Below.refl _ _ | with_reducible assumption | with_reducible refine Below.drew ?_ | with_reducible refine below_drewN' ?_ _ | with_reducible refine Below.alloc ?_ ?_ _ | with_reducible refine Below.setCell ?_ ?_ _ | with_reducible refine below_step (by assumption) ?_ ?_ | omega | (simp; done) | (simp; omega)))⟩

end Go.Proofs.Ytmkdfcggjlhcpaa
