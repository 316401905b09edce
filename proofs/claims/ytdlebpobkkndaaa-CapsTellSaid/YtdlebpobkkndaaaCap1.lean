/-
  What the caps of a cluster are: limits, room.
-/
import Derived.Test.YtdlebpobkkndaaaMch
import Derived.Test.YtdlebpobkkndaaaNest
namespace Go.Proofs.Ytdlebpobkkndaaa
open Go.RowKit
set_option linter.unusedVariables false

def mcs (m : Mac) : List Value := [.string m.nm, .string m.gp, .int .i64 m.r0, .int .i64 m.r1, .int .i64 m.r2, .int .i64 m.r3, .int .i64 m.r4, .slice m.la m.labs.length m.lk, .slice m.ta m.tnts.length m.tk, .bool m.rd]
theorem mcs_len (m : Mac) : (mcs m).length = 10 := rfl
theorem mcs_one (m : Mac) : ∀ u ∈ mcs m, u.oneCell' = true := by
  intro u hu
  simp only [mcs, List.mem_cons, List.not_mem_nil, or_false] at hu
  rcases hu with rfl | rfl | rfl | rfl | rfl | rfl | rfl | rfl | rfl | rfl <;> rfl
abbrev MacsAt := RowsAt mcs 10
theorem mac_cells {w : World} {b o : Nat} {m : Mac} (h : ∀ r, r < 10 → w.cell? ⟨b, o + r, none⟩ = (mcs m)[r]?) :
    w.cell? ⟨b, o, none⟩ = some (.string m.nm) ∧ w.cell? ⟨b, o + 1, none⟩ = some (.string m.gp) ∧ w.cell? ⟨b, o + 2, none⟩ = some (.int .i64 m.r0) ∧ w.cell? ⟨b, o + 3, none⟩ = some (.int .i64 m.r1) ∧
    w.cell? ⟨b, o + 4, none⟩ = some (.int .i64 m.r2) ∧ w.cell? ⟨b, o + 5, none⟩ = some (.int .i64 m.r3) ∧ w.cell? ⟨b, o + 6, none⟩ = some (.int .i64 m.r4) ∧ w.cell? ⟨b, o + 7, none⟩ = some (.slice m.la m.labs.length m.lk) ∧
    w.cell? ⟨b, o + 8, none⟩ = some (.slice m.ta m.tnts.length m.tk) ∧ w.cell? ⟨b, o + 9, none⟩ = some (.bool m.rd) :=
  ⟨h 0 (by decide), h 1 (by decide), h 2 (by decide), h 3 (by decide), h 4 (by decide), h 5 (by decide), h 6 (by decide), h 7 (by decide), h 8 (by decide), h 9 (by decide)⟩

/-- What a machine counts for: itself, its Cpu, its Mem. -/
def amt (q : Nat) (m : Mac) : Int := if q = 0 then 1 else if q = 1 then m.r0 else m.r1
/-- What is left of a cap, or what it is below nothing where it ends. -/
def roomL : Int → List Int → Int
  | r, [] => r
  | r, a :: l => if r - a < 0 then r - a else roomL (r - a) l

set_option maxRecDepth 100000 in
set_option maxHeartbeats 4000000 in
theorem room0_any (most : Int) (h0 : 0 ≤ most) (h1 : most ≤ 288230376151711744) (c : Option Addr) (kc : Nat) (ms : List Mac) (w : World) (hF : MacsAt w c ms) (hb : ∀ x ∈ ms, 0 ≤ amt 0 x ∧ amt 0 x ≤ 1125899906842624) (hm : ms.length ≤ 1000000) :
    Calls Try.prog 18 #[.agg #[.int .i64 most, .func (.func 20) #[] #[]], .slice c ms.length kc] w fun e w' => e = .returned (.int .i64 (roomL most (ms.map (amt 0)))) ∧ Below w.heap.size w w' := by
  have HF := Lib.hid hF
  have Hb := Lib.hid hb
  clear hF hb
  obtain ⟨n, hln⟩ : ∃ n, ms.length = n := ⟨_, rfl⟩
  rw [hln] at hm ⊢
  have Hln := Lib.hid hln
  clear hln
  go_enter Try.func18, Try.ntmps18
  go_wp2
  obtain ⟨W, hW⟩ : ∃ W, W = w.alloc (.cells #[.int .i64 most, .func (.func 20) #[] #[]] 40) := ⟨_, rfl⟩
  have HW := Lib.hid (show Below w.heap.size w W by rw [hW]; (repeat' (first | with_reducible exact Below.refl _ _ | with_reducible assumption | with_reducible refine Below.drew ?_ | with_reducible refine below_drewN' ?_ _ | with_reducible refine Below.alloc ?_ ?_ _ | with_reducible refine Below.setCell ?_ ?_ _ | with_reducible refine below_step (by assumption) ?_ ?_ | omega | (simp; done) | (simp; omega))))
  have hWz : w.heap.size < W.heap.size := by rw [hW]; simp
  have s0 : W.cell? ⟨w.heap.size, 0, none⟩ = some (.int .i64 most) := by rw [hW]; simp [go_sem]
  have s1 : W.cell? ⟨w.heap.size, 1, none⟩ = some (.func (.func 20) #[] #[]) := by rw [hW]; simp [go_sem]
  have HFW := Lib.hid (HF.out.mono HW.out)
  rw [← hW]
  clear hW
  go_loopw [5, 12] (fun v i wr => ∃ (k : Nat) (r : Int), k ≤ n ∧ i = .int .i64 k ∧ v = .int .i64 r ∧ 0 ≤ r ∧ r ≤ 288230376151711744 ∧ roomL most (ms.map (amt 0)) = roomL r ((ms.drop k).map (amt 0)) ∧ Below W.heap.size W wr) (fun _ i _ => n - (intOf i).toNat)
  case atStart => exact ⟨0, most, Nat.zero_le _, rfl, rfl, h0, h1, by rw [List.drop_zero], by (repeat' (first | with_reducible exact Below.refl _ _ | with_reducible assumption | with_reducible refine Below.drew ?_ | with_reducible refine below_drewN' ?_ _ | with_reducible refine Below.alloc ?_ ?_ _ | with_reducible refine Below.setCell ?_ ?_ _ | with_reducible refine below_step (by assumption) ?_ ?_ | omega | (simp; done) | (simp; omega)))⟩
  case round =>
    obtain ⟨k, r, hk, rfl, rfl, hr0, hr1, hE, hB⟩ := hrel
    obtain ⟨hcB, hfB⟩ := bcell hB
    have hbz := hB.size
    have HE := Lib.hid hE
    have HB := Lib.hid hB
    clear hE
    by_cases hlt : k < n
    · obtain ⟨x, hx⟩ := mem_at (l := ms) (k := k) (by rw [Hln.out]; exact hlt)
      obtain ⟨b, off, rfl, hb, hc⟩ := HFW.out (by rw [Hln.out]; omega)
      have hbw : b < wr.heap.size := by omega
      have hww : w.heap.size < wr.heap.size := by omega
      obtain ⟨c0, c1, c2, c3, c4, c5, c6, c7, c8, c9⟩ := mac_cells (hc k x hx)
      have ha := Hb.out x (List.mem_of_getElem? hx)
      have hdr : (ms.drop k).map (amt 0) = amt 0 x :: (ms.drop (k + 1)).map (amt 0) := by
        obtain ⟨hkl, rfl⟩ := List.getElem?_eq_some_iff.1 hx
        rw [List.drop_eq_getElem_cons hkl, List.map_cons]
      have hE2 := HE.out
      rw [hdr, roomL] at hE2
      simp only [amt, if_true, if_false, Nat.one_ne_zero, (by decide : ¬ (2 : Nat) = 0), (by decide : ¬ (2 : Nat) = 1)] at hE2 ha
      clear hc hx hdr
      by_cases hneg : r - 1 < 0
      · rw [if_pos hneg] at hE2
        have H2 := Lib.hid hE2
        clear hE2
        go_wp2
        go_ret
        exact ⟨by rw [H2.out]; rfl, HW.out.trans (HB.out.mono (Nat.le_of_lt hWz) |>.trans (by (repeat' (first | with_reducible exact Below.refl _ _ | with_reducible assumption | with_reducible refine Below.drew ?_ | with_reducible refine below_drewN' ?_ _ | with_reducible refine Below.alloc ?_ ?_ _ | with_reducible refine Below.setCell ?_ ?_ _ | with_reducible refine below_step (by assumption) ?_ ?_ | omega | (simp; done) | (simp; omega)))))⟩
      · rw [if_neg hneg] at hE2
        have H2 := Lib.hid hE2
        clear hE2
        go_wp2
        go_roundw
        case rel => exact ⟨k + 1, r - 1, by omega, by go_num, by go_num, by omega, by omega, H2.out, by (repeat' (first | with_reducible exact Below.refl _ _ | with_reducible assumption | with_reducible refine Below.drew ?_ | with_reducible refine below_drewN' ?_ _ | with_reducible refine Below.alloc ?_ ?_ _ | with_reducible refine Below.setCell ?_ ?_ _ | with_reducible refine below_step (by assumption) ?_ ?_ | omega | (simp; done) | (simp; omega)))⟩
        case measure => simp [intOf]; omega
    · obtain rfl : k = n := by omega
      have H2 := Lib.hid (show roomL most (ms.map (amt 0)) = r by rw [HE.out, List.drop_of_length_le (Nat.le_of_eq Hln.out)]; rfl)
      go_wp2
      go_ret
      exact ⟨by rw [H2.out]; rfl, HW.out.trans (HB.out.mono (Nat.le_of_lt hWz))⟩
set_option maxRecDepth 100000 in
set_option maxHeartbeats 4000000 in
theorem room1_any (most : Int) (h0 : 0 ≤ most) (h1 : most ≤ 288230376151711744) (c : Option Addr) (kc : Nat) (ms : List Mac) (w : World) (hF : MacsAt w c ms) (hb : ∀ x ∈ ms, 0 ≤ amt 1 x ∧ amt 1 x ≤ 1125899906842624) (hm : ms.length ≤ 1000000) :
    Calls Try.prog 18 #[.agg #[.int .i64 most, .func (.func 21) #[] #[]], .slice c ms.length kc] w fun e w' => e = .returned (.int .i64 (roomL most (ms.map (amt 1)))) ∧ Below w.heap.size w w' := by
  have HF := Lib.hid hF
  have Hb := Lib.hid hb
  clear hF hb
  obtain ⟨n, hln⟩ : ∃ n, ms.length = n := ⟨_, rfl⟩
  rw [hln] at hm ⊢
  have Hln := Lib.hid hln
  clear hln
  go_enter Try.func18, Try.ntmps18
  go_wp2
  obtain ⟨W, hW⟩ : ∃ W, W = w.alloc (.cells #[.int .i64 most, .func (.func 21) #[] #[]] 40) := ⟨_, rfl⟩
  have HW := Lib.hid (show Below w.heap.size w W by rw [hW]; (repeat' (first | with_reducible exact Below.refl _ _ | with_reducible assumption | with_reducible refine Below.drew ?_ | with_reducible refine below_drewN' ?_ _ | with_reducible refine Below.alloc ?_ ?_ _ | with_reducible refine Below.setCell ?_ ?_ _ | with_reducible refine below_step (by assumption) ?_ ?_ | omega | (simp; done) | (simp; omega))))
  have hWz : w.heap.size < W.heap.size := by rw [hW]; simp
  have s0 : W.cell? ⟨w.heap.size, 0, none⟩ = some (.int .i64 most) := by rw [hW]; simp [go_sem]
  have s1 : W.cell? ⟨w.heap.size, 1, none⟩ = some (.func (.func 21) #[] #[]) := by rw [hW]; simp [go_sem]
  have HFW := Lib.hid (HF.out.mono HW.out)
  rw [← hW]
  clear hW
  go_loopw [5, 12] (fun v i wr => ∃ (k : Nat) (r : Int), k ≤ n ∧ i = .int .i64 k ∧ v = .int .i64 r ∧ 0 ≤ r ∧ r ≤ 288230376151711744 ∧ roomL most (ms.map (amt 1)) = roomL r ((ms.drop k).map (amt 1)) ∧ Below W.heap.size W wr) (fun _ i _ => n - (intOf i).toNat)
  case atStart => exact ⟨0, most, Nat.zero_le _, rfl, rfl, h0, h1, by rw [List.drop_zero], by (repeat' (first | with_reducible exact Below.refl _ _ | with_reducible assumption | with_reducible refine Below.drew ?_ | with_reducible refine below_drewN' ?_ _ | with_reducible refine Below.alloc ?_ ?_ _ | with_reducible refine Below.setCell ?_ ?_ _ | with_reducible refine below_step (by assumption) ?_ ?_ | omega | (simp; done) | (simp; omega)))⟩
  case round =>
    obtain ⟨k, r, hk, rfl, rfl, hr0, hr1, hE, hB⟩ := hrel
    obtain ⟨hcB, hfB⟩ := bcell hB
    have hbz := hB.size
    have HE := Lib.hid hE
    have HB := Lib.hid hB
    clear hE
    by_cases hlt : k < n
    · obtain ⟨x, hx⟩ := mem_at (l := ms) (k := k) (by rw [Hln.out]; exact hlt)
      obtain ⟨b, off, rfl, hb, hc⟩ := HFW.out (by rw [Hln.out]; omega)
      have hbw : b < wr.heap.size := by omega
      have hww : w.heap.size < wr.heap.size := by omega
      obtain ⟨c0, c1, c2, c3, c4, c5, c6, c7, c8, c9⟩ := mac_cells (hc k x hx)
      have ha := Hb.out x (List.mem_of_getElem? hx)
      have hdr : (ms.drop k).map (amt 1) = amt 1 x :: (ms.drop (k + 1)).map (amt 1) := by
        obtain ⟨hkl, rfl⟩ := List.getElem?_eq_some_iff.1 hx
        rw [List.drop_eq_getElem_cons hkl, List.map_cons]
      have hE2 := HE.out
      rw [hdr, roomL] at hE2
      simp only [amt, if_true, if_false, Nat.one_ne_zero, (by decide : ¬ (2 : Nat) = 0), (by decide : ¬ (2 : Nat) = 1)] at hE2 ha
      clear hc hx hdr
      by_cases hneg : r - x.r0 < 0
      · rw [if_pos hneg] at hE2
        have H2 := Lib.hid hE2
        clear hE2
        go_wp2
        go_ret
        exact ⟨by rw [H2.out]; rfl, HW.out.trans (HB.out.mono (Nat.le_of_lt hWz) |>.trans (by (repeat' (first | with_reducible exact Below.refl _ _ | with_reducible assumption | with_reducible refine Below.drew ?_ | with_reducible refine below_drewN' ?_ _ | with_reducible refine Below.alloc ?_ ?_ _ | with_reducible refine Below.setCell ?_ ?_ _ | with_reducible refine below_step (by assumption) ?_ ?_ | omega | (simp; done) | (simp; omega)))))⟩
      · rw [if_neg hneg] at hE2
        have H2 := Lib.hid hE2
        clear hE2
        go_wp2
        go_roundw
        case rel => exact ⟨k + 1, r - x.r0, by omega, by go_num, by go_num, by omega, by omega, H2.out, by (repeat' (first | with_reducible exact Below.refl _ _ | with_reducible assumption | with_reducible refine Below.drew ?_ | with_reducible refine below_drewN' ?_ _ | with_reducible refine Below.alloc ?_ ?_ _ | with_reducible refine Below.setCell ?_ ?_ _ | with_reducible refine below_step (by assumption) ?_ ?_ | omega | (simp; done) | (simp; omega)))⟩
        case measure => simp [intOf]; omega
    · obtain rfl : k = n := by omega
      have H2 := Lib.hid (show roomL most (ms.map (amt 1)) = r by rw [HE.out, List.drop_of_length_le (Nat.le_of_eq Hln.out)]; rfl)
      go_wp2
      go_ret
      exact ⟨by rw [H2.out]; rfl, HW.out.trans (HB.out.mono (Nat.le_of_lt hWz))⟩
set_option maxRecDepth 100000 in
set_option maxHeartbeats 4000000 in
theorem room2_any (most : Int) (h0 : 0 ≤ most) (h1 : most ≤ 288230376151711744) (c : Option Addr) (kc : Nat) (ms : List Mac) (w : World) (hF : MacsAt w c ms) (hb : ∀ x ∈ ms, 0 ≤ amt 2 x ∧ amt 2 x ≤ 1125899906842624) (hm : ms.length ≤ 1000000) :
    Calls Try.prog 18 #[.agg #[.int .i64 most, .func (.func 22) #[] #[]], .slice c ms.length kc] w fun e w' => e = .returned (.int .i64 (roomL most (ms.map (amt 2)))) ∧ Below w.heap.size w w' := by
  have HF := Lib.hid hF
  have Hb := Lib.hid hb
  clear hF hb
  obtain ⟨n, hln⟩ : ∃ n, ms.length = n := ⟨_, rfl⟩
  rw [hln] at hm ⊢
  have Hln := Lib.hid hln
  clear hln
  go_enter Try.func18, Try.ntmps18
  go_wp2
  obtain ⟨W, hW⟩ : ∃ W, W = w.alloc (.cells #[.int .i64 most, .func (.func 22) #[] #[]] 40) := ⟨_, rfl⟩
  have HW := Lib.hid (show Below w.heap.size w W by rw [hW]; (repeat' (first | with_reducible exact Below.refl _ _ | with_reducible assumption | with_reducible refine Below.drew ?_ | with_reducible refine below_drewN' ?_ _ | with_reducible refine Below.alloc ?_ ?_ _ | with_reducible refine Below.setCell ?_ ?_ _ | with_reducible refine below_step (by assumption) ?_ ?_ | omega | (simp; done) | (simp; omega))))
  have hWz : w.heap.size < W.heap.size := by rw [hW]; simp
  have s0 : W.cell? ⟨w.heap.size, 0, none⟩ = some (.int .i64 most) := by rw [hW]; simp [go_sem]
  have s1 : W.cell? ⟨w.heap.size, 1, none⟩ = some (.func (.func 22) #[] #[]) := by rw [hW]; simp [go_sem]
  have HFW := Lib.hid (HF.out.mono HW.out)
  rw [← hW]
  clear hW
  go_loopw [5, 12] (fun v i wr => ∃ (k : Nat) (r : Int), k ≤ n ∧ i = .int .i64 k ∧ v = .int .i64 r ∧ 0 ≤ r ∧ r ≤ 288230376151711744 ∧ roomL most (ms.map (amt 2)) = roomL r ((ms.drop k).map (amt 2)) ∧ Below W.heap.size W wr) (fun _ i _ => n - (intOf i).toNat)
  case atStart => exact ⟨0, most, Nat.zero_le _, rfl, rfl, h0, h1, by rw [List.drop_zero], by (repeat' (first | with_reducible exact Below.refl _ _ | with_reducible assumption | with_reducible refine Below.drew ?_ | with_reducible refine below_drewN' ?_ _ | with_reducible refine Below.alloc ?_ ?_ _ | with_reducible refine Below.setCell ?_ ?_ _ | with_reducible refine below_step (by assumption) ?_ ?_ | omega | (simp; done) | (simp; omega)))⟩
  case round =>
    obtain ⟨k, r, hk, rfl, rfl, hr0, hr1, hE, hB⟩ := hrel
    obtain ⟨hcB, hfB⟩ := bcell hB
    have hbz := hB.size
    have HE := Lib.hid hE
    have HB := Lib.hid hB
    clear hE
    by_cases hlt : k < n
    · obtain ⟨x, hx⟩ := mem_at (l := ms) (k := k) (by rw [Hln.out]; exact hlt)
      obtain ⟨b, off, rfl, hb, hc⟩ := HFW.out (by rw [Hln.out]; omega)
      have hbw : b < wr.heap.size := by omega
      have hww : w.heap.size < wr.heap.size := by omega
      obtain ⟨c0, c1, c2, c3, c4, c5, c6, c7, c8, c9⟩ := mac_cells (hc k x hx)
      have ha := Hb.out x (List.mem_of_getElem? hx)
      have hdr : (ms.drop k).map (amt 2) = amt 2 x :: (ms.drop (k + 1)).map (amt 2) := by
        obtain ⟨hkl, rfl⟩ := List.getElem?_eq_some_iff.1 hx
        rw [List.drop_eq_getElem_cons hkl, List.map_cons]
      have hE2 := HE.out
      rw [hdr, roomL] at hE2
      simp only [amt, if_true, if_false, Nat.one_ne_zero, (by decide : ¬ (2 : Nat) = 0), (by decide : ¬ (2 : Nat) = 1)] at hE2 ha
      clear hc hx hdr
      by_cases hneg : r - x.r1 < 0
      · rw [if_pos hneg] at hE2
        have H2 := Lib.hid hE2
        clear hE2
        go_wp2
        go_ret
        exact ⟨by rw [H2.out]; rfl, HW.out.trans (HB.out.mono (Nat.le_of_lt hWz) |>.trans (by (repeat' (first | with_reducible exact Below.refl _ _ | with_reducible assumption | with_reducible refine Below.drew ?_ | with_reducible refine below_drewN' ?_ _ | with_reducible refine Below.alloc ?_ ?_ _ | with_reducible refine Below.setCell ?_ ?_ _ | with_reducible refine below_step (by assumption) ?_ ?_ | omega | (simp; done) | (simp; omega)))))⟩
      · rw [if_neg hneg] at hE2
        have H2 := Lib.hid hE2
        clear hE2
        go_wp2
        go_roundw
        case rel => exact ⟨k + 1, r - x.r1, by omega, by go_num, by go_num, by omega, by omega, H2.out, by (repeat' (first | with_reducible exact Below.refl _ _ | with_reducible assumption | with_reducible refine Below.drew ?_ | with_reducible refine below_drewN' ?_ _ | with_reducible refine Below.alloc ?_ ?_ _ | with_reducible refine Below.setCell ?_ ?_ _ | with_reducible refine below_step (by assumption) ?_ ?_ | omega | (simp; done) | (simp; omega)))⟩
        case measure => simp [intOf]; omega
    · obtain rfl : k = n := by omega
      have H2 := Lib.hid (show roomL most (ms.map (amt 2)) = r by rw [HE.out, List.drop_of_length_le (Nat.le_of_eq Hln.out)]; rfl)
      go_wp2
      go_ret
      exact ⟨by rw [H2.out]; rfl, HW.out.trans (HB.out.mono (Nat.le_of_lt hWz))⟩
end Go.Proofs.Ytdlebpobkkndaaa
