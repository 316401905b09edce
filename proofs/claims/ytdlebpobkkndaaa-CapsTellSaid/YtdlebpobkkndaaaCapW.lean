/-
  The contract of the document's own answer for Within.
-/
import Derived.Test.YtdlebpobkkndaaaCapRP
namespace Go.Proofs.Ytdlebpobkkndaaa
open Go.RowKit
set_option linter.unusedVariables false

theorem sum_nn : ∀ (l : List Int), (∀ a ∈ l, 0 ≤ a) → 0 ≤ l.sum
  | [], _ => Int.le_refl 0
  | a :: l, h => by
    have h1 := h a List.mem_cons_self
    have h2 := sum_nn l fun x hx => h x (List.mem_cons_of_mem _ hx)
    rw [List.sum_cons]
    omega
theorem roomL_sum : ∀ (l : List Int) (r : Int), (∀ a ∈ l, 0 ≤ a) → 0 ≤ r → (roomL r l < 0 ↔ r < l.sum)
  | [], r, _, h0 => by unfold roomL; simp
  | a :: l, r, h, h0 => by
    have h1 := h a List.mem_cons_self
    have hl := fun x hx => h x (List.mem_cons_of_mem a hx)
    have h2 := sum_nn l hl
    rw [List.sum_cons, roomL]
    by_cases h3 : r - a < 0
    · rw [if_pos h3]
      exact ⟨fun _ => by omega, fun _ => h3⟩
    · rw [if_neg h3, roomL_sum l (r - a) hl (by omega)]
      constructor <;> intro <;> omega

def sumQ (q : Nat) (ms : List Mac) : Int := (ms.map (amt q)).sum
theorem sumQ_take {q : Nat} {ms : List Mac} {k : Nat} {x : Mac} (h : ms[k]? = some x) : sumQ q (ms.take (k + 1)) = sumQ q (ms.take k) + amt q x := by
  unfold sumQ
  rw [take_at h]
  simp
theorem amt_ok {ms : List Mac} (hok : MacsOk ms) (q : Nat) : ∀ x ∈ ms, 0 ≤ amt q x ∧ amt q x ≤ 1125899906842624 := fun x hx => by
  have := hok x hx
  unfold amt
  split
  · omega
  · split <;> omega
theorem sumQ_bd (q : Nat) : ∀ ms : List Mac, MacsOk ms → 0 ≤ sumQ q ms ∧ sumQ q ms ≤ ms.length * 1125899906842624
  | [], _ => by simp [sumQ]
  | x :: ms, h => by
    have h1 := amt_ok h q x List.mem_cons_self
    have h2 := sumQ_bd q ms fun y hy => h y (List.mem_cons_of_mem _ hy)
    unfold sumQ at h2 ⊢
    rw [List.map_cons, List.sum_cons, List.length_cons]
    omega
theorem sumQ_0 : ∀ ms : List Mac, sumQ 0 ms = ms.length
  | [] => rfl
  | x :: ms => by
    have h := sumQ_0 ms
    unfold sumQ at h ⊢
    rw [List.map_cons, List.sum_cons, h, List.length_cons, show amt 0 x = 1 from rfl]
    omega
def underB (n c : Int) : Bool := decide (c = 0) || decide (n ≤ c)
theorem keep_sum {q : Nat} {c : Int} {ms : List Mac} (hok : MacsOk ms) (hc : 0 ≤ c) : underB (sumQ q ms) c = keepB q c ms := by
  unfold underB keepB sumQ
  have h := roomL_sum (ms.map (amt q)) c (fun a ha => by
    obtain ⟨x, hx, rfl⟩ := List.mem_map.1 ha
    exact (amt_ok hok q x hx).1) hc
  by_cases h1 : c < (ms.map (amt q)).sum
  · rw [decide_eq_true (h.2 h1), decide_eq_false (by omega : ¬ (ms.map (amt q)).sum ≤ c)]
    rfl
  · rw [decide_eq_false (fun h2 => h1 (h.1 h2)), decide_eq_true (by omega : (ms.map (amt q)).sum ≤ c)]
    rfl
theorem MacsOk.take {ms : List Mac} (h : MacsOk ms) (k : Nat) : MacsOk (ms.take k) := fun x hx => h x (List.mem_of_mem_take hx)

set_option maxRecDepth 100000 in
theorem under_any (n c : Int) (w : World) :
    Calls Try.prog 19 #[.int .i64 n, .int .i64 c] w fun e w' => e = .returned (.bool (underB n c)) ∧ Below w.heap.size w w' := by
  unfold underB
  by_cases h : c = 0
  · have g1 : (c == 0) = true := by simpa using h
    rw [decide_eq_true h]
    clear h
    go_enter Try.func19, Try.ntmps19
    go_wp2
    go_ret
    exact ⟨rfl, by (repeat' (first | with_reducible exact Below.refl _ _ | with_reducible assumption | with_reducible refine Below.drew ?_ | with_reducible refine below_drewN' ?_ _ | with_reducible refine Below.alloc ?_ ?_ _ | with_reducible refine Below.setCell ?_ ?_ _ | with_reducible refine below_step (by assumption) ?_ ?_ | omega | (simp; done) | (simp; omega)))⟩
  · have g1 : (c == 0) = false := by simpa using h
    rw [decide_eq_false h]
    clear h
    go_enter Try.func19, Try.ntmps19
    go_wp2
    go_ret
    exact ⟨by simp, by (repeat' (first | with_reducible exact Below.refl _ _ | with_reducible assumption | with_reducible refine Below.drew ?_ | with_reducible refine below_drewN' ?_ _ | with_reducible refine Below.alloc ?_ ?_ _ | with_reducible refine Below.setCell ?_ ?_ _ | with_reducible refine below_step (by assumption) ?_ ?_ | omega | (simp; done) | (simp; omega)))⟩

set_option maxRecDepth 100000 in
set_option maxHeartbeats 4000000 in
theorem refwithin_any (c0 c1 c2 : Int) (hc : rightC c0 c1 c2 = true) (c : Option Addr) (kc : Nat) (ms : List Mac) (w : World) (hF : MacsAt w c ms) (hok : MacsOk ms) (hm : ms.length ≤ 1000) :
    Calls Try.prog 11 #[.agg #[.int .i64 c0, .int .i64 c1, .int .i64 c2], .slice c ms.length kc] w fun e w' => e = .returned (.bool (withinB c0 c1 c2 ms)) ∧ Below w.heap.size w w' := by
  unfold rightC capB at hc
  rw [Bool.and_eq_true, Bool.and_eq_true, decide_eq_true_eq, decide_eq_true_eq, decide_eq_true_eq] at hc
  obtain ⟨⟨⟨l0, u0⟩, l1, u1⟩, l2, u2⟩ := hc
  have E0 := Lib.hid (keep_sum (q := 0) hok l0)
  have E1 := Lib.hid (keep_sum (q := 1) hok l1)
  have E2 := Lib.hid (keep_sum (q := 2) hok l2)
  have E3 := Lib.hid (sumQ_0 ms)
  unfold withinB
  have HF := Lib.hid hF
  have Hok := Lib.hid hok
  obtain ⟨n, hln⟩ : ∃ n, ms.length = n := ⟨_, rfl⟩
  rw [hln] at hm ⊢
  have Hln := Lib.hid hln
  clear hln hF hok
  go_enter Try.func11, Try.ntmps11
  obtain ⟨W, hW⟩ : ∃ W, W = w.alloc (.cells #[.int .i64 c0, .int .i64 c1, .int .i64 c2] 23) := ⟨_, rfl⟩
  have HW := Lib.hid (show Below w.heap.size w W by rw [hW]; (repeat' (first | with_reducible exact Below.refl _ _ | with_reducible assumption | with_reducible refine Below.drew ?_ | with_reducible refine below_drewN' ?_ _ | with_reducible refine Below.alloc ?_ ?_ _ | with_reducible refine Below.setCell ?_ ?_ _ | with_reducible refine below_step (by assumption) ?_ ?_ | omega | (simp; done) | (simp; omega))))
  have HX := Lib.hid (show CellsC c0 c1 c2 w.heap.size W by rw [hW]; exact ⟨by simp, by simp [go_sem], by simp [go_sem], by simp [go_sem]⟩)
  have hWz : w.heap.size < W.heap.size := by rw [hW]; simp
  have HFW := Lib.hid (HF.out.mono HW.out)
  go_wp2
  rw [← hW]
  clear hW
  go_loopw [5, 6, 7] (fun u v i wr => ∃ k : Nat, k ≤ n ∧ i = .int .i64 k ∧ u = .int .i64 (sumQ 1 (ms.take k)) ∧ v = .int .i64 (sumQ 2 (ms.take k)) ∧ CellsC c0 c1 c2 w.heap.size wr ∧ Below W.heap.size W wr) (fun _ _ i _ => n - (intOf i).toNat)
  case atStart => exact ⟨0, Nat.zero_le _, rfl, rfl, rfl, HX.out, by (repeat' (first | with_reducible exact Below.refl _ _ | with_reducible assumption | with_reducible refine Below.drew ?_ | with_reducible refine below_drewN' ?_ _ | with_reducible refine Below.alloc ?_ ?_ _ | with_reducible refine Below.setCell ?_ ?_ _ | with_reducible refine below_step (by assumption) ?_ ?_ | omega | (simp; done) | (simp; omega)))⟩
  case round =>
    obtain ⟨k, hk, rfl, rfl, rfl, hX, hB⟩ := hrel
    obtain ⟨hcB, hfB⟩ := bcell hB
    have hbz := hB.size
    have HB := Lib.hid hB
    have HXr := Lib.hid hX
    clear hX
    obtain ⟨hx8, y0, y1, y2⟩ := HX.out
    have hx9 : w.heap.size < wr.heap.size := by omega
    have d1 := sumQ_bd 1 (ms.take k) (Hok.out.take k)
    have d2 := sumQ_bd 2 (ms.take k) (Hok.out.take k)
    have d3 : (ms.take k).length = k := by rw [List.length_take, Hln.out]; omega
    rw [d3] at d1 d2
    clear d3
    by_cases hlt : k < n
    · obtain ⟨x, hx⟩ := mem_at (l := ms) (k := k) (by rw [Hln.out]; exact hlt)
      obtain ⟨b, off, rfl, hb, hc⟩ := HFW.out (by rw [Hln.out]; omega)
      have hbw : b < wr.heap.size := by omega
      have es1 := Lib.hid (show sumQ 1 (ms.take (k + 1)) = sumQ 1 (ms.take k) + x.r0 from sumQ_take hx)
      have es2 := Lib.hid (show sumQ 2 (ms.take (k + 1)) = sumQ 2 (ms.take k) + x.r1 from sumQ_take hx)
      have hq := Hok.out x (List.mem_of_getElem? hx)
      obtain ⟨c0', c1', c2', c3, c4, c5, c6, c7, c8, c9⟩ := mac_cells (hc k x hx)
      clear hc hx
      obtain ⟨s1, hs1⟩ : ∃ s, sumQ 1 (ms.take k) = s := ⟨_, rfl⟩
      obtain ⟨s2, hs2⟩ : ∃ s, sumQ 2 (ms.take k) = s := ⟨_, rfl⟩
      rw [hs1] at d1 ⊢
      rw [hs2] at d2 ⊢
      have E4 := Lib.hid hs1
      have E5 := Lib.hid hs2
      clear hs1 hs2
      have w1 : IntKind.i64.wrap (s1 + x.r0) = s1 + x.r0 := wrap_in (by omega) (by omega)
      have w2 : IntKind.i64.wrap (s2 + x.r1) = s2 + x.r1 := wrap_in (by omega) (by omega)
      go_wp2
      go_roundw
      case rel => exact ⟨k + 1, by omega, by go_num, by rw [es1.out, E4.out]; try simp [*], by rw [es2.out, E5.out]; try simp [*], HXr.out.mono (by (repeat' (first | with_reducible exact Below.refl _ _ | with_reducible assumption | with_reducible refine Below.drew ?_ | with_reducible refine below_drewN' ?_ _ | with_reducible refine Below.alloc ?_ ?_ _ | with_reducible refine Below.setCell ?_ ?_ _ | with_reducible refine below_step (by assumption) ?_ ?_ | omega | (simp; done) | (simp; omega)))), by (repeat' (first | with_reducible exact Below.refl _ _ | with_reducible assumption | with_reducible refine Below.drew ?_ | with_reducible refine below_drewN' ?_ _ | with_reducible refine Below.alloc ?_ ?_ _ | with_reducible refine Below.setCell ?_ ?_ _ | with_reducible refine below_step (by assumption) ?_ ?_ | omega | (simp; done) | (simp; omega)))⟩
      case measure => simp [intOf]; omega
    · obtain rfl : k = n := by omega
      have ht : ms.take k = ms := List.take_of_length_le (Nat.le_of_eq Hln.out)
      rw [ht] at d1 d2 ⊢
      clear ht
      have U := E3.out
      rw [Hln.out] at U
      have E0' := E0.out
      rw [U] at E0'
      obtain ⟨s1, hs1⟩ : ∃ s, sumQ 1 ms = s := ⟨_, rfl⟩
      obtain ⟨s2, hs2⟩ : ∃ s, sumQ 2 ms = s := ⟨_, rfl⟩
      have E1' := E1.out
      have E2' := E2.out
      rw [hs1] at d1 E1' ⊢
      rw [hs2] at d2 E2' ⊢
      have V0 := Lib.hid E0'
      have V1 := Lib.hid E1'
      have V2 := Lib.hid E2'
      clear U E0' E1' E2' hs1 hs2 E0 E1 E2 E3
      cases hu0 : underB (k : Int) c0
      · have U0 := Lib.hid hu0
        clear hu0
        go_wp2_with (go_at_call 19; (with_reducible refine (under_any _ _ _).mono ?_); rw [U0.out]; rintro e w1 ⟨rfl, hb1⟩; obtain ⟨hc1, hf1⟩ := bcell hb1; have hz1 := hb1.size)
        go_ret
        exact ⟨by rw [← V0.out, U0.out]; rfl, HW.out.trans ((HB.out.trans (hb1.mono HB.out.size)).mono (Nat.le_of_lt hWz))⟩
      cases hu1 : underB s1 c1
      · have U0 := Lib.hid hu0
        have U1 := Lib.hid hu1
        clear hu0 hu1
        go_wp2_with (first | (go_at_call 19; (with_reducible refine (under_any (k : Int) c0 _).mono ?_); rw [U0.out]; rintro e w1 ⟨rfl, hb1⟩; obtain ⟨hc1, hf1⟩ := bcell hb1; have hz1 := hb1.size; have z1_0 : w.heap.size < w1.heap.size := (by omega); have y1_0 : w.heap.size ≤ w1.heap.size := (by omega)) | (go_at_call 19; (with_reducible refine (under_any s1 c1 _).mono ?_); rw [U1.out]; rintro e w2 ⟨rfl, hb2⟩; obtain ⟨hc2, hf2⟩ := bcell hb2; have hz2 := hb2.size; have z2_0 : w.heap.size < w2.heap.size := (by omega); have y2_0 : w.heap.size ≤ w2.heap.size := (by omega)))
        go_ret
        exact ⟨by rw [← V0.out, ← V1.out, U0.out, U1.out]; rfl, HW.out.trans ((HB.out.trans (by (repeat' (first | with_reducible exact Below.refl _ _ | with_reducible assumption | with_reducible refine Below.drew ?_ | with_reducible refine below_drewN' ?_ _ | with_reducible refine Below.alloc ?_ ?_ _ | with_reducible refine Below.setCell ?_ ?_ _ | with_reducible refine below_step (by assumption) ?_ ?_ | omega | (simp; done) | (simp; omega))))).mono (Nat.le_of_lt hWz))⟩
      · have U0 := Lib.hid hu0
        have U1 := Lib.hid hu1
        obtain ⟨u2, hu2⟩ : ∃ u2, underB s2 c2 = u2 := ⟨_, rfl⟩
        have U2 := Lib.hid hu2
        clear hu0 hu1 hu2
        go_wp2_with (first | (go_at_call 19; (with_reducible refine (under_any (k : Int) c0 _).mono ?_); rw [U0.out]; rintro e w1 ⟨rfl, hb1⟩; obtain ⟨hc1, hf1⟩ := bcell hb1; have hz1 := hb1.size; have z1_0 : w.heap.size < w1.heap.size := (by omega); have y1_0 : w.heap.size ≤ w1.heap.size := (by omega)) | (go_at_call 19; (with_reducible refine (under_any s1 c1 _).mono ?_); rw [U1.out]; rintro e w2 ⟨rfl, hb2⟩; obtain ⟨hc2, hf2⟩ := bcell hb2; have hz2 := hb2.size; have z2_0 : w.heap.size < w2.heap.size := (by omega); have y2_0 : w.heap.size ≤ w2.heap.size := (by omega)) | (go_at_call 19; (with_reducible refine (under_any s2 c2 _).mono ?_); rw [U2.out]; rintro e w3 ⟨rfl, hb3⟩; obtain ⟨hc3, hf3⟩ := bcell hb3; have hz3 := hb3.size; have z3_0 : w.heap.size < w3.heap.size := (by omega); have y3_0 : w.heap.size ≤ w3.heap.size := (by omega)))
        go_ret
        exact ⟨by rw [← V0.out, ← V1.out, ← V2.out, U0.out, U1.out, U2.out]; simp, HW.out.trans ((HB.out.trans (by (repeat' (first | with_reducible exact Below.refl _ _ | with_reducible assumption | with_reducible refine Below.drew ?_ | with_reducible refine below_drewN' ?_ _ | with_reducible refine Below.alloc ?_ ?_ _ | with_reducible refine Below.setCell ?_ ?_ _ | with_reducible refine below_step (by assumption) ?_ ?_ | omega | (simp; done) | (simp; omega))))).mono (Nat.le_of_lt hWz))⟩
end Go.Proofs.Ytdlebpobkkndaaa
