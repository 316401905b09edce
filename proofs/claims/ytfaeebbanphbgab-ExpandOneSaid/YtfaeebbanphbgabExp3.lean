/-
  The contract of expand.Choose.
-/
import Derived.Test.YtfaeebbanphbgabExp2
import Derived.Test.YtfaeebbanphbgabHeld
namespace Go.Proofs.Ytfaeebbanphbgab
open Go.RowKit
set_option linter.unusedVariables false

/-- An option's fields. -/
structure Opt where
  g : ByteArray
  c : Int
  s : Option Addr
  l : Nat
  k : Nat
  w : Int
  p : Int
  r : Int

def bet (how : Int) (a b : Opt) : Bool := betB how a.w a.p a.r a.l b.w b.p b.r b.l

/-- The best of the first ones. -/
def bst (how : Int) (D : Nat → Opt) : Nat → Nat
  | 0 => 0
  | i + 1 => if bet how (D i) (D (bst how D i)) = true then i else bst how D i

theorem bst_lt (how : Int) (D : Nat → Opt) (i : Nat) (h : 0 < i) : bst how D i < i := by
  induction i with
  | zero => omega
  | succ i ih =>
    unfold bst
    split
    · omega
    · by_cases h0 : 0 < i
      · have := ih h0; omega
      · obtain rfl : i = 0 := by omega
        simp [bst]

structure Opts (w : World) (b off n : Nat) (D : Nat → Opt) : Prop where
  fg : ∀ i, i < n → w.cell? ⟨b, off + i * 6, none⟩ = some (.string (D i).g)
  fc : ∀ i, i < n → w.cell? ⟨b, off + i * 6 + 1, none⟩ = some (.int .i64 (D i).c)
  fs : ∀ i, i < n → w.cell? ⟨b, off + i * 6 + 2, none⟩ = some (.slice (D i).s (D i).l (D i).k)
  fw : ∀ i, i < n → w.cell? ⟨b, off + i * 6 + 3, none⟩ = some (.int .i64 (D i).w)
  fp : ∀ i, i < n → w.cell? ⟨b, off + i * 6 + 4, none⟩ = some (.int .i64 (D i).p)
  fr : ∀ i, i < n → w.cell? ⟨b, off + i * 6 + 5, none⟩ = some (.int .i64 (D i).r)

theorem bst_succ (how : Int) (D : Nat → Opt) (i q : Nat) (h : bst how D i = q) : bst how D (i + 1) = if bet how (D i) (D q) = true then i else q := by
  show (if bet how (D i) (D (bst how D i)) = true then i else bst how D i) = _
  rw [h]

theorem bst_le (how : Int) (D : Nat → Opt) (n k : Nat) (hk : k ≤ n) (hn : 0 < n) : bst how D k < n := by
  by_cases h0 : 0 < k
  · have := bst_lt how D k h0; omega
  · obtain rfl : k = 0 := by omega
    exact hn

set_option maxRecDepth 100000 in
set_option maxHeartbeats 1000000 in
theorem clo1_any (ga : ByteArray) (ca : Int) (sa : Option Addr) (la ka : Nat) (wa pa ra : Int) (gb : ByteArray) (cb : Int) (sb : Option Addr) (lb kb : Nat) (wb pb rb : Int) (w : World) :
    Calls Try.prog 19 #[.agg #[.string ga, .int .i64 ca, .slice sa la ka, .int .i64 wa, .int .i64 pa, .int .i64 ra], .agg #[.string gb, .int .i64 cb, .slice sb lb kb, .int .i64 wb, .int .i64 pb, .int .i64 rb]] w fun e w' => e = .returned (.bool (betB 1 wa pa ra la wb pb rb lb)) ∧ Below w.heap.size w w' := by
  by_cases g1 : wa < wb
  · have He := Lib.hid (show betB 1 wa pa ra la wb pb rb lb = true by simp [betB, *])
    go_enter Try.func19, Try.ntmps19
    go_wp2
    go_ret
    exact ⟨by rw [He.out]; first | rfl | (simp; done) | (simp; omega), by (repeat' (first | with_reducible exact Below.refl _ _ | with_reducible assumption | with_reducible refine Below.drew ?_ | with_reducible refine below_drewN' ?_ _ | with_reducible refine Below.alloc ?_ ?_ _ | with_reducible refine Below.setCell ?_ ?_ _ | with_reducible refine below_step (by assumption) ?_ ?_ | omega | (simp; done) | (simp; omega)))⟩
  · have He := Lib.hid (show betB 1 wa pa ra la wb pb rb lb = false by simp [betB, *])
    go_enter Try.func19, Try.ntmps19
    go_wp2
    go_ret
    exact ⟨by rw [He.out]; first | rfl | (simp; done) | (simp; omega), by (repeat' (first | with_reducible exact Below.refl _ _ | with_reducible assumption | with_reducible refine Below.drew ?_ | with_reducible refine below_drewN' ?_ _ | with_reducible refine Below.alloc ?_ ?_ _ | with_reducible refine Below.setCell ?_ ?_ _ | with_reducible refine below_step (by assumption) ?_ ?_ | omega | (simp; done) | (simp; omega)))⟩

set_option maxRecDepth 100000 in
set_option maxHeartbeats 1000000 in
theorem clo2_any (ga : ByteArray) (ca : Int) (sa : Option Addr) (la ka : Nat) (wa pa ra : Int) (gb : ByteArray) (cb : Int) (sb : Option Addr) (lb kb : Nat) (wb pb rb : Int) (w : World) :
    Calls Try.prog 20 #[.agg #[.string ga, .int .i64 ca, .slice sa la ka, .int .i64 wa, .int .i64 pa, .int .i64 ra], .agg #[.string gb, .int .i64 cb, .slice sb lb kb, .int .i64 wb, .int .i64 pb, .int .i64 rb]] w fun e w' => e = .returned (.bool (betB 2 wa pa ra la wb pb rb lb)) ∧ Below w.heap.size w w' := by
  by_cases g1 : rb < ra
  · have He := Lib.hid (show betB 2 wa pa ra la wb pb rb lb = true by simp [betB, *])
    go_enter Try.func20, Try.ntmps20
    go_wp2
    go_ret
    exact ⟨by rw [He.out]; first | rfl | (simp; done) | (simp; omega), by (repeat' (first | with_reducible exact Below.refl _ _ | with_reducible assumption | with_reducible refine Below.drew ?_ | with_reducible refine below_drewN' ?_ _ | with_reducible refine Below.alloc ?_ ?_ _ | with_reducible refine Below.setCell ?_ ?_ _ | with_reducible refine below_step (by assumption) ?_ ?_ | omega | (simp; done) | (simp; omega)))⟩
  by_cases g2 : ra = rb
  · subst g2
    by_cases g3 : wa < wb
    · have He := Lib.hid (show betB 2 wa pa ra la wb pb ra lb = true by simp [betB, *])
      go_enter Try.func20, Try.ntmps20
      go_wp2
      go_ret
      exact ⟨by rw [He.out]; first | rfl | (simp; done) | (simp; omega), by (repeat' (first | with_reducible exact Below.refl _ _ | with_reducible assumption | with_reducible refine Below.drew ?_ | with_reducible refine below_drewN' ?_ _ | with_reducible refine Below.alloc ?_ ?_ _ | with_reducible refine Below.setCell ?_ ?_ _ | with_reducible refine below_step (by assumption) ?_ ?_ | omega | (simp; done) | (simp; omega)))⟩
    · have He := Lib.hid (show betB 2 wa pa ra la wb pb ra lb = false by simp [betB, *])
      go_enter Try.func20, Try.ntmps20
      go_wp2
      go_ret
      exact ⟨by rw [He.out]; first | rfl | (simp; done) | (simp; omega), by (repeat' (first | with_reducible exact Below.refl _ _ | with_reducible assumption | with_reducible refine Below.drew ?_ | with_reducible refine below_drewN' ?_ _ | with_reducible refine Below.alloc ?_ ?_ _ | with_reducible refine Below.setCell ?_ ?_ _ | with_reducible refine below_step (by assumption) ?_ ?_ | omega | (simp; done) | (simp; omega)))⟩
  · have g3 : (ra == rb) = false := beq_eq_false_iff_ne.2 g2
    have He := Lib.hid (show betB 2 wa pa ra la wb pb rb lb = false by simp [betB, *])
    clear g2
    go_enter Try.func20, Try.ntmps20
    go_wp2
    go_ret
    exact ⟨by rw [He.out]; first | rfl | (simp; done) | (simp; omega), by (repeat' (first | with_reducible exact Below.refl _ _ | with_reducible assumption | with_reducible refine Below.drew ?_ | with_reducible refine below_drewN' ?_ _ | with_reducible refine Below.alloc ?_ ?_ _ | with_reducible refine Below.setCell ?_ ?_ _ | with_reducible refine below_step (by assumption) ?_ ?_ | omega | (simp; done) | (simp; omega)))⟩

set_option maxRecDepth 100000 in
set_option maxHeartbeats 1000000 in
theorem clo3_any (ga : ByteArray) (ca : Int) (sa : Option Addr) (la ka : Nat) (wa pa ra : Int) (gb : ByteArray) (cb : Int) (sb : Option Addr) (lb kb : Nat) (wb pb rb : Int) (w : World) :
    Calls Try.prog 21 #[.agg #[.string ga, .int .i64 ca, .slice sa la ka, .int .i64 wa, .int .i64 pa, .int .i64 ra], .agg #[.string gb, .int .i64 cb, .slice sb lb kb, .int .i64 wb, .int .i64 pb, .int .i64 rb]] w fun e w' => e = .returned (.bool (betB 3 wa pa ra la wb pb rb lb)) ∧ Below w.heap.size w w' := by
  by_cases g1 : pa < pb
  · have He := Lib.hid (show betB 3 wa pa ra la wb pb rb lb = true by simp [betB, *])
    go_enter Try.func21, Try.ntmps21
    go_wp2
    go_ret
    exact ⟨by rw [He.out]; first | rfl | (simp; done) | (simp; omega), by (repeat' (first | with_reducible exact Below.refl _ _ | with_reducible assumption | with_reducible refine Below.drew ?_ | with_reducible refine below_drewN' ?_ _ | with_reducible refine Below.alloc ?_ ?_ _ | with_reducible refine Below.setCell ?_ ?_ _ | with_reducible refine below_step (by assumption) ?_ ?_ | omega | (simp; done) | (simp; omega)))⟩
  by_cases g2 : pa = pb
  · subst g2
    by_cases g3 : lb < la
    · have He := Lib.hid (show betB 3 wa pa ra la wb pa rb lb = true by simp [betB, *])
      go_enter Try.func21, Try.ntmps21
      go_wp2
      go_ret
      exact ⟨by rw [He.out]; first | rfl | (simp; done) | (simp; omega), by (repeat' (first | with_reducible exact Below.refl _ _ | with_reducible assumption | with_reducible refine Below.drew ?_ | with_reducible refine below_drewN' ?_ _ | with_reducible refine Below.alloc ?_ ?_ _ | with_reducible refine Below.setCell ?_ ?_ _ | with_reducible refine below_step (by assumption) ?_ ?_ | omega | (simp; done) | (simp; omega)))⟩
    · have He := Lib.hid (show betB 3 wa pa ra la wb pa rb lb = false by simp [betB, *])
      go_enter Try.func21, Try.ntmps21
      go_wp2
      go_ret
      exact ⟨by rw [He.out]; first | rfl | (simp; done) | (simp; omega), by (repeat' (first | with_reducible exact Below.refl _ _ | with_reducible assumption | with_reducible refine Below.drew ?_ | with_reducible refine below_drewN' ?_ _ | with_reducible refine Below.alloc ?_ ?_ _ | with_reducible refine Below.setCell ?_ ?_ _ | with_reducible refine below_step (by assumption) ?_ ?_ | omega | (simp; done) | (simp; omega)))⟩
  · have g3 : (pa == pb) = false := beq_eq_false_iff_ne.2 g2
    have He := Lib.hid (show betB 3 wa pa ra la wb pb rb lb = false by simp [betB, *])
    clear g2
    go_enter Try.func21, Try.ntmps21
    go_wp2
    go_ret
    exact ⟨by rw [He.out]; first | rfl | (simp; done) | (simp; omega), by (repeat' (first | with_reducible exact Below.refl _ _ | with_reducible assumption | with_reducible refine Below.drew ?_ | with_reducible refine below_drewN' ?_ _ | with_reducible refine Below.alloc ?_ ?_ _ | with_reducible refine Below.setCell ?_ ?_ _ | with_reducible refine below_step (by assumption) ?_ ?_ | omega | (simp; done) | (simp; omega)))⟩

set_option maxRecDepth 100000 in
set_option maxHeartbeats 2000000 in
theorem choose_1 (b off n cap : Nat) (seed : Int) (D : Nat → Opt) (w : World) (hD : Opts w b off n D) (hn : 0 < n) (hb : b < w.heap.size) (hm : n ≤ 1000000) :
    Calls Try.prog 11 #[.slice (some ⟨b, off, none⟩) n cap, .int .i64 1, .int .i64 seed] w fun e w' => e = .returned (.int .i64 (bst 1 D n)) ∧ Below w.heap.size w w' := by
  obtain ⟨dg, dc, ds, dw, dp, dr⟩ := hD
  have hn0 : ((n : Int) == 0) = false := beq_eq_false_iff_ne.2 (by omega)
  go_enter Try.func11, Try.ntmps11
  go_wp2_with fail
  (go_at_call 15; refine (find_1 _).mono ?_; rintro e w1 ⟨rfl, hb1⟩)
  obtain ⟨hc1, hf1⟩ := bcell hb1
  have hz1 := hb1.size
  (try simp at hz1)
  have z1_0 : b < w1.heap.size := (by omega); have y1_0 : b ≤ w1.heap.size := (by omega)
  go_wp2_with fail
  go_loopw [9, 32] (fun v i wr => ∃ k : Nat, k ≤ n ∧ i = .int .i64 k ∧ v = .int .i64 (bst 1 D k) ∧ Below w.heap.size w wr ∧ wr.cell? ⟨w1.heap.size, 1, none⟩ = some (.func (Fn.func 19) #[] #[]) ∧ w1.heap.size < wr.heap.size) (fun _ i _ => n - (intOf i).toNat)
  case atStart => exact ⟨0, by omega, rfl, rfl, by (repeat' (first | with_reducible exact Below.refl _ _ | with_reducible assumption | with_reducible refine Below.drew ?_ | with_reducible refine below_drewN' ?_ _ | with_reducible refine Below.alloc ?_ ?_ _ | with_reducible refine Below.setCell ?_ ?_ _ | with_reducible refine below_step (by assumption) ?_ ?_ | omega | (simp; done) | (simp; omega))), by simp [go_sem], by simp⟩
  case round =>
    obtain ⟨k, hk, rfl, rfl, hB, hfn, hsz⟩ := hrel
    by_cases hlt : k < n
    · have hbl := bst_le 1 D n k hk hn
      obtain ⟨q, hq⟩ : ∃ q, bst 1 D k = q := ⟨_, rfl⟩
      rw [hq] at hbl ⊢
      have Hq := Lib.hid hq
      clear hq
      obtain ⟨hcB, hfB⟩ := bcell hB
      have hbw : b < wr.heap.size := by have := hB.size; omega
      go_wp2_with fail
      have hcH := held_cell
      refine region_below (by kernel_rfl) (by kernel_rfl) ?_
      repeat
        ((with_reducible refine wpQuiet_step (fun K hK => ?_))
         go_simp
         first
           | ((with_reducible refine hK _ ?_); clear hK K)
           | (apply Exists.intro
              (with_reducible refine ⟨fun n => ?_, hK _ ?_⟩)
              (first | (go_at_call 19; exact held_calls (clo1_any _ _ _ _ _ _ _ _ _ _ _ _ _ _ _ _ _)))
              clear hK K))
      with_reducible refine wpQuiet_nil ?_
      intro w2 hw2
      clear hcH
      obtain ⟨⟨_, hb2⟩, rfl⟩ := hw2
      (try dsimp only)
      obtain ⟨hc2, hf2⟩ := bcell hb2
      have hz2 := hb2.size
      (try simp at hz2)
      go_wp2
      all_goals
        go_roundw
        case rel => exact ⟨k + 1, by omega, by go_num, by rw [bst_succ 1 D k q Hq.out, show bet 1 (D k) (D q) = _ from ‹betB 1 _ _ _ _ _ _ _ _ = _›]; rfl, by (repeat' (first | with_reducible exact Below.refl _ _ | with_reducible assumption | with_reducible refine Below.drew ?_ | with_reducible refine below_drewN' ?_ _ | with_reducible refine Below.alloc ?_ ?_ _ | with_reducible refine Below.setCell ?_ ?_ _ | with_reducible refine below_step (by assumption) ?_ ?_ | omega | (simp; done) | (simp; omega))), by simp [go_sem, *], by omega⟩
        case measure => simp [intOf]; omega
    · obtain rfl : k = n := by omega
      go_wp2
      go_ret
      exact ⟨rfl, by (repeat' (first | with_reducible exact Below.refl _ _ | with_reducible assumption | with_reducible refine Below.drew ?_ | with_reducible refine below_drewN' ?_ _ | with_reducible refine Below.alloc ?_ ?_ _ | with_reducible refine Below.setCell ?_ ?_ _ | with_reducible refine below_step (by assumption) ?_ ?_ | omega | (simp; done) | (simp; omega)))⟩

set_option maxRecDepth 100000 in
set_option maxHeartbeats 2000000 in
theorem choose_2 (b off n cap : Nat) (seed : Int) (D : Nat → Opt) (w : World) (hD : Opts w b off n D) (hn : 0 < n) (hb : b < w.heap.size) (hm : n ≤ 1000000) :
    Calls Try.prog 11 #[.slice (some ⟨b, off, none⟩) n cap, .int .i64 2, .int .i64 seed] w fun e w' => e = .returned (.int .i64 (bst 2 D n)) ∧ Below w.heap.size w w' := by
  obtain ⟨dg, dc, ds, dw, dp, dr⟩ := hD
  have hn0 : ((n : Int) == 0) = false := beq_eq_false_iff_ne.2 (by omega)
  go_enter Try.func11, Try.ntmps11
  go_wp2_with fail
  (go_at_call 15; refine (find_2 _).mono ?_; rintro e w1 ⟨rfl, hb1⟩)
  obtain ⟨hc1, hf1⟩ := bcell hb1
  have hz1 := hb1.size
  (try simp at hz1)
  have z1_0 : b < w1.heap.size := (by omega); have y1_0 : b ≤ w1.heap.size := (by omega)
  go_wp2_with fail
  go_loopw [9, 32] (fun v i wr => ∃ k : Nat, k ≤ n ∧ i = .int .i64 k ∧ v = .int .i64 (bst 2 D k) ∧ Below w.heap.size w wr ∧ wr.cell? ⟨w1.heap.size, 1, none⟩ = some (.func (Fn.func 20) #[] #[]) ∧ w1.heap.size < wr.heap.size) (fun _ i _ => n - (intOf i).toNat)
  case atStart => exact ⟨0, by omega, rfl, rfl, by (repeat' (first | with_reducible exact Below.refl _ _ | with_reducible assumption | with_reducible refine Below.drew ?_ | with_reducible refine below_drewN' ?_ _ | with_reducible refine Below.alloc ?_ ?_ _ | with_reducible refine Below.setCell ?_ ?_ _ | with_reducible refine below_step (by assumption) ?_ ?_ | omega | (simp; done) | (simp; omega))), by simp [go_sem], by simp⟩
  case round =>
    obtain ⟨k, hk, rfl, rfl, hB, hfn, hsz⟩ := hrel
    by_cases hlt : k < n
    · have hbl := bst_le 2 D n k hk hn
      obtain ⟨q, hq⟩ : ∃ q, bst 2 D k = q := ⟨_, rfl⟩
      rw [hq] at hbl ⊢
      have Hq := Lib.hid hq
      clear hq
      obtain ⟨hcB, hfB⟩ := bcell hB
      have hbw : b < wr.heap.size := by have := hB.size; omega
      go_wp2_with fail
      have hcH := held_cell
      refine region_below (by kernel_rfl) (by kernel_rfl) ?_
      repeat
        ((with_reducible refine wpQuiet_step (fun K hK => ?_))
         go_simp
         first
           | ((with_reducible refine hK _ ?_); clear hK K)
           | (apply Exists.intro
              (with_reducible refine ⟨fun n => ?_, hK _ ?_⟩)
              (first | (go_at_call 20; exact held_calls (clo2_any _ _ _ _ _ _ _ _ _ _ _ _ _ _ _ _ _)))
              clear hK K))
      with_reducible refine wpQuiet_nil ?_
      intro w2 hw2
      clear hcH
      obtain ⟨⟨_, hb2⟩, rfl⟩ := hw2
      (try dsimp only)
      obtain ⟨hc2, hf2⟩ := bcell hb2
      have hz2 := hb2.size
      (try simp at hz2)
      go_wp2
      all_goals
        go_roundw
        case rel => exact ⟨k + 1, by omega, by go_num, by rw [bst_succ 2 D k q Hq.out, show bet 2 (D k) (D q) = _ from ‹betB 2 _ _ _ _ _ _ _ _ = _›]; rfl, by (repeat' (first | with_reducible exact Below.refl _ _ | with_reducible assumption | with_reducible refine Below.drew ?_ | with_reducible refine below_drewN' ?_ _ | with_reducible refine Below.alloc ?_ ?_ _ | with_reducible refine Below.setCell ?_ ?_ _ | with_reducible refine below_step (by assumption) ?_ ?_ | omega | (simp; done) | (simp; omega))), by simp [go_sem, *], by omega⟩
        case measure => simp [intOf]; omega
    · obtain rfl : k = n := by omega
      go_wp2
      go_ret
      exact ⟨rfl, by (repeat' (first | with_reducible exact Below.refl _ _ | with_reducible assumption | with_reducible refine Below.drew ?_ | with_reducible refine below_drewN' ?_ _ | with_reducible refine Below.alloc ?_ ?_ _ | with_reducible refine Below.setCell ?_ ?_ _ | with_reducible refine below_step (by assumption) ?_ ?_ | omega | (simp; done) | (simp; omega)))⟩

set_option maxRecDepth 100000 in
set_option maxHeartbeats 2000000 in
theorem choose_3 (b off n cap : Nat) (seed : Int) (D : Nat → Opt) (w : World) (hD : Opts w b off n D) (hn : 0 < n) (hb : b < w.heap.size) (hm : n ≤ 1000000) :
    Calls Try.prog 11 #[.slice (some ⟨b, off, none⟩) n cap, .int .i64 3, .int .i64 seed] w fun e w' => e = .returned (.int .i64 (bst 3 D n)) ∧ Below w.heap.size w w' := by
  obtain ⟨dg, dc, ds, dw, dp, dr⟩ := hD
  have hn0 : ((n : Int) == 0) = false := beq_eq_false_iff_ne.2 (by omega)
  go_enter Try.func11, Try.ntmps11
  go_wp2_with fail
  (go_at_call 15; refine (find_3 _).mono ?_; rintro e w1 ⟨rfl, hb1⟩)
  obtain ⟨hc1, hf1⟩ := bcell hb1
  have hz1 := hb1.size
  (try simp at hz1)
  have z1_0 : b < w1.heap.size := (by omega); have y1_0 : b ≤ w1.heap.size := (by omega)
  go_wp2_with fail
  go_loopw [9, 32] (fun v i wr => ∃ k : Nat, k ≤ n ∧ i = .int .i64 k ∧ v = .int .i64 (bst 3 D k) ∧ Below w.heap.size w wr ∧ wr.cell? ⟨w1.heap.size, 1, none⟩ = some (.func (Fn.func 21) #[] #[]) ∧ w1.heap.size < wr.heap.size) (fun _ i _ => n - (intOf i).toNat)
  case atStart => exact ⟨0, by omega, rfl, rfl, by (repeat' (first | with_reducible exact Below.refl _ _ | with_reducible assumption | with_reducible refine Below.drew ?_ | with_reducible refine below_drewN' ?_ _ | with_reducible refine Below.alloc ?_ ?_ _ | with_reducible refine Below.setCell ?_ ?_ _ | with_reducible refine below_step (by assumption) ?_ ?_ | omega | (simp; done) | (simp; omega))), by simp [go_sem], by simp⟩
  case round =>
    obtain ⟨k, hk, rfl, rfl, hB, hfn, hsz⟩ := hrel
    by_cases hlt : k < n
    · have hbl := bst_le 3 D n k hk hn
      obtain ⟨q, hq⟩ : ∃ q, bst 3 D k = q := ⟨_, rfl⟩
      rw [hq] at hbl ⊢
      have Hq := Lib.hid hq
      clear hq
      obtain ⟨hcB, hfB⟩ := bcell hB
      have hbw : b < wr.heap.size := by have := hB.size; omega
      go_wp2_with fail
      have hcH := held_cell
      refine region_below (by kernel_rfl) (by kernel_rfl) ?_
      repeat
        ((with_reducible refine wpQuiet_step (fun K hK => ?_))
         go_simp
         first
           | ((with_reducible refine hK _ ?_); clear hK K)
           | (apply Exists.intro
              (with_reducible refine ⟨fun n => ?_, hK _ ?_⟩)
              (first | (go_at_call 21; exact held_calls (clo3_any _ _ _ _ _ _ _ _ _ _ _ _ _ _ _ _ _)))
              clear hK K))
      with_reducible refine wpQuiet_nil ?_
      intro w2 hw2
      clear hcH
      obtain ⟨⟨_, hb2⟩, rfl⟩ := hw2
      (try dsimp only)
      obtain ⟨hc2, hf2⟩ := bcell hb2
      have hz2 := hb2.size
      (try simp at hz2)
      go_wp2
      all_goals
        go_roundw
        case rel => exact ⟨k + 1, by omega, by go_num, by rw [bst_succ 3 D k q Hq.out, show bet 3 (D k) (D q) = _ from ‹betB 3 _ _ _ _ _ _ _ _ = _›]; rfl, by (repeat' (first | with_reducible exact Below.refl _ _ | with_reducible assumption | with_reducible refine Below.drew ?_ | with_reducible refine below_drewN' ?_ _ | with_reducible refine Below.alloc ?_ ?_ _ | with_reducible refine Below.setCell ?_ ?_ _ | with_reducible refine below_step (by assumption) ?_ ?_ | omega | (simp; done) | (simp; omega))), by simp [go_sem, *], by omega⟩
        case measure => simp [intOf]; omega
    · obtain rfl : k = n := by omega
      go_wp2
      go_ret
      exact ⟨rfl, by (repeat' (first | with_reducible exact Below.refl _ _ | with_reducible assumption | with_reducible refine Below.drew ?_ | with_reducible refine below_drewN' ?_ _ | with_reducible refine Below.alloc ?_ ?_ _ | with_reducible refine Below.setCell ?_ ?_ _ | with_reducible refine below_step (by assumption) ?_ ?_ | omega | (simp; done) | (simp; omega)))⟩

end Go.Proofs.Ytfaeebbanphbgab
