/-
  The contracts of caps.Right, caps.Within.
-/
import Derived.Test.YtdlebpobkkndaaaCap1
import Derived.Laws.EntriesVeiled
namespace Go.Proofs.Ytdlebpobkkndaaa
open Go.RowKit
set_option linter.unusedVariables false

def capB (n : Int) : Bool := decide (0 ≤ n ∧ n ≤ 288230376151711744)
def rightC (c0 c1 c2 : Int) : Bool := capB c0 && capB c1 && capB c2
theorem capB_cases (n : Int) : (n < 0 ∧ capB n = false) ∨ (0 ≤ n ∧ 288230376151711744 < n ∧ capB n = false) ∨ (0 ≤ n ∧ n ≤ 288230376151711744 ∧ capB n = true) := by
  unfold capB
  by_cases h1 : 0 ≤ n
  · by_cases h2 : n ≤ 288230376151711744
    · exact .inr (.inr ⟨h1, h2, decide_eq_true ⟨h1, h2⟩⟩)
    · exact .inr (.inl ⟨h1, by omega, decide_eq_false fun h => h2 h.2⟩)
  · exact .inl ⟨by omega, decide_eq_false fun h => h1 h.1⟩

set_option maxRecDepth 100000 in
set_option maxHeartbeats 4000000 in
theorem rightc_any (c0 c1 c2 : Int) (w : World) :
    Calls Try.prog 6 #[.agg #[.int .i64 c0, .int .i64 c1, .int .i64 c2]] w fun e w' => e = .returned (.bool (rightC c0 c1 c2)) ∧ Below w.heap.size w w' := by
  unfold rightC
  rcases capB_cases c0 with ⟨a1, h0⟩ | ⟨a1, a2, h0⟩ | ⟨a1, a2, h0⟩
  · rw [h0]
    clear h0
    go_enter Try.func6, Try.ntmps6
    go_wp2
    refine wp_loop_rounds 6 ?_
    iterate 6 ((try rw [rounds_succ]); (try go_wp2))
    go_ret
    exact ⟨rfl, by (repeat' (first | with_reducible exact Below.refl _ _ | with_reducible assumption | with_reducible refine Below.drew ?_ | with_reducible refine below_drewN' ?_ _ | with_reducible refine Below.alloc ?_ ?_ _ | with_reducible refine Below.setCell ?_ ?_ _ | with_reducible refine below_step (by assumption) ?_ ?_ | omega | (simp; done) | (simp; omega)))⟩
  · rw [h0]
    clear h0
    go_enter Try.func6, Try.ntmps6
    go_wp2
    refine wp_loop_rounds 6 ?_
    iterate 6 ((try rw [rounds_succ]); (try go_wp2))
    go_ret
    exact ⟨rfl, by (repeat' (first | with_reducible exact Below.refl _ _ | with_reducible assumption | with_reducible refine Below.drew ?_ | with_reducible refine below_drewN' ?_ _ | with_reducible refine Below.alloc ?_ ?_ _ | with_reducible refine Below.setCell ?_ ?_ _ | with_reducible refine below_step (by assumption) ?_ ?_ | omega | (simp; done) | (simp; omega)))⟩
  rcases capB_cases c1 with ⟨b1, h1⟩ | ⟨b1, b2, h1⟩ | ⟨b1, b2, h1⟩
  · rw [h0, h1]
    clear h0 h1
    go_enter Try.func6, Try.ntmps6
    go_wp2
    refine wp_loop_rounds 6 ?_
    iterate 6 ((try rw [rounds_succ]); (try go_wp2))
    go_ret
    exact ⟨rfl, by (repeat' (first | with_reducible exact Below.refl _ _ | with_reducible assumption | with_reducible refine Below.drew ?_ | with_reducible refine below_drewN' ?_ _ | with_reducible refine Below.alloc ?_ ?_ _ | with_reducible refine Below.setCell ?_ ?_ _ | with_reducible refine below_step (by assumption) ?_ ?_ | omega | (simp; done) | (simp; omega)))⟩
  · rw [h0, h1]
    clear h0 h1
    go_enter Try.func6, Try.ntmps6
    go_wp2
    refine wp_loop_rounds 6 ?_
    iterate 6 ((try rw [rounds_succ]); (try go_wp2))
    go_ret
    exact ⟨rfl, by (repeat' (first | with_reducible exact Below.refl _ _ | with_reducible assumption | with_reducible refine Below.drew ?_ | with_reducible refine below_drewN' ?_ _ | with_reducible refine Below.alloc ?_ ?_ _ | with_reducible refine Below.setCell ?_ ?_ _ | with_reducible refine below_step (by assumption) ?_ ?_ | omega | (simp; done) | (simp; omega)))⟩
  rcases capB_cases c2 with ⟨d1, h2⟩ | ⟨d1, d2, h2⟩ | ⟨d1, d2, h2⟩
  all_goals
    rw [h0, h1, h2]
    clear h0 h1 h2
    go_enter Try.func6, Try.ntmps6
    go_wp2
    refine wp_loop_rounds 6 ?_
    iterate 6 ((try rw [rounds_succ]); (try go_wp2))
    go_ret
    exact ⟨rfl, by (repeat' (first | with_reducible exact Below.refl _ _ | with_reducible assumption | with_reducible refine Below.drew ?_ | with_reducible refine below_drewN' ?_ _ | with_reducible refine Below.alloc ?_ ?_ _ | with_reducible refine Below.setCell ?_ ?_ _ | with_reducible refine below_step (by assumption) ?_ ?_ | omega | (simp; done) | (simp; omega)))⟩

/-- A cap that is kept. -/
def keepB (q : Nat) (c : Int) (ms : List Mac) : Bool := decide (c = 0) || !decide (roomL c (ms.map (amt q)) < 0)
def withinB (c0 c1 c2 : Int) (ms : List Mac) : Bool := keepB 0 c0 ms && keepB 1 c1 ms && keepB 2 c2 ms
theorem keep_cases (q : Nat) (c : Int) (ms : List Mac) : ((c != 0) = false ∧ keepB q c ms = true) ∨ ((c != 0) = true ∧ roomL c (ms.map (amt q)) < 0 ∧ keepB q c ms = false) ∨ ((c != 0) = true ∧ 0 ≤ roomL c (ms.map (amt q)) ∧ keepB q c ms = true) := by
  unfold keepB
  by_cases h : c = 0
  · exact .inl ⟨by simp [h], by simp [h]⟩
  · by_cases h2 : roomL c (ms.map (amt q)) < 0
    · exact .inr (.inl ⟨by simpa using h, h2, by simp [h, h2]⟩)
    · exact .inr (.inr ⟨by simpa using h, by omega, by simp [h, h2]⟩)

/-- What machines count for is in bounds. -/
def MacsOk (ms : List Mac) : Prop := ∀ x ∈ ms, (0 ≤ x.r0 ∧ x.r0 ≤ 1125899906842624) ∧ (0 ≤ x.r1 ∧ x.r1 ≤ 1125899906842624)
theorem MacsOk.amt0 {ms : List Mac} (h : MacsOk ms) : ∀ x ∈ ms, 0 ≤ amt 0 x ∧ amt 0 x ≤ 1125899906842624 := fun x hx => by simp [amt]
theorem MacsOk.amt1 {ms : List Mac} (h : MacsOk ms) : ∀ x ∈ ms, 0 ≤ amt 1 x ∧ amt 1 x ≤ 1125899906842624 := fun x hx => by simpa [amt] using (h x hx).1
theorem MacsOk.amt2 {ms : List Mac} (h : MacsOk ms) : ∀ x ∈ ms, 0 ≤ amt 2 x ∧ amt 2 x ≤ 1125899906842624 := fun x hx => by simpa [amt] using (h x hx).2

set_option maxRecDepth 100000 in
set_option maxHeartbeats 8000000 in
theorem within_any (c0 c1 c2 : Int) (hc : rightC c0 c1 c2 = true) (c : Option Addr) (kc : Nat) (ms : List Mac) (w : World) (hF : MacsAt w c ms) (hok : MacsOk ms) (hm : ms.length ≤ 1000000) :
    Calls Try.prog 10 #[.agg #[.int .i64 c0, .int .i64 c1, .int .i64 c2], .slice c ms.length kc] w fun e w' => e = .returned (.bool (withinB c0 c1 c2 ms)) ∧ Below w.heap.size w w' := by
  unfold rightC capB at hc
  rw [Bool.and_eq_true, Bool.and_eq_true, decide_eq_true_eq, decide_eq_true_eq, decide_eq_true_eq] at hc
  obtain ⟨⟨⟨l0, u0⟩, l1, u1⟩, l2, u2⟩ := hc
  have HF := Lib.hid hF
  have Hok := Lib.hid hok
  clear hF hok
  unfold withinB
  obtain ⟨r0, e0⟩ : ∃ r, roomL c0 (ms.map (amt 0)) = r := ⟨_, rfl⟩
  obtain ⟨r1, e1⟩ : ∃ r, roomL c1 (ms.map (amt 1)) = r := ⟨_, rfl⟩
  obtain ⟨r2, e2⟩ : ∃ r, roomL c2 (ms.map (amt 2)) = r := ⟨_, rfl⟩
  have k0 := keep_cases 0 c0 ms
  have k1 := keep_cases 1 c1 ms
  have k2 := keep_cases 2 c2 ms
  rw [e0] at k0
  rw [e1] at k1
  rw [e2] at k2
  have E0 := Lib.hid e0
  have E1 := Lib.hid e1
  have E2 := Lib.hid e2
  clear e0 e1 e2
  rcases k0 with ⟨a1, h0⟩ | ⟨a1, a2, h0⟩ | ⟨a1, a2, h0⟩
  rotate_left
  · rw [h0]
    clear h0 k1 k2
    go_enter Try.func10, Try.ntmps10
    go_wp2
    refine wp_loop_rounds 6 ?_
    iterate 6 ((try rw [rounds_succ]); (try go_wp2_with (first
    | ((with_reducible refine (room0_any c0 l0 u0 c kc ms _ (HF.out.mono (by (repeat' (first | with_reducible exact Below.refl _ _ | with_reducible assumption | with_reducible refine Below.drew ?_ | with_reducible refine below_drewN' ?_ _ | with_reducible refine Below.alloc ?_ ?_ _ | with_reducible refine Below.setCell ?_ ?_ _ | with_reducible refine below_step (by assumption) ?_ ?_ | omega | (simp; done) | (simp; omega))))) Hok.out.amt0 hm).mono ?_); rw [E0.out]; rintro e w5 ⟨rfl, hb5⟩; have hz5 := hb5.size; (try simp at hz5); obtain ⟨hc5, hf5⟩ := bcell hb5; have hx5 : w.heap.size + 1 < w5.heap.size := (by omega); have hy5 : w.heap.size + 1 + 1 < w5.heap.size := (by omega))
    | ((with_reducible refine (room1_any c1 l1 u1 c kc ms _ (HF.out.mono (by (repeat' (first | with_reducible exact Below.refl _ _ | with_reducible assumption | with_reducible refine Below.drew ?_ | with_reducible refine below_drewN' ?_ _ | with_reducible refine Below.alloc ?_ ?_ _ | with_reducible refine Below.setCell ?_ ?_ _ | with_reducible refine below_step (by assumption) ?_ ?_ | omega | (simp; done) | (simp; omega))))) Hok.out.amt1 hm).mono ?_); rw [E1.out]; rintro e w6 ⟨rfl, hb6⟩; have hz6 := hb6.size; (try simp at hz6); obtain ⟨hc6, hf6⟩ := bcell hb6; have hx6 : w.heap.size + 1 < w6.heap.size := (by omega); have hy6 : w.heap.size + 1 + 1 < w6.heap.size := (by omega))
    | ((with_reducible refine (room2_any c2 l2 u2 c kc ms _ (HF.out.mono (by (repeat' (first | with_reducible exact Below.refl _ _ | with_reducible assumption | with_reducible refine Below.drew ?_ | with_reducible refine below_drewN' ?_ _ | with_reducible refine Below.alloc ?_ ?_ _ | with_reducible refine Below.setCell ?_ ?_ _ | with_reducible refine below_step (by assumption) ?_ ?_ | omega | (simp; done) | (simp; omega))))) Hok.out.amt2 hm).mono ?_); rw [E2.out]; rintro e w7 ⟨rfl, hb7⟩; have hz7 := hb7.size; (try simp at hz7); obtain ⟨hc7, hf7⟩ := bcell hb7; have hx7 : w.heap.size + 1 < w7.heap.size := (by omega); have hy7 : w.heap.size + 1 + 1 < w7.heap.size := (by omega)))))
    go_ret
    exact ⟨rfl, by (repeat' (first | with_reducible exact Below.refl _ _ | with_reducible assumption | with_reducible refine Below.drew ?_ | with_reducible refine below_drewN' ?_ _ | with_reducible refine Below.alloc ?_ ?_ _ | with_reducible refine Below.setCell ?_ ?_ _ | with_reducible refine below_step (by assumption) ?_ ?_ | omega | (simp; done) | (simp; omega)))⟩
  all_goals
    rcases k1 with ⟨b1, h1⟩ | ⟨b1, b2, h1⟩ | ⟨b1, b2, h1⟩
    rotate_left
    · rw [h0, h1]
      clear h0 h1 k2
      go_enter Try.func10, Try.ntmps10
      go_wp2
      refine wp_loop_rounds 6 ?_
      iterate 6 ((try rw [rounds_succ]); (try go_wp2_with (first
      | ((with_reducible refine (room0_any c0 l0 u0 c kc ms _ (HF.out.mono (by (repeat' (first | with_reducible exact Below.refl _ _ | with_reducible assumption | with_reducible refine Below.drew ?_ | with_reducible refine below_drewN' ?_ _ | with_reducible refine Below.alloc ?_ ?_ _ | with_reducible refine Below.setCell ?_ ?_ _ | with_reducible refine below_step (by assumption) ?_ ?_ | omega | (simp; done) | (simp; omega))))) Hok.out.amt0 hm).mono ?_); rw [E0.out]; rintro e w5 ⟨rfl, hb5⟩; have hz5 := hb5.size; (try simp at hz5); obtain ⟨hc5, hf5⟩ := bcell hb5; have hx5 : w.heap.size + 1 < w5.heap.size := (by omega); have hy5 : w.heap.size + 1 + 1 < w5.heap.size := (by omega))
      | ((with_reducible refine (room1_any c1 l1 u1 c kc ms _ (HF.out.mono (by (repeat' (first | with_reducible exact Below.refl _ _ | with_reducible assumption | with_reducible refine Below.drew ?_ | with_reducible refine below_drewN' ?_ _ | with_reducible refine Below.alloc ?_ ?_ _ | with_reducible refine Below.setCell ?_ ?_ _ | with_reducible refine below_step (by assumption) ?_ ?_ | omega | (simp; done) | (simp; omega))))) Hok.out.amt1 hm).mono ?_); rw [E1.out]; rintro e w6 ⟨rfl, hb6⟩; have hz6 := hb6.size; (try simp at hz6); obtain ⟨hc6, hf6⟩ := bcell hb6; have hx6 : w.heap.size + 1 < w6.heap.size := (by omega); have hy6 : w.heap.size + 1 + 1 < w6.heap.size := (by omega))
      | ((with_reducible refine (room2_any c2 l2 u2 c kc ms _ (HF.out.mono (by (repeat' (first | with_reducible exact Below.refl _ _ | with_reducible assumption | with_reducible refine Below.drew ?_ | with_reducible refine below_drewN' ?_ _ | with_reducible refine Below.alloc ?_ ?_ _ | with_reducible refine Below.setCell ?_ ?_ _ | with_reducible refine below_step (by assumption) ?_ ?_ | omega | (simp; done) | (simp; omega))))) Hok.out.amt2 hm).mono ?_); rw [E2.out]; rintro e w7 ⟨rfl, hb7⟩; have hz7 := hb7.size; (try simp at hz7); obtain ⟨hc7, hf7⟩ := bcell hb7; have hx7 : w.heap.size + 1 < w7.heap.size := (by omega); have hy7 : w.heap.size + 1 + 1 < w7.heap.size := (by omega)))))
      go_ret
      exact ⟨rfl, by (repeat' (first | with_reducible exact Below.refl _ _ | with_reducible assumption | with_reducible refine Below.drew ?_ | with_reducible refine below_drewN' ?_ _ | with_reducible refine Below.alloc ?_ ?_ _ | with_reducible refine Below.setCell ?_ ?_ _ | with_reducible refine below_step (by assumption) ?_ ?_ | omega | (simp; done) | (simp; omega)))⟩
    all_goals
      rcases k2 with ⟨d1, h2⟩ | ⟨d1, d2, h2⟩ | ⟨d1, d2, h2⟩
      all_goals
        rw [h0, h1, h2]
        clear h0 h1 h2
        go_enter Try.func10, Try.ntmps10
        go_wp2
        refine wp_loop_rounds 6 ?_
        iterate 6 ((try rw [rounds_succ]); (try go_wp2_with (first
        | ((with_reducible refine (room0_any c0 l0 u0 c kc ms _ (HF.out.mono (by (repeat' (first | with_reducible exact Below.refl _ _ | with_reducible assumption | with_reducible refine Below.drew ?_ | with_reducible refine below_drewN' ?_ _ | with_reducible refine Below.alloc ?_ ?_ _ | with_reducible refine Below.setCell ?_ ?_ _ | with_reducible refine below_step (by assumption) ?_ ?_ | omega | (simp; done) | (simp; omega))))) Hok.out.amt0 hm).mono ?_); rw [E0.out]; rintro e w5 ⟨rfl, hb5⟩; have hz5 := hb5.size; (try simp at hz5); obtain ⟨hc5, hf5⟩ := bcell hb5; have hx5 : w.heap.size + 1 < w5.heap.size := (by omega); have hy5 : w.heap.size + 1 + 1 < w5.heap.size := (by omega))
        | ((with_reducible refine (room1_any c1 l1 u1 c kc ms _ (HF.out.mono (by (repeat' (first | with_reducible exact Below.refl _ _ | with_reducible assumption | with_reducible refine Below.drew ?_ | with_reducible refine below_drewN' ?_ _ | with_reducible refine Below.alloc ?_ ?_ _ | with_reducible refine Below.setCell ?_ ?_ _ | with_reducible refine below_step (by assumption) ?_ ?_ | omega | (simp; done) | (simp; omega))))) Hok.out.amt1 hm).mono ?_); rw [E1.out]; rintro e w6 ⟨rfl, hb6⟩; have hz6 := hb6.size; (try simp at hz6); obtain ⟨hc6, hf6⟩ := bcell hb6; have hx6 : w.heap.size + 1 < w6.heap.size := (by omega); have hy6 : w.heap.size + 1 + 1 < w6.heap.size := (by omega))
        | ((with_reducible refine (room2_any c2 l2 u2 c kc ms _ (HF.out.mono (by (repeat' (first | with_reducible exact Below.refl _ _ | with_reducible assumption | with_reducible refine Below.drew ?_ | with_reducible refine below_drewN' ?_ _ | with_reducible refine Below.alloc ?_ ?_ _ | with_reducible refine Below.setCell ?_ ?_ _ | with_reducible refine below_step (by assumption) ?_ ?_ | omega | (simp; done) | (simp; omega))))) Hok.out.amt2 hm).mono ?_); rw [E2.out]; rintro e w7 ⟨rfl, hb7⟩; have hz7 := hb7.size; (try simp at hz7); obtain ⟨hc7, hf7⟩ := bcell hb7; have hx7 : w.heap.size + 1 < w7.heap.size := (by omega); have hy7 : w.heap.size + 1 + 1 < w7.heap.size := (by omega)))))
        go_ret
        exact ⟨rfl, by (repeat' (first | with_reducible exact Below.refl _ _ | with_reducible assumption | with_reducible refine Below.drew ?_ | with_reducible refine below_drewN' ?_ _ | with_reducible refine Below.alloc ?_ ?_ _ | with_reducible refine Below.setCell ?_ ?_ _ | with_reducible refine below_step (by assumption) ?_ ?_ | omega | (simp; done) | (simp; omega)))⟩
end Go.Proofs.Ytdlebpobkkndaaa
