/-
  The contracts of expand.Better and triremeref21.Better.
-/
import Derived.Test.YtfaeebbanphbgabExp1
namespace Go.Proofs.Ytfaeebbanphbgab
set_option linter.unusedVariables false
open Go.RowKit

/-- Whether the first option is better than the second one, by waste, price, rank and number of pods. -/
def betB (how : Int) (wa pa ra : Int) (la : Nat) (wb pb rb : Int) (lb : Nat) : Bool :=
  if how = 1 then decide (wa < wb) else if how = 2 then decide (rb < ra ∨ ra = rb ∧ wa < wb) else if how = 3 then decide (pa < pb ∨ pa = pb ∧ lb < la) else false

set_option maxRecDepth 100000 in
set_option maxHeartbeats 4000000 in
theorem better_any (how : Int) (ga : ByteArray) (ca : Int) (sa : Option Addr) (la ka : Nat) (wa pa ra : Int) (gb : ByteArray) (cb : Int) (sb : Option Addr) (lb kb : Nat) (wb pb rb : Int) (w : World) :
    Calls Try.prog 9 #[.agg #[.string ga, .int .i64 ca, .slice sa la ka, .int .i64 wa, .int .i64 pa, .int .i64 ra], .agg #[.string gb, .int .i64 cb, .slice sb lb kb, .int .i64 wb, .int .i64 pb, .int .i64 rb], .int .i64 how] w fun e w' => e = .returned (.bool (betB how wa pa ra la wb pb rb lb)) ∧ Below w.heap.size w w' := by
  by_cases h1 : how = 1
  · subst h1
    by_cases g1 : wa < wb
    · have He := Lib.hid (show betB 1 wa pa ra la wb pb rb lb = true by simp [betB, *])
      go_enter Try.func9, Try.ntmps9
      go_wp2_with (first | (go_at_call 15; refine (find_1 _).mono ?_; rintro e w1 ⟨rfl, hb1⟩; obtain ⟨hc1, hf1⟩ := bcell hb1; have hz1 := hb1.size; (try simp at hz1); (try have hza : w.heap.size < w1.heap.size := by omega); (try have hzb : w.heap.size + 1 < w1.heap.size := by omega); (try have hzc : w.heap.size + 1 + 1 < w1.heap.size := by omega); (try have hzd : w.heap.size + 1 + 1 + 1 < w1.heap.size := by omega)) | go_in)
      go_ret
      exact ⟨by rw [He.out]; first | rfl | (simp; done) | (simp; omega), by (repeat' (first | with_reducible exact Below.refl _ _ | with_reducible assumption | with_reducible refine Below.drew ?_ | with_reducible refine below_drewN' ?_ _ | with_reducible refine Below.alloc ?_ ?_ _ | with_reducible refine Below.setCell ?_ ?_ _ | with_reducible refine below_step (by assumption) ?_ ?_ | omega | (simp; done) | (simp; omega)))⟩
    · have He := Lib.hid (show betB 1 wa pa ra la wb pb rb lb = false by simp [betB, *])
      go_enter Try.func9, Try.ntmps9
      go_wp2_with (first | (go_at_call 15; refine (find_1 _).mono ?_; rintro e w1 ⟨rfl, hb1⟩; obtain ⟨hc1, hf1⟩ := bcell hb1; have hz1 := hb1.size; (try simp at hz1); (try have hza : w.heap.size < w1.heap.size := by omega); (try have hzb : w.heap.size + 1 < w1.heap.size := by omega); (try have hzc : w.heap.size + 1 + 1 < w1.heap.size := by omega); (try have hzd : w.heap.size + 1 + 1 + 1 < w1.heap.size := by omega)) | go_in)
      go_ret
      exact ⟨by rw [He.out]; first | rfl | (simp; done) | (simp; omega), by (repeat' (first | with_reducible exact Below.refl _ _ | with_reducible assumption | with_reducible refine Below.drew ?_ | with_reducible refine below_drewN' ?_ _ | with_reducible refine Below.alloc ?_ ?_ _ | with_reducible refine Below.setCell ?_ ?_ _ | with_reducible refine below_step (by assumption) ?_ ?_ | omega | (simp; done) | (simp; omega)))⟩
  by_cases h2 : how = 2
  · subst h2
    clear h1
    by_cases g1 : rb < ra
    · have He := Lib.hid (show betB 2 wa pa ra la wb pb rb lb = true by simp [betB, *])
      go_enter Try.func9, Try.ntmps9
      go_wp2_with (first | (go_at_call 15; refine (find_2 _).mono ?_; rintro e w1 ⟨rfl, hb1⟩; obtain ⟨hc1, hf1⟩ := bcell hb1; have hz1 := hb1.size; (try simp at hz1); (try have hza : w.heap.size < w1.heap.size := by omega); (try have hzb : w.heap.size + 1 < w1.heap.size := by omega); (try have hzc : w.heap.size + 1 + 1 < w1.heap.size := by omega); (try have hzd : w.heap.size + 1 + 1 + 1 < w1.heap.size := by omega)) | go_in)
      go_ret
      exact ⟨by rw [He.out]; first | rfl | (simp; done) | (simp; omega), by (repeat' (first | with_reducible exact Below.refl _ _ | with_reducible assumption | with_reducible refine Below.drew ?_ | with_reducible refine below_drewN' ?_ _ | with_reducible refine Below.alloc ?_ ?_ _ | with_reducible refine Below.setCell ?_ ?_ _ | with_reducible refine below_step (by assumption) ?_ ?_ | omega | (simp; done) | (simp; omega)))⟩
    by_cases g2 : ra = rb
    · subst g2
      by_cases g3 : wa < wb
      · have He := Lib.hid (show betB 2 wa pa ra la wb pb ra lb = true by simp [betB, *])
        go_enter Try.func9, Try.ntmps9
        go_wp2_with (first | (go_at_call 15; refine (find_2 _).mono ?_; rintro e w1 ⟨rfl, hb1⟩; obtain ⟨hc1, hf1⟩ := bcell hb1; have hz1 := hb1.size; (try simp at hz1); (try have hza : w.heap.size < w1.heap.size := by omega); (try have hzb : w.heap.size + 1 < w1.heap.size := by omega); (try have hzc : w.heap.size + 1 + 1 < w1.heap.size := by omega); (try have hzd : w.heap.size + 1 + 1 + 1 < w1.heap.size := by omega)) | go_in)
        go_ret
        exact ⟨by rw [He.out]; first | rfl | (simp; done) | (simp; omega), by (repeat' (first | with_reducible exact Below.refl _ _ | with_reducible assumption | with_reducible refine Below.drew ?_ | with_reducible refine below_drewN' ?_ _ | with_reducible refine Below.alloc ?_ ?_ _ | with_reducible refine Below.setCell ?_ ?_ _ | with_reducible refine below_step (by assumption) ?_ ?_ | omega | (simp; done) | (simp; omega)))⟩
      · have He := Lib.hid (show betB 2 wa pa ra la wb pb ra lb = false by simp [betB, *])
        go_enter Try.func9, Try.ntmps9
        go_wp2_with (first | (go_at_call 15; refine (find_2 _).mono ?_; rintro e w1 ⟨rfl, hb1⟩; obtain ⟨hc1, hf1⟩ := bcell hb1; have hz1 := hb1.size; (try simp at hz1); (try have hza : w.heap.size < w1.heap.size := by omega); (try have hzb : w.heap.size + 1 < w1.heap.size := by omega); (try have hzc : w.heap.size + 1 + 1 < w1.heap.size := by omega); (try have hzd : w.heap.size + 1 + 1 + 1 < w1.heap.size := by omega)) | go_in)
        go_ret
        exact ⟨by rw [He.out]; first | rfl | (simp; done) | (simp; omega), by (repeat' (first | with_reducible exact Below.refl _ _ | with_reducible assumption | with_reducible refine Below.drew ?_ | with_reducible refine below_drewN' ?_ _ | with_reducible refine Below.alloc ?_ ?_ _ | with_reducible refine Below.setCell ?_ ?_ _ | with_reducible refine below_step (by assumption) ?_ ?_ | omega | (simp; done) | (simp; omega)))⟩
    · have g3 : (ra == rb) = false := beq_eq_false_iff_ne.2 g2
      have He := Lib.hid (show betB 2 wa pa ra la wb pb rb lb = false by simp [betB, *])
      clear g2
      go_enter Try.func9, Try.ntmps9
      go_wp2_with (first | (go_at_call 15; refine (find_2 _).mono ?_; rintro e w1 ⟨rfl, hb1⟩; obtain ⟨hc1, hf1⟩ := bcell hb1; have hz1 := hb1.size; (try simp at hz1); (try have hza : w.heap.size < w1.heap.size := by omega); (try have hzb : w.heap.size + 1 < w1.heap.size := by omega); (try have hzc : w.heap.size + 1 + 1 < w1.heap.size := by omega); (try have hzd : w.heap.size + 1 + 1 + 1 < w1.heap.size := by omega)) | go_in)
      go_ret
      exact ⟨by rw [He.out]; first | rfl | (simp; done) | (simp; omega), by (repeat' (first | with_reducible exact Below.refl _ _ | with_reducible assumption | with_reducible refine Below.drew ?_ | with_reducible refine below_drewN' ?_ _ | with_reducible refine Below.alloc ?_ ?_ _ | with_reducible refine Below.setCell ?_ ?_ _ | with_reducible refine below_step (by assumption) ?_ ?_ | omega | (simp; done) | (simp; omega)))⟩
  by_cases h3 : how = 3
  · subst h3
    clear h1 h2
    by_cases g1 : pa < pb
    · have He := Lib.hid (show betB 3 wa pa ra la wb pb rb lb = true by simp [betB, *])
      go_enter Try.func9, Try.ntmps9
      go_wp2_with (first | (go_at_call 15; refine (find_3 _).mono ?_; rintro e w1 ⟨rfl, hb1⟩; obtain ⟨hc1, hf1⟩ := bcell hb1; have hz1 := hb1.size; (try simp at hz1); (try have hza : w.heap.size < w1.heap.size := by omega); (try have hzb : w.heap.size + 1 < w1.heap.size := by omega); (try have hzc : w.heap.size + 1 + 1 < w1.heap.size := by omega); (try have hzd : w.heap.size + 1 + 1 + 1 < w1.heap.size := by omega)) | go_in)
      go_ret
      exact ⟨by rw [He.out]; first | rfl | (simp; done) | (simp; omega), by (repeat' (first | with_reducible exact Below.refl _ _ | with_reducible assumption | with_reducible refine Below.drew ?_ | with_reducible refine below_drewN' ?_ _ | with_reducible refine Below.alloc ?_ ?_ _ | with_reducible refine Below.setCell ?_ ?_ _ | with_reducible refine below_step (by assumption) ?_ ?_ | omega | (simp; done) | (simp; omega)))⟩
    by_cases g2 : pa = pb
    · subst g2
      by_cases g3 : lb < la
      · have He := Lib.hid (show betB 3 wa pa ra la wb pa rb lb = true by simp [betB, *])
        go_enter Try.func9, Try.ntmps9
        go_wp2_with (first | (go_at_call 15; refine (find_3 _).mono ?_; rintro e w1 ⟨rfl, hb1⟩; obtain ⟨hc1, hf1⟩ := bcell hb1; have hz1 := hb1.size; (try simp at hz1); (try have hza : w.heap.size < w1.heap.size := by omega); (try have hzb : w.heap.size + 1 < w1.heap.size := by omega); (try have hzc : w.heap.size + 1 + 1 < w1.heap.size := by omega); (try have hzd : w.heap.size + 1 + 1 + 1 < w1.heap.size := by omega)) | go_in)
        go_ret
        exact ⟨by rw [He.out]; first | rfl | (simp; done) | (simp; omega), by (repeat' (first | with_reducible exact Below.refl _ _ | with_reducible assumption | with_reducible refine Below.drew ?_ | with_reducible refine below_drewN' ?_ _ | with_reducible refine Below.alloc ?_ ?_ _ | with_reducible refine Below.setCell ?_ ?_ _ | with_reducible refine below_step (by assumption) ?_ ?_ | omega | (simp; done) | (simp; omega)))⟩
      · have He := Lib.hid (show betB 3 wa pa ra la wb pa rb lb = false by simp [betB, *])
        go_enter Try.func9, Try.ntmps9
        go_wp2_with (first | (go_at_call 15; refine (find_3 _).mono ?_; rintro e w1 ⟨rfl, hb1⟩; obtain ⟨hc1, hf1⟩ := bcell hb1; have hz1 := hb1.size; (try simp at hz1); (try have hza : w.heap.size < w1.heap.size := by omega); (try have hzb : w.heap.size + 1 < w1.heap.size := by omega); (try have hzc : w.heap.size + 1 + 1 < w1.heap.size := by omega); (try have hzd : w.heap.size + 1 + 1 + 1 < w1.heap.size := by omega)) | go_in)
        go_ret
        exact ⟨by rw [He.out]; first | rfl | (simp; done) | (simp; omega), by (repeat' (first | with_reducible exact Below.refl _ _ | with_reducible assumption | with_reducible refine Below.drew ?_ | with_reducible refine below_drewN' ?_ _ | with_reducible refine Below.alloc ?_ ?_ _ | with_reducible refine Below.setCell ?_ ?_ _ | with_reducible refine below_step (by assumption) ?_ ?_ | omega | (simp; done) | (simp; omega)))⟩
    · have g3 : (pa == pb) = false := beq_eq_false_iff_ne.2 g2
      have He := Lib.hid (show betB 3 wa pa ra la wb pb rb lb = false by simp [betB, *])
      clear g2
      go_enter Try.func9, Try.ntmps9
      go_wp2_with (first | (go_at_call 15; refine (find_3 _).mono ?_; rintro e w1 ⟨rfl, hb1⟩; obtain ⟨hc1, hf1⟩ := bcell hb1; have hz1 := hb1.size; (try simp at hz1); (try have hza : w.heap.size < w1.heap.size := by omega); (try have hzb : w.heap.size + 1 < w1.heap.size := by omega); (try have hzc : w.heap.size + 1 + 1 < w1.heap.size := by omega); (try have hzd : w.heap.size + 1 + 1 + 1 < w1.heap.size := by omega)) | go_in)
      go_ret
      exact ⟨by rw [He.out]; first | rfl | (simp; done) | (simp; omega), by (repeat' (first | with_reducible exact Below.refl _ _ | with_reducible assumption | with_reducible refine Below.drew ?_ | with_reducible refine below_drewN' ?_ _ | with_reducible refine Below.alloc ?_ ?_ _ | with_reducible refine Below.setCell ?_ ?_ _ | with_reducible refine below_step (by assumption) ?_ ?_ | omega | (simp; done) | (simp; omega)))⟩
  have He := Lib.hid (show betB how wa pa ra la wb pb rb lb = false by simp [betB, *])
  by_cases h4 : how = 4
  · subst h4
    clear h1 h2 h3
    go_enter Try.func9, Try.ntmps9
    go_wp2_with (first | (go_at_call 15; refine (find_4 _).mono ?_; rintro e w1 ⟨rfl, hb1⟩; obtain ⟨hc1, hf1⟩ := bcell hb1; have hz1 := hb1.size; (try simp at hz1); (try have hza : w.heap.size < w1.heap.size := by omega); (try have hzb : w.heap.size + 1 < w1.heap.size := by omega); (try have hzc : w.heap.size + 1 + 1 < w1.heap.size := by omega); (try have hzd : w.heap.size + 1 + 1 + 1 < w1.heap.size := by omega)) | go_in)
    go_ret
    exact ⟨by rw [He.out]; first | rfl | (simp; done) | (simp; omega), by (repeat' (first | with_reducible exact Below.refl _ _ | with_reducible assumption | with_reducible refine Below.drew ?_ | with_reducible refine below_drewN' ?_ _ | with_reducible refine Below.alloc ?_ ?_ _ | with_reducible refine Below.setCell ?_ ?_ _ | with_reducible refine below_step (by assumption) ?_ ?_ | omega | (simp; done) | (simp; omega)))⟩
  have e1 : (1 == how) = false := beq_eq_false_iff_ne.2 (Ne.symm h1)
  have e2 : (2 == how) = false := beq_eq_false_iff_ne.2 (Ne.symm h2)
  have e3 : (3 == how) = false := beq_eq_false_iff_ne.2 (Ne.symm h3)
  have e4 : (4 == how) = false := beq_eq_false_iff_ne.2 (Ne.symm h4)
  clear h1 h2 h3 h4
  go_enter Try.func9, Try.ntmps9
  go_wp2_with (first | (go_at_call 15; refine (find_no _ _ e1 e2 e3 e4).mono ?_; rintro e w1 ⟨rfl, hb1⟩; obtain ⟨hc1, hf1⟩ := bcell hb1; have hz1 := hb1.size; (try simp at hz1); (try have hza : w.heap.size < w1.heap.size := by omega); (try have hzb : w.heap.size + 1 < w1.heap.size := by omega); (try have hzc : w.heap.size + 1 + 1 < w1.heap.size := by omega); (try have hzd : w.heap.size + 1 + 1 + 1 < w1.heap.size := by omega)) | go_in)
  go_ret
  exact ⟨by rw [He.out]; first | rfl | (simp; done) | (simp; omega), by (repeat' (first | with_reducible exact Below.refl _ _ | with_reducible assumption | with_reducible refine Below.drew ?_ | with_reducible refine below_drewN' ?_ _ | with_reducible refine Below.alloc ?_ ?_ _ | with_reducible refine Below.setCell ?_ ?_ _ | with_reducible refine below_step (by assumption) ?_ ?_ | omega | (simp; done) | (simp; omega)))⟩

set_option maxRecDepth 100000 in
set_option maxHeartbeats 4000000 in
theorem refbetter_any (how : Int) (ga : ByteArray) (ca : Int) (sa : Option Addr) (la ka : Nat) (wa pa ra : Int) (gb : ByteArray) (cb : Int) (sb : Option Addr) (lb kb : Nat) (wb pb rb : Int) (w : World) :
    Calls Try.prog 10 #[.agg #[.string ga, .int .i64 ca, .slice sa la ka, .int .i64 wa, .int .i64 pa, .int .i64 ra], .agg #[.string gb, .int .i64 cb, .slice sb lb kb, .int .i64 wb, .int .i64 pb, .int .i64 rb], .int .i64 how] w fun e w' => e = .returned (.bool (betB how wa pa ra la wb pb rb lb)) ∧ Below w.heap.size w w' := by
  by_cases h1 : how = 1
  · subst h1
    by_cases g1 : wa < wb
    · have He := Lib.hid (show betB 1 wa pa ra la wb pb rb lb = true by simp [betB, *])
      go_enter Try.func10, Try.ntmps10
      go_wp2
      go_ret
      exact ⟨by rw [He.out]; first | rfl | (simp; done) | (simp; omega), by (repeat' (first | with_reducible exact Below.refl _ _ | with_reducible assumption | with_reducible refine Below.drew ?_ | with_reducible refine below_drewN' ?_ _ | with_reducible refine Below.alloc ?_ ?_ _ | with_reducible refine Below.setCell ?_ ?_ _ | with_reducible refine below_step (by assumption) ?_ ?_ | omega | (simp; done) | (simp; omega)))⟩
    · have He := Lib.hid (show betB 1 wa pa ra la wb pb rb lb = false by simp [betB, *])
      go_enter Try.func10, Try.ntmps10
      go_wp2
      go_ret
      exact ⟨by rw [He.out]; first | rfl | (simp; done) | (simp; omega), by (repeat' (first | with_reducible exact Below.refl _ _ | with_reducible assumption | with_reducible refine Below.drew ?_ | with_reducible refine below_drewN' ?_ _ | with_reducible refine Below.alloc ?_ ?_ _ | with_reducible refine Below.setCell ?_ ?_ _ | with_reducible refine below_step (by assumption) ?_ ?_ | omega | (simp; done) | (simp; omega)))⟩
  by_cases h2 : how = 2
  · subst h2
    clear h1
    by_cases g1 : rb < ra
    · have He := Lib.hid (show betB 2 wa pa ra la wb pb rb lb = true by simp [betB, *])
      go_enter Try.func10, Try.ntmps10
      go_wp2
      go_ret
      exact ⟨by rw [He.out]; first | rfl | (simp; done) | (simp; omega), by (repeat' (first | with_reducible exact Below.refl _ _ | with_reducible assumption | with_reducible refine Below.drew ?_ | with_reducible refine below_drewN' ?_ _ | with_reducible refine Below.alloc ?_ ?_ _ | with_reducible refine Below.setCell ?_ ?_ _ | with_reducible refine below_step (by assumption) ?_ ?_ | omega | (simp; done) | (simp; omega)))⟩
    by_cases g2 : ra = rb
    · subst g2
      by_cases g3 : wa < wb
      · have He := Lib.hid (show betB 2 wa pa ra la wb pb ra lb = true by simp [betB, *])
        go_enter Try.func10, Try.ntmps10
        go_wp2
        go_ret
        exact ⟨by rw [He.out]; first | rfl | (simp; done) | (simp; omega), by (repeat' (first | with_reducible exact Below.refl _ _ | with_reducible assumption | with_reducible refine Below.drew ?_ | with_reducible refine below_drewN' ?_ _ | with_reducible refine Below.alloc ?_ ?_ _ | with_reducible refine Below.setCell ?_ ?_ _ | with_reducible refine below_step (by assumption) ?_ ?_ | omega | (simp; done) | (simp; omega)))⟩
      · have He := Lib.hid (show betB 2 wa pa ra la wb pb ra lb = false by simp [betB, *])
        go_enter Try.func10, Try.ntmps10
        go_wp2
        go_ret
        exact ⟨by rw [He.out]; first | rfl | (simp; done) | (simp; omega), by (repeat' (first | with_reducible exact Below.refl _ _ | with_reducible assumption | with_reducible refine Below.drew ?_ | with_reducible refine below_drewN' ?_ _ | with_reducible refine Below.alloc ?_ ?_ _ | with_reducible refine Below.setCell ?_ ?_ _ | with_reducible refine below_step (by assumption) ?_ ?_ | omega | (simp; done) | (simp; omega)))⟩
    · have g3 : (ra == rb) = false := beq_eq_false_iff_ne.2 g2
      have He := Lib.hid (show betB 2 wa pa ra la wb pb rb lb = false by simp [betB, *])
      clear g2
      go_enter Try.func10, Try.ntmps10
      go_wp2
      go_ret
      exact ⟨by rw [He.out]; first | rfl | (simp; done) | (simp; omega), by (repeat' (first | with_reducible exact Below.refl _ _ | with_reducible assumption | with_reducible refine Below.drew ?_ | with_reducible refine below_drewN' ?_ _ | with_reducible refine Below.alloc ?_ ?_ _ | with_reducible refine Below.setCell ?_ ?_ _ | with_reducible refine below_step (by assumption) ?_ ?_ | omega | (simp; done) | (simp; omega)))⟩
  by_cases h3 : how = 3
  · subst h3
    clear h1 h2
    by_cases g1 : pa < pb
    · have He := Lib.hid (show betB 3 wa pa ra la wb pb rb lb = true by simp [betB, *])
      go_enter Try.func10, Try.ntmps10
      go_wp2
      go_ret
      exact ⟨by rw [He.out]; first | rfl | (simp; done) | (simp; omega), by (repeat' (first | with_reducible exact Below.refl _ _ | with_reducible assumption | with_reducible refine Below.drew ?_ | with_reducible refine below_drewN' ?_ _ | with_reducible refine Below.alloc ?_ ?_ _ | with_reducible refine Below.setCell ?_ ?_ _ | with_reducible refine below_step (by assumption) ?_ ?_ | omega | (simp; done) | (simp; omega)))⟩
    by_cases g2 : pa = pb
    · subst g2
      by_cases g3 : lb < la
      · have He := Lib.hid (show betB 3 wa pa ra la wb pa rb lb = true by simp [betB, *])
        go_enter Try.func10, Try.ntmps10
        go_wp2
        go_ret
        exact ⟨by rw [He.out]; first | rfl | (simp; done) | (simp; omega), by (repeat' (first | with_reducible exact Below.refl _ _ | with_reducible assumption | with_reducible refine Below.drew ?_ | with_reducible refine below_drewN' ?_ _ | with_reducible refine Below.alloc ?_ ?_ _ | with_reducible refine Below.setCell ?_ ?_ _ | with_reducible refine below_step (by assumption) ?_ ?_ | omega | (simp; done) | (simp; omega)))⟩
      · have He := Lib.hid (show betB 3 wa pa ra la wb pa rb lb = false by simp [betB, *])
        go_enter Try.func10, Try.ntmps10
        go_wp2
        go_ret
        exact ⟨by rw [He.out]; first | rfl | (simp; done) | (simp; omega), by (repeat' (first | with_reducible exact Below.refl _ _ | with_reducible assumption | with_reducible refine Below.drew ?_ | with_reducible refine below_drewN' ?_ _ | with_reducible refine Below.alloc ?_ ?_ _ | with_reducible refine Below.setCell ?_ ?_ _ | with_reducible refine below_step (by assumption) ?_ ?_ | omega | (simp; done) | (simp; omega)))⟩
    · have g3 : (pa == pb) = false := beq_eq_false_iff_ne.2 g2
      have He := Lib.hid (show betB 3 wa pa ra la wb pb rb lb = false by simp [betB, *])
      clear g2
      go_enter Try.func10, Try.ntmps10
      go_wp2
      go_ret
      exact ⟨by rw [He.out]; first | rfl | (simp; done) | (simp; omega), by (repeat' (first | with_reducible exact Below.refl _ _ | with_reducible assumption | with_reducible refine Below.drew ?_ | with_reducible refine below_drewN' ?_ _ | with_reducible refine Below.alloc ?_ ?_ _ | with_reducible refine Below.setCell ?_ ?_ _ | with_reducible refine below_step (by assumption) ?_ ?_ | omega | (simp; done) | (simp; omega)))⟩
  have He := Lib.hid (show betB how wa pa ra la wb pb rb lb = false by simp [betB, *])
  have e1 : (how == 1) = false := beq_eq_false_iff_ne.2 h1
  have e2 : (how == 2) = false := beq_eq_false_iff_ne.2 h2
  have e3 : (how == 3) = false := beq_eq_false_iff_ne.2 h3
  clear h1 h2 h3
  go_enter Try.func10, Try.ntmps10
  go_wp2
  go_ret
  exact ⟨by rw [He.out]; first | rfl | (simp; done) | (simp; omega), by (repeat' (first | with_reducible exact Below.refl _ _ | with_reducible assumption | with_reducible refine Below.drew ?_ | with_reducible refine below_drewN' ?_ _ | with_reducible refine Below.alloc ?_ ?_ _ | with_reducible refine Below.setCell ?_ ?_ _ | with_reducible refine below_step (by assumption) ?_ ?_ | omega | (simp; done) | (simp; omega)))⟩
end Go.Proofs.Ytfaeebbanphbgab
