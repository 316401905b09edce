/-
  The contracts of res.Right, spec.wordOrEmpty, spec.RightMachine, spec.RightGroup, triremeref07.RightGroup.
-/
import Derived.Test.YtaipiflbigpniaaGrpO
import Derived.Test.YtaipiflbigpniaaGLab
import Derived.Test.YtaipiflbigpniaaGTnt
namespace Go.Proofs.Ytaipiflbigpniaa
open Go.RowKit
set_option linter.unusedVariables false
set_option linter.unusedSimpArgs false

set_option maxRecDepth 100000 in
theorem parts_any (a0 a1 a2 a3 a4 : Int) (w : World) :
    Calls Try.prog 63 #[.agg #[.int .i64 a0, .int .i64 a1, .int .i64 a2, .int .i64 a3, .int .i64 a4]] w fun e w' => e = .returned (.agg #[.int .i64 a0, .int .i64 a1, .int .i64 a2, .int .i64 a3, .int .i64 a4]) ∧ Below w.heap.size w w' := by
  go_enter Try.func63, Try.ntmps63
  go_wp2
  refine bodyPost_ret (v := .agg #[.int .i64 a0, .int .i64 a1, .int .i64 a2, .int .i64 a3, .int .i64 a4]) (by simp [results, Try.results63, go_sem]) rfl ⟨rfl, ?_⟩
  (repeat' (first | with_reducible exact Below.refl _ _ | with_reducible assumption | with_reducible refine Below.drew ?_ | with_reducible refine below_drewN' ?_ _ | with_reducible refine Below.alloc ?_ ?_ _ | with_reducible refine Below.setCell ?_ ?_ _ | with_reducible refine below_step (by assumption) ?_ ?_ | omega | (simp; done) | (simp; omega)))
set_option maxHeartbeats 1000000 in
theorem resright_any (a0 a1 a2 a3 a4 : Int) (w : World) :
    Calls Try.prog 53 #[.agg #[.int .i64 a0, .int .i64 a1, .int .i64 a2, .int .i64 a3, .int .i64 a4]] w fun e w' => e = .returned (.bool (rtB a0 a1 a2 a3 a4)) ∧ Below w.heap.size w w' := by
  have i0 : ∀ w : World, (Instr.index 89 (.agg #[.int .i64 a0, .int .i64 a1, .int .i64 a2, .int .i64 a3, .int .i64 a4]) (.int .i64 0)).run Try.prog w = .ok (.int .i64 a0) w := fun _ => by kernel_rfl
  have i1 : ∀ w : World, (Instr.index 89 (.agg #[.int .i64 a0, .int .i64 a1, .int .i64 a2, .int .i64 a3, .int .i64 a4]) (.int .i64 1)).run Try.prog w = .ok (.int .i64 a1) w := fun _ => by kernel_rfl
  have i2 : ∀ w : World, (Instr.index 89 (.agg #[.int .i64 a0, .int .i64 a1, .int .i64 a2, .int .i64 a3, .int .i64 a4]) (.int .i64 2)).run Try.prog w = .ok (.int .i64 a2) w := fun _ => by kernel_rfl
  have i3 : ∀ w : World, (Instr.index 89 (.agg #[.int .i64 a0, .int .i64 a1, .int .i64 a2, .int .i64 a3, .int .i64 a4]) (.int .i64 3)).run Try.prog w = .ok (.int .i64 a3) w := fun _ => by kernel_rfl
  have i4 : ∀ w : World, (Instr.index 89 (.agg #[.int .i64 a0, .int .i64 a1, .int .i64 a2, .int .i64 a3, .int .i64 a4]) (.int .i64 4)).run Try.prog w = .ok (.int .i64 a4) w := fun _ => by kernel_rfl
  go_enter Try.func53, Try.ntmps53
  go_wp2_with (go_at_call 63; refine (parts_any _ _ _ _ _ _).mono ?_; rintro e w1 ⟨rfl, hb1⟩; obtain ⟨hc1, hf1⟩ := bcell hb1; have hz1 := hb1.size; (try simp at hz1); (try have hza : w.heap.size < w1.heap.size := by omega); (try have hzb : w.heap.size + 1 < w1.heap.size := by omega); (try have hzc : w.heap.size + 1 + 1 < w1.heap.size := by omega); (try have hzd : w.heap.size + 1 + 1 + 1 < w1.heap.size := by omega))
  refine wp_loop_rounds 6 ?_
  iterate 6
    all_goals (try rw [rounds_succ])
    all_goals (try go_wp2)
  all_goals (go_ret; exact ⟨by simp [rtB, okB]; omega, by (repeat' (first | with_reducible exact Below.refl _ _ | with_reducible assumption | with_reducible refine Below.drew ?_ | with_reducible refine below_drewN' ?_ _ | with_reducible refine Below.alloc ?_ ?_ _ | with_reducible refine Below.setCell ?_ ?_ _ | with_reducible refine below_step (by assumption) ?_ ?_ | omega | (simp; done) | (simp; omega)))⟩)

set_option maxRecDepth 100000 in
theorem swordorempty_any (s : ByteArray) (w : World) :
    Calls Try.prog 52 #[.string s] w fun e w' => e = .returned (.bool (weB s)) ∧ Below w.heap.size w w' := by
  unfold weB
  by_cases h : s = emp
  · obtain ⟨h1, h2, h3, h4⟩ := emp_lits h
    rw [decide_eq_true h]
    clear h
    go_enter Try.func52, Try.ntmps52
    go_wp2
    go_ret
    exact ⟨rfl, by (repeat' (first | with_reducible exact Below.refl _ _ | with_reducible assumption | with_reducible refine Below.drew ?_ | with_reducible refine below_drewN' ?_ _ | with_reducible refine Below.alloc ?_ ?_ _ | with_reducible refine Below.setCell ?_ ?_ _ | with_reducible refine below_step (by assumption) ?_ ?_ | omega | (simp; done) | (simp; omega)))⟩
  · obtain ⟨h1, h2, h3, h4⟩ := emp_litn h
    rw [decide_eq_false h]
    clear h
    go_enter Try.func52, Try.ntmps52
    go_wp2_with (go_at_call 41; refine (word_any _ _).mono ?_; rintro e w1 ⟨rfl, hb1⟩; obtain ⟨hc1, hf1⟩ := bcell hb1; have hz1 := hb1.size; (try simp at hz1); (try have hza : w.heap.size < w1.heap.size := by omega); (try have hzb : w.heap.size + 1 < w1.heap.size := by omega); (try have hzc : w.heap.size + 1 + 1 < w1.heap.size := by omega); (try have hzd : w.heap.size + 1 + 1 + 1 < w1.heap.size := by omega))
    go_ret
    exact ⟨rfl, by (repeat' (first | with_reducible exact Below.refl _ _ | with_reducible assumption | with_reducible refine Below.drew ?_ | with_reducible refine below_drewN' ?_ _ | with_reducible refine Below.alloc ?_ ?_ _ | with_reducible refine Below.setCell ?_ ?_ _ | with_reducible refine below_step (by assumption) ?_ ?_ | omega | (simp; done) | (simp; omega)))⟩

set_option maxRecDepth 100000 in
set_option maxHeartbeats 8000000 in
/-- Whether a machine is right, by the program. -/
theorem srightm_any (m : Mac) (w : World) (hA : MacIn w m) (hLt : lightM m = true) :
    Calls Try.prog 43 #[.agg #[.string (m).nm, .string (m).gp, .int .i64 (m).r0, .int .i64 (m).r1, .int .i64 (m).r2, .int .i64 (m).r3, .int .i64 (m).r4, .slice (m).la (m).labs.length (m).lk, .slice (m).ta (m).tnts.length (m).tk, .bool (m).rd]] w fun e w' => e = .returned (.bool (rightM m)) ∧ Below w.heap.size w w' := by
  obtain ⟨nm, gp, r0, r1, r2, r3, r4, la, lk, L, ta, tk, T, rd⟩ := m
  obtain ⟨⟨hL, hT, hl, ht⟩, hln, hlc, htn, htc⟩ := hA
  simp only at hL hT hl ht hln hlc htn htc
  have hx : (decide (nm.size ≤ 300) && decide (gp.size ≤ 300) && lightL L && lightB [] T) = true := hLt
  rw [Bool.and_eq_true, Bool.and_eq_true, Bool.and_eq_true, decide_eq_true_eq, decide_eq_true_eq] at hx
  obtain ⟨⟨⟨hn, hg⟩, hlL⟩, hlT⟩ := hx
  have HsL := Lib.hid (show ∀ x ∈ L, x.key.size ≤ 1000000000 from fun x hx => by
    have := ((lightL_iff L).1 hlL).2 x hx
    omega)
  have htT : T.length ≤ 1000000 := by
    unfold lightB at hlT
    rw [Bool.and_eq_true, decide_eq_true_eq] at hlT
    have := hlT.1.2
    omega
  clear hlL hlT hLt ht
  have HL := Lib.hid (hL.mono ((Below.refl _ w).alloc (Nat.le_refl _) (.cells #[.string nm, .string gp, .int .i64 r0, .int .i64 r1, .int .i64 r2, .int .i64 r3, .int .i64 r4, .slice la L.length lk, .slice ta T.length tk, .bool rd] 42)))
  have HT := Lib.hid (hT.mono ((Below.refl _ w).alloc (Nat.le_refl _) (.cells #[.string nm, .string gp, .int .i64 r0, .int .i64 r1, .int .i64 r2, .int .i64 r3, .int .i64 r4, .slice la L.length lk, .slice ta T.length tk, .bool rd] 42)))
  have Htn := Lib.hid htn
  have Htc := Lib.hid htc
  clear hL hT hln hlc htn htc
  have hv : rightM ⟨nm, gp, r0, r1, r2, r3, r4, la, lk, L, ta, tk, T, rd⟩ = (weB nm && weB gp && rtB r0 r1 r2 r3 r4 && labsB L && rightT T) := rfl
  rw [hv]
  clear hv
  cases h1 : weB nm
  rotate_left
  cases h2 : weB gp
  rotate_left
  cases h3 : rtB r0 r1 r2 r3 r4
  rotate_left
  cases h4 : labsB L
  rotate_left
  all_goals
    have H1 := Lib.hid h1
    first | (have H2 := Lib.hid h2) | skip
    first | (have H3 := Lib.hid h3) | skip
    first | (have H4 := Lib.hid h4) | skip
    clear h1
    first | clear h2 | skip
    first | clear h3 | skip
    first | clear h4 | skip
    go_enter Try.func43, Try.ntmps43
    go_wp2_with (first
      | (go_at_call 52; (with_reducible refine (swordorempty_any nm _).mono ?_); rw [H1.out]; rintro e w1 ⟨rfl, hb1⟩; obtain ⟨hc1, hf1⟩ := bcell hb1; have hz1 := hb1.size; (try simp at hz1); have hw1 : w.heap.size < w1.heap.size := by omega)
      | (go_at_call 52; (with_reducible refine (swordorempty_any gp _).mono ?_); rw [H2.out]; rintro e w2 ⟨rfl, hb2⟩; obtain ⟨hc2, hf2⟩ := bcell hb2; have hz2 := hb2.size; have hw2 : w.heap.size < w2.heap.size := by omega)
      | (go_at_call 53; (with_reducible refine (resright_any r0 r1 r2 r3 r4 _).mono ?_); rw [H3.out]; rintro e w3 ⟨rfl, hb3⟩; obtain ⟨hc3, hf3⟩ := bcell hb3; have hz3 := hb3.size; have hw3 : w.heap.size < w3.heap.size := by omega)
      | (go_at_call 54; (with_reducible refine (lright_any la lk L _ (((HL.out.mono hb1).mono hb2).mono hb3) hl HsL.out).mono ?_); rw [H4.out]; rintro e w4 ⟨rfl, hb4⟩; obtain ⟨hc4, hf4⟩ := bcell hb4; have hz4 := hb4.size; have hw4 : w.heap.size < w4.heap.size := by omega)
      | (go_at_call 55; (with_reducible refine (tright_any ta tk T _ ((((HT.out.mono hb1).mono hb2).mono hb3).mono hb4) htT Htn.out Htc.out).mono ?_); rintro e w5 ⟨rfl, hb5⟩; have hz5 := hb5.size))
    go_ret
    exact ⟨by simp, by (repeat' (first | with_reducible exact Below.refl _ _ | with_reducible assumption | with_reducible refine Below.drew ?_ | with_reducible refine below_drewN' ?_ _ | with_reducible refine Below.alloc ?_ ?_ _ | with_reducible refine Below.setCell ?_ ?_ _ | with_reducible refine below_step (by assumption) ?_ ?_ | omega | (simp; done) | (simp; omega)))⟩
end Go.Proofs.Ytaipiflbigpniaa
