/-
  The program's line of an event; Show by a builder.
-/
import Derived.Test.YtaehcnoendieaaaDoorTc7
import Derived.Test.YtaehcnoendieaaaDoorTcI
import Derived.Test.YtaehcnoendieaaaDoorTcJ
namespace Go.Proofs.YtaehcnoendieaaaDoor
open Go.RowKit
set_option linter.unusedVariables false
set_option linter.unusedSimpArgs false

set_option maxRecDepth 100000 in
set_option maxHeartbeats 4000000 in
theorem line_any (e : Ev) (hr : RightIs e) (w : World) (hT : Tab10 w) :
    Calls Tryd.prog 32 #[.agg #[.int .i64 e.now, .string e.what, .string e.name, .int .i64 e.n]] w fun r w' => r = .returned (.string (lineE e)) ∧ Below w.heap.size w w' := by
  obtain ⟨L, hL⟩ : ∃ L, lineE e = L := ⟨_, rfl⟩
  rw [hL]
  unfold lineE at hL
  have hw9 := (kind_high hr.k).2
  have hnm := hr.sz
  have hd := dg_small e.now.toNat (by have := hr.t0; have := hr.t1; omega)
  have hd2 := dg_small e.n.toNat (by have := hr.n0; have := hr.n1; omega)
  have HD1 := Lib.hid (fun (V : World) (hV : Below w.heap.size w V) => itoa_any e.now (by have := hr.t0; omega) (by have := hr.t1; omega) V (hT.mono hV))
  have HD2 := Lib.hid (fun (V : World) (hV : Below w.heap.size w V) => itoa_any e.n (by have := hr.n0; omega) (by have := hr.n1; omega) V (hT.mono hV))
  have e1 := itoa_dg hr.t0
  have e2 := itoa_dg hr.n0
  obtain ⟨now, what, name, n⟩ := e
  dsimp only at hL hw9 hnm hd hd2 HD1 HD2 e1 e2 ⊢
  obtain ⟨D, hD⟩ : ∃ D, dgB now.toNat = D := ⟨_, rfl⟩
  obtain ⟨E, hE⟩ : ∃ E, dgB n.toNat = E := ⟨_, rfl⟩
  rw [hD] at hL hd e1
  rw [hE] at hL hd2 e2
  unfold itoaB at e1 e2
  rw [e1] at HD1
  rw [e2] at HD2
  clear hD hE hr hT e1 e2
  have g1 : ∀ V : World, (Op.stringOp .add D ⟨#[58, 32]⟩).run Tryd.prog V = .ok (.string (D ++ ⟨#[58, 32]⟩)) V := fun V => cat_run D _ (by have : (⟨#[58, 32]⟩ : ByteArray).size = 2 := rfl; omega) V
  have s1 : (D ++ ⟨#[58, 32]⟩ : ByteArray).size ≤ 23 := by rw [ByteArray.size_append]; have : (⟨#[58, 32]⟩ : ByteArray).size = 2 := rfl; omega
  obtain ⟨A1, hA1⟩ : ∃ A, (D ++ ⟨#[58, 32]⟩ : ByteArray) = A := ⟨_, rfl⟩
  rw [hA1] at g1 s1 hL
  have g2 : ∀ V : World, (Op.stringOp .add A1 what).run Tryd.prog V = .ok (.string (A1 ++ what)) V := fun V => cat_run A1 _ (by omega) V
  have s2 : (A1 ++ what : ByteArray).size ≤ 33 := by rw [ByteArray.size_append]; omega
  obtain ⟨A2, hA2⟩ : ∃ A, (A1 ++ what : ByteArray) = A := ⟨_, rfl⟩
  rw [hA2] at g2 s2 hL
  clear hA1 hA2
  have sb : (bl ++ name : ByteArray).size ≤ 257 := by rw [ByteArray.size_append]; have : bl.size = 1 := rfl; omega
  have se : (bl ++ E : ByteArray).size ≤ 22 := by rw [ByteArray.size_append]; have : bl.size = 1 := rfl; omega
  have g3 : ∀ V : World, (Op.stringOp .add (⟨#[32]⟩ : ByteArray) name).run Tryd.prog V = .ok (.string (bl ++ name)) V := fun V => cat_run bl _ (by have : bl.size = 1 := rfl; omega) V
  have g5 : ∀ V : World, (Op.stringOp .add (⟨#[32]⟩ : ByteArray) E).run Tryd.prog V = .ok (.string (bl ++ E)) V := fun V => cat_run bl _ (by have : bl.size = 1 := rfl; omega) V
  obtain ⟨N1, hN1⟩ : ∃ A, (bl ++ name : ByteArray) = A := ⟨_, rfl⟩
  obtain ⟨E1, hE1⟩ : ∃ A, (bl ++ E : ByteArray) = A := ⟨_, rfl⟩
  rw [hN1] at g3 sb hL
  rw [hE1] at g5 se hL
  clear hN1 hE1
  have g4 : ∀ V : World, (Op.stringOp .add A2 N1).run Tryd.prog V = .ok (.string (A2 ++ N1)) V := fun V => cat_run A2 _ (by omega) V
  have s4 : (A2 ++ N1 : ByteArray).size ≤ 290 := by rw [ByteArray.size_append]; omega
  obtain ⟨A4, hA4⟩ : ∃ A, (A2 ++ N1 : ByteArray) = A := ⟨_, rfl⟩
  rw [hA4] at g4 s4 hL
  clear hA4
  have g6 : ∀ V : World, (Op.stringOp .add A2 E1).run Tryd.prog V = .ok (.string (A2 ++ E1)) V := fun V => cat_run A2 _ (by omega) V
  have g7 : ∀ V : World, (Op.stringOp .add A4 E1).run Tryd.prog V = .ok (.string (A4 ++ E1)) V := fun V => cat_run A4 _ (by omega) V
  clear s1 s2 s4 sb se hd hd2 hw9 hnm
  by_cases h1 : name = emp
  · rw [if_pos h1] at hL
    have p1 := emp_lits h1
    clear h1 g3 g4 g7
    go_enter Tryd.func32, Tryd.ntmps32
    go_wp2
    have hcH := held_cell
    refine region_rel (by kernel_rfl) (by kernel_rfl) ?_
    repeat
      ((with_reducible refine relStep (fun K hK => ?_))
       (have HK := Lib.hid hK)
       clear hK
       (apply relInl
        · intro r n hf
          have Hf := Lib.hid hf
          clear hf
          (first
            | (fail)
            | (unfold relAt
               go_simp
               (first | (refine relUpon_val ?_ (Below.refl _ _); exact rfl) | exact rfl | (refine relUpon_enter ?_; (go_at_call 48; (with_reducible refine (HD1.out _ (show Below w.heap.size w _ from by (have hnb := n.below); (repeat' (first | with_reducible exact Below.refl _ _ | with_reducible assumption | with_reducible refine Below.drew ?_ | with_reducible refine below_drewN' ?_ _ | with_reducible refine Below.alloc ?_ ?_ _ | with_reducible refine Below.setCell ?_ ?_ _ | with_reducible refine below_step (by assumption) ?_ ?_ | omega | (simp; done) | (simp; omega))))).mono ?_); rintro e w1 ⟨rfl, hb⟩; exact ⟨⟨_, rfl, rfl⟩, hb⟩)))))
        (simp only [Act.put, List.setIfInBounds_toArray, List.set_cons_zero, List.set_cons_succ])
        (with_reducible refine HK.out _ _ ?_)
        clear HK K))
    refine relNil ?_
    intro r5 n5 hx5
    clear hcH
    (try simp only [List.nil_append, List.cons_append, List.mem_cons, List.not_mem_nil, or_false, forall_eq_or_imp, forall_eq, false_implies, implies_true] at hx5)
    obtain ⟨w5, hb5⟩ := n5
    (try dsimp only)
    obtain ⟨hc5, hf5⟩ := bcell hb5
    have hz5 := hb5.size
    (try simp at hz5)
    by_cases h2 : 0 < n
    · have p2 : decide (0 < n) = true := decide_eq_true h2
      rw [if_pos h2] at hL
      subst hL
      clear h2
      go_wp2_with (go_at_call 48; (with_reducible refine (HD2.out _ (show Below w.heap.size w _ from by (repeat' (first | with_reducible exact Below.refl _ _ | with_reducible assumption | with_reducible refine Below.drew ?_ | with_reducible refine below_drewN' ?_ _ | with_reducible refine Below.alloc ?_ ?_ _ | with_reducible refine Below.setCell ?_ ?_ _ | with_reducible refine below_step (by assumption) ?_ ?_ | omega | (simp; done) | (simp; omega))))).mono ?_); rintro e w6 ⟨rfl, hb6⟩; obtain ⟨hc6, hf6⟩ := bcell hb6; have hz6 := hb6.size; (try simp at hz6); have hx6 : w.heap.size < w6.heap.size := by omega)
      go_ret
      exact ⟨rfl, by (repeat' (first | with_reducible exact Below.refl _ _ | with_reducible assumption | with_reducible refine Below.drew ?_ | with_reducible refine below_drewN' ?_ _ | with_reducible refine Below.alloc ?_ ?_ _ | with_reducible refine Below.setCell ?_ ?_ _ | with_reducible refine below_step (by assumption) ?_ ?_ | omega | (simp; done) | (simp; omega)))⟩
    · have p2 : decide (0 < n) = false := decide_eq_false h2
      rw [if_neg h2] at hL
      subst hL
      clear h2
      go_wp2
      go_ret
      exact ⟨rfl, by (repeat' (first | with_reducible exact Below.refl _ _ | with_reducible assumption | with_reducible refine Below.drew ?_ | with_reducible refine below_drewN' ?_ _ | with_reducible refine Below.alloc ?_ ?_ _ | with_reducible refine Below.setCell ?_ ?_ _ | with_reducible refine below_step (by assumption) ?_ ?_ | omega | (simp; done) | (simp; omega)))⟩
  · rw [if_neg h1] at hL
    have p1 := emp_litn h1
    clear h1 g6
    go_enter Tryd.func32, Tryd.ntmps32
    go_wp2
    have hcH := held_cell
    refine region_rel (by kernel_rfl) (by kernel_rfl) ?_
    repeat
      ((with_reducible refine relStep (fun K hK => ?_))
       (have HK := Lib.hid hK)
       clear hK
       (apply relInl
        · intro r n hf
          have Hf := Lib.hid hf
          clear hf
          (first
            | (fail)
            | (unfold relAt
               go_simp
               (first | (refine relUpon_val ?_ (Below.refl _ _); exact rfl) | exact rfl | (refine relUpon_enter ?_; (go_at_call 48; (with_reducible refine (HD1.out _ (show Below w.heap.size w _ from by (have hnb := n.below); (repeat' (first | with_reducible exact Below.refl _ _ | with_reducible assumption | with_reducible refine Below.drew ?_ | with_reducible refine below_drewN' ?_ _ | with_reducible refine Below.alloc ?_ ?_ _ | with_reducible refine Below.setCell ?_ ?_ _ | with_reducible refine below_step (by assumption) ?_ ?_ | omega | (simp; done) | (simp; omega))))).mono ?_); rintro e w1 ⟨rfl, hb⟩; exact ⟨⟨_, rfl, rfl⟩, hb⟩)))))
        (simp only [Act.put, List.setIfInBounds_toArray, List.set_cons_zero, List.set_cons_succ])
        (with_reducible refine HK.out _ _ ?_)
        clear HK K))
    refine relNil ?_
    intro r5 n5 hx5
    clear hcH
    (try simp only [List.nil_append, List.cons_append, List.mem_cons, List.not_mem_nil, or_false, forall_eq_or_imp, forall_eq, false_implies, implies_true] at hx5)
    obtain ⟨w5, hb5⟩ := n5
    (try dsimp only)
    obtain ⟨hc5, hf5⟩ := bcell hb5
    have hz5 := hb5.size
    (try simp at hz5)
    by_cases h2 : 0 < n
    · have p2 : decide (0 < n) = true := decide_eq_true h2
      rw [if_pos h2] at hL
      subst hL
      clear h2
      go_wp2_with (go_at_call 48; (with_reducible refine (HD2.out _ (show Below w.heap.size w _ from by (repeat' (first | with_reducible exact Below.refl _ _ | with_reducible assumption | with_reducible refine Below.drew ?_ | with_reducible refine below_drewN' ?_ _ | with_reducible refine Below.alloc ?_ ?_ _ | with_reducible refine Below.setCell ?_ ?_ _ | with_reducible refine below_step (by assumption) ?_ ?_ | omega | (simp; done) | (simp; omega))))).mono ?_); rintro e w6 ⟨rfl, hb6⟩; obtain ⟨hc6, hf6⟩ := bcell hb6; have hz6 := hb6.size; (try simp at hz6); have hx6 : w.heap.size < w6.heap.size := by omega)
      go_ret
      exact ⟨rfl, by (repeat' (first | with_reducible exact Below.refl _ _ | with_reducible assumption | with_reducible refine Below.drew ?_ | with_reducible refine below_drewN' ?_ _ | with_reducible refine Below.alloc ?_ ?_ _ | with_reducible refine Below.setCell ?_ ?_ _ | with_reducible refine below_step (by assumption) ?_ ?_ | omega | (simp; done) | (simp; omega)))⟩
    · have p2 : decide (0 < n) = false := decide_eq_false h2
      rw [if_neg h2] at hL
      subst hL
      clear h2
      go_wp2
      go_ret
      exact ⟨rfl, by (repeat' (first | with_reducible exact Below.refl _ _ | with_reducible assumption | with_reducible refine Below.drew ?_ | with_reducible refine below_drewN' ?_ _ | with_reducible refine Below.alloc ?_ ?_ _ | with_reducible refine Below.setCell ?_ ?_ _ | with_reducible refine below_step (by assumption) ?_ ?_ | omega | (simp; done) | (simp; omega)))⟩
end Go.Proofs.YtaehcnoendieaaaDoor
