/-
  The document's line of an event.
-/
import Derived.Test.YtaehcnoendieaaaDoorTc4
import Derived.Test.YtaehcnoendieaaaDoorGDig
namespace Go.Proofs.YtaehcnoendieaaaDoor
open Go.RowKit
set_option linter.unusedVariables false
set_option linter.unusedSimpArgs false

theorem dg_small (m : Nat) (h : m ≤ 1099511627776) : (dgB m).size ≤ 21 := by
  have := itoaB_size (m : Int) (by omega) (by omega)
  rw [itoa_nat] at this
  exact this
theorem app_assoc (a b c : ByteArray) : (a ++ b) ++ c = a ++ (b ++ c) := dl_inj (by rw [dl_app, dl_app, dl_app, dl_app, List.append_assoc])
set_option maxRecDepth 100000 in
set_option maxHeartbeats 4000000 in
theorem rline_any (e : Ev) (hr : RightIs e) (w : World) :
    Calls Tryd.prog 35 #[.agg #[.int .i64 e.now, .string e.what, .string e.name, .int .i64 e.n]] w fun r w' => r = .returned (.string (lineE e)) ∧ Below w.heap.size w w' := by
  obtain ⟨L, hL⟩ : ∃ L, lineE e = L := ⟨_, rfl⟩
  rw [hL]
  unfold lineE at hL
  have hw9 := (kind_high hr.k).2
  have hnm := hr.sz
  have hd := dg_small e.now.toNat (by have := hr.t0; have := hr.t1; omega)
  have hd2 := dg_small e.n.toNat (by have := hr.n0; have := hr.n1; omega)
  have HD1 := Lib.hid (fun w : World => digits_any _ e.now hr.t0 (by have := hr.t1; omega) (Nat.le_refl _) w)
  have HD2 := Lib.hid (fun w : World => digits_any _ e.n hr.n0 (by have := hr.n1; omega) (Nat.le_refl _) w)
  obtain ⟨now, what, name, n⟩ := e
  dsimp only at hL hw9 hnm hd hd2 HD1 HD2 ⊢
  obtain ⟨D, hD⟩ : ∃ D, dgB now.toNat = D := ⟨_, rfl⟩
  obtain ⟨E, hE⟩ : ∃ E, dgB n.toNat = E := ⟨_, rfl⟩
  rw [hD] at hL hd HD1
  rw [hE] at hL hd2 HD2
  clear hD hE hr
  have g1 : ∀ V : World, (Op.stringOp .add D ⟨#[58, 32]⟩).run Tryd.prog V = .ok (.string (D ++ ⟨#[58, 32]⟩)) V := fun V => cat_run D _ (by have : (⟨#[58, 32]⟩ : ByteArray).size = 2 := rfl; omega) V
  have s1 : (D ++ ⟨#[58, 32]⟩ : ByteArray).size ≤ 23 := by rw [ByteArray.size_append]; have : (⟨#[58, 32]⟩ : ByteArray).size = 2 := rfl; omega
  obtain ⟨A1, hA1⟩ : ∃ A, (D ++ ⟨#[58, 32]⟩ : ByteArray) = A := ⟨_, rfl⟩
  rw [hA1] at g1 s1 hL
  have g2 : ∀ V : World, (Op.stringOp .add A1 what).run Tryd.prog V = .ok (.string (A1 ++ what)) V := fun V => cat_run A1 _ (by omega) V
  have s2 : (A1 ++ what : ByteArray).size ≤ 33 := by rw [ByteArray.size_append]; omega
  obtain ⟨A2, hA2⟩ : ∃ A, (A1 ++ what : ByteArray) = A := ⟨_, rfl⟩
  rw [hA2] at g2 s2 hL
  clear hA1 hA2
  have g3 : ∀ V : World, (Op.stringOp .add A2 ⟨#[32]⟩).run Tryd.prog V = .ok (.string (A2 ++ bl)) V := fun V => cat_run A2 _ (by have : (⟨#[32]⟩ : ByteArray).size = 1 := rfl; omega) V
  have s3 : (A2 ++ bl : ByteArray).size ≤ 34 := by rw [ByteArray.size_append]; have : bl.size = 1 := rfl; omega
  obtain ⟨A3, hA3⟩ : ∃ A, (A2 ++ bl : ByteArray) = A := ⟨_, rfl⟩
  rw [hA3] at g3 s3
  have g4 : ∀ V : World, (Op.stringOp .add A3 name).run Tryd.prog V = .ok (.string (A3 ++ name)) V := fun V => cat_run A3 _ (by omega) V
  have s4 : (A3 ++ name : ByteArray).size ≤ 290 := by rw [ByteArray.size_append]; omega
  obtain ⟨A4, hA4⟩ : ∃ A, (A3 ++ name : ByteArray) = A := ⟨_, rfl⟩
  rw [hA4] at g4 s4
  have e4 : A2 ++ (bl ++ name) = A4 := by rw [← hA4, ← hA3, app_assoc]
  rw [e4] at hL
  clear hA3 hA4 e4
  have fin : ∀ A : ByteArray, A.size ≤ 290 → (if 0 < n then A ++ (bl ++ E) else A) = L → (∀ V : World, (Op.stringOp .add A ⟨#[32]⟩).run Tryd.prog V = .ok (.string (A ++ bl)) V) ∧ (∀ V : World, (Op.stringOp .add (A ++ bl) E).run Tryd.prog V = .ok (.string (A ++ (bl ++ E))) V) := by
    intro A hA hl
    refine ⟨fun V => cat_run A _ (by have : (⟨#[32]⟩ : ByteArray).size = 1 := rfl; omega) V, fun V => ?_⟩
    rw [← app_assoc]
    exact cat_run _ _ (by rw [ByteArray.size_append]; have : bl.size = 1 := rfl; omega) V
  by_cases h1 : name = emp
  · rw [if_pos h1] at hL
    have p1 := emp_lits h1
    obtain ⟨f1, f2⟩ := fin A2 (by omega) hL
    obtain ⟨B1, hB1⟩ : ∃ B, A2 ++ bl = B := ⟨_, rfl⟩
    rw [hB1] at f1 f2
    clear g3 g4 fin hB1 h1
    go_enter Tryd.func35, Tryd.ntmps35
    go_wp2
    have hcH := held_cell
    refine region_rel (by kernel_rfl) (by kernel_rfl) ?_
    repeat
      ((with_reducible refine relStep (fun K hK => ?_))
       (have HK := Lib.hid hK)
       clear hK
       (apply relInl
        · intro r n hf
          have Hf := Lib.hid hf
          clear hf
          (first
            | (fail)
            | (unfold relAt
               go_simp
               (first | (refine relUpon_val ?_ (Below.refl _ _); exact rfl) | exact rfl | (refine relUpon_enter ?_; (go_at_call 49; (with_reducible refine (HD1.out _).mono ?_); rintro e w1 ⟨rfl, hb⟩; exact ⟨⟨_, rfl, rfl⟩, hb⟩)))))
        (simp only [Act.put, List.setIfInBounds_toArray, List.set_cons_zero, List.set_cons_succ])
        (with_reducible refine HK.out _ _ ?_)
        clear HK K))
    refine relNil ?_
    intro r5 n5 hx5
    clear hcH
    (try simp only [List.nil_append, List.cons_append, List.mem_cons, List.not_mem_nil, or_false, forall_eq_or_imp, forall_eq, false_implies, implies_true] at hx5)
    obtain ⟨w5, hb5⟩ := n5
    (try dsimp only)
    obtain ⟨hc5, hf5⟩ := bcell hb5
    have hz5 := hb5.size
    (try simp at hz5)
    by_cases h2 : 0 < n
    · have p2 : decide (0 < n) = true := decide_eq_true h2
      rw [if_pos h2] at hL
      subst hL
      clear h2
      go_wp2_with (go_at_call 49; (with_reducible refine (HD2.out _).mono ?_); rintro e w6 ⟨rfl, hb6⟩; obtain ⟨hc6, hf6⟩ := bcell hb6; have hz6 := hb6.size)
      go_ret
      exact ⟨rfl, by (repeat' (first | with_reducible exact Below.refl _ _ | with_reducible assumption | with_reducible refine Below.drew ?_ | with_reducible refine below_drewN' ?_ _ | with_reducible refine Below.alloc ?_ ?_ _ | with_reducible refine Below.setCell ?_ ?_ _ | with_reducible refine below_step (by assumption) ?_ ?_ | omega | (simp; done) | (simp; omega)))⟩
    · have p2 : decide (0 < n) = false := decide_eq_false h2
      rw [if_neg h2] at hL
      subst hL
      clear h2
      go_wp2
      go_ret
      exact ⟨rfl, by (repeat' (first | with_reducible exact Below.refl _ _ | with_reducible assumption | with_reducible refine Below.drew ?_ | with_reducible refine below_drewN' ?_ _ | with_reducible refine Below.alloc ?_ ?_ _ | with_reducible refine Below.setCell ?_ ?_ _ | with_reducible refine below_step (by assumption) ?_ ?_ | omega | (simp; done) | (simp; omega)))⟩
  · rw [if_neg h1] at hL
    have p1 := emp_litn h1
    obtain ⟨f1, f2⟩ := fin A4 (by omega) hL
    obtain ⟨B1, hB1⟩ : ∃ B, A4 ++ bl = B := ⟨_, rfl⟩
    rw [hB1] at f1 f2
    clear fin hB1 h1
    go_enter Tryd.func35, Tryd.ntmps35
    go_wp2
    have hcH := held_cell
    refine region_rel (by kernel_rfl) (by kernel_rfl) ?_
    repeat
      ((with_reducible refine relStep (fun K hK => ?_))
       (have HK := Lib.hid hK)
       clear hK
       (apply relInl
        · intro r n hf
          have Hf := Lib.hid hf
          clear hf
          (first
            | (fail)
            | (unfold relAt
               go_simp
               (first | (refine relUpon_val ?_ (Below.refl _ _); exact rfl) | exact rfl | (refine relUpon_enter ?_; (go_at_call 49; (with_reducible refine (HD1.out _).mono ?_); rintro e w1 ⟨rfl, hb⟩; exact ⟨⟨_, rfl, rfl⟩, hb⟩)))))
        (simp only [Act.put, List.setIfInBounds_toArray, List.set_cons_zero, List.set_cons_succ])
        (with_reducible refine HK.out _ _ ?_)
        clear HK K))
    refine relNil ?_
    intro r5 n5 hx5
    clear hcH
    (try simp only [List.nil_append, List.cons_append, List.mem_cons, List.not_mem_nil, or_false, forall_eq_or_imp, forall_eq, false_implies, implies_true] at hx5)
    obtain ⟨w5, hb5⟩ := n5
    (try dsimp only)
    obtain ⟨hc5, hf5⟩ := bcell hb5
    have hz5 := hb5.size
    (try simp at hz5)
    by_cases h2 : 0 < n
    · have p2 : decide (0 < n) = true := decide_eq_true h2
      rw [if_pos h2] at hL
      subst hL
      clear h2
      go_wp2_with (go_at_call 49; (with_reducible refine (HD2.out _).mono ?_); rintro e w6 ⟨rfl, hb6⟩; obtain ⟨hc6, hf6⟩ := bcell hb6; have hz6 := hb6.size)
      go_ret
      exact ⟨rfl, by (repeat' (first | with_reducible exact Below.refl _ _ | with_reducible assumption | with_reducible refine Below.drew ?_ | with_reducible refine below_drewN' ?_ _ | with_reducible refine Below.alloc ?_ ?_ _ | with_reducible refine Below.setCell ?_ ?_ _ | with_reducible refine below_step (by assumption) ?_ ?_ | omega | (simp; done) | (simp; omega)))⟩
    · have p2 : decide (0 < n) = false := decide_eq_false h2
      rw [if_neg h2] at hL
      subst hL
      clear h2
      go_wp2
      go_ret
      exact ⟨rfl, by (repeat' (first | with_reducible exact Below.refl _ _ | with_reducible assumption | with_reducible refine Below.drew ?_ | with_reducible refine below_drewN' ?_ _ | with_reducible refine Below.alloc ?_ ?_ _ | with_reducible refine Below.setCell ?_ ?_ _ | with_reducible refine below_step (by assumption) ?_ ?_ | omega | (simp; done) | (simp; omega)))⟩
end Go.Proofs.YtaehcnoendieaaaDoor
