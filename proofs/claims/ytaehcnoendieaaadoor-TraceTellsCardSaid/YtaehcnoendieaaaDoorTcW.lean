/-
  The document's Check.
-/
import Derived.Test.YtaehcnoendieaaaDoorTcV
namespace Go.Proofs.YtaehcnoendieaaaDoor
open Go.RowKit
set_option linter.unusedVariables false
set_option linter.unusedSimpArgs false

set_option maxRecDepth 100000 in
set_option maxHeartbeats 8000000 in
theorem rcheck_any (l : List Ev) (a : Option Addr) (c : Nat) (w : World) (hF : EvL w a l) (hl : l.length ≤ 200) (hS : ∀ e ∈ l, ShortE e) :
    Calls Tryd.prog 21 #[.slice a l.length c] w fun r w' => r = .returned (.int .i64 (checkB l)) ∧ Below w.heap.size w w' := by
  obtain ⟨n, hn⟩ : ∃ n, l.length = n := ⟨_, rfl⟩
  have HN := Lib.hid hn
  have HF := Lib.hid hF
  have HS := Lib.hid hS
  obtain ⟨R, hR⟩ : ∃ R, checkB l = R := ⟨_, rfl⟩
  have HY := Lib.hid (fun (i : Nat) (hi : i < n) (hb : badI l i = true) (hp : ∀ j, j < i → badI l j = false) => (hR.symm.trans (check_yes (by omega) hb hp)))
  have HO := Lib.hid (fun (hp : ∀ j, j < n → badI l j = false) => (hR.symm.trans (check_no (fun j hj => hp j (by omega)))))
  rw [hR]
  rw [hn] at hl ⊢
  clear hn hF hR hS
  go_enter Tryd.func21, Tryd.ntmps21
  go_wp2
  go_loopw [3] (fun vi wr => ∃ k : Nat, k ≤ n ∧ vi = .int .i64 k ∧ (∀ j, j < k → badI l j = false) ∧ Below w.heap.size w wr) (fun vi _ => n - (intOf vi).toNat)
  case atStart => exact ⟨0, Nat.zero_le _, rfl, fun j hj => absurd hj (by omega), Below.refl _ _⟩
  case round =>
    obtain ⟨k, hk, rfl, hbad, hB⟩ := hrel
    have Hbad := Lib.hid hbad
    have HB := Lib.hid hB
    have hws : w.heap.size ≤ wr.heap.size := hB.size
    clear hbad
    by_cases hlt : k < n
    · obtain ⟨e, he⟩ := mem_at (l := l) (k := k) (by rw [HN.out]; exact hlt)
      have hba := bad_at he
      have hse := HS.out e (List.mem_of_getElem? he)
      obtain ⟨pv, hpv⟩ : ∃ pv, (l.getD (k - 1) zeroE).now = pv := ⟨_, rfl⟩
      rw [hpv] at hba
      have HFr := HF.out.mono hB
      have hSt := rstate_any l a c k e.name wr HFr (by rw [HN.out]; exact hl) (by rw [HN.out]; omega)
      rw [HN.out] at hSt
      have HSt := Lib.hid hSt
      obtain ⟨b, o, rfl, hb, hcc⟩ := HFr (by rw [HN.out]; omega)
      obtain ⟨c0, c1, c2, c3⟩ := ev_cells (hcc k e he)
      have hprev : 0 < k → wr.cell? ⟨b, o + (k - 1) * 4, none⟩ = some (.int .i64 pv) := fun h0 => by
        obtain ⟨y, hy⟩ := mem_at (l := l) (k := k - 1) (by rw [HN.out]; omega)
        have h2 := hcc (k - 1) y hy 0 (by decide)
        rw [Nat.add_zero] at h2
        rw [h2, ← hpv]
        rw [List.getD_eq_getElem?_getD, hy]
        rfl
      have HRR := Lib.hid (fun w : World => rright_any e (by have := hse.1; omega) w)
      have hσ3 := state_in (l.take k) e.name
      obtain ⟨σ, hσ⟩ : ∃ σ, stateB (l.take k) e.name = σ := ⟨_, rfl⟩
      rw [hσ] at HSt hba hσ3
      have hbr : b < wr.heap.size := hb
      clear hcc hpv hσ hSt hse
      cases hr : rightE e
      · rw [hr] at HRR
        rw [hr, Bool.not_false, Bool.true_or, Bool.true_or] at hba
        obtain ⟨now, what, name, en⟩ := e
        dsimp only at c0 c1 c2 c3 HRR HSt hba
        clear hprev he hr hσ3 hB
        have HR9 := Lib.hid (HY.out k hlt hba Hbad.out)
        obtain rfl : R = ((k : Nat) : Int) := HR9.out
        by_cases w0 : what = ⟨#[100, 111, 119, 110]⟩
        · have q0 : (what.toList == [100, 111, 119, 110]) = true := lit_yes w0
          clear w0
          go_wp2_with (go_at_call 37; (with_reducible refine HSt.out.mono ?_); rintro rr w1 ⟨rfl, rfl⟩)
          have hcH := held_cell
          refine region_rel (by kernel_rfl) (by kernel_rfl) ?_
          repeat
            ((with_reducible refine relStep (fun K hK => ?_))
             (have HK := Lib.hid hK)
             clear hK
             (apply relInl
              · intro r n hf
                have Hf := Lib.hid hf
                clear hf
                (first
                  | (fail)
                  | (unfold relAt
                     go_simp
                     (first | (refine relUpon_val ?_ (Below.refl _ _); exact rfl) | exact rfl | (refine relUpon_enter ?_; (go_at_call 15; (with_reducible refine (HRR.out _).mono ?_); rintro rr w1 ⟨rfl, hb⟩; exact ⟨⟨_, rfl, rfl⟩, hb⟩)))))
              (simp only [Act.put, List.setIfInBounds_toArray, List.set_cons_zero, List.set_cons_succ])
              (with_reducible refine HK.out _ _ ?_)
              clear HK K))
          refine relNil ?_
          intro r5 n5 hx5
          clear hcH
          (try simp only [List.nil_append, List.cons_append, List.mem_cons, List.not_mem_nil, or_false, forall_eq_or_imp, forall_eq, false_implies, implies_true] at hx5)
          obtain ⟨w5, hb5⟩ := n5
          (try dsimp only)
          obtain ⟨hc5, hf5⟩ := bcell hb5
          have hz5 := hb5.size
          (try simp at hz5)
          go_wp2
          go_ret
          exact ⟨rfl, HB.out.trans (hb5.mono hws)⟩
        have q0 : (what.toList == [100, 111, 119, 110]) = false := lit_no w0
        by_cases w1 : what = ⟨#[100, 101, 108, 101, 116, 101]⟩
        · have q1 : (what.toList == [100, 101, 108, 101, 116, 101]) = true := lit_yes w1
          clear w0 w1
          go_wp2_with (go_at_call 37; (with_reducible refine HSt.out.mono ?_); rintro rr w1 ⟨rfl, rfl⟩)
          have hcH := held_cell
          refine region_rel (by kernel_rfl) (by kernel_rfl) ?_
          repeat
            ((with_reducible refine relStep (fun K hK => ?_))
             (have HK := Lib.hid hK)
             clear hK
             (apply relInl
              · intro r n hf
                have Hf := Lib.hid hf
                clear hf
                (first
                  | (fail)
                  | (unfold relAt
                     go_simp
                     (first | (refine relUpon_val ?_ (Below.refl _ _); exact rfl) | exact rfl | (refine relUpon_enter ?_; (go_at_call 15; (with_reducible refine (HRR.out _).mono ?_); rintro rr w1 ⟨rfl, hb⟩; exact ⟨⟨_, rfl, rfl⟩, hb⟩)))))
              (simp only [Act.put, List.setIfInBounds_toArray, List.set_cons_zero, List.set_cons_succ])
              (with_reducible refine HK.out _ _ ?_)
              clear HK K))
          refine relNil ?_
          intro r5 n5 hx5
          clear hcH
          (try simp only [List.nil_append, List.cons_append, List.mem_cons, List.not_mem_nil, or_false, forall_eq_or_imp, forall_eq, false_implies, implies_true] at hx5)
          obtain ⟨w5, hb5⟩ := n5
          (try dsimp only)
          obtain ⟨hc5, hf5⟩ := bcell hb5
          have hz5 := hb5.size
          (try simp at hz5)
          go_wp2
          go_ret
          exact ⟨rfl, HB.out.trans (hb5.mono hws)⟩
        have q1 : (what.toList == [100, 101, 108, 101, 116, 101]) = false := lit_no w1
        by_cases w2 : what = ⟨#[107, 101, 101, 112]⟩
        · have q2 : (what.toList == [107, 101, 101, 112]) = true := lit_yes w2
          clear w0 w1 w2
          go_wp2_with (go_at_call 37; (with_reducible refine HSt.out.mono ?_); rintro rr w1 ⟨rfl, rfl⟩)
          have hcH := held_cell
          refine region_rel (by kernel_rfl) (by kernel_rfl) ?_
          repeat
            ((with_reducible refine relStep (fun K hK => ?_))
             (have HK := Lib.hid hK)
             clear hK
             (apply relInl
              · intro r n hf
                have Hf := Lib.hid hf
                clear hf
                (first
                  | (fail)
                  | (unfold relAt
                     go_simp
                     (first | (refine relUpon_val ?_ (Below.refl _ _); exact rfl) | exact rfl | (refine relUpon_enter ?_; (go_at_call 15; (with_reducible refine (HRR.out _).mono ?_); rintro rr w1 ⟨rfl, hb⟩; exact ⟨⟨_, rfl, rfl⟩, hb⟩)))))
              (simp only [Act.put, List.setIfInBounds_toArray, List.set_cons_zero, List.set_cons_succ])
              (with_reducible refine HK.out _ _ ?_)
              clear HK K))
          refine relNil ?_
          intro r5 n5 hx5
          clear hcH
          (try simp only [List.nil_append, List.cons_append, List.mem_cons, List.not_mem_nil, or_false, forall_eq_or_imp, forall_eq, false_implies, implies_true] at hx5)
          obtain ⟨w5, hb5⟩ := n5
          (try dsimp only)
          obtain ⟨hc5, hf5⟩ := bcell hb5
          have hz5 := hb5.size
          (try simp at hz5)
          go_wp2
          go_ret
          exact ⟨rfl, HB.out.trans (hb5.mono hws)⟩
        have q2 : (what.toList == [107, 101, 101, 112]) = false := lit_no w2
        by_cases w3 : what = ⟨#[115, 116, 111, 112]⟩
        · have q3 : (what.toList == [115, 116, 111, 112]) = true := lit_yes w3
          clear w0 w1 w2 w3
          go_wp2_with (go_at_call 37; (with_reducible refine HSt.out.mono ?_); rintro rr w1 ⟨rfl, rfl⟩)
          have hcH := held_cell
          refine region_rel (by kernel_rfl) (by kernel_rfl) ?_
          repeat
            ((with_reducible refine relStep (fun K hK => ?_))
             (have HK := Lib.hid hK)
             clear hK
             (apply relInl
              · intro r n hf
                have Hf := Lib.hid hf
                clear hf
                (first
                  | (fail)
                  | (unfold relAt
                     go_simp
                     (first | (refine relUpon_val ?_ (Below.refl _ _); exact rfl) | exact rfl | (refine relUpon_enter ?_; (go_at_call 15; (with_reducible refine (HRR.out _).mono ?_); rintro rr w1 ⟨rfl, hb⟩; exact ⟨⟨_, rfl, rfl⟩, hb⟩)))))
              (simp only [Act.put, List.setIfInBounds_toArray, List.set_cons_zero, List.set_cons_succ])
              (with_reducible refine HK.out _ _ ?_)
              clear HK K))
          refine relNil ?_
          intro r5 n5 hx5
          clear hcH
          (try simp only [List.nil_append, List.cons_append, List.mem_cons, List.not_mem_nil, or_false, forall_eq_or_imp, forall_eq, false_implies, implies_true] at hx5)
          obtain ⟨w5, hb5⟩ := n5
          (try dsimp only)
          obtain ⟨hc5, hf5⟩ := bcell hb5
          have hz5 := hb5.size
          (try simp at hz5)
          go_wp2
          go_ret
          exact ⟨rfl, HB.out.trans (hb5.mono hws)⟩
        have q3 : (what.toList == [115, 116, 111, 112]) = false := lit_no w3
        by_cases w4 : what = ⟨#[103, 111, 110, 101]⟩
        · have q4 : (what.toList == [103, 111, 110, 101]) = true := lit_yes w4
          clear w0 w1 w2 w3 w4
          go_wp2_with (go_at_call 37; (with_reducible refine HSt.out.mono ?_); rintro rr w1 ⟨rfl, rfl⟩)
          have hcH := held_cell
          refine region_rel (by kernel_rfl) (by kernel_rfl) ?_
          repeat
            ((with_reducible refine relStep (fun K hK => ?_))
             (have HK := Lib.hid hK)
             clear hK
             (apply relInl
              · intro r n hf
                have Hf := Lib.hid hf
                clear hf
                (first
                  | (fail)
                  | (unfold relAt
                     go_simp
                     (first | (refine relUpon_val ?_ (Below.refl _ _); exact rfl) | exact rfl | (refine relUpon_enter ?_; (go_at_call 15; (with_reducible refine (HRR.out _).mono ?_); rintro rr w1 ⟨rfl, hb⟩; exact ⟨⟨_, rfl, rfl⟩, hb⟩)))))
              (simp only [Act.put, List.setIfInBounds_toArray, List.set_cons_zero, List.set_cons_succ])
              (with_reducible refine HK.out _ _ ?_)
              clear HK K))
          refine relNil ?_
          intro r5 n5 hx5
          clear hcH
          (try simp only [List.nil_append, List.cons_append, List.mem_cons, List.not_mem_nil, or_false, forall_eq_or_imp, forall_eq, false_implies, implies_true] at hx5)
          obtain ⟨w5, hb5⟩ := n5
          (try dsimp only)
          obtain ⟨hc5, hf5⟩ := bcell hb5
          have hz5 := hb5.size
          (try simp at hz5)
          go_wp2
          go_ret
          exact ⟨rfl, HB.out.trans (hb5.mono hws)⟩
        have q4 : (what.toList == [103, 111, 110, 101]) = false := lit_no w4
        clear w0 w1 w2 w3 w4
        go_wp2_with (go_at_call 37; (with_reducible refine HSt.out.mono ?_); rintro rr w1 ⟨rfl, rfl⟩)
        have hcH := held_cell
        refine region_rel (by kernel_rfl) (by kernel_rfl) ?_
        repeat
          ((with_reducible refine relStep (fun K hK => ?_))
           (have HK := Lib.hid hK)
           clear hK
           (apply relInl
            · intro r n hf
              have Hf := Lib.hid hf
              clear hf
              (first
                | (fail)
                | (unfold relAt
                   go_simp
                   (first | (refine relUpon_val ?_ (Below.refl _ _); exact rfl) | exact rfl | (refine relUpon_enter ?_; (go_at_call 15; (with_reducible refine (HRR.out _).mono ?_); rintro rr w1 ⟨rfl, hb⟩; exact ⟨⟨_, rfl, rfl⟩, hb⟩)))))
            (simp only [Act.put, List.setIfInBounds_toArray, List.set_cons_zero, List.set_cons_succ])
            (with_reducible refine HK.out _ _ ?_)
            clear HK K))
        refine relNil ?_
        intro r5 n5 hx5
        clear hcH
        (try simp only [List.nil_append, List.cons_append, List.mem_cons, List.not_mem_nil, or_false, forall_eq_or_imp, forall_eq, false_implies, implies_true] at hx5)
        obtain ⟨w5, hb5⟩ := n5
        (try dsimp only)
        obtain ⟨hc5, hf5⟩ := bcell hb5
        have hz5 := hb5.size
        (try simp at hz5)
        go_wp2
        go_ret
        exact ⟨rfl, HB.out.trans (hb5.mono hws)⟩
      · rw [hr] at HRR
        rw [hr, Bool.not_true, Bool.false_or] at hba
        by_cases hk0 : 0 < k
        · have e0 : decide (0 < (k : Int)) = true := decide_eq_true (by omega)
          have hwk : IntKind.i64.wrap ((k : Int) - 1) = ((k - 1 : Nat) : Int) := by rw [wrap_in (by omega) (by omega)]; omega
          have d0 := hprev hk0
          have hk1 : k - 1 < n := by omega
          rw [decide_eq_true hk0, Bool.true_and] at hba
          by_cases hnow : e.now < pv
          · have e1 : decide (e.now < pv) = true := decide_eq_true hnow
            rw [e1, Bool.true_or] at hba
            obtain ⟨now, what, name, en⟩ := e
            dsimp only at c0 c1 c2 c3 HRR HSt hba e1
            clear hprev he hr hσ3 hB hnow
            have HR9 := Lib.hid (HY.out k hlt hba Hbad.out)
            obtain rfl : R = ((k : Nat) : Int) := HR9.out
            by_cases w0 : what = ⟨#[100, 111, 119, 110]⟩
            · have q0 : (what.toList == [100, 111, 119, 110]) = true := lit_yes w0
              clear w0
              go_wp2_with (go_at_call 37; (with_reducible refine HSt.out.mono ?_); rintro rr w1 ⟨rfl, rfl⟩)
              have hcH := held_cell
              refine region_rel (by kernel_rfl) (by kernel_rfl) ?_
              repeat
                ((with_reducible refine relStep (fun K hK => ?_))
                 (have HK := Lib.hid hK)
                 clear hK
                 (apply relInl
                  · intro r n hf
                    have Hf := Lib.hid hf
                    clear hf
                    (first
                      | (fail)
                      | (unfold relAt
                         go_simp
                         (first | (refine relUpon_val ?_ (Below.refl _ _); exact rfl) | exact rfl | (refine relUpon_enter ?_; (go_at_call 15; (with_reducible refine (HRR.out _).mono ?_); rintro rr w1 ⟨rfl, hb⟩; exact ⟨⟨_, rfl, rfl⟩, hb⟩)))))
                  (simp only [Act.put, List.setIfInBounds_toArray, List.set_cons_zero, List.set_cons_succ])
                  (with_reducible refine HK.out _ _ ?_)
                  clear HK K))
              refine relNil ?_
              intro r5 n5 hx5
              clear hcH
              (try simp only [List.nil_append, List.cons_append, List.mem_cons, List.not_mem_nil, or_false, forall_eq_or_imp, forall_eq, false_implies, implies_true] at hx5)
              obtain ⟨w5, hb5⟩ := n5
              (try dsimp only)
              obtain ⟨hc5, hf5⟩ := bcell hb5
              have hz5 := hb5.size
              (try simp at hz5)
              go_wp2
              go_ret
              exact ⟨rfl, HB.out.trans (hb5.mono hws)⟩
            have q0 : (what.toList == [100, 111, 119, 110]) = false := lit_no w0
            by_cases w1 : what = ⟨#[100, 101, 108, 101, 116, 101]⟩
            · have q1 : (what.toList == [100, 101, 108, 101, 116, 101]) = true := lit_yes w1
              clear w0 w1
              go_wp2_with (go_at_call 37; (with_reducible refine HSt.out.mono ?_); rintro rr w1 ⟨rfl, rfl⟩)
              have hcH := held_cell
              refine region_rel (by kernel_rfl) (by kernel_rfl) ?_
              repeat
                ((with_reducible refine relStep (fun K hK => ?_))
                 (have HK := Lib.hid hK)
                 clear hK
                 (apply relInl
                  · intro r n hf
                    have Hf := Lib.hid hf
                    clear hf
                    (first
                      | (fail)
                      | (unfold relAt
                         go_simp
                         (first | (refine relUpon_val ?_ (Below.refl _ _); exact rfl) | exact rfl | (refine relUpon_enter ?_; (go_at_call 15; (with_reducible refine (HRR.out _).mono ?_); rintro rr w1 ⟨rfl, hb⟩; exact ⟨⟨_, rfl, rfl⟩, hb⟩)))))
                  (simp only [Act.put, List.setIfInBounds_toArray, List.set_cons_zero, List.set_cons_succ])
                  (with_reducible refine HK.out _ _ ?_)
                  clear HK K))
              refine relNil ?_
              intro r5 n5 hx5
              clear hcH
              (try simp only [List.nil_append, List.cons_append, List.mem_cons, List.not_mem_nil, or_false, forall_eq_or_imp, forall_eq, false_implies, implies_true] at hx5)
              obtain ⟨w5, hb5⟩ := n5
              (try dsimp only)
              obtain ⟨hc5, hf5⟩ := bcell hb5
              have hz5 := hb5.size
              (try simp at hz5)
              go_wp2
              go_ret
              exact ⟨rfl, HB.out.trans (hb5.mono hws)⟩
            have q1 : (what.toList == [100, 101, 108, 101, 116, 101]) = false := lit_no w1
            by_cases w2 : what = ⟨#[107, 101, 101, 112]⟩
            · have q2 : (what.toList == [107, 101, 101, 112]) = true := lit_yes w2
              clear w0 w1 w2
              go_wp2_with (go_at_call 37; (with_reducible refine HSt.out.mono ?_); rintro rr w1 ⟨rfl, rfl⟩)
              have hcH := held_cell
              refine region_rel (by kernel_rfl) (by kernel_rfl) ?_
              repeat
                ((with_reducible refine relStep (fun K hK => ?_))
                 (have HK := Lib.hid hK)
                 clear hK
                 (apply relInl
                  · intro r n hf
                    have Hf := Lib.hid hf
                    clear hf
                    (first
                      | (fail)
                      | (unfold relAt
                         go_simp
                         (first | (refine relUpon_val ?_ (Below.refl _ _); exact rfl) | exact rfl | (refine relUpon_enter ?_; (go_at_call 15; (with_reducible refine (HRR.out _).mono ?_); rintro rr w1 ⟨rfl, hb⟩; exact ⟨⟨_, rfl, rfl⟩, hb⟩)))))
                  (simp only [Act.put, List.setIfInBounds_toArray, List.set_cons_zero, List.set_cons_succ])
                  (with_reducible refine HK.out _ _ ?_)
                  clear HK K))
              refine relNil ?_
              intro r5 n5 hx5
              clear hcH
              (try simp only [List.nil_append, List.cons_append, List.mem_cons, List.not_mem_nil, or_false, forall_eq_or_imp, forall_eq, false_implies, implies_true] at hx5)
              obtain ⟨w5, hb5⟩ := n5
              (try dsimp only)
              obtain ⟨hc5, hf5⟩ := bcell hb5
              have hz5 := hb5.size
              (try simp at hz5)
              go_wp2
              go_ret
              exact ⟨rfl, HB.out.trans (hb5.mono hws)⟩
            have q2 : (what.toList == [107, 101, 101, 112]) = false := lit_no w2
            by_cases w3 : what = ⟨#[115, 116, 111, 112]⟩
            · have q3 : (what.toList == [115, 116, 111, 112]) = true := lit_yes w3
              clear w0 w1 w2 w3
              go_wp2_with (go_at_call 37; (with_reducible refine HSt.out.mono ?_); rintro rr w1 ⟨rfl, rfl⟩)
              have hcH := held_cell
              refine region_rel (by kernel_rfl) (by kernel_rfl) ?_
              repeat
                ((with_reducible refine relStep (fun K hK => ?_))
                 (have HK := Lib.hid hK)
                 clear hK
                 (apply relInl
                  · intro r n hf
                    have Hf := Lib.hid hf
                    clear hf
                    (first
                      | (fail)
                      | (unfold relAt
                         go_simp
                         (first | (refine relUpon_val ?_ (Below.refl _ _); exact rfl) | exact rfl | (refine relUpon_enter ?_; (go_at_call 15; (with_reducible refine (HRR.out _).mono ?_); rintro rr w1 ⟨rfl, hb⟩; exact ⟨⟨_, rfl, rfl⟩, hb⟩)))))
                  (simp only [Act.put, List.setIfInBounds_toArray, List.set_cons_zero, List.set_cons_succ])
                  (with_reducible refine HK.out _ _ ?_)
                  clear HK K))
              refine relNil ?_
              intro r5 n5 hx5
              clear hcH
              (try simp only [List.nil_append, List.cons_append, List.mem_cons, List.not_mem_nil, or_false, forall_eq_or_imp, forall_eq, false_implies, implies_true] at hx5)
              obtain ⟨w5, hb5⟩ := n5
              (try dsimp only)
              obtain ⟨hc5, hf5⟩ := bcell hb5
              have hz5 := hb5.size
              (try simp at hz5)
              go_wp2
              go_ret
              exact ⟨rfl, HB.out.trans (hb5.mono hws)⟩
            have q3 : (what.toList == [115, 116, 111, 112]) = false := lit_no w3
            by_cases w4 : what = ⟨#[103, 111, 110, 101]⟩
            · have q4 : (what.toList == [103, 111, 110, 101]) = true := lit_yes w4
              clear w0 w1 w2 w3 w4
              go_wp2_with (go_at_call 37; (with_reducible refine HSt.out.mono ?_); rintro rr w1 ⟨rfl, rfl⟩)
              have hcH := held_cell
              refine region_rel (by kernel_rfl) (by kernel_rfl) ?_
              repeat
                ((with_reducible refine relStep (fun K hK => ?_))
                 (have HK := Lib.hid hK)
                 clear hK
                 (apply relInl
                  · intro r n hf
                    have Hf := Lib.hid hf
                    clear hf
                    (first
                      | (fail)
                      | (unfold relAt
                         go_simp
                         (first | (refine relUpon_val ?_ (Below.refl _ _); exact rfl) | exact rfl | (refine relUpon_enter ?_; (go_at_call 15; (with_reducible refine (HRR.out _).mono ?_); rintro rr w1 ⟨rfl, hb⟩; exact ⟨⟨_, rfl, rfl⟩, hb⟩)))))
                  (simp only [Act.put, List.setIfInBounds_toArray, List.set_cons_zero, List.set_cons_succ])
                  (with_reducible refine HK.out _ _ ?_)
                  clear HK K))
              refine relNil ?_
              intro r5 n5 hx5
              clear hcH
              (try simp only [List.nil_append, List.cons_append, List.mem_cons, List.not_mem_nil, or_false, forall_eq_or_imp, forall_eq, false_implies, implies_true] at hx5)
              obtain ⟨w5, hb5⟩ := n5
              (try dsimp only)
              obtain ⟨hc5, hf5⟩ := bcell hb5
              have hz5 := hb5.size
              (try simp at hz5)
              go_wp2
              go_ret
              exact ⟨rfl, HB.out.trans (hb5.mono hws)⟩
            have q4 : (what.toList == [103, 111, 110, 101]) = false := lit_no w4
            clear w0 w1 w2 w3 w4
            go_wp2_with (go_at_call 37; (with_reducible refine HSt.out.mono ?_); rintro rr w1 ⟨rfl, rfl⟩)
            have hcH := held_cell
            refine region_rel (by kernel_rfl) (by kernel_rfl) ?_
            repeat
              ((with_reducible refine relStep (fun K hK => ?_))
               (have HK := Lib.hid hK)
               clear hK
               (apply relInl
                · intro r n hf
                  have Hf := Lib.hid hf
                  clear hf
                  (first
                    | (fail)
                    | (unfold relAt
                       go_simp
                       (first | (refine relUpon_val ?_ (Below.refl _ _); exact rfl) | exact rfl | (refine relUpon_enter ?_; (go_at_call 15; (with_reducible refine (HRR.out _).mono ?_); rintro rr w1 ⟨rfl, hb⟩; exact ⟨⟨_, rfl, rfl⟩, hb⟩)))))
                (simp only [Act.put, List.setIfInBounds_toArray, List.set_cons_zero, List.set_cons_succ])
                (with_reducible refine HK.out _ _ ?_)
                clear HK K))
            refine relNil ?_
            intro r5 n5 hx5
            clear hcH
            (try simp only [List.nil_append, List.cons_append, List.mem_cons, List.not_mem_nil, or_false, forall_eq_or_imp, forall_eq, false_implies, implies_true] at hx5)
            obtain ⟨w5, hb5⟩ := n5
            (try dsimp only)
            obtain ⟨hc5, hf5⟩ := bcell hb5
            have hz5 := hb5.size
            (try simp at hz5)
            go_wp2
            go_ret
            exact ⟨rfl, HB.out.trans (hb5.mono hws)⟩
          · have e1 : decide (e.now < pv) = false := decide_eq_false hnow
            rw [e1, Bool.false_or] at hba
            obtain ⟨now, what, name, en⟩ := e
            dsimp only at c0 c1 c2 c3 HRR HSt hba e1
            clear hprev he hr hB hnow
            by_cases w0 : what = ⟨#[100, 111, 119, 110]⟩
            · have q0 : (what.toList == [100, 111, 119, 110]) = true := lit_yes w0
              have hph : phB what = 1 := by rw [w0]; decide +kernel
              rw [hph] at hba
              by_cases hu : 0 < σ
              · have r1 : decide (0 < σ) = true := decide_eq_true hu
                have hokk : okS 1 σ = false := by unfold okS; simp; omega
                rw [hokk, Bool.not_false] at hba
                have HR9 := Lib.hid (HY.out k hlt hba Hbad.out)
                obtain rfl : R = ((k : Nat) : Int) := HR9.out
                clear hokk hba hu hσ3 hph w0
                go_wp2_with (go_at_call 37; (with_reducible refine HSt.out.mono ?_); rintro rr w1 ⟨rfl, rfl⟩)
                have hcH := held_cell
                refine region_rel (by kernel_rfl) (by kernel_rfl) ?_
                repeat
                  ((with_reducible refine relStep (fun K hK => ?_))
                   (have HK := Lib.hid hK)
                   clear hK
                   (apply relInl
                    · intro r n hf
                      have Hf := Lib.hid hf
                      clear hf
                      (first
                        | (fail)
                        | (unfold relAt
                           go_simp
                           (first | (refine relUpon_val ?_ (Below.refl _ _); exact rfl) | exact rfl | (refine relUpon_enter ?_; (go_at_call 15; (with_reducible refine (HRR.out _).mono ?_); rintro rr w1 ⟨rfl, hb⟩; exact ⟨⟨_, rfl, rfl⟩, hb⟩)))))
                    (simp only [Act.put, List.setIfInBounds_toArray, List.set_cons_zero, List.set_cons_succ])
                    (with_reducible refine HK.out _ _ ?_)
                    clear HK K))
                refine relNil ?_
                intro r5 n5 hx5
                clear hcH
                (try simp only [List.nil_append, List.cons_append, List.mem_cons, List.not_mem_nil, or_false, forall_eq_or_imp, forall_eq, false_implies, implies_true] at hx5)
                obtain ⟨w5, hb5⟩ := n5
                (try dsimp only)
                obtain ⟨hc5, hf5⟩ := bcell hb5
                have hz5 := hb5.size
                (try simp at hz5)
                go_wp2
                go_ret
                exact ⟨rfl, HB.out.trans (hb5.mono hws)⟩
              · have r1 : decide (0 < σ) = false := decide_eq_false hu
                have hokk : okS 1 σ = true := by unfold okS; simp; omega
                rw [hokk, Bool.not_true] at hba
                have Hb1 := Lib.hid (show ∀ j, j < k + 1 → badI l j = false from fun j hj => by
                  rcases Nat.lt_succ_iff_lt_or_eq.1 hj with h | rfl
                  · exact Hbad.out j h
                  · exact hba)
                clear hokk hba hσ3 hph hu w0
                go_wp2_with (go_at_call 37; (with_reducible refine HSt.out.mono ?_); rintro rr w1 ⟨rfl, rfl⟩)
                have hcH := held_cell
                refine region_rel (by kernel_rfl) (by kernel_rfl) ?_
                repeat
                  ((with_reducible refine relStep (fun K hK => ?_))
                   (have HK := Lib.hid hK)
                   clear hK
                   (apply relInl
                    · intro r n hf
                      have Hf := Lib.hid hf
                      clear hf
                      (first
                        | (fail)
                        | (unfold relAt
                           go_simp
                           (first | (refine relUpon_val ?_ (Below.refl _ _); exact rfl) | exact rfl | (refine relUpon_enter ?_; (go_at_call 15; (with_reducible refine (HRR.out _).mono ?_); rintro rr w1 ⟨rfl, hb⟩; exact ⟨⟨_, rfl, rfl⟩, hb⟩)))))
                    (simp only [Act.put, List.setIfInBounds_toArray, List.set_cons_zero, List.set_cons_succ])
                    (with_reducible refine HK.out _ _ ?_)
                    clear HK K))
                refine relNil ?_
                intro r5 n5 hx5
                clear hcH
                (try simp only [List.nil_append, List.cons_append, List.mem_cons, List.not_mem_nil, or_false, forall_eq_or_imp, forall_eq, false_implies, implies_true] at hx5)
                obtain ⟨w5, hb5⟩ := n5
                (try dsimp only)
                obtain ⟨hc5, hf5⟩ := bcell hb5
                have hz5 := hb5.size
                (try simp at hz5)
                go_wp2
                go_roundw
                case rel => exact ⟨k + 1, by omega, by go_num, Hb1.out, HB.out.trans (hb5.mono hws)⟩
                case measure => simp [intOf]; omega
            have q0 : (what.toList == [100, 111, 119, 110]) = false := lit_no w0
            by_cases w1 : what = ⟨#[100, 101, 108, 101, 116, 101]⟩
            · have q1 : (what.toList == [100, 101, 108, 101, 116, 101]) = true := lit_yes w1
              have hph : phB what = 2 := by rw [w1]; decide +kernel
              rw [hph] at hba
              by_cases hu : σ ≠ 1
              · have r1 : (σ != 1) = true := by rw [bne_dec]; exact decide_eq_true hu
                have hokk : okS 2 σ = false := by unfold okS; simp; omega
                rw [hokk, Bool.not_false] at hba
                have HR9 := Lib.hid (HY.out k hlt hba Hbad.out)
                obtain rfl : R = ((k : Nat) : Int) := HR9.out
                clear hokk hba hu hσ3 hph w0 w1
                go_wp2_with (go_at_call 37; (with_reducible refine HSt.out.mono ?_); rintro rr w1 ⟨rfl, rfl⟩)
                have hcH := held_cell
                refine region_rel (by kernel_rfl) (by kernel_rfl) ?_
                repeat
                  ((with_reducible refine relStep (fun K hK => ?_))
                   (have HK := Lib.hid hK)
                   clear hK
                   (apply relInl
                    · intro r n hf
                      have Hf := Lib.hid hf
                      clear hf
                      (first
                        | (fail)
                        | (unfold relAt
                           go_simp
                           (first | (refine relUpon_val ?_ (Below.refl _ _); exact rfl) | exact rfl | (refine relUpon_enter ?_; (go_at_call 15; (with_reducible refine (HRR.out _).mono ?_); rintro rr w1 ⟨rfl, hb⟩; exact ⟨⟨_, rfl, rfl⟩, hb⟩)))))
                    (simp only [Act.put, List.setIfInBounds_toArray, List.set_cons_zero, List.set_cons_succ])
                    (with_reducible refine HK.out _ _ ?_)
                    clear HK K))
                refine relNil ?_
                intro r5 n5 hx5
                clear hcH
                (try simp only [List.nil_append, List.cons_append, List.mem_cons, List.not_mem_nil, or_false, forall_eq_or_imp, forall_eq, false_implies, implies_true] at hx5)
                obtain ⟨w5, hb5⟩ := n5
                (try dsimp only)
                obtain ⟨hc5, hf5⟩ := bcell hb5
                have hz5 := hb5.size
                (try simp at hz5)
                go_wp2
                go_ret
                exact ⟨rfl, HB.out.trans (hb5.mono hws)⟩
              · have r1 : (σ != 1) = false := by rw [bne_dec]; exact decide_eq_false hu
                have hokk : okS 2 σ = true := by unfold okS; simp; omega
                rw [hokk, Bool.not_true] at hba
                have Hb1 := Lib.hid (show ∀ j, j < k + 1 → badI l j = false from fun j hj => by
                  rcases Nat.lt_succ_iff_lt_or_eq.1 hj with h | rfl
                  · exact Hbad.out j h
                  · exact hba)
                clear hokk hba hσ3 hph hu w0 w1
                go_wp2_with (go_at_call 37; (with_reducible refine HSt.out.mono ?_); rintro rr w1 ⟨rfl, rfl⟩)
                have hcH := held_cell
                refine region_rel (by kernel_rfl) (by kernel_rfl) ?_
                repeat
                  ((with_reducible refine relStep (fun K hK => ?_))
                   (have HK := Lib.hid hK)
                   clear hK
                   (apply relInl
                    · intro r n hf
                      have Hf := Lib.hid hf
                      clear hf
                      (first
                        | (fail)
                        | (unfold relAt
                           go_simp
                           (first | (refine relUpon_val ?_ (Below.refl _ _); exact rfl) | exact rfl | (refine relUpon_enter ?_; (go_at_call 15; (with_reducible refine (HRR.out _).mono ?_); rintro rr w1 ⟨rfl, hb⟩; exact ⟨⟨_, rfl, rfl⟩, hb⟩)))))
                    (simp only [Act.put, List.setIfInBounds_toArray, List.set_cons_zero, List.set_cons_succ])
                    (with_reducible refine HK.out _ _ ?_)
                    clear HK K))
                refine relNil ?_
                intro r5 n5 hx5
                clear hcH
                (try simp only [List.nil_append, List.cons_append, List.mem_cons, List.not_mem_nil, or_false, forall_eq_or_imp, forall_eq, false_implies, implies_true] at hx5)
                obtain ⟨w5, hb5⟩ := n5
                (try dsimp only)
                obtain ⟨hc5, hf5⟩ := bcell hb5
                have hz5 := hb5.size
                (try simp at hz5)
                go_wp2
                go_roundw
                case rel => exact ⟨k + 1, by omega, by go_num, Hb1.out, HB.out.trans (hb5.mono hws)⟩
                case measure => simp [intOf]; omega
            have q1 : (what.toList == [100, 101, 108, 101, 116, 101]) = false := lit_no w1
            by_cases w2 : what = ⟨#[107, 101, 101, 112]⟩
            · have q2 : (what.toList == [107, 101, 101, 112]) = true := lit_yes w2
              have hph : phB what = 3 := by rw [w2]; decide +kernel
              rw [hph] at hba
              by_cases hu : σ = 0
              · have r1 : (σ == 0) = true := by rw [beq_dec]; exact decide_eq_true hu
                have hokk : okS 3 σ = false := by unfold okS; simp; omega
                rw [hokk, Bool.not_false] at hba
                have HR9 := Lib.hid (HY.out k hlt hba Hbad.out)
                obtain rfl : R = ((k : Nat) : Int) := HR9.out
                clear hokk hba hu hσ3 hph w0 w1 w2
                go_wp2_with (go_at_call 37; (with_reducible refine HSt.out.mono ?_); rintro rr w1 ⟨rfl, rfl⟩)
                have hcH := held_cell
                refine region_rel (by kernel_rfl) (by kernel_rfl) ?_
                repeat
                  ((with_reducible refine relStep (fun K hK => ?_))
                   (have HK := Lib.hid hK)
                   clear hK
                   (apply relInl
                    · intro r n hf
                      have Hf := Lib.hid hf
                      clear hf
                      (first
                        | (fail)
                        | (unfold relAt
                           go_simp
                           (first | (refine relUpon_val ?_ (Below.refl _ _); exact rfl) | exact rfl | (refine relUpon_enter ?_; (go_at_call 15; (with_reducible refine (HRR.out _).mono ?_); rintro rr w1 ⟨rfl, hb⟩; exact ⟨⟨_, rfl, rfl⟩, hb⟩)))))
                    (simp only [Act.put, List.setIfInBounds_toArray, List.set_cons_zero, List.set_cons_succ])
                    (with_reducible refine HK.out _ _ ?_)
                    clear HK K))
                refine relNil ?_
                intro r5 n5 hx5
                clear hcH
                (try simp only [List.nil_append, List.cons_append, List.mem_cons, List.not_mem_nil, or_false, forall_eq_or_imp, forall_eq, false_implies, implies_true] at hx5)
                obtain ⟨w5, hb5⟩ := n5
                (try dsimp only)
                obtain ⟨hc5, hf5⟩ := bcell hb5
                have hz5 := hb5.size
                (try simp at hz5)
                go_wp2
                go_ret
                exact ⟨rfl, HB.out.trans (hb5.mono hws)⟩
              · have r1 : (σ == 0) = false := by rw [beq_dec]; exact decide_eq_false hu
                have hokk : okS 3 σ = true := by unfold okS; simp; omega
                rw [hokk, Bool.not_true] at hba
                have Hb1 := Lib.hid (show ∀ j, j < k + 1 → badI l j = false from fun j hj => by
                  rcases Nat.lt_succ_iff_lt_or_eq.1 hj with h | rfl
                  · exact Hbad.out j h
                  · exact hba)
                clear hokk hba hσ3 hph hu w0 w1 w2
                go_wp2_with (go_at_call 37; (with_reducible refine HSt.out.mono ?_); rintro rr w1 ⟨rfl, rfl⟩)
                have hcH := held_cell
                refine region_rel (by kernel_rfl) (by kernel_rfl) ?_
                repeat
                  ((with_reducible refine relStep (fun K hK => ?_))
                   (have HK := Lib.hid hK)
                   clear hK
                   (apply relInl
                    · intro r n hf
                      have Hf := Lib.hid hf
                      clear hf
                      (first
                        | (fail)
                        | (unfold relAt
                           go_simp
                           (first | (refine relUpon_val ?_ (Below.refl _ _); exact rfl) | exact rfl | (refine relUpon_enter ?_; (go_at_call 15; (with_reducible refine (HRR.out _).mono ?_); rintro rr w1 ⟨rfl, hb⟩; exact ⟨⟨_, rfl, rfl⟩, hb⟩)))))
                    (simp only [Act.put, List.setIfInBounds_toArray, List.set_cons_zero, List.set_cons_succ])
                    (with_reducible refine HK.out _ _ ?_)
                    clear HK K))
                refine relNil ?_
                intro r5 n5 hx5
                clear hcH
                (try simp only [List.nil_append, List.cons_append, List.mem_cons, List.not_mem_nil, or_false, forall_eq_or_imp, forall_eq, false_implies, implies_true] at hx5)
                obtain ⟨w5, hb5⟩ := n5
                (try dsimp only)
                obtain ⟨hc5, hf5⟩ := bcell hb5
                have hz5 := hb5.size
                (try simp at hz5)
                go_wp2
                go_roundw
                case rel => exact ⟨k + 1, by omega, by go_num, Hb1.out, HB.out.trans (hb5.mono hws)⟩
                case measure => simp [intOf]; omega
            have q2 : (what.toList == [107, 101, 101, 112]) = false := lit_no w2
            by_cases w3 : what = ⟨#[115, 116, 111, 112]⟩
            · have q3 : (what.toList == [115, 116, 111, 112]) = true := lit_yes w3
              have hph : phB what = 3 := by rw [w3]; decide +kernel
              rw [hph] at hba
              by_cases hu : σ = 0
              · have r1 : (σ == 0) = true := by rw [beq_dec]; exact decide_eq_true hu
                have hokk : okS 3 σ = false := by unfold okS; simp; omega
                rw [hokk, Bool.not_false] at hba
                have HR9 := Lib.hid (HY.out k hlt hba Hbad.out)
                obtain rfl : R = ((k : Nat) : Int) := HR9.out
                clear hokk hba hu hσ3 hph w0 w1 w2 w3
                go_wp2_with (go_at_call 37; (with_reducible refine HSt.out.mono ?_); rintro rr w1 ⟨rfl, rfl⟩)
                have hcH := held_cell
                refine region_rel (by kernel_rfl) (by kernel_rfl) ?_
                repeat
                  ((with_reducible refine relStep (fun K hK => ?_))
                   (have HK := Lib.hid hK)
                   clear hK
                   (apply relInl
                    · intro r n hf
                      have Hf := Lib.hid hf
                      clear hf
                      (first
                        | (fail)
                        | (unfold relAt
                           go_simp
                           (first | (refine relUpon_val ?_ (Below.refl _ _); exact rfl) | exact rfl | (refine relUpon_enter ?_; (go_at_call 15; (with_reducible refine (HRR.out _).mono ?_); rintro rr w1 ⟨rfl, hb⟩; exact ⟨⟨_, rfl, rfl⟩, hb⟩)))))
                    (simp only [Act.put, List.setIfInBounds_toArray, List.set_cons_zero, List.set_cons_succ])
                    (with_reducible refine HK.out _ _ ?_)
                    clear HK K))
                refine relNil ?_
                intro r5 n5 hx5
                clear hcH
                (try simp only [List.nil_append, List.cons_append, List.mem_cons, List.not_mem_nil, or_false, forall_eq_or_imp, forall_eq, false_implies, implies_true] at hx5)
                obtain ⟨w5, hb5⟩ := n5
                (try dsimp only)
                obtain ⟨hc5, hf5⟩ := bcell hb5
                have hz5 := hb5.size
                (try simp at hz5)
                go_wp2
                go_ret
                exact ⟨rfl, HB.out.trans (hb5.mono hws)⟩
              · have r1 : (σ == 0) = false := by rw [beq_dec]; exact decide_eq_false hu
                have hokk : okS 3 σ = true := by unfold okS; simp; omega
                rw [hokk, Bool.not_true] at hba
                have Hb1 := Lib.hid (show ∀ j, j < k + 1 → badI l j = false from fun j hj => by
                  rcases Nat.lt_succ_iff_lt_or_eq.1 hj with h | rfl
                  · exact Hbad.out j h
                  · exact hba)
                clear hokk hba hσ3 hph hu w0 w1 w2 w3
                go_wp2_with (go_at_call 37; (with_reducible refine HSt.out.mono ?_); rintro rr w1 ⟨rfl, rfl⟩)
                have hcH := held_cell
                refine region_rel (by kernel_rfl) (by kernel_rfl) ?_
                repeat
                  ((with_reducible refine relStep (fun K hK => ?_))
                   (have HK := Lib.hid hK)
                   clear hK
                   (apply relInl
                    · intro r n hf
                      have Hf := Lib.hid hf
                      clear hf
                      (first
                        | (fail)
                        | (unfold relAt
                           go_simp
                           (first | (refine relUpon_val ?_ (Below.refl _ _); exact rfl) | exact rfl | (refine relUpon_enter ?_; (go_at_call 15; (with_reducible refine (HRR.out _).mono ?_); rintro rr w1 ⟨rfl, hb⟩; exact ⟨⟨_, rfl, rfl⟩, hb⟩)))))
                    (simp only [Act.put, List.setIfInBounds_toArray, List.set_cons_zero, List.set_cons_succ])
                    (with_reducible refine HK.out _ _ ?_)
                    clear HK K))
                refine relNil ?_
                intro r5 n5 hx5
                clear hcH
                (try simp only [List.nil_append, List.cons_append, List.mem_cons, List.not_mem_nil, or_false, forall_eq_or_imp, forall_eq, false_implies, implies_true] at hx5)
                obtain ⟨w5, hb5⟩ := n5
                (try dsimp only)
                obtain ⟨hc5, hf5⟩ := bcell hb5
                have hz5 := hb5.size
                (try simp at hz5)
                go_wp2
                go_roundw
                case rel => exact ⟨k + 1, by omega, by go_num, Hb1.out, HB.out.trans (hb5.mono hws)⟩
                case measure => simp [intOf]; omega
            have q3 : (what.toList == [115, 116, 111, 112]) = false := lit_no w3
            by_cases w4 : what = ⟨#[103, 111, 110, 101]⟩
            · have q4 : (what.toList == [103, 111, 110, 101]) = true := lit_yes w4
              have hph : phB what = 3 := by rw [w4]; decide +kernel
              rw [hph] at hba
              by_cases hu : σ = 0
              · have r1 : (σ == 0) = true := by rw [beq_dec]; exact decide_eq_true hu
                have hokk : okS 3 σ = false := by unfold okS; simp; omega
                rw [hokk, Bool.not_false] at hba
                have HR9 := Lib.hid (HY.out k hlt hba Hbad.out)
                obtain rfl : R = ((k : Nat) : Int) := HR9.out
                clear hokk hba hu hσ3 hph w0 w1 w2 w3 w4
                go_wp2_with (go_at_call 37; (with_reducible refine HSt.out.mono ?_); rintro rr w1 ⟨rfl, rfl⟩)
                have hcH := held_cell
                refine region_rel (by kernel_rfl) (by kernel_rfl) ?_
                repeat
                  ((with_reducible refine relStep (fun K hK => ?_))
                   (have HK := Lib.hid hK)
                   clear hK
                   (apply relInl
                    · intro r n hf
                      have Hf := Lib.hid hf
                      clear hf
                      (first
                        | (fail)
                        | (unfold relAt
                           go_simp
                           (first | (refine relUpon_val ?_ (Below.refl _ _); exact rfl) | exact rfl | (refine relUpon_enter ?_; (go_at_call 15; (with_reducible refine (HRR.out _).mono ?_); rintro rr w1 ⟨rfl, hb⟩; exact ⟨⟨_, rfl, rfl⟩, hb⟩)))))
                    (simp only [Act.put, List.setIfInBounds_toArray, List.set_cons_zero, List.set_cons_succ])
                    (with_reducible refine HK.out _ _ ?_)
                    clear HK K))
                refine relNil ?_
                intro r5 n5 hx5
                clear hcH
                (try simp only [List.nil_append, List.cons_append, List.mem_cons, List.not_mem_nil, or_false, forall_eq_or_imp, forall_eq, false_implies, implies_true] at hx5)
                obtain ⟨w5, hb5⟩ := n5
                (try dsimp only)
                obtain ⟨hc5, hf5⟩ := bcell hb5
                have hz5 := hb5.size
                (try simp at hz5)
                go_wp2
                go_ret
                exact ⟨rfl, HB.out.trans (hb5.mono hws)⟩
              · have r1 : (σ == 0) = false := by rw [beq_dec]; exact decide_eq_false hu
                have hokk : okS 3 σ = true := by unfold okS; simp; omega
                rw [hokk, Bool.not_true] at hba
                have Hb1 := Lib.hid (show ∀ j, j < k + 1 → badI l j = false from fun j hj => by
                  rcases Nat.lt_succ_iff_lt_or_eq.1 hj with h | rfl
                  · exact Hbad.out j h
                  · exact hba)
                clear hokk hba hσ3 hph hu w0 w1 w2 w3 w4
                go_wp2_with (go_at_call 37; (with_reducible refine HSt.out.mono ?_); rintro rr w1 ⟨rfl, rfl⟩)
                have hcH := held_cell
                refine region_rel (by kernel_rfl) (by kernel_rfl) ?_
                repeat
                  ((with_reducible refine relStep (fun K hK => ?_))
                   (have HK := Lib.hid hK)
                   clear hK
                   (apply relInl
                    · intro r n hf
                      have Hf := Lib.hid hf
                      clear hf
                      (first
                        | (fail)
                        | (unfold relAt
                           go_simp
                           (first | (refine relUpon_val ?_ (Below.refl _ _); exact rfl) | exact rfl | (refine relUpon_enter ?_; (go_at_call 15; (with_reducible refine (HRR.out _).mono ?_); rintro rr w1 ⟨rfl, hb⟩; exact ⟨⟨_, rfl, rfl⟩, hb⟩)))))
                    (simp only [Act.put, List.setIfInBounds_toArray, List.set_cons_zero, List.set_cons_succ])
                    (with_reducible refine HK.out _ _ ?_)
                    clear HK K))
                refine relNil ?_
                intro r5 n5 hx5
                clear hcH
                (try simp only [List.nil_append, List.cons_append, List.mem_cons, List.not_mem_nil, or_false, forall_eq_or_imp, forall_eq, false_implies, implies_true] at hx5)
                obtain ⟨w5, hb5⟩ := n5
                (try dsimp only)
                obtain ⟨hc5, hf5⟩ := bcell hb5
                have hz5 := hb5.size
                (try simp at hz5)
                go_wp2
                go_roundw
                case rel => exact ⟨k + 1, by omega, by go_num, Hb1.out, HB.out.trans (hb5.mono hws)⟩
                case measure => simp [intOf]; omega
            have q4 : (what.toList == [103, 111, 110, 101]) = false := lit_no w4
            have hph : phB what = 0 := by unfold phB inB G6 G7 G8; simp [w0, w1, w2, w3, w4]
            rw [hph] at hba
            have hokk : okS 0 σ = true := rfl
            rw [hokk, Bool.not_true] at hba
            have Hb1 := Lib.hid (show ∀ j, j < k + 1 → badI l j = false from fun j hj => by
              rcases Nat.lt_succ_iff_lt_or_eq.1 hj with h | rfl
              · exact Hbad.out j h
              · exact hba)
            clear hokk hba hσ3 hph w0 w1 w2 w3 w4
            go_wp2_with (go_at_call 37; (with_reducible refine HSt.out.mono ?_); rintro rr w1 ⟨rfl, rfl⟩)
            have hcH := held_cell
            refine region_rel (by kernel_rfl) (by kernel_rfl) ?_
            repeat
              ((with_reducible refine relStep (fun K hK => ?_))
               (have HK := Lib.hid hK)
               clear hK
               (apply relInl
                · intro r n hf
                  have Hf := Lib.hid hf
                  clear hf
                  (first
                    | (fail)
                    | (unfold relAt
                       go_simp
                       (first | (refine relUpon_val ?_ (Below.refl _ _); exact rfl) | exact rfl | (refine relUpon_enter ?_; (go_at_call 15; (with_reducible refine (HRR.out _).mono ?_); rintro rr w1 ⟨rfl, hb⟩; exact ⟨⟨_, rfl, rfl⟩, hb⟩)))))
                (simp only [Act.put, List.setIfInBounds_toArray, List.set_cons_zero, List.set_cons_succ])
                (with_reducible refine HK.out _ _ ?_)
                clear HK K))
            refine relNil ?_
            intro r5 n5 hx5
            clear hcH
            (try simp only [List.nil_append, List.cons_append, List.mem_cons, List.not_mem_nil, or_false, forall_eq_or_imp, forall_eq, false_implies, implies_true] at hx5)
            obtain ⟨w5, hb5⟩ := n5
            (try dsimp only)
            obtain ⟨hc5, hf5⟩ := bcell hb5
            have hz5 := hb5.size
            (try simp at hz5)
            go_wp2
            go_roundw
            case rel => exact ⟨k + 1, by omega, by go_num, Hb1.out, HB.out.trans (hb5.mono hws)⟩
            case measure => simp [intOf]; omega
        · have e0 : decide (0 < (k : Int)) = false := decide_eq_false (by omega)
          rw [decide_eq_false hk0, Bool.false_and, Bool.false_or] at hba
          obtain ⟨now, what, name, en⟩ := e
          dsimp only at c0 c1 c2 c3 HRR HSt hba
          clear hprev he hr hB
          by_cases w0 : what = ⟨#[100, 111, 119, 110]⟩
          · have q0 : (what.toList == [100, 111, 119, 110]) = true := lit_yes w0
            have hph : phB what = 1 := by rw [w0]; decide +kernel
            rw [hph] at hba
            by_cases hu : 0 < σ
            · have r1 : decide (0 < σ) = true := decide_eq_true hu
              have hokk : okS 1 σ = false := by unfold okS; simp; omega
              rw [hokk, Bool.not_false] at hba
              have HR9 := Lib.hid (HY.out k hlt hba Hbad.out)
              obtain rfl : R = ((k : Nat) : Int) := HR9.out
              clear hokk hba hu hσ3 hph w0
              go_wp2_with (go_at_call 37; (with_reducible refine HSt.out.mono ?_); rintro rr w1 ⟨rfl, rfl⟩)
              have hcH := held_cell
              refine region_rel (by kernel_rfl) (by kernel_rfl) ?_
              repeat
                ((with_reducible refine relStep (fun K hK => ?_))
                 (have HK := Lib.hid hK)
                 clear hK
                 (apply relInl
                  · intro r n hf
                    have Hf := Lib.hid hf
                    clear hf
                    (first
                      | (fail)
                      | (unfold relAt
                         go_simp
                         (first | (refine relUpon_val ?_ (Below.refl _ _); exact rfl) | exact rfl | (refine relUpon_enter ?_; (go_at_call 15; (with_reducible refine (HRR.out _).mono ?_); rintro rr w1 ⟨rfl, hb⟩; exact ⟨⟨_, rfl, rfl⟩, hb⟩)))))
                  (simp only [Act.put, List.setIfInBounds_toArray, List.set_cons_zero, List.set_cons_succ])
                  (with_reducible refine HK.out _ _ ?_)
                  clear HK K))
              refine relNil ?_
              intro r5 n5 hx5
              clear hcH
              (try simp only [List.nil_append, List.cons_append, List.mem_cons, List.not_mem_nil, or_false, forall_eq_or_imp, forall_eq, false_implies, implies_true] at hx5)
              obtain ⟨w5, hb5⟩ := n5
              (try dsimp only)
              obtain ⟨hc5, hf5⟩ := bcell hb5
              have hz5 := hb5.size
              (try simp at hz5)
              go_wp2
              go_ret
              exact ⟨rfl, HB.out.trans (hb5.mono hws)⟩
            · have r1 : decide (0 < σ) = false := decide_eq_false hu
              have hokk : okS 1 σ = true := by unfold okS; simp; omega
              rw [hokk, Bool.not_true] at hba
              have Hb1 := Lib.hid (show ∀ j, j < k + 1 → badI l j = false from fun j hj => by
                rcases Nat.lt_succ_iff_lt_or_eq.1 hj with h | rfl
                · exact Hbad.out j h
                · exact hba)
              clear hokk hba hσ3 hph hu w0
              go_wp2_with (go_at_call 37; (with_reducible refine HSt.out.mono ?_); rintro rr w1 ⟨rfl, rfl⟩)
              have hcH := held_cell
              refine region_rel (by kernel_rfl) (by kernel_rfl) ?_
              repeat
                ((with_reducible refine relStep (fun K hK => ?_))
                 (have HK := Lib.hid hK)
                 clear hK
                 (apply relInl
                  · intro r n hf
                    have Hf := Lib.hid hf
                    clear hf
                    (first
                      | (fail)
                      | (unfold relAt
                         go_simp
                         (first | (refine relUpon_val ?_ (Below.refl _ _); exact rfl) | exact rfl | (refine relUpon_enter ?_; (go_at_call 15; (with_reducible refine (HRR.out _).mono ?_); rintro rr w1 ⟨rfl, hb⟩; exact ⟨⟨_, rfl, rfl⟩, hb⟩)))))
                  (simp only [Act.put, List.setIfInBounds_toArray, List.set_cons_zero, List.set_cons_succ])
                  (with_reducible refine HK.out _ _ ?_)
                  clear HK K))
              refine relNil ?_
              intro r5 n5 hx5
              clear hcH
              (try simp only [List.nil_append, List.cons_append, List.mem_cons, List.not_mem_nil, or_false, forall_eq_or_imp, forall_eq, false_implies, implies_true] at hx5)
              obtain ⟨w5, hb5⟩ := n5
              (try dsimp only)
              obtain ⟨hc5, hf5⟩ := bcell hb5
              have hz5 := hb5.size
              (try simp at hz5)
              go_wp2
              go_roundw
              case rel => exact ⟨k + 1, by omega, by go_num, Hb1.out, HB.out.trans (hb5.mono hws)⟩
              case measure => simp [intOf]; omega
          have q0 : (what.toList == [100, 111, 119, 110]) = false := lit_no w0
          by_cases w1 : what = ⟨#[100, 101, 108, 101, 116, 101]⟩
          · have q1 : (what.toList == [100, 101, 108, 101, 116, 101]) = true := lit_yes w1
            have hph : phB what = 2 := by rw [w1]; decide +kernel
            rw [hph] at hba
            by_cases hu : σ ≠ 1
            · have r1 : (σ != 1) = true := by rw [bne_dec]; exact decide_eq_true hu
              have hokk : okS 2 σ = false := by unfold okS; simp; omega
              rw [hokk, Bool.not_false] at hba
              have HR9 := Lib.hid (HY.out k hlt hba Hbad.out)
              obtain rfl : R = ((k : Nat) : Int) := HR9.out
              clear hokk hba hu hσ3 hph w0 w1
              go_wp2_with (go_at_call 37; (with_reducible refine HSt.out.mono ?_); rintro rr w1 ⟨rfl, rfl⟩)
              have hcH := held_cell
              refine region_rel (by kernel_rfl) (by kernel_rfl) ?_
              repeat
                ((with_reducible refine relStep (fun K hK => ?_))
                 (have HK := Lib.hid hK)
                 clear hK
                 (apply relInl
                  · intro r n hf
                    have Hf := Lib.hid hf
                    clear hf
                    (first
                      | (fail)
                      | (unfold relAt
                         go_simp
                         (first | (refine relUpon_val ?_ (Below.refl _ _); exact rfl) | exact rfl | (refine relUpon_enter ?_; (go_at_call 15; (with_reducible refine (HRR.out _).mono ?_); rintro rr w1 ⟨rfl, hb⟩; exact ⟨⟨_, rfl, rfl⟩, hb⟩)))))
                  (simp only [Act.put, List.setIfInBounds_toArray, List.set_cons_zero, List.set_cons_succ])
                  (with_reducible refine HK.out _ _ ?_)
                  clear HK K))
              refine relNil ?_
              intro r5 n5 hx5
              clear hcH
              (try simp only [List.nil_append, List.cons_append, List.mem_cons, List.not_mem_nil, or_false, forall_eq_or_imp, forall_eq, false_implies, implies_true] at hx5)
              obtain ⟨w5, hb5⟩ := n5
              (try dsimp only)
              obtain ⟨hc5, hf5⟩ := bcell hb5
              have hz5 := hb5.size
              (try simp at hz5)
              go_wp2
              go_ret
              exact ⟨rfl, HB.out.trans (hb5.mono hws)⟩
            · have r1 : (σ != 1) = false := by rw [bne_dec]; exact decide_eq_false hu
              have hokk : okS 2 σ = true := by unfold okS; simp; omega
              rw [hokk, Bool.not_true] at hba
              have Hb1 := Lib.hid (show ∀ j, j < k + 1 → badI l j = false from fun j hj => by
                rcases Nat.lt_succ_iff_lt_or_eq.1 hj with h | rfl
                · exact Hbad.out j h
                · exact hba)
              clear hokk hba hσ3 hph hu w0 w1
              go_wp2_with (go_at_call 37; (with_reducible refine HSt.out.mono ?_); rintro rr w1 ⟨rfl, rfl⟩)
              have hcH := held_cell
              refine region_rel (by kernel_rfl) (by kernel_rfl) ?_
              repeat
                ((with_reducible refine relStep (fun K hK => ?_))
                 (have HK := Lib.hid hK)
                 clear hK
                 (apply relInl
                  · intro r n hf
                    have Hf := Lib.hid hf
                    clear hf
                    (first
                      | (fail)
                      | (unfold relAt
                         go_simp
                         (first | (refine relUpon_val ?_ (Below.refl _ _); exact rfl) | exact rfl | (refine relUpon_enter ?_; (go_at_call 15; (with_reducible refine (HRR.out _).mono ?_); rintro rr w1 ⟨rfl, hb⟩; exact ⟨⟨_, rfl, rfl⟩, hb⟩)))))
                  (simp only [Act.put, List.setIfInBounds_toArray, List.set_cons_zero, List.set_cons_succ])
                  (with_reducible refine HK.out _ _ ?_)
                  clear HK K))
              refine relNil ?_
              intro r5 n5 hx5
              clear hcH
              (try simp only [List.nil_append, List.cons_append, List.mem_cons, List.not_mem_nil, or_false, forall_eq_or_imp, forall_eq, false_implies, implies_true] at hx5)
              obtain ⟨w5, hb5⟩ := n5
              (try dsimp only)
              obtain ⟨hc5, hf5⟩ := bcell hb5
              have hz5 := hb5.size
              (try simp at hz5)
              go_wp2
              go_roundw
              case rel => exact ⟨k + 1, by omega, by go_num, Hb1.out, HB.out.trans (hb5.mono hws)⟩
              case measure => simp [intOf]; omega
          have q1 : (what.toList == [100, 101, 108, 101, 116, 101]) = false := lit_no w1
          by_cases w2 : what = ⟨#[107, 101, 101, 112]⟩
          · have q2 : (what.toList == [107, 101, 101, 112]) = true := lit_yes w2
            have hph : phB what = 3 := by rw [w2]; decide +kernel
            rw [hph] at hba
            by_cases hu : σ = 0
            · have r1 : (σ == 0) = true := by rw [beq_dec]; exact decide_eq_true hu
              have hokk : okS 3 σ = false := by unfold okS; simp; omega
              rw [hokk, Bool.not_false] at hba
              have HR9 := Lib.hid (HY.out k hlt hba Hbad.out)
              obtain rfl : R = ((k : Nat) : Int) := HR9.out
              clear hokk hba hu hσ3 hph w0 w1 w2
              go_wp2_with (go_at_call 37; (with_reducible refine HSt.out.mono ?_); rintro rr w1 ⟨rfl, rfl⟩)
              have hcH := held_cell
              refine region_rel (by kernel_rfl) (by kernel_rfl) ?_
              repeat
                ((with_reducible refine relStep (fun K hK => ?_))
                 (have HK := Lib.hid hK)
                 clear hK
                 (apply relInl
                  · intro r n hf
                    have Hf := Lib.hid hf
                    clear hf
                    (first
                      | (fail)
                      | (unfold relAt
                         go_simp
                         (first | (refine relUpon_val ?_ (Below.refl _ _); exact rfl) | exact rfl | (refine relUpon_enter ?_; (go_at_call 15; (with_reducible refine (HRR.out _).mono ?_); rintro rr w1 ⟨rfl, hb⟩; exact ⟨⟨_, rfl, rfl⟩, hb⟩)))))
                  (simp only [Act.put, List.setIfInBounds_toArray, List.set_cons_zero, List.set_cons_succ])
                  (with_reducible refine HK.out _ _ ?_)
                  clear HK K))
              refine relNil ?_
              intro r5 n5 hx5
              clear hcH
              (try simp only [List.nil_append, List.cons_append, List.mem_cons, List.not_mem_nil, or_false, forall_eq_or_imp, forall_eq, false_implies, implies_true] at hx5)
              obtain ⟨w5, hb5⟩ := n5
              (try dsimp only)
              obtain ⟨hc5, hf5⟩ := bcell hb5
              have hz5 := hb5.size
              (try simp at hz5)
              go_wp2
              go_ret
              exact ⟨rfl, HB.out.trans (hb5.mono hws)⟩
            · have r1 : (σ == 0) = false := by rw [beq_dec]; exact decide_eq_false hu
              have hokk : okS 3 σ = true := by unfold okS; simp; omega
              rw [hokk, Bool.not_true] at hba
              have Hb1 := Lib.hid (show ∀ j, j < k + 1 → badI l j = false from fun j hj => by
                rcases Nat.lt_succ_iff_lt_or_eq.1 hj with h | rfl
                · exact Hbad.out j h
                · exact hba)
              clear hokk hba hσ3 hph hu w0 w1 w2
              go_wp2_with (go_at_call 37; (with_reducible refine HSt.out.mono ?_); rintro rr w1 ⟨rfl, rfl⟩)
              have hcH := held_cell
              refine region_rel (by kernel_rfl) (by kernel_rfl) ?_
              repeat
                ((with_reducible refine relStep (fun K hK => ?_))
                 (have HK := Lib.hid hK)
                 clear hK
                 (apply relInl
                  · intro r n hf
                    have Hf := Lib.hid hf
                    clear hf
                    (first
                      | (fail)
                      | (unfold relAt
                         go_simp
                         (first | (refine relUpon_val ?_ (Below.refl _ _); exact rfl) | exact rfl | (refine relUpon_enter ?_; (go_at_call 15; (with_reducible refine (HRR.out _).mono ?_); rintro rr w1 ⟨rfl, hb⟩; exact ⟨⟨_, rfl, rfl⟩, hb⟩)))))
                  (simp only [Act.put, List.setIfInBounds_toArray, List.set_cons_zero, List.set_cons_succ])
                  (with_reducible refine HK.out _ _ ?_)
                  clear HK K))
              refine relNil ?_
              intro r5 n5 hx5
              clear hcH
              (try simp only [List.nil_append, List.cons_append, List.mem_cons, List.not_mem_nil, or_false, forall_eq_or_imp, forall_eq, false_implies, implies_true] at hx5)
              obtain ⟨w5, hb5⟩ := n5
              (try dsimp only)
              obtain ⟨hc5, hf5⟩ := bcell hb5
              have hz5 := hb5.size
              (try simp at hz5)
              go_wp2
              go_roundw
              case rel => exact ⟨k + 1, by omega, by go_num, Hb1.out, HB.out.trans (hb5.mono hws)⟩
              case measure => simp [intOf]; omega
          have q2 : (what.toList == [107, 101, 101, 112]) = false := lit_no w2
          by_cases w3 : what = ⟨#[115, 116, 111, 112]⟩
          · have q3 : (what.toList == [115, 116, 111, 112]) = true := lit_yes w3
            have hph : phB what = 3 := by rw [w3]; decide +kernel
            rw [hph] at hba
            by_cases hu : σ = 0
            · have r1 : (σ == 0) = true := by rw [beq_dec]; exact decide_eq_true hu
              have hokk : okS 3 σ = false := by unfold okS; simp; omega
              rw [hokk, Bool.not_false] at hba
              have HR9 := Lib.hid (HY.out k hlt hba Hbad.out)
              obtain rfl : R = ((k : Nat) : Int) := HR9.out
              clear hokk hba hu hσ3 hph w0 w1 w2 w3
              go_wp2_with (go_at_call 37; (with_reducible refine HSt.out.mono ?_); rintro rr w1 ⟨rfl, rfl⟩)
              have hcH := held_cell
              refine region_rel (by kernel_rfl) (by kernel_rfl) ?_
              repeat
                ((with_reducible refine relStep (fun K hK => ?_))
                 (have HK := Lib.hid hK)
                 clear hK
                 (apply relInl
                  · intro r n hf
                    have Hf := Lib.hid hf
                    clear hf
                    (first
                      | (fail)
                      | (unfold relAt
                         go_simp
                         (first | (refine relUpon_val ?_ (Below.refl _ _); exact rfl) | exact rfl | (refine relUpon_enter ?_; (go_at_call 15; (with_reducible refine (HRR.out _).mono ?_); rintro rr w1 ⟨rfl, hb⟩; exact ⟨⟨_, rfl, rfl⟩, hb⟩)))))
                  (simp only [Act.put, List.setIfInBounds_toArray, List.set_cons_zero, List.set_cons_succ])
                  (with_reducible refine HK.out _ _ ?_)
                  clear HK K))
              refine relNil ?_
              intro r5 n5 hx5
              clear hcH
              (try simp only [List.nil_append, List.cons_append, List.mem_cons, List.not_mem_nil, or_false, forall_eq_or_imp, forall_eq, false_implies, implies_true] at hx5)
              obtain ⟨w5, hb5⟩ := n5
              (try dsimp only)
              obtain ⟨hc5, hf5⟩ := bcell hb5
              have hz5 := hb5.size
              (try simp at hz5)
              go_wp2
              go_ret
              exact ⟨rfl, HB.out.trans (hb5.mono hws)⟩
            · have r1 : (σ == 0) = false := by rw [beq_dec]; exact decide_eq_false hu
              have hokk : okS 3 σ = true := by unfold okS; simp; omega
              rw [hokk, Bool.not_true] at hba
              have Hb1 := Lib.hid (show ∀ j, j < k + 1 → badI l j = false from fun j hj => by
                rcases Nat.lt_succ_iff_lt_or_eq.1 hj with h | rfl
                · exact Hbad.out j h
                · exact hba)
              clear hokk hba hσ3 hph hu w0 w1 w2 w3
              go_wp2_with (go_at_call 37; (with_reducible refine HSt.out.mono ?_); rintro rr w1 ⟨rfl, rfl⟩)
              have hcH := held_cell
              refine region_rel (by kernel_rfl) (by kernel_rfl) ?_
              repeat
                ((with_reducible refine relStep (fun K hK => ?_))
                 (have HK := Lib.hid hK)
                 clear hK
                 (apply relInl
                  · intro r n hf
                    have Hf := Lib.hid hf
                    clear hf
                    (first
                      | (fail)
                      | (unfold relAt
                         go_simp
                         (first | (refine relUpon_val ?_ (Below.refl _ _); exact rfl) | exact rfl | (refine relUpon_enter ?_; (go_at_call 15; (with_reducible refine (HRR.out _).mono ?_); rintro rr w1 ⟨rfl, hb⟩; exact ⟨⟨_, rfl, rfl⟩, hb⟩)))))
                  (simp only [Act.put, List.setIfInBounds_toArray, List.set_cons_zero, List.set_cons_succ])
                  (with_reducible refine HK.out _ _ ?_)
                  clear HK K))
              refine relNil ?_
              intro r5 n5 hx5
              clear hcH
              (try simp only [List.nil_append, List.cons_append, List.mem_cons, List.not_mem_nil, or_false, forall_eq_or_imp, forall_eq, false_implies, implies_true] at hx5)
              obtain ⟨w5, hb5⟩ := n5
              (try dsimp only)
              obtain ⟨hc5, hf5⟩ := bcell hb5
              have hz5 := hb5.size
              (try simp at hz5)
              go_wp2
              go_roundw
              case rel => exact ⟨k + 1, by omega, by go_num, Hb1.out, HB.out.trans (hb5.mono hws)⟩
              case measure => simp [intOf]; omega
          have q3 : (what.toList == [115, 116, 111, 112]) = false := lit_no w3
          by_cases w4 : what = ⟨#[103, 111, 110, 101]⟩
          · have q4 : (what.toList == [103, 111, 110, 101]) = true := lit_yes w4
            have hph : phB what = 3 := by rw [w4]; decide +kernel
            rw [hph] at hba
            by_cases hu : σ = 0
            · have r1 : (σ == 0) = true := by rw [beq_dec]; exact decide_eq_true hu
              have hokk : okS 3 σ = false := by unfold okS; simp; omega
              rw [hokk, Bool.not_false] at hba
              have HR9 := Lib.hid (HY.out k hlt hba Hbad.out)
              obtain rfl : R = ((k : Nat) : Int) := HR9.out
              clear hokk hba hu hσ3 hph w0 w1 w2 w3 w4
              go_wp2_with (go_at_call 37; (with_reducible refine HSt.out.mono ?_); rintro rr w1 ⟨rfl, rfl⟩)
              have hcH := held_cell
              refine region_rel (by kernel_rfl) (by kernel_rfl) ?_
              repeat
                ((with_reducible refine relStep (fun K hK => ?_))
                 (have HK := Lib.hid hK)
                 clear hK
                 (apply relInl
                  · intro r n hf
                    have Hf := Lib.hid hf
                    clear hf
                    (first
                      | (fail)
                      | (unfold relAt
                         go_simp
                         (first | (refine relUpon_val ?_ (Below.refl _ _); exact rfl) | exact rfl | (refine relUpon_enter ?_; (go_at_call 15; (with_reducible refine (HRR.out _).mono ?_); rintro rr w1 ⟨rfl, hb⟩; exact ⟨⟨_, rfl, rfl⟩, hb⟩)))))
                  (simp only [Act.put, List.setIfInBounds_toArray, List.set_cons_zero, List.set_cons_succ])
                  (with_reducible refine HK.out _ _ ?_)
                  clear HK K))
              refine relNil ?_
              intro r5 n5 hx5
              clear hcH
              (try simp only [List.nil_append, List.cons_append, List.mem_cons, List.not_mem_nil, or_false, forall_eq_or_imp, forall_eq, false_implies, implies_true] at hx5)
              obtain ⟨w5, hb5⟩ := n5
              (try dsimp only)
              obtain ⟨hc5, hf5⟩ := bcell hb5
              have hz5 := hb5.size
              (try simp at hz5)
              go_wp2
              go_ret
              exact ⟨rfl, HB.out.trans (hb5.mono hws)⟩
            · have r1 : (σ == 0) = false := by rw [beq_dec]; exact decide_eq_false hu
              have hokk : okS 3 σ = true := by unfold okS; simp; omega
              rw [hokk, Bool.not_true] at hba
              have Hb1 := Lib.hid (show ∀ j, j < k + 1 → badI l j = false from fun j hj => by
                rcases Nat.lt_succ_iff_lt_or_eq.1 hj with h | rfl
                · exact Hbad.out j h
                · exact hba)
              clear hokk hba hσ3 hph hu w0 w1 w2 w3 w4
              go_wp2_with (go_at_call 37; (with_reducible refine HSt.out.mono ?_); rintro rr w1 ⟨rfl, rfl⟩)
              have hcH := held_cell
              refine region_rel (by kernel_rfl) (by kernel_rfl) ?_
              repeat
                ((with_reducible refine relStep (fun K hK => ?_))
                 (have HK := Lib.hid hK)
                 clear hK
                 (apply relInl
                  · intro r n hf
                    have Hf := Lib.hid hf
                    clear hf
                    (first
                      | (fail)
                      | (unfold relAt
                         go_simp
                         (first | (refine relUpon_val ?_ (Below.refl _ _); exact rfl) | exact rfl | (refine relUpon_enter ?_; (go_at_call 15; (with_reducible refine (HRR.out _).mono ?_); rintro rr w1 ⟨rfl, hb⟩; exact ⟨⟨_, rfl, rfl⟩, hb⟩)))))
                  (simp only [Act.put, List.setIfInBounds_toArray, List.set_cons_zero, List.set_cons_succ])
                  (with_reducible refine HK.out _ _ ?_)
                  clear HK K))
              refine relNil ?_
              intro r5 n5 hx5
              clear hcH
              (try simp only [List.nil_append, List.cons_append, List.mem_cons, List.not_mem_nil, or_false, forall_eq_or_imp, forall_eq, false_implies, implies_true] at hx5)
              obtain ⟨w5, hb5⟩ := n5
              (try dsimp only)
              obtain ⟨hc5, hf5⟩ := bcell hb5
              have hz5 := hb5.size
              (try simp at hz5)
              go_wp2
              go_roundw
              case rel => exact ⟨k + 1, by omega, by go_num, Hb1.out, HB.out.trans (hb5.mono hws)⟩
              case measure => simp [intOf]; omega
          have q4 : (what.toList == [103, 111, 110, 101]) = false := lit_no w4
          have hph : phB what = 0 := by unfold phB inB G6 G7 G8; simp [w0, w1, w2, w3, w4]
          rw [hph] at hba
          have hokk : okS 0 σ = true := rfl
          rw [hokk, Bool.not_true] at hba
          have Hb1 := Lib.hid (show ∀ j, j < k + 1 → badI l j = false from fun j hj => by
            rcases Nat.lt_succ_iff_lt_or_eq.1 hj with h | rfl
            · exact Hbad.out j h
            · exact hba)
          clear hokk hba hσ3 hph w0 w1 w2 w3 w4
          go_wp2_with (go_at_call 37; (with_reducible refine HSt.out.mono ?_); rintro rr w1 ⟨rfl, rfl⟩)
          have hcH := held_cell
          refine region_rel (by kernel_rfl) (by kernel_rfl) ?_
          repeat
            ((with_reducible refine relStep (fun K hK => ?_))
             (have HK := Lib.hid hK)
             clear hK
             (apply relInl
              · intro r n hf
                have Hf := Lib.hid hf
                clear hf
                (first
                  | (fail)
                  | (unfold relAt
                     go_simp
                     (first | (refine relUpon_val ?_ (Below.refl _ _); exact rfl) | exact rfl | (refine relUpon_enter ?_; (go_at_call 15; (with_reducible refine (HRR.out _).mono ?_); rintro rr w1 ⟨rfl, hb⟩; exact ⟨⟨_, rfl, rfl⟩, hb⟩)))))
              (simp only [Act.put, List.setIfInBounds_toArray, List.set_cons_zero, List.set_cons_succ])
              (with_reducible refine HK.out _ _ ?_)
              clear HK K))
          refine relNil ?_
          intro r5 n5 hx5
          clear hcH
          (try simp only [List.nil_append, List.cons_append, List.mem_cons, List.not_mem_nil, or_false, forall_eq_or_imp, forall_eq, false_implies, implies_true] at hx5)
          obtain ⟨w5, hb5⟩ := n5
          (try dsimp only)
          obtain ⟨hc5, hf5⟩ := bcell hb5
          have hz5 := hb5.size
          (try simp at hz5)
          go_wp2
          go_roundw
          case rel => exact ⟨k + 1, by omega, by go_num, Hb1.out, HB.out.trans (hb5.mono hws)⟩
          case measure => simp [intOf]; omega
    · obtain rfl : k = n := by omega
      obtain rfl : R = -1 := HO.out Hbad.out
      go_wp2
      go_ret
      exact ⟨rfl, HB.out⟩
end Go.Proofs.YtaehcnoendieaaaDoor
