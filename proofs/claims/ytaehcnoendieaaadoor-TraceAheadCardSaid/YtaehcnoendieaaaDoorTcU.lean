/-
  The program's Check.
-/
import Derived.Test.YtaehcnoendieaaaDoorTcT
namespace Go.Proofs.YtaehcnoendieaaaDoor
open Go.RowKit
set_option linter.unusedVariables false
set_option linter.unusedSimpArgs false

theorem law_str : Go.Maps.Keyed Tryd.prog 9 := Go.Maps.string_keyed Tryd.underlying9
theorem zero_pr (w : World) : (zeroValue 68).run Tryd.prog w = .ok (.int .i64 0) w := Tryd.zeroValue68 w
/-- The map holds what became of each name. -/
def StM (F : ByteArray → Option Value) (l : List Ev) : Prop := ∀ s, (F s).getD (.int .i64 0) = .int .i64 (stateB l s)
theorem StM.step {F : ByteArray → Option Value} {l : List Ev} {k : Nat} {e : Ev} (h : StM F (l.take k)) (he : l[k]? = some e) : StM (updF F e.name (some (.int .i64 (nextS (phB e.what) (stateB (l.take k) e.name))))) (l.take (k + 1)) := by
  intro s
  rw [state_take he]
  unfold stF
  by_cases hs : s = e.name
  · subst hs
    rw [updF_same, if_pos rfl]
    rfl
  · rw [updF_other hs, if_neg (fun x => hs x.symm)]
    exact h s
set_option maxRecDepth 100000 in
set_option maxHeartbeats 8000000 in
theorem check_any (l : List Ev) (a : Option Addr) (c : Nat) (w : World) (hF : EvL w a l) (hl : l.length ≤ 200) :
    Calls Tryd.prog 20 #[.slice a l.length c] w fun r w' => r = .returned (.int .i64 (checkB l)) ∧ Below w.heap.size w w' := by
  obtain ⟨n, hn⟩ : ∃ n, l.length = n := ⟨_, rfl⟩
  have HN := Lib.hid hn
  have HF := Lib.hid hF
  obtain ⟨R, hR⟩ : ∃ R, checkB l = R := ⟨_, rfl⟩
  have HY := Lib.hid (fun (i : Nat) (hi : i < n) (hb : badI l i = true) (hp : ∀ j, j < i → badI l j = false) => (hR.symm.trans (check_yes (by omega) hb hp)))
  have HO := Lib.hid (fun (hp : ∀ j, j < n → badI l j = false) => (hR.symm.trans (check_no (fun j hj => hp j (by omega)))))
  rw [hR]
  rw [hn] at hl ⊢
  clear hn hF hR
  have hmm := @run_makeMap Tryd.prog
  go_enter Tryd.func20, Tryd.ntmps20
  go_wp2
  clear hmm
  have HM0 := Lib.hid (MapIs.made w Tryd.prog 9)
  have HB0 := Lib.hid ((Below.refl w.heap.size w).alloc (Nat.le_refl _) (.map #[] 0))
  obtain ⟨X, hX⟩ : ∃ X, w.heap.size = X := ⟨_, rfl⟩
  rw [hX] at HM0 HB0 ⊢
  go_loopw [11] (fun vi wr => ∃ (k : Nat) (F : ByteArray → Option Value), k ≤ n ∧ vi = .int .i64 k ∧ MapIs Tryd.prog 9 wr X k F ∧ StM F (l.take k) ∧ (∀ j, j < k → badI l j = false) ∧ Below X w wr) (fun vi _ => n - (intOf vi).toNat)
  case atStart => exact ⟨0, _, Nat.zero_le _, rfl, HM0.out, fun s => rfl, fun j hj => absurd hj (by omega), HB0.out⟩
  case round =>
    clear HM0 HB0
    obtain ⟨k, F, hk, rfl, hM, hS, hbad, hB⟩ := hrel
    have HM := Lib.hid hM
    have HS := Lib.hid hS
    have Hbad := Lib.hid hbad
    have HB := Lib.hid hB
    have HBw := Lib.hid (show Below w.heap.size w wr by rw [hX]; exact hB)
    have hXw : X < wr.heap.size := hM.lt
    have hws : w.heap.size ≤ wr.heap.size := HBw.out.size
    clear hM hS hbad hB
    by_cases hlt : k < n
    · obtain ⟨e, he⟩ := mem_at (l := l) (k := k) (by rw [HN.out]; exact hlt)
      have hba := bad_at he
      have Hstep := Lib.hid (HS.out.step he)
      have Hget := Lib.hid (HS.out e.name)
      have hpv : ∃ pv, (l.getD (k - 1) zeroE).now = pv := ⟨_, rfl⟩
      obtain ⟨pv, hpv⟩ := hpv
      rw [hpv] at hba
      obtain ⟨b, o, rfl, hb, hcc⟩ := (HF.out.mono HBw.out) (by rw [HN.out]; omega)
      obtain ⟨c0, c1, c2, c3⟩ := ev_cells (hcc k e he)
      have hprev : 0 < k → wr.cell? ⟨b, o + (k - 1) * 4, none⟩ = some (.int .i64 pv) := fun h0 => by
        obtain ⟨y, hy⟩ := mem_at (l := l) (k := k - 1) (by rw [HN.out]; omega)
        have h2 := hcc (k - 1) y hy 0 (by decide)
        rw [Nat.add_zero] at h2
        rw [h2, ← hpv]
        rw [List.getD_eq_getElem?_getD, hy]
        rfl
      have HRR := Lib.hid (fun w : World => right_any e w)
      have HAf := Lib.hid (fun w : World => after_any (stateB (l.take k) e.name) e w)
      cases hr : rightE e
      · rw [hr] at HRR
        have HR9 := Lib.hid (HY.out k hlt (by rw [hba, hr]; rfl) Hbad.out)
        obtain rfl : R = ((k : Nat) : Int) := HR9.out
        obtain ⟨now, what, name, en⟩ := e
        dsimp only at c0 c1 c2 c3 HRR
        clear hcc he hprev hba hpv hr HAf Hget Hstep
        go_wp2
        have hcH := held_cell
        refine region_rel (by kernel_rfl) (by kernel_rfl) ?_
        repeat
          ((with_reducible refine relStep (fun K hK => ?_))
           (have HK := Lib.hid hK)
           clear hK
           (apply relInl
            · intro r n hf
              have Hf := Lib.hid hf
              clear hf
              (first
                | (fail)
                | (unfold relAt
                   go_simp
                   (first | (refine relUpon_val ?_ (Below.refl _ _); exact rfl) | exact rfl | (refine relUpon_enter ?_; (go_at_call 14; (with_reducible refine (HRR.out _).mono ?_); rintro rr w1 ⟨rfl, hb⟩; exact ⟨⟨_, rfl, rfl⟩, hb⟩)))))
            (simp only [Act.put, List.setIfInBounds_toArray, List.set_cons_zero, List.set_cons_succ])
            (with_reducible refine HK.out _ _ ?_)
            clear HK K))
        refine relNil ?_
        intro r5 n5 hx5
        clear hcH
        (try simp only [List.nil_append, List.cons_append, List.mem_cons, List.not_mem_nil, or_false, forall_eq_or_imp, forall_eq, false_implies, implies_true] at hx5)
        obtain ⟨w5, hb5⟩ := n5
        (try dsimp only)
        obtain ⟨hc5, hf5⟩ := bcell hb5
        have hz5 := hb5.size
        (try simp at hz5)
        go_wp2
        go_ret
        exact ⟨rfl, by rw [hX]; exact (HB.out.alloc (Nat.le_of_lt hXw) _).trans (hb5.mono (by simp; omega))⟩
      · rw [hr] at HRR
        have hri := right_is hr
        have hns : e.name.size ≤ maxLen := by have := hri.sz; unfold maxLen; omega
        rw [hr, Bool.not_true, Bool.false_or] at hba
        by_cases hk0 : 0 < k
        · have e0 : decide (0 < (k : Int)) = true := decide_eq_true (by omega)
          have hwk : IntKind.i64.wrap ((k : Int) - 1) = ((k - 1 : Nat) : Int) := by rw [wrap_in (by omega) (by omega)]; omega
          have d0 := hprev hk0
          have hk1 : k - 1 < n := by omega
          rw [decide_eq_true hk0, Bool.true_and] at hba
          by_cases hnow : e.now < pv
          · have e1 : decide (e.now < pv) = true := decide_eq_true hnow
            have HR9 := Lib.hid (HY.out k hlt (by rw [hba, e1]; rfl) Hbad.out)
            obtain rfl : R = ((k : Nat) : Int) := HR9.out
            obtain ⟨now, what, name, en⟩ := e
            dsimp only at c0 c1 c2 c3 HRR e1
            clear hcc he hprev hba hpv hr HAf Hget Hstep hnow hri hns
            go_wp2
            have hcH := held_cell
            refine region_rel (by kernel_rfl) (by kernel_rfl) ?_
            repeat
              ((with_reducible refine relStep (fun K hK => ?_))
               (have HK := Lib.hid hK)
               clear hK
               (apply relInl
                · intro r n hf
                  have Hf := Lib.hid hf
                  clear hf
                  (first
                    | (fail)
                    | (unfold relAt
                       go_simp
                       (first | (refine relUpon_val ?_ (Below.refl _ _); exact rfl) | exact rfl | (refine relUpon_enter ?_; (go_at_call 14; (with_reducible refine (HRR.out _).mono ?_); rintro rr w1 ⟨rfl, hb⟩; exact ⟨⟨_, rfl, rfl⟩, hb⟩)))))
                (simp only [Act.put, List.setIfInBounds_toArray, List.set_cons_zero, List.set_cons_succ])
                (with_reducible refine HK.out _ _ ?_)
                clear HK K))
            refine relNil ?_
            intro r5 n5 hx5
            clear hcH
            (try simp only [List.nil_append, List.cons_append, List.mem_cons, List.not_mem_nil, or_false, forall_eq_or_imp, forall_eq, false_implies, implies_true] at hx5)
            obtain ⟨w5, hb5⟩ := n5
            (try dsimp only)
            obtain ⟨hc5, hf5⟩ := bcell hb5
            have hz5 := hb5.size
            (try simp at hz5)
            go_wp2
            go_ret
            exact ⟨rfl, by rw [hX]; exact (HB.out.alloc (Nat.le_of_lt hXw) _).trans (hb5.mono (by simp; omega))⟩
          · have e1 : decide (e.now < pv) = false := decide_eq_false hnow
            rw [e1, Bool.false_or] at hba
            clear hcc hprev hpv hr hnow hri
            cases hok : okS (phB e.what) (stateB (l.take k) e.name)
            · rw [hok] at HAf
              have HR9 := Lib.hid (HY.out k hlt (by rw [hba, hok]; rfl) Hbad.out)
              obtain rfl : R = ((k : Nat) : Int) := HR9.out
              obtain ⟨now, what, name, en⟩ := e
              dsimp only at c0 c1 c2 c3 HRR HAf Hget hns
              (try dsimp only at e1)
              obtain ⟨σ, hσ⟩ : ∃ σ, stateB (l.take k) name = σ := ⟨_, rfl⟩
              rw [hσ] at HAf Hget
              clear he hba hok Hstep hσ
              go_wp2
              have hcH := held_cell
              refine region_rel (by kernel_rfl) (by kernel_rfl) ?_
              repeat
                ((with_reducible refine relStep (fun K hK => ?_))
                 (have HK := Lib.hid hK)
                 clear hK
                 (apply relInl
                  · intro r n hf
                    have Hf := Lib.hid hf
                    clear hf
                    (first
                      | (fail)
                      | (unfold relAt
                         go_simp
                         (first | (refine relUpon_val ?_ (Below.refl _ _); exact rfl) | exact rfl | (refine relUpon_enter ?_; (go_at_call 14; (with_reducible refine (HRR.out _).mono ?_); rintro rr w1 ⟨rfl, hb⟩; exact ⟨⟨_, rfl, rfl⟩, hb⟩)))))
                  (simp only [Act.put, List.setIfInBounds_toArray, List.set_cons_zero, List.set_cons_succ])
                  (with_reducible refine HK.out _ _ ?_)
                  clear HK K))
              refine relNil ?_
              intro r5 n5 hx5
              clear hcH
              (try simp only [List.nil_append, List.cons_append, List.mem_cons, List.not_mem_nil, or_false, forall_eq_or_imp, forall_eq, false_implies, implies_true] at hx5)
              obtain ⟨w5, hb5⟩ := n5
              (try dsimp only)
              obtain ⟨hc5, hf5⟩ := bcell hb5
              have hz5 := hb5.size
              (try simp at hz5)
              have hx5 : wr.heap.size < w5.heap.size := by omega
              have hq5 : w5.cell? ⟨wr.heap.size, 2, none⟩ = some (.string name) := by rw [hc5 _ _ (by simp), World.cell?_alloc_at _ _ _ _ rfl]; rfl
              have HM5 := Lib.hid ((HM.out.below ((Below.refl _ _).alloc (Nat.le_refl _) _)).below hb5)
              have HB5 := Lib.hid ((HB.out.alloc (Nat.le_of_lt hXw) _).trans (hb5.mono (by simp; omega)))
              clear hb5
              go_wp2_with (first
                | (at_lookup; refine at_look rfl _ _ 67 9 68 rfl law_str Tryd.underlying67 Tryd.underlying9 _ (zero_pr _) HM5.out rfl _ rfl hns ?_; rw [Hget.out])
                | (go_at_call 36; (with_reducible refine (HAf.out _).mono ?_); rintro rr w6 ⟨rfl, hb6⟩; have HB6 := Lib.hid (HB5.out.trans (hb6.mono (by omega))); clear hb6))
              go_ret
              exact ⟨rfl, by rw [hX]; exact HB6.out⟩
            · rw [hok] at HAf
              have Hb1 := Lib.hid (show ∀ j, j < k + 1 → badI l j = false from fun j hj => by
                rcases Nat.lt_succ_iff_lt_or_eq.1 hj with h | rfl
                · exact Hbad.out j h
                · rw [hba, hok]; rfl)
              obtain ⟨now, what, name, en⟩ := e
              dsimp only at c0 c1 c2 c3 HRR HAf Hget hns Hstep
              (try dsimp only at e1)
              obtain ⟨σ, hσ⟩ : ∃ σ, stateB (l.take k) name = σ := ⟨_, rfl⟩
              obtain ⟨τ, hτ⟩ : ∃ τ, nextS (phB what) σ = τ := ⟨_, rfl⟩
              rw [hσ] at HAf Hget Hstep
              rw [hτ] at HAf Hstep
              clear he hba hok hσ hτ
              go_wp2
              have hcH := held_cell
              refine region_rel (by kernel_rfl) (by kernel_rfl) ?_
              repeat
                ((with_reducible refine relStep (fun K hK => ?_))
                 (have HK := Lib.hid hK)
                 clear hK
                 (apply relInl
                  · intro r n hf
                    have Hf := Lib.hid hf
                    clear hf
                    (first
                      | (fail)
                      | (unfold relAt
                         go_simp
                         (first | (refine relUpon_val ?_ (Below.refl _ _); exact rfl) | exact rfl | (refine relUpon_enter ?_; (go_at_call 14; (with_reducible refine (HRR.out _).mono ?_); rintro rr w1 ⟨rfl, hb⟩; exact ⟨⟨_, rfl, rfl⟩, hb⟩)))))
                  (simp only [Act.put, List.setIfInBounds_toArray, List.set_cons_zero, List.set_cons_succ])
                  (with_reducible refine HK.out _ _ ?_)
                  clear HK K))
              refine relNil ?_
              intro r5 n5 hx5
              clear hcH
              (try simp only [List.nil_append, List.cons_append, List.mem_cons, List.not_mem_nil, or_false, forall_eq_or_imp, forall_eq, false_implies, implies_true] at hx5)
              obtain ⟨w5, hb5⟩ := n5
              (try dsimp only)
              obtain ⟨hc5, hf5⟩ := bcell hb5
              have hz5 := hb5.size
              (try simp at hz5)
              have hx5 : wr.heap.size < w5.heap.size := by omega
              have hq5 : w5.cell? ⟨wr.heap.size, 2, none⟩ = some (.string name) := by rw [hc5 _ _ (by simp), World.cell?_alloc_at _ _ _ _ rfl]; rfl
              have HM5 := Lib.hid ((HM.out.below ((Below.refl _ _).alloc (Nat.le_refl _) _)).below hb5)
              have HB5 := Lib.hid ((HB.out.alloc (Nat.le_of_lt hXw) _).trans (hb5.mono (by simp; omega)))
              go_wp2_with (first
                | (at_lookup; refine at_look rfl _ _ 67 9 68 rfl law_str Tryd.underlying67 Tryd.underlying9 _ (zero_pr _) HM5.out rfl _ rfl hns ?_; rw [Hget.out])
                | (go_at_call 36; (with_reducible refine (HAf.out _).mono ?_); rintro rr w6 ⟨rfl, hb6⟩; obtain ⟨hc6, hf6⟩ := bcell hb6; have hz6 := hb6.size; have hx6 : wr.heap.size < w6.heap.size := (by omega); have hq6 : w6.cell? ⟨wr.heap.size, 2, none⟩ = some (.string name) := ((hc6 _ _ hx5).trans hq5); have HM6 := Lib.hid (HM5.out.below hb6); have HB6 := Lib.hid (HB5.out.trans (hb6.mono (by omega))); clear hb6)
                | (at_mapUpdate; refine at_put rfl _ _ _ 67 9 68 rfl law_str Tryd.underlying67 Tryd.underlying9 HM6.out (by unfold maxLen; omega) rfl _ rfl hns (.int .i64 τ) (by rfl) ?_; intro w7 hm7 hg7; have HM7 := Lib.hid hm7; have HG7 := Lib.hid (HB6.out.grown hg7 (by omega) (fun q hq => (by obtain rfl := Option.some.inj hq; exact Nat.le_refl _))); clear hm7 hg7))
              go_roundw
              case rel => exact ⟨k + 1, _, by omega, by go_num, HM7.out, Hstep.out, Hb1.out, HG7.out⟩
              case measure => simp [intOf]; omega
        · have hk00 : k = 0 := by omega
          have e0 : decide (0 < (k : Int)) = false := decide_eq_false (by omega)
          rw [decide_eq_false hk0, Bool.false_and, Bool.false_or] at hba
          clear hcc hprev hpv hr hri hk00
          cases hok : okS (phB e.what) (stateB (l.take k) e.name)
          · rw [hok] at HAf
            have HR9 := Lib.hid (HY.out k hlt (by rw [hba, hok]; rfl) Hbad.out)
            obtain rfl : R = ((k : Nat) : Int) := HR9.out
            obtain ⟨now, what, name, en⟩ := e
            dsimp only at c0 c1 c2 c3 HRR HAf Hget hns
            (try dsimp only at e1)
            obtain ⟨σ, hσ⟩ : ∃ σ, stateB (l.take k) name = σ := ⟨_, rfl⟩
            rw [hσ] at HAf Hget
            clear he hba hok Hstep hσ
            go_wp2
            have hcH := held_cell
            refine region_rel (by kernel_rfl) (by kernel_rfl) ?_
            repeat
              ((with_reducible refine relStep (fun K hK => ?_))
               (have HK := Lib.hid hK)
               clear hK
               (apply relInl
                · intro r n hf
                  have Hf := Lib.hid hf
                  clear hf
                  (first
                    | (fail)
                    | (unfold relAt
                       go_simp
                       (first | (refine relUpon_val ?_ (Below.refl _ _); exact rfl) | exact rfl | (refine relUpon_enter ?_; (go_at_call 14; (with_reducible refine (HRR.out _).mono ?_); rintro rr w1 ⟨rfl, hb⟩; exact ⟨⟨_, rfl, rfl⟩, hb⟩)))))
                (simp only [Act.put, List.setIfInBounds_toArray, List.set_cons_zero, List.set_cons_succ])
                (with_reducible refine HK.out _ _ ?_)
                clear HK K))
            refine relNil ?_
            intro r5 n5 hx5
            clear hcH
            (try simp only [List.nil_append, List.cons_append, List.mem_cons, List.not_mem_nil, or_false, forall_eq_or_imp, forall_eq, false_implies, implies_true] at hx5)
            obtain ⟨w5, hb5⟩ := n5
            (try dsimp only)
            obtain ⟨hc5, hf5⟩ := bcell hb5
            have hz5 := hb5.size
            (try simp at hz5)
            have hx5 : wr.heap.size < w5.heap.size := by omega
            have hq5 : w5.cell? ⟨wr.heap.size, 2, none⟩ = some (.string name) := by rw [hc5 _ _ (by simp), World.cell?_alloc_at _ _ _ _ rfl]; rfl
            have HM5 := Lib.hid ((HM.out.below ((Below.refl _ _).alloc (Nat.le_refl _) _)).below hb5)
            have HB5 := Lib.hid ((HB.out.alloc (Nat.le_of_lt hXw) _).trans (hb5.mono (by simp; omega)))
            clear hb5
            go_wp2_with (first
              | (at_lookup; refine at_look rfl _ _ 67 9 68 rfl law_str Tryd.underlying67 Tryd.underlying9 _ (zero_pr _) HM5.out rfl _ rfl hns ?_; rw [Hget.out])
              | (go_at_call 36; (with_reducible refine (HAf.out _).mono ?_); rintro rr w6 ⟨rfl, hb6⟩; have HB6 := Lib.hid (HB5.out.trans (hb6.mono (by omega))); clear hb6))
            go_ret
            exact ⟨rfl, by rw [hX]; exact HB6.out⟩
          · rw [hok] at HAf
            have Hb1 := Lib.hid (show ∀ j, j < k + 1 → badI l j = false from fun j hj => by
              rcases Nat.lt_succ_iff_lt_or_eq.1 hj with h | rfl
              · exact Hbad.out j h
              · rw [hba, hok]; rfl)
            obtain ⟨now, what, name, en⟩ := e
            dsimp only at c0 c1 c2 c3 HRR HAf Hget hns Hstep
            (try dsimp only at e1)
            obtain ⟨σ, hσ⟩ : ∃ σ, stateB (l.take k) name = σ := ⟨_, rfl⟩
            obtain ⟨τ, hτ⟩ : ∃ τ, nextS (phB what) σ = τ := ⟨_, rfl⟩
            rw [hσ] at HAf Hget Hstep
            rw [hτ] at HAf Hstep
            clear he hba hok hσ hτ
            go_wp2
            have hcH := held_cell
            refine region_rel (by kernel_rfl) (by kernel_rfl) ?_
            repeat
              ((with_reducible refine relStep (fun K hK => ?_))
               (have HK := Lib.hid hK)
               clear hK
               (apply relInl
                · intro r n hf
                  have Hf := Lib.hid hf
                  clear hf
                  (first
                    | (fail)
                    | (unfold relAt
                       go_simp
                       (first | (refine relUpon_val ?_ (Below.refl _ _); exact rfl) | exact rfl | (refine relUpon_enter ?_; (go_at_call 14; (with_reducible refine (HRR.out _).mono ?_); rintro rr w1 ⟨rfl, hb⟩; exact ⟨⟨_, rfl, rfl⟩, hb⟩)))))
                (simp only [Act.put, List.setIfInBounds_toArray, List.set_cons_zero, List.set_cons_succ])
                (with_reducible refine HK.out _ _ ?_)
                clear HK K))
            refine relNil ?_
            intro r5 n5 hx5
            clear hcH
            (try simp only [List.nil_append, List.cons_append, List.mem_cons, List.not_mem_nil, or_false, forall_eq_or_imp, forall_eq, false_implies, implies_true] at hx5)
            obtain ⟨w5, hb5⟩ := n5
            (try dsimp only)
            obtain ⟨hc5, hf5⟩ := bcell hb5
            have hz5 := hb5.size
            (try simp at hz5)
            have hx5 : wr.heap.size < w5.heap.size := by omega
            have hq5 : w5.cell? ⟨wr.heap.size, 2, none⟩ = some (.string name) := by rw [hc5 _ _ (by simp), World.cell?_alloc_at _ _ _ _ rfl]; rfl
            have HM5 := Lib.hid ((HM.out.below ((Below.refl _ _).alloc (Nat.le_refl _) _)).below hb5)
            have HB5 := Lib.hid ((HB.out.alloc (Nat.le_of_lt hXw) _).trans (hb5.mono (by simp; omega)))
            go_wp2_with (first
              | (at_lookup; refine at_look rfl _ _ 67 9 68 rfl law_str Tryd.underlying67 Tryd.underlying9 _ (zero_pr _) HM5.out rfl _ rfl hns ?_; rw [Hget.out])
              | (go_at_call 36; (with_reducible refine (HAf.out _).mono ?_); rintro rr w6 ⟨rfl, hb6⟩; obtain ⟨hc6, hf6⟩ := bcell hb6; have hz6 := hb6.size; have hx6 : wr.heap.size < w6.heap.size := (by omega); have hq6 : w6.cell? ⟨wr.heap.size, 2, none⟩ = some (.string name) := ((hc6 _ _ hx5).trans hq5); have HM6 := Lib.hid (HM5.out.below hb6); have HB6 := Lib.hid (HB5.out.trans (hb6.mono (by omega))); clear hb6)
              | (at_mapUpdate; refine at_put rfl _ _ _ 67 9 68 rfl law_str Tryd.underlying67 Tryd.underlying9 HM6.out (by unfold maxLen; omega) rfl _ rfl hns (.int .i64 τ) (by rfl) ?_; intro w7 hm7 hg7; have HM7 := Lib.hid hm7; have HG7 := Lib.hid (HB6.out.grown hg7 (by omega) (fun q hq => (by obtain rfl := Option.some.inj hq; exact Nat.le_refl _))); clear hm7 hg7))
            go_roundw
            case rel => exact ⟨k + 1, _, by omega, by go_num, HM7.out, Hstep.out, Hb1.out, HG7.out⟩
            case measure => simp [intOf]; omega
    · obtain rfl : k = n := by omega
      obtain rfl : R = -1 := HO.out Hbad.out
      go_wp2
      go_ret
      exact ⟨rfl, HB.out⟩
end Go.Proofs.YtaehcnoendieaaaDoor
