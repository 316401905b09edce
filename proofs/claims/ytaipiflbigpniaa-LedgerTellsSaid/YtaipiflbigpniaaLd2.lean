/-
  The ledger: cost, Sum, Peak, Ticks, Total, Mean, Copy of a table that is none.
-/
import Derived.Test.YtaipiflbigpniaaLd1
namespace Go.Proofs.Ytaipiflbigpniaa
open Go.RowKit
set_option linter.unusedVariables false
set_option linter.unusedSimpArgs false

def costA (x : Ac) : Int := if 0 < x.pr ∧ (1125899906842624 : Int).tdiv x.pr < x.su then 1125899906842624 else x.pr * x.su

set_option maxRecDepth 100000 in
set_option maxHeartbeats 4000000 in
theorem cost_any (x : Ac) (w : World) (h0 : 0 ≤ x.pr) (h1 : x.pr ≤ 1125899906842624) (h2 : 0 ≤ x.su) (h3 : x.su ≤ 1125899906842624) :
    Calls Try.prog 30 #[.agg #[.string x.nm, .int .i64 x.pr, .int .i64 x.su, .int .i64 x.pk]] w fun e w' => e = .returned (.int .i64 (costA x)) ∧ Below w.heap.size w w' := by
  obtain ⟨s, p, u, k⟩ := x
  dsimp only at h0 h1 h2 h3
  by_cases hp : 0 < p
  · have hq : (1125899906842624 : Int).tdiv p = 1125899906842624 / p := Int.tdiv_eq_ediv_of_nonneg (by decide)
    obtain ⟨q, hqe⟩ : ∃ q, (1125899906842624 : Int).tdiv p = q := ⟨_, rfl⟩
    have hq0 : 0 ≤ q := by rw [← hqe, hq]; exact Int.ediv_nonneg (by decide) (by omega)
    have hq1 : q ≤ 1125899906842624 := by rw [← hqe, hq]; exact Int.ediv_le_self _ (by decide)
    have hw : IntKind.i64.wrap q = q := lwrap_in (by omega) (by omega)
    have hpz : p ≠ 0 := by omega
    by_cases hlt : q < u
    · have e : costA ⟨s, p, u, k⟩ = 1125899906842624 := if_pos ⟨hp, by rw [hqe]; exact hlt⟩
      rw [e]
      clear e hq
      go_enter Try.func30, Try.ntmps30
      go_wp2
      have hcH := held_cell
      refine region_rel (by kernel_rfl) (by kernel_rfl) ?_
      repeat
        ((with_reducible refine relStep (fun K hK => ?_))
         (have HK := Lib.hid hK)
         clear hK
         (first
           | (apply relInl
              · intro r n hf
                have Hf := Lib.hid hf
                clear hf
                unfold relAt
                go_simp
                (first | (refine relUpon_val ?_ (Below.refl _ _); exact rfl) | exact rfl | (refine relUpon_enter ?_; fail))
              (simp only [Act.put, List.setIfInBounds_toArray, List.set_cons_zero, List.set_cons_succ])
              (with_reducible refine HK.out _ _ ?_)
              clear HK K)
           | (fail)))
      refine relNil ?_
      intro r4 n4 hx4
      clear hcH
      (try simp only [List.nil_append, List.cons_append, List.mem_cons, List.not_mem_nil, or_false, forall_eq_or_imp, forall_eq, false_implies, implies_true] at hx4)
      obtain ⟨w4, hb4⟩ := n4
      (try dsimp only)
      obtain ⟨hc4, hf4⟩ := bcell hb4
      have hz4 := hb4.size
      (try simp at hz4)
      go_wp2
      go_ret
      exact ⟨rfl, by (repeat' (first | with_reducible exact Below.refl _ _ | with_reducible assumption | with_reducible refine Below.drew ?_ | with_reducible refine below_drewN' ?_ _ | with_reducible refine Below.alloc ?_ ?_ _ | with_reducible refine Below.setCell ?_ ?_ _ | with_reducible refine below_step (by assumption) ?_ ?_ | omega | (simp; done) | (simp; omega)))⟩
    · have e : costA ⟨s, p, u, k⟩ = p * u := if_neg (fun h => hlt (by have h2 := h.2; rw [hqe] at h2; exact h2))
      have hm : p * u ≤ 1125899906842624 := by
        have h5 : u ≤ 1125899906842624 / p := by rw [← hq, hqe]; omega
        have := Int.mul_le_of_le_ediv hp h5
        rw [Int.mul_comm]; exact this
      have hm0 : 0 ≤ p * u := Int.mul_nonneg h0 h2
      have hw2 : IntKind.i64.wrap (p * u) = p * u := lwrap_in (by omega) (by omega)
      rw [e]
      clear e hq hm hm0
      go_enter Try.func30, Try.ntmps30
      go_wp2
      have hcH := held_cell
      refine region_rel (by kernel_rfl) (by kernel_rfl) ?_
      repeat
        ((with_reducible refine relStep (fun K hK => ?_))
         (have HK := Lib.hid hK)
         clear hK
         (first
           | (apply relInl
              · intro r n hf
                have Hf := Lib.hid hf
                clear hf
                unfold relAt
                go_simp
                (first | (refine relUpon_val ?_ (Below.refl _ _); exact rfl) | exact rfl | (refine relUpon_enter ?_; fail))
              (simp only [Act.put, List.setIfInBounds_toArray, List.set_cons_zero, List.set_cons_succ])
              (with_reducible refine HK.out _ _ ?_)
              clear HK K)
           | (fail)))
      refine relNil ?_
      intro r4 n4 hx4
      clear hcH
      (try simp only [List.nil_append, List.cons_append, List.mem_cons, List.not_mem_nil, or_false, forall_eq_or_imp, forall_eq, false_implies, implies_true] at hx4)
      obtain ⟨w4, hb4⟩ := n4
      (try dsimp only)
      obtain ⟨hc4, hf4⟩ := bcell hb4
      have hz4 := hb4.size
      (try simp at hz4)
      go_wp2
      go_ret
      exact ⟨rfl, by (repeat' (first | with_reducible exact Below.refl _ _ | with_reducible assumption | with_reducible refine Below.drew ?_ | with_reducible refine below_drewN' ?_ _ | with_reducible refine Below.alloc ?_ ?_ _ | with_reducible refine Below.setCell ?_ ?_ _ | with_reducible refine below_step (by assumption) ?_ ?_ | omega | (simp; done) | (simp; omega)))⟩
  · obtain rfl : p = 0 := by omega
    have e : costA ⟨s, 0, u, k⟩ = 0 := by
      unfold costA
      rw [if_neg (fun h => by have := h.1; simp at this)]
      simp
    rw [e]
    go_enter Try.func30, Try.ntmps30
    go_wp2
    have hcH := held_cell
    refine region_rel (by kernel_rfl) (by kernel_rfl) ?_
    repeat
      ((with_reducible refine relStep (fun K hK => ?_))
       (have HK := Lib.hid hK)
       clear hK
       (first
         | (apply relInl
            · intro r n hf
              have Hf := Lib.hid hf
              clear hf
              unfold relAt
              go_simp
              (first | (refine relUpon_val ?_ (Below.refl _ _); exact rfl) | exact rfl | (refine relUpon_enter ?_; fail))
            (simp only [Act.put, List.setIfInBounds_toArray, List.set_cons_zero, List.set_cons_succ])
            (with_reducible refine HK.out _ _ ?_)
            clear HK K)
         | (fail)))
    refine relNil ?_
    intro r4 n4 hx4
    clear hcH
    (try simp only [List.nil_append, List.cons_append, List.mem_cons, List.not_mem_nil, or_false, forall_eq_or_imp, forall_eq, false_implies, implies_true] at hx4)
    obtain ⟨w4, hb4⟩ := n4
    (try dsimp only)
    obtain ⟨hc4, hf4⟩ := bcell hb4
    have hz4 := hb4.size
    (try simp at hz4)
    go_wp2
    go_ret
    exact ⟨rfl, by (repeat' (first | with_reducible exact Below.refl _ _ | with_reducible assumption | with_reducible refine Below.drew ?_ | with_reducible refine below_drewN' ?_ _ | with_reducible refine Below.alloc ?_ ?_ _ | with_reducible refine Below.setCell ?_ ?_ _ | with_reducible refine below_step (by assumption) ?_ ?_ | omega | (simp; done) | (simp; omega)))⟩

theorem cost_zero (w : World) : Calls Try.prog 30 #[.agg #[.string ⟨#[]⟩, .int .i64 0, .int .i64 0, .int .i64 0]] w fun e w' => e = .returned (.int .i64 0) ∧ Below w.heap.size w w' :=
  (cost_any noAc w (by decide) (by decide) (by decide) (by decide)).mono fun e w' ⟨he, hb⟩ => ⟨by rw [he]; rfl, hb⟩
theorem ld_fld (s : ByteArray) (p u k : Int) (w : World) : (Instr.field 60 (.agg #[.string s, .int .i64 p, .int .i64 u, .int .i64 k]) 2).run Try.prog w = .ok (.int .i64 u) w ∧ (Instr.field 60 (.agg #[.string s, .int .i64 p, .int .i64 u, .int .i64 k]) 3).run Try.prog w = .ok (.int .i64 k) w :=
  ⟨by kernel_rfl, by kernel_rfl⟩
set_option maxRecDepth 100000 in
  theorem none_sum (p : Option Addr) (s : ByteArray) (w : World) (hM : ∀ V, Below w.heap.size w V → Calls Try.prog 27 #[.pointer p] V fun e w' => e = .returned (.bool false) ∧ w' = V) :
      Calls Try.prog 15 #[.pointer p, .string s] w fun e w' => e = .returned (.int .i64 0) ∧ Below w.heap.size w w' := by
    have HM := Lib.hid hM
    have HFd := Lib.hid (fun (V : World) (hV : Below w.heap.size w V) => find_none p (s) V (fun V2 h2 => hM V2 (hV.trans (h2.mono hV.size))))
    have i2 := fun s p u k W => (ld_fld s p u k W).1
    have i3 := fun s p u k W => (ld_fld s p u k W).2
    clear hM
    go_enter Try.func15, Try.ntmps15
    go_wp2_with (first
      | (go_at_call 27; (with_reducible refine (HM.out _ (by (repeat' (first | with_reducible exact Below.refl _ _ | with_reducible assumption | with_reducible refine Below.drew ?_ | with_reducible refine below_drewN' ?_ _ | with_reducible refine Below.alloc ?_ ?_ _ | with_reducible refine Below.setCell ?_ ?_ _ | with_reducible refine below_step (by assumption) ?_ ?_ | omega | (simp; done) | (simp; omega))))).mono ?_); rintro e w1 ⟨rfl, rfl⟩)
      | (go_at_call 29; (with_reducible refine (HFd.out _ (Below.refl _ _)).mono ?_); rintro e w2 ⟨rfl, hb2⟩; have HB2 := Lib.hid hb2)
      | (go_at_call 30; (with_reducible refine (cost_zero _).mono ?_); rintro e w3 ⟨rfl, hb3⟩; have HB3 := Lib.hid (HB2.out.trans (hb3.mono HB2.out.size))))
    go_ret
    first
      | exact ⟨rfl, HB3.out⟩
      | exact ⟨rfl, HB2.out⟩
      | exact ⟨rfl, by (repeat' (first | with_reducible exact Below.refl _ _ | with_reducible assumption | with_reducible refine Below.drew ?_ | with_reducible refine below_drewN' ?_ _ | with_reducible refine Below.alloc ?_ ?_ _ | with_reducible refine Below.setCell ?_ ?_ _ | with_reducible refine below_step (by assumption) ?_ ?_ | omega | (simp; done) | (simp; omega)))⟩
set_option maxRecDepth 100000 in
      theorem none_peak (p : Option Addr) (s : ByteArray) (w : World) (hM : ∀ V, Below w.heap.size w V → Calls Try.prog 27 #[.pointer p] V fun e w' => e = .returned (.bool false) ∧ w' = V) :
          Calls Try.prog 17 #[.pointer p, .string s] w fun e w' => e = .returned (.int .i64 0) ∧ Below w.heap.size w w' := by
        have HM := Lib.hid hM
        have HFd := Lib.hid (fun (V : World) (hV : Below w.heap.size w V) => find_none p (s) V (fun V2 h2 => hM V2 (hV.trans (h2.mono hV.size))))
        have i2 := fun s p u k W => (ld_fld s p u k W).1
        have i3 := fun s p u k W => (ld_fld s p u k W).2
        clear hM
        go_enter Try.func17, Try.ntmps17
        go_wp2_with (first
          | (go_at_call 27; (with_reducible refine (HM.out _ (by (repeat' (first | with_reducible exact Below.refl _ _ | with_reducible assumption | with_reducible refine Below.drew ?_ | with_reducible refine below_drewN' ?_ _ | with_reducible refine Below.alloc ?_ ?_ _ | with_reducible refine Below.setCell ?_ ?_ _ | with_reducible refine below_step (by assumption) ?_ ?_ | omega | (simp; done) | (simp; omega))))).mono ?_); rintro e w1 ⟨rfl, rfl⟩)
          | (go_at_call 29; (with_reducible refine (HFd.out _ (Below.refl _ _)).mono ?_); rintro e w2 ⟨rfl, hb2⟩; have HB2 := Lib.hid hb2)
          | (go_at_call 30; (with_reducible refine (cost_zero _).mono ?_); rintro e w3 ⟨rfl, hb3⟩; have HB3 := Lib.hid (HB2.out.trans (hb3.mono HB2.out.size))))
        go_ret
        first
          | exact ⟨rfl, HB3.out⟩
          | exact ⟨rfl, HB2.out⟩
          | exact ⟨rfl, by (repeat' (first | with_reducible exact Below.refl _ _ | with_reducible assumption | with_reducible refine Below.drew ?_ | with_reducible refine below_drewN' ?_ _ | with_reducible refine Below.alloc ?_ ?_ _ | with_reducible refine Below.setCell ?_ ?_ _ | with_reducible refine below_step (by assumption) ?_ ?_ | omega | (simp; done) | (simp; omega)))⟩
set_option maxRecDepth 100000 in
          theorem none_mean (p : Option Addr) (s : ByteArray) (w : World) (hM : ∀ V, Below w.heap.size w V → Calls Try.prog 27 #[.pointer p] V fun e w' => e = .returned (.bool false) ∧ w' = V) :
              Calls Try.prog 19 #[.pointer p, .string s] w fun e w' => e = .returned (.float .f64 0) ∧ Below w.heap.size w w' := by
            have HM := Lib.hid hM
            have HFd := Lib.hid (fun (V : World) (hV : Below w.heap.size w V) => find_none p (s) V (fun V2 h2 => hM V2 (hV.trans (h2.mono hV.size))))
            have i2 := fun s p u k W => (ld_fld s p u k W).1
            have i3 := fun s p u k W => (ld_fld s p u k W).2
            clear hM
            go_enter Try.func19, Try.ntmps19
            go_wp2_with (first
              | (go_at_call 27; (with_reducible refine (HM.out _ (by (repeat' (first | with_reducible exact Below.refl _ _ | with_reducible assumption | with_reducible refine Below.drew ?_ | with_reducible refine below_drewN' ?_ _ | with_reducible refine Below.alloc ?_ ?_ _ | with_reducible refine Below.setCell ?_ ?_ _ | with_reducible refine below_step (by assumption) ?_ ?_ | omega | (simp; done) | (simp; omega))))).mono ?_); rintro e w1 ⟨rfl, rfl⟩)
              | (go_at_call 29; (with_reducible refine (HFd.out _ (Below.refl _ _)).mono ?_); rintro e w2 ⟨rfl, hb2⟩; have HB2 := Lib.hid hb2)
              | (go_at_call 30; (with_reducible refine (cost_zero _).mono ?_); rintro e w3 ⟨rfl, hb3⟩; have HB3 := Lib.hid (HB2.out.trans (hb3.mono HB2.out.size))))
            go_ret
            first
              | exact ⟨rfl, HB3.out⟩
              | exact ⟨rfl, HB2.out⟩
              | exact ⟨rfl, by (repeat' (first | with_reducible exact Below.refl _ _ | with_reducible assumption | with_reducible refine Below.drew ?_ | with_reducible refine below_drewN' ?_ _ | with_reducible refine Below.alloc ?_ ?_ _ | with_reducible refine Below.setCell ?_ ?_ _ | with_reducible refine below_step (by assumption) ?_ ?_ | omega | (simp; done) | (simp; omega)))⟩
set_option maxRecDepth 100000 in
              theorem none_total (p : Option Addr)  (w : World) (hM : ∀ V, Below w.heap.size w V → Calls Try.prog 27 #[.pointer p] V fun e w' => e = .returned (.bool false) ∧ w' = V) :
                  Calls Try.prog 21 #[.pointer p] w fun e w' => e = .returned (.int .i64 0) ∧ Below w.heap.size w w' := by
                have HM := Lib.hid hM
                have HFd := Lib.hid (fun (V : World) (hV : Below w.heap.size w V) => find_none p (⟨#[]⟩) V (fun V2 h2 => hM V2 (hV.trans (h2.mono hV.size))))
                have i2 := fun s p u k W => (ld_fld s p u k W).1
                have i3 := fun s p u k W => (ld_fld s p u k W).2
                clear hM
                go_enter Try.func21, Try.ntmps21
                go_wp2_with (first
                  | (go_at_call 27; (with_reducible refine (HM.out _ (by (repeat' (first | with_reducible exact Below.refl _ _ | with_reducible assumption | with_reducible refine Below.drew ?_ | with_reducible refine below_drewN' ?_ _ | with_reducible refine Below.alloc ?_ ?_ _ | with_reducible refine Below.setCell ?_ ?_ _ | with_reducible refine below_step (by assumption) ?_ ?_ | omega | (simp; done) | (simp; omega))))).mono ?_); rintro e w1 ⟨rfl, rfl⟩)
                  | (go_at_call 29; (with_reducible refine (HFd.out _ (Below.refl _ _)).mono ?_); rintro e w2 ⟨rfl, hb2⟩; have HB2 := Lib.hid hb2)
                  | (go_at_call 30; (with_reducible refine (cost_zero _).mono ?_); rintro e w3 ⟨rfl, hb3⟩; have HB3 := Lib.hid (HB2.out.trans (hb3.mono HB2.out.size))))
                go_ret
                first
                  | exact ⟨rfl, HB3.out⟩
                  | exact ⟨rfl, HB2.out⟩
                  | exact ⟨rfl, by (repeat' (first | with_reducible exact Below.refl _ _ | with_reducible assumption | with_reducible refine Below.drew ?_ | with_reducible refine below_drewN' ?_ _ | with_reducible refine Below.alloc ?_ ?_ _ | with_reducible refine Below.setCell ?_ ?_ _ | with_reducible refine below_step (by assumption) ?_ ?_ | omega | (simp; done) | (simp; omega)))⟩
set_option maxRecDepth 100000 in
                  theorem none_ticks (p : Option Addr)  (w : World) (hM : ∀ V, Below w.heap.size w V → Calls Try.prog 27 #[.pointer p] V fun e w' => e = .returned (.bool false) ∧ w' = V) :
                      Calls Try.prog 23 #[.pointer p] w fun e w' => e = .returned (.int .i64 0) ∧ Below w.heap.size w w' := by
                    have HM := Lib.hid hM
                    have HFd := Lib.hid (fun (V : World) (hV : Below w.heap.size w V) => find_none p (⟨#[]⟩) V (fun V2 h2 => hM V2 (hV.trans (h2.mono hV.size))))
                    have i2 := fun s p u k W => (ld_fld s p u k W).1
                    have i3 := fun s p u k W => (ld_fld s p u k W).2
                    clear hM
                    go_enter Try.func23, Try.ntmps23
                    go_wp2_with (first
                      | (go_at_call 27; (with_reducible refine (HM.out _ (by (repeat' (first | with_reducible exact Below.refl _ _ | with_reducible assumption | with_reducible refine Below.drew ?_ | with_reducible refine below_drewN' ?_ _ | with_reducible refine Below.alloc ?_ ?_ _ | with_reducible refine Below.setCell ?_ ?_ _ | with_reducible refine below_step (by assumption) ?_ ?_ | omega | (simp; done) | (simp; omega))))).mono ?_); rintro e w1 ⟨rfl, rfl⟩)
                      | (go_at_call 29; (with_reducible refine (HFd.out _ (Below.refl _ _)).mono ?_); rintro e w2 ⟨rfl, hb2⟩; have HB2 := Lib.hid hb2)
                      | (go_at_call 30; (with_reducible refine (cost_zero _).mono ?_); rintro e w3 ⟨rfl, hb3⟩; have HB3 := Lib.hid (HB2.out.trans (hb3.mono HB2.out.size))))
                    go_ret
                    first
                      | exact ⟨rfl, HB3.out⟩
                      | exact ⟨rfl, HB2.out⟩
                      | exact ⟨rfl, by (repeat' (first | with_reducible exact Below.refl _ _ | with_reducible assumption | with_reducible refine Below.drew ?_ | with_reducible refine below_drewN' ?_ _ | with_reducible refine Below.alloc ?_ ?_ _ | with_reducible refine Below.setCell ?_ ?_ _ | with_reducible refine below_step (by assumption) ?_ ?_ | omega | (simp; done) | (simp; omega)))⟩
set_option maxRecDepth 100000 in
                      theorem none_copy (p : Option Addr)  (w : World) (hM : ∀ V, Below w.heap.size w V → Calls Try.prog 27 #[.pointer p] V fun e w' => e = .returned (.bool false) ∧ w' = V) :
                          Calls Try.prog 14 #[.pointer p] w fun e w' => e = .returned (.pointer none) ∧ Below w.heap.size w w' := by
                        have HM := Lib.hid hM
                        have HFd := Lib.hid (fun (V : World) (hV : Below w.heap.size w V) => find_none p (⟨#[]⟩) V (fun V2 h2 => hM V2 (hV.trans (h2.mono hV.size))))
                        have i2 := fun s p u k W => (ld_fld s p u k W).1
                        have i3 := fun s p u k W => (ld_fld s p u k W).2
                        clear hM
                        go_enter Try.func14, Try.ntmps14
                        go_wp2_with (first
                          | (go_at_call 27; (with_reducible refine (HM.out _ (by (repeat' (first | with_reducible exact Below.refl _ _ | with_reducible assumption | with_reducible refine Below.drew ?_ | with_reducible refine below_drewN' ?_ _ | with_reducible refine Below.alloc ?_ ?_ _ | with_reducible refine Below.setCell ?_ ?_ _ | with_reducible refine below_step (by assumption) ?_ ?_ | omega | (simp; done) | (simp; omega))))).mono ?_); rintro e w1 ⟨rfl, rfl⟩)
                          | (go_at_call 29; (with_reducible refine (HFd.out _ (Below.refl _ _)).mono ?_); rintro e w2 ⟨rfl, hb2⟩; have HB2 := Lib.hid hb2)
                          | (go_at_call 30; (with_reducible refine (cost_zero _).mono ?_); rintro e w3 ⟨rfl, hb3⟩; have HB3 := Lib.hid (HB2.out.trans (hb3.mono HB2.out.size))))
                        go_ret
                        first
                          | exact ⟨rfl, HB3.out⟩
                          | exact ⟨rfl, HB2.out⟩
                          | exact ⟨rfl, by (repeat' (first | with_reducible exact Below.refl _ _ | with_reducible assumption | with_reducible refine Below.drew ?_ | with_reducible refine below_drewN' ?_ _ | with_reducible refine Below.alloc ?_ ?_ _ | with_reducible refine Below.setCell ?_ ?_ _ | with_reducible refine below_step (by assumption) ?_ ?_ | omega | (simp; done) | (simp; omega)))⟩
end Go.Proofs.Ytaipiflbigpniaa
