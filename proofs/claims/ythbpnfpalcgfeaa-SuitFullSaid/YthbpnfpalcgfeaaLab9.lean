/-
  The contracts of labels.wordOrEmpty, labels.Right.
-/
import Derived.Test.YthbpnfpalcgfeaaMG
import Derived.Test.YthbpnfpalcgfeaaLab8
import Derived.Test.YthbpnfpalcgfeaaMB
import Derived.Maps.OwnSet
import Derived.StringKeys
namespace Go.Proofs.Ythbpnfpalcgfeaa
namespace Lb
set_option linter.unusedSimpArgs false
open Go.RowKit
set_option linter.unusedVariables false

set_option maxRecDepth 100000 in
set_option maxHeartbeats 8000000 in
theorem right_any (c : Option Addr) (kc : Nat) (l : List Lab) (w : World) (hF : LabL w c l) (hm : l.length ≤ maxLen) (hs : ∀ x ∈ l, x.key.size ≤ 1000000000) :
    Calls Try.prog 105 #[.slice c l.length kc] w fun e w' => e = .returned (.bool (labsB l)) ∧ Below w.heap.size w w' := by
  have HF := Lib.hid hF
  have Hs := Lib.hid hs
  clear hF hs
  by_cases h16 : 16 < l.length
  · have hr : labsB l = false := by unfold labsB; rw [decide_eq_false (by omega)]; rfl
    rw [hr]
    clear hr
    unfold maxLen at hm
    go_enter Try.func105, Try.ntmps105
    go_wp2
    go_ret
    exact ⟨rfl, by (repeat' (first | with_reducible exact Below.refl _ _ | with_reducible assumption | with_reducible refine Below.drew ?_ | with_reducible refine below_drewN' ?_ _ | with_reducible refine Below.alloc ?_ ?_ _ | with_reducible refine Below.setCell ?_ ?_ _ | with_reducible refine below_step (by assumption) ?_ ?_ | omega | (simp; done) | (simp; omega)))⟩
  · obtain ⟨n, hln⟩ : ∃ n, l.length = n := ⟨_, rfl⟩
    rw [hln] at hm h16 ⊢
    have Hln := Lib.hid hln
    clear hln hm
    have hmm := @run_makeMap Try.prog
    go_enter Try.func105, Try.ntmps105
    go_wp2
    go_loopw [14] (fun i wr => ∃ k : Nat, k ≤ n ∧ i = .int .i64 k ∧ labsTo l k = true ∧ wr.ownsMap Try.prog 9 (unitElem (H := Unit)) w.heap.size k (seenS l k) ∧ Below w.heap.size w wr) (fun i _ => n - (intOf i).toNat)
    case atStart => exact ⟨0, by omega, rfl, rfl, World.ownsMap_made _ _ _ _, by (repeat' (first | with_reducible exact Below.refl _ _ | with_reducible assumption | with_reducible refine Below.drew ?_ | with_reducible refine below_drewN' ?_ _ | with_reducible refine Below.alloc ?_ ?_ _ | with_reducible refine Below.setCell ?_ ?_ _ | with_reducible refine below_step (by assumption) ?_ ?_ | omega | (simp; done) | (simp; omega)))⟩
    case round =>
      obtain ⟨k, hk, rfl, hE, hown, hB⟩ := hrel
      obtain ⟨hcB, hfB⟩ := bcell hB
      have hbz := hB.size
      have HE := Lib.hid hE
      have HB := Lib.hid hB
      have HM := Lib.hid hown
      clear hE hown
      by_cases hlt : k < n
      · obtain ⟨x, hx⟩ := mem_at (l := l) (k := k) (by rw [Hln.out]; exact hlt)
        obtain ⟨b, off, rfl, hb, hc⟩ := HF.out (by rw [Hln.out]; omega)
        have hbw : b < wr.heap.size := by omega
        obtain ⟨c0, c1⟩ := lab_cells (hc k x hx)
        have Hx := Lib.hid hx
        have hsx := Hs.out x (List.mem_of_getElem? hx)
        have Hkey := Lib.hid (Go.WideMaps.keyOf_string_mk (P := Try.prog) (k := 9) Try.underlying9 (s := x.key) (by unfold maxLen; omega))
        have Hhas := Lib.hid (has_seen l k x.key)
        clear hx
        have q0 : wr.heap.size < wr.heap.size + 1 + 1 := by omega
        have q1 : wr.heap.size < wr.heap.size + 2 := by omega
        have q2 : wr.heap.size + 1 < wr.heap.size + 2 := by omega
        have q3 : b < wr.heap.size + 1 + 1 := by omega
        have q4 : b < wr.heap.size + 2 := by omega
        have q5 : b < wr.heap.size + 1 := by omega
        have q6 : b ≤ wr.heap.size := by omega
        cases ht : (l.take k).any (fun y => strB y.key x.key)
        · rcases k with _ | j
          · rw [Nat.zero_mul, Nat.add_zero] at c0 c1
            have Hok := Lib.hid (okL_zero Hx.out)
            have Ht := Lib.hid ht
            clear ht hc
            cases k1 : wordB x.key
            · have Hs := Lib.hid (labs_bad (lt_at Hx.out) (by rw [Hok.out, k1]; rfl))
              have K1 := Lib.hid k1
              clear k1
              go_wp2_with (at_lookup; refine wpList_lookup_own_unit _ rfl _ _ 136 rfl 9 137 law_str Try.underlying136 (zero_unit _) w.heap.size (0) _ rfl (HM.out.alloc _) _ _ rfl Hkey.out ?_; rw [Hhas.out, Ht.out])
              have hcH := held_cell
              refine region_rel (by kernel_rfl) (by kernel_rfl) ?_
              repeat
                ((with_reducible refine relStep (fun K hK => ?_))
                 (have HK := Lib.hid hK)
                 clear hK
                 (first
                   | (apply relInl
                      · intro r n hf
                        have Hf := Lib.hid hf
                        clear hf
                        unfold relAt
                        go_simp
                        (first | (refine relUpon_val ?_ (Below.refl _ _); exact rfl) | exact rfl | (refine relUpon_enter ?_; fail))
                      (simp only [Act.put, List.setIfInBounds_toArray, List.set_cons_zero, List.set_cons_succ])
                      (with_reducible refine HK.out _ _ ?_)
                      clear HK K)
                   | (fail)))
              refine relNil ?_
              intro r5 n5 hx5
              clear hcH
              (try simp only [List.nil_append, List.cons_append, List.mem_cons, List.not_mem_nil, or_false, forall_eq_or_imp, forall_eq, false_implies, implies_true] at hx5)
              obtain ⟨w5, hb5⟩ := n5
              (try dsimp only)
              obtain ⟨hc5, hf5⟩ := bcell hb5
              have hz5 := hb5.size
              (try simp at hz5)
              have HB5 := Lib.hid (show Below wr.heap.size wr w5 by (repeat' (first | with_reducible exact Below.refl _ _ | with_reducible assumption | with_reducible refine Below.drew ?_ | with_reducible refine below_drewN' ?_ _ | with_reducible refine Below.alloc ?_ ?_ _ | with_reducible refine Below.setCell ?_ ?_ _ | with_reducible refine below_step (by assumption) ?_ ?_ | omega | (simp; done) | (simp; omega))))
              have z5_0 : wr.heap.size < w5.heap.size := (by omega); have y5_0 : wr.heap.size ≤ w5.heap.size := (by omega); have z5_1 : wr.heap.size + 1 < w5.heap.size := (by omega); have y5_1 : wr.heap.size + 1 ≤ w5.heap.size := (by omega)
              go_wp2_with (go_at_call 107; (with_reducible refine (word_any x.key _).mono ?_); rw [K1.out]; rintro e w6 ⟨rfl, hb6⟩; obtain ⟨hc6, hf6⟩ := bcell hb6; have hz6 := hb6.size; have z6_0 : wr.heap.size < w6.heap.size := (by omega); have y6_0 : wr.heap.size ≤ w6.heap.size := (by omega); have z6_1 : wr.heap.size + 1 < w6.heap.size := (by omega); have y6_1 : wr.heap.size + 1 ≤ w6.heap.size := (by omega); have HB6 := Lib.hid (HB5.out.trans (hb6.mono HB5.out.size)))
              go_ret
              exact ⟨by rw [Hs.out]; rfl, HB.out.trans (HB6.out.mono HB.out.size)⟩
            · cases k2 : weB x.val
              · have Hs := Lib.hid (labs_bad (lt_at Hx.out) (by rw [Hok.out, k1, k2]; rfl))
                have K1 := Lib.hid k1
                have K2 := Lib.hid k2
                clear k1 k2
                go_wp2_with (at_lookup; refine wpList_lookup_own_unit _ rfl _ _ 136 rfl 9 137 law_str Try.underlying136 (zero_unit _) w.heap.size (0) _ rfl (HM.out.alloc _) _ _ rfl Hkey.out ?_; rw [Hhas.out, Ht.out])
                have hcH := held_cell
                refine region_rel (by kernel_rfl) (by kernel_rfl) ?_
                repeat
                  ((with_reducible refine relStep (fun K hK => ?_))
                   (have HK := Lib.hid hK)
                   clear hK
                   (first
                     | (apply relInl
                        · intro r n hf
                          have Hf := Lib.hid hf
                          clear hf
                          unfold relAt
                          go_simp
                          (first | (refine relUpon_val ?_ (Below.refl _ _); exact rfl) | exact rfl | (refine relUpon_enter ?_; fail))
                        (simp only [Act.put, List.setIfInBounds_toArray, List.set_cons_zero, List.set_cons_succ])
                        (with_reducible refine HK.out _ _ ?_)
                        clear HK K)
                     | (fail)))
                refine relNil ?_
                intro r5 n5 hx5
                clear hcH
                (try simp only [List.nil_append, List.cons_append, List.mem_cons, List.not_mem_nil, or_false, forall_eq_or_imp, forall_eq, false_implies, implies_true] at hx5)
                obtain ⟨w5, hb5⟩ := n5
                (try dsimp only)
                obtain ⟨hc5, hf5⟩ := bcell hb5
                have hz5 := hb5.size
                (try simp at hz5)
                have HB5 := Lib.hid (show Below wr.heap.size wr w5 by (repeat' (first | with_reducible exact Below.refl _ _ | with_reducible assumption | with_reducible refine Below.drew ?_ | with_reducible refine below_drewN' ?_ _ | with_reducible refine Below.alloc ?_ ?_ _ | with_reducible refine Below.setCell ?_ ?_ _ | with_reducible refine below_step (by assumption) ?_ ?_ | omega | (simp; done) | (simp; omega))))
                have z5_0 : wr.heap.size < w5.heap.size := (by omega); have y5_0 : wr.heap.size ≤ w5.heap.size := (by omega); have z5_1 : wr.heap.size + 1 < w5.heap.size := (by omega); have y5_1 : wr.heap.size + 1 ≤ w5.heap.size := (by omega)
                go_wp2_with (first | (go_at_call 107; (with_reducible refine (word_any x.key _).mono ?_); rw [K1.out]; rintro e w6 ⟨rfl, hb6⟩; obtain ⟨hc6, hf6⟩ := bcell hb6; have hz6 := hb6.size; have z6_0 : wr.heap.size < w6.heap.size := (by omega); have y6_0 : wr.heap.size ≤ w6.heap.size := (by omega); have z6_1 : wr.heap.size + 1 < w6.heap.size := (by omega); have y6_1 : wr.heap.size + 1 ≤ w6.heap.size := (by omega); have HB6 := Lib.hid (HB5.out.trans (hb6.mono HB5.out.size))) | (go_at_call 128; (with_reducible refine (lwordorempty_any x.val _).mono ?_); rw [K2.out]; rintro e w7 ⟨rfl, hb7⟩; obtain ⟨hc7, hf7⟩ := bcell hb7; have hz7 := hb7.size; have z7_0 : wr.heap.size < w7.heap.size := (by omega); have y7_0 : wr.heap.size ≤ w7.heap.size := (by omega); have z7_1 : wr.heap.size + 1 < w7.heap.size := (by omega); have y7_1 : wr.heap.size + 1 ≤ w7.heap.size := (by omega); have HB7 := Lib.hid (HB6.out.trans (hb7.mono HB6.out.size)); have HM7 := Lib.hid (map_kept HM.out HB7.out)))
                go_ret
                exact ⟨by rw [Hs.out]; rfl, HB.out.trans (HB7.out.mono HB.out.size)⟩
              · have Hs := Lib.hid (show labsTo l (0 + 1) = true by rw [labsTo_succ, HE.out, Hok.out, k1, k2]; rfl)
                have Hsn := Lib.hid (seen_succ Hx.out)
                have K1 := Lib.hid k1
                have K2 := Lib.hid k2
                clear k1 k2
                go_wp2_with (at_lookup; refine wpList_lookup_own_unit _ rfl _ _ 136 rfl 9 137 law_str Try.underlying136 (zero_unit _) w.heap.size (0) _ rfl (HM.out.alloc _) _ _ rfl Hkey.out ?_; rw [Hhas.out, Ht.out])
                have hcH := held_cell
                refine region_rel (by kernel_rfl) (by kernel_rfl) ?_
                repeat
                  ((with_reducible refine relStep (fun K hK => ?_))
                   (have HK := Lib.hid hK)
                   clear hK
                   (first
                     | (apply relInl
                        · intro r n hf
                          have Hf := Lib.hid hf
                          clear hf
                          unfold relAt
                          go_simp
                          (first | (refine relUpon_val ?_ (Below.refl _ _); exact rfl) | exact rfl | (refine relUpon_enter ?_; fail))
                        (simp only [Act.put, List.setIfInBounds_toArray, List.set_cons_zero, List.set_cons_succ])
                        (with_reducible refine HK.out _ _ ?_)
                        clear HK K)
                     | (fail)))
                refine relNil ?_
                intro r5 n5 hx5
                clear hcH
                (try simp only [List.nil_append, List.cons_append, List.mem_cons, List.not_mem_nil, or_false, forall_eq_or_imp, forall_eq, false_implies, implies_true] at hx5)
                obtain ⟨w5, hb5⟩ := n5
                (try dsimp only)
                obtain ⟨hc5, hf5⟩ := bcell hb5
                have hz5 := hb5.size
                (try simp at hz5)
                have HB5 := Lib.hid (show Below wr.heap.size wr w5 by (repeat' (first | with_reducible exact Below.refl _ _ | with_reducible assumption | with_reducible refine Below.drew ?_ | with_reducible refine below_drewN' ?_ _ | with_reducible refine Below.alloc ?_ ?_ _ | with_reducible refine Below.setCell ?_ ?_ _ | with_reducible refine below_step (by assumption) ?_ ?_ | omega | (simp; done) | (simp; omega))))
                have z5_0 : wr.heap.size < w5.heap.size := (by omega); have y5_0 : wr.heap.size ≤ w5.heap.size := (by omega); have z5_1 : wr.heap.size + 1 < w5.heap.size := (by omega); have y5_1 : wr.heap.size + 1 ≤ w5.heap.size := (by omega)
                go_wp2_with (first | (go_at_call 107; (with_reducible refine (word_any x.key _).mono ?_); rw [K1.out]; rintro e w6 ⟨rfl, hb6⟩; obtain ⟨hc6, hf6⟩ := bcell hb6; have hz6 := hb6.size; have z6_0 : wr.heap.size < w6.heap.size := (by omega); have y6_0 : wr.heap.size ≤ w6.heap.size := (by omega); have z6_1 : wr.heap.size + 1 < w6.heap.size := (by omega); have y6_1 : wr.heap.size + 1 ≤ w6.heap.size := (by omega); have HB6 := Lib.hid (HB5.out.trans (hb6.mono HB5.out.size))) | (go_at_call 128; (with_reducible refine (lwordorempty_any x.val _).mono ?_); rw [K2.out]; rintro e w7 ⟨rfl, hb7⟩; obtain ⟨hc7, hf7⟩ := bcell hb7; have hz7 := hb7.size; have z7_0 : wr.heap.size < w7.heap.size := (by omega); have y7_0 : wr.heap.size ≤ w7.heap.size := (by omega); have z7_1 : wr.heap.size + 1 < w7.heap.size := (by omega); have y7_1 : wr.heap.size + 1 ≤ w7.heap.size := (by omega); have HB7 := Lib.hid (HB6.out.trans (hb7.mono HB6.out.size)); have HM7 := Lib.hid (map_kept HM.out HB7.out)) | (at_mapUpdate; refine wpList_mapUpdate_own _ rfl _ _ _ 136 rfl 9 137 law_str Try.underlying136 (unitElem (H := Unit)) w.heap.size (0) _ rfl HM7.out (by unfold maxLen; omega) _ _ _ rfl rfl Hkey.out _ [] unitElem_mk ?_; intro w8 hown8 hgrow8; rw [← Hsn.out] at hown8; have HM8 := Lib.hid hown8; have HB8 := Lib.hid ((HB.out.trans (HB7.out.mono HB.out.size)).grown hgrow8 (Nat.le_trans HB.out.size HB7.out.size) (fun j hj => by cases hj; exact Nat.le_refl _)); clear hown8 hgrow8))
                go_roundw
                case rel => exact ⟨0 + 1, by omega, by go_num, Hs.out, HM8.out, HB8.out⟩
                case measure => simp [intOf]; omega
          · obtain ⟨y, hy⟩ := mem_at (l := l) (k := j) (by rw [Hln.out]; omega)
            obtain ⟨d0, d1⟩ := lab_cells (hc j y hy)
            have hyx : strB y.key x.key = false := by
              have h := ht
              rw [take_at hy, List.any_append] at h
              simpa using (Bool.or_eq_false_iff.1 h).2
            have Hy := Lib.hid hy
            have hjn : j < n := by omega
            have f1 := wrap_in (x := (j : Int)) (by omega) (by omega)
            have f2 := wrap_in (x := (j : Int) + 1 - 1) (by omega) (by omega)
            have f3 : (j : Int) + 1 - 1 = (j : Int) := by omega
            cases hl : lessB x.key y.key
            · have hyl : lessB y.key x.key = true := by
                cases h : lessB y.key x.key with
                | true => rfl
                | false =>
                  have e := less_tri h hl
                  unfold strB at hyx
                  rw [decide_eq_true e] at hyx
                  cases hyx
              have Hok := Lib.hid (show okL l (j + 1) = (wordB x.key && weB x.val) by rw [okL_succ Hx.out Hy.out, hyl, Bool.and_true])
              have hbl : Op.bytesLess x.key.toList y.key.toList = false := (less_eq _ _).symm.trans hl
              have Ht := Lib.hid ht
              clear ht hc hy hyx hl hyl
              cases k1 : wordB x.key
              · have Hs := Lib.hid (labs_bad (lt_at Hx.out) (by rw [Hok.out, k1]; rfl))
                have K1 := Lib.hid k1
                clear k1
                go_wp2_with (at_lookup; refine wpList_lookup_own_unit _ rfl _ _ 136 rfl 9 137 law_str Try.underlying136 (zero_unit _) w.heap.size (j + 1) _ rfl (HM.out.alloc _) _ _ rfl Hkey.out ?_; rw [Hhas.out, Ht.out])
                have hcH := held_cell
                refine region_rel (by kernel_rfl) (by kernel_rfl) ?_
                repeat
                  ((with_reducible refine relStep (fun K hK => ?_))
                   (have HK := Lib.hid hK)
                   clear hK
                   (first
                     | (apply relInl
                        · intro r n hf
                          have Hf := Lib.hid hf
                          clear hf
                          unfold relAt
                          go_simp
                          (first | (refine relUpon_val ?_ (Below.refl _ _); exact rfl) | exact rfl | (refine relUpon_enter ?_; fail))
                        (simp only [Act.put, List.setIfInBounds_toArray, List.set_cons_zero, List.set_cons_succ])
                        (with_reducible refine HK.out _ _ ?_)
                        clear HK K)
                     | (fail)))
                refine relNil ?_
                intro r5 n5 hx5
                clear hcH
                (try simp only [List.nil_append, List.cons_append, List.mem_cons, List.not_mem_nil, or_false, forall_eq_or_imp, forall_eq, false_implies, implies_true] at hx5)
                obtain ⟨w5, hb5⟩ := n5
                (try dsimp only)
                obtain ⟨hc5, hf5⟩ := bcell hb5
                have hz5 := hb5.size
                (try simp at hz5)
                have HB5 := Lib.hid (show Below wr.heap.size wr w5 by (repeat' (first | with_reducible exact Below.refl _ _ | with_reducible assumption | with_reducible refine Below.drew ?_ | with_reducible refine below_drewN' ?_ _ | with_reducible refine Below.alloc ?_ ?_ _ | with_reducible refine Below.setCell ?_ ?_ _ | with_reducible refine below_step (by assumption) ?_ ?_ | omega | (simp; done) | (simp; omega))))
                have z5_0 : wr.heap.size < w5.heap.size := (by omega); have y5_0 : wr.heap.size ≤ w5.heap.size := (by omega); have z5_1 : wr.heap.size + 1 < w5.heap.size := (by omega); have y5_1 : wr.heap.size + 1 ≤ w5.heap.size := (by omega)
                go_wp2_with (go_at_call 107; (with_reducible refine (word_any x.key _).mono ?_); rw [K1.out]; rintro e w6 ⟨rfl, hb6⟩; obtain ⟨hc6, hf6⟩ := bcell hb6; have hz6 := hb6.size; have z6_0 : wr.heap.size < w6.heap.size := (by omega); have y6_0 : wr.heap.size ≤ w6.heap.size := (by omega); have z6_1 : wr.heap.size + 1 < w6.heap.size := (by omega); have y6_1 : wr.heap.size + 1 ≤ w6.heap.size := (by omega); have HB6 := Lib.hid (HB5.out.trans (hb6.mono HB5.out.size)))
                go_ret
                exact ⟨by rw [Hs.out]; rfl, HB.out.trans (HB6.out.mono HB.out.size)⟩
              · cases k2 : weB x.val
                · have Hs := Lib.hid (labs_bad (lt_at Hx.out) (by rw [Hok.out, k1, k2]; rfl))
                  have K1 := Lib.hid k1
                  have K2 := Lib.hid k2
                  clear k1 k2
                  go_wp2_with (at_lookup; refine wpList_lookup_own_unit _ rfl _ _ 136 rfl 9 137 law_str Try.underlying136 (zero_unit _) w.heap.size (j + 1) _ rfl (HM.out.alloc _) _ _ rfl Hkey.out ?_; rw [Hhas.out, Ht.out])
                  have hcH := held_cell
                  refine region_rel (by kernel_rfl) (by kernel_rfl) ?_
                  repeat
                    ((with_reducible refine relStep (fun K hK => ?_))
                     (have HK := Lib.hid hK)
                     clear hK
                     (first
                       | (apply relInl
                          · intro r n hf
                            have Hf := Lib.hid hf
                            clear hf
                            unfold relAt
                            go_simp
                            (first | (refine relUpon_val ?_ (Below.refl _ _); exact rfl) | exact rfl | (refine relUpon_enter ?_; fail))
                          (simp only [Act.put, List.setIfInBounds_toArray, List.set_cons_zero, List.set_cons_succ])
                          (with_reducible refine HK.out _ _ ?_)
                          clear HK K)
                       | (fail)))
                  refine relNil ?_
                  intro r5 n5 hx5
                  clear hcH
                  (try simp only [List.nil_append, List.cons_append, List.mem_cons, List.not_mem_nil, or_false, forall_eq_or_imp, forall_eq, false_implies, implies_true] at hx5)
                  obtain ⟨w5, hb5⟩ := n5
                  (try dsimp only)
                  obtain ⟨hc5, hf5⟩ := bcell hb5
                  have hz5 := hb5.size
                  (try simp at hz5)
                  have HB5 := Lib.hid (show Below wr.heap.size wr w5 by (repeat' (first | with_reducible exact Below.refl _ _ | with_reducible assumption | with_reducible refine Below.drew ?_ | with_reducible refine below_drewN' ?_ _ | with_reducible refine Below.alloc ?_ ?_ _ | with_reducible refine Below.setCell ?_ ?_ _ | with_reducible refine below_step (by assumption) ?_ ?_ | omega | (simp; done) | (simp; omega))))
                  have z5_0 : wr.heap.size < w5.heap.size := (by omega); have y5_0 : wr.heap.size ≤ w5.heap.size := (by omega); have z5_1 : wr.heap.size + 1 < w5.heap.size := (by omega); have y5_1 : wr.heap.size + 1 ≤ w5.heap.size := (by omega)
                  go_wp2_with (first | (go_at_call 107; (with_reducible refine (word_any x.key _).mono ?_); rw [K1.out]; rintro e w6 ⟨rfl, hb6⟩; obtain ⟨hc6, hf6⟩ := bcell hb6; have hz6 := hb6.size; have z6_0 : wr.heap.size < w6.heap.size := (by omega); have y6_0 : wr.heap.size ≤ w6.heap.size := (by omega); have z6_1 : wr.heap.size + 1 < w6.heap.size := (by omega); have y6_1 : wr.heap.size + 1 ≤ w6.heap.size := (by omega); have HB6 := Lib.hid (HB5.out.trans (hb6.mono HB5.out.size))) | (go_at_call 128; (with_reducible refine (lwordorempty_any x.val _).mono ?_); rw [K2.out]; rintro e w7 ⟨rfl, hb7⟩; obtain ⟨hc7, hf7⟩ := bcell hb7; have hz7 := hb7.size; have z7_0 : wr.heap.size < w7.heap.size := (by omega); have y7_0 : wr.heap.size ≤ w7.heap.size := (by omega); have z7_1 : wr.heap.size + 1 < w7.heap.size := (by omega); have y7_1 : wr.heap.size + 1 ≤ w7.heap.size := (by omega); have HB7 := Lib.hid (HB6.out.trans (hb7.mono HB6.out.size)); have HM7 := Lib.hid (map_kept HM.out HB7.out)))
                  go_ret
                  exact ⟨by rw [Hs.out]; rfl, HB.out.trans (HB7.out.mono HB.out.size)⟩
                · have Hs := Lib.hid (show labsTo l (j + 1 + 1) = true by rw [labsTo_succ, HE.out, Hok.out, k1, k2]; rfl)
                  have Hsn := Lib.hid (seen_succ Hx.out)
                  have K1 := Lib.hid k1
                  have K2 := Lib.hid k2
                  clear k1 k2
                  go_wp2_with (at_lookup; refine wpList_lookup_own_unit _ rfl _ _ 136 rfl 9 137 law_str Try.underlying136 (zero_unit _) w.heap.size (j + 1) _ rfl (HM.out.alloc _) _ _ rfl Hkey.out ?_; rw [Hhas.out, Ht.out])
                  have hcH := held_cell
                  refine region_rel (by kernel_rfl) (by kernel_rfl) ?_
                  repeat
                    ((with_reducible refine relStep (fun K hK => ?_))
                     (have HK := Lib.hid hK)
                     clear hK
                     (first
                       | (apply relInl
                          · intro r n hf
                            have Hf := Lib.hid hf
                            clear hf
                            unfold relAt
                            go_simp
                            (first | (refine relUpon_val ?_ (Below.refl _ _); exact rfl) | exact rfl | (refine relUpon_enter ?_; fail))
                          (simp only [Act.put, List.setIfInBounds_toArray, List.set_cons_zero, List.set_cons_succ])
                          (with_reducible refine HK.out _ _ ?_)
                          clear HK K)
                       | (fail)))
                  refine relNil ?_
                  intro r5 n5 hx5
                  clear hcH
                  (try simp only [List.nil_append, List.cons_append, List.mem_cons, List.not_mem_nil, or_false, forall_eq_or_imp, forall_eq, false_implies, implies_true] at hx5)
                  obtain ⟨w5, hb5⟩ := n5
                  (try dsimp only)
                  obtain ⟨hc5, hf5⟩ := bcell hb5
                  have hz5 := hb5.size
                  (try simp at hz5)
                  have HB5 := Lib.hid (show Below wr.heap.size wr w5 by (repeat' (first | with_reducible exact Below.refl _ _ | with_reducible assumption | with_reducible refine Below.drew ?_ | with_reducible refine below_drewN' ?_ _ | with_reducible refine Below.alloc ?_ ?_ _ | with_reducible refine Below.setCell ?_ ?_ _ | with_reducible refine below_step (by assumption) ?_ ?_ | omega | (simp; done) | (simp; omega))))
                  have z5_0 : wr.heap.size < w5.heap.size := (by omega); have y5_0 : wr.heap.size ≤ w5.heap.size := (by omega); have z5_1 : wr.heap.size + 1 < w5.heap.size := (by omega); have y5_1 : wr.heap.size + 1 ≤ w5.heap.size := (by omega)
                  go_wp2_with (first | (go_at_call 107; (with_reducible refine (word_any x.key _).mono ?_); rw [K1.out]; rintro e w6 ⟨rfl, hb6⟩; obtain ⟨hc6, hf6⟩ := bcell hb6; have hz6 := hb6.size; have z6_0 : wr.heap.size < w6.heap.size := (by omega); have y6_0 : wr.heap.size ≤ w6.heap.size := (by omega); have z6_1 : wr.heap.size + 1 < w6.heap.size := (by omega); have y6_1 : wr.heap.size + 1 ≤ w6.heap.size := (by omega); have HB6 := Lib.hid (HB5.out.trans (hb6.mono HB5.out.size))) | (go_at_call 128; (with_reducible refine (lwordorempty_any x.val _).mono ?_); rw [K2.out]; rintro e w7 ⟨rfl, hb7⟩; obtain ⟨hc7, hf7⟩ := bcell hb7; have hz7 := hb7.size; have z7_0 : wr.heap.size < w7.heap.size := (by omega); have y7_0 : wr.heap.size ≤ w7.heap.size := (by omega); have z7_1 : wr.heap.size + 1 < w7.heap.size := (by omega); have y7_1 : wr.heap.size + 1 ≤ w7.heap.size := (by omega); have HB7 := Lib.hid (HB6.out.trans (hb7.mono HB6.out.size)); have HM7 := Lib.hid (map_kept HM.out HB7.out)) | (at_mapUpdate; refine wpList_mapUpdate_own _ rfl _ _ _ 136 rfl 9 137 law_str Try.underlying136 (unitElem (H := Unit)) w.heap.size (j + 1) _ rfl HM7.out (by unfold maxLen; omega) _ _ _ rfl rfl Hkey.out _ [] unitElem_mk ?_; intro w8 hown8 hgrow8; rw [← Hsn.out] at hown8; have HM8 := Lib.hid hown8; have HB8 := Lib.hid ((HB.out.trans (HB7.out.mono HB.out.size)).grown hgrow8 (Nat.le_trans HB.out.size HB7.out.size) (fun j hj => by cases hj; exact Nat.le_refl _)); clear hown8 hgrow8))
                  go_roundw
                  case rel => exact ⟨j + 1 + 1, by omega, by go_num, Hs.out, HM8.out, HB8.out⟩
                  case measure => simp [intOf]; omega
            · have Hbad := Lib.hid (labs_bad (lt_at Hx.out) (show okL l (j + 1) = false by rw [okL_succ Hx.out Hy.out, less_asymm hl, Bool.and_false]))
              have hbl : Op.bytesLess x.key.toList y.key.toList = true := (less_eq _ _).symm.trans hl
              have Ht := Lib.hid ht
              clear ht hc hy hyx hl
              go_wp2_with (at_lookup; refine wpList_lookup_own_unit _ rfl _ _ 136 rfl 9 137 law_str Try.underlying136 (zero_unit _) w.heap.size (j + 1) _ rfl (HM.out.alloc _) _ _ rfl Hkey.out ?_; rw [Hhas.out, Ht.out])
              have hcH := held_cell
              refine region_rel (by kernel_rfl) (by kernel_rfl) ?_
              repeat
                ((with_reducible refine relStep (fun K hK => ?_))
                 (have HK := Lib.hid hK)
                 clear hK
                 (first
                   | (apply relInl
                      · intro r n hf
                        have Hf := Lib.hid hf
                        clear hf
                        unfold relAt
                        go_simp
                        (first | (refine relUpon_val ?_ (Below.refl _ _); exact rfl) | exact rfl | (refine relUpon_enter ?_; fail))
                      (simp only [Act.put, List.setIfInBounds_toArray, List.set_cons_zero, List.set_cons_succ])
                      (with_reducible refine HK.out _ _ ?_)
                      clear HK K)
                   | (fail)))
              refine relNil ?_
              intro r5 n5 hx5
              clear hcH
              (try simp only [List.nil_append, List.cons_append, List.mem_cons, List.not_mem_nil, or_false, forall_eq_or_imp, forall_eq, false_implies, implies_true] at hx5)
              obtain ⟨w5, hb5⟩ := n5
              (try dsimp only)
              obtain ⟨hc5, hf5⟩ := bcell hb5
              have hz5 := hb5.size
              (try simp at hz5)
              go_wp2
              go_ret
              exact ⟨by rw [Hbad.out]; rfl, by (repeat' (first | with_reducible exact Below.refl _ _ | with_reducible assumption | with_reducible refine Below.drew ?_ | with_reducible refine below_drewN' ?_ _ | with_reducible refine Below.alloc ?_ ?_ _ | with_reducible refine Below.setCell ?_ ?_ _ | with_reducible refine below_step (by assumption) ?_ ?_ | omega | (simp; done) | (simp; omega)))⟩
        · have Hbad := Lib.hid (labs_bad (lt_at Hx.out) (twice_bad HE.out Hx.out ht))
          have Ht := Lib.hid ht
          clear ht
          go_wp2_with (at_lookup; refine wpList_lookup_own_unit _ rfl _ _ 136 rfl 9 137 law_str Try.underlying136 (zero_unit _) w.heap.size (k) _ rfl (HM.out.alloc _) _ _ rfl Hkey.out ?_; rw [Hhas.out, Ht.out])
          have hcH := held_cell
          refine region_rel (by kernel_rfl) (by kernel_rfl) ?_
          repeat
            ((with_reducible refine relStep (fun K hK => ?_))
             (have HK := Lib.hid hK)
             clear hK
             (first
               | (apply relInl
                  · intro r n hf
                    have Hf := Lib.hid hf
                    clear hf
                    unfold relAt
                    go_simp
                    (first | (refine relUpon_val ?_ (Below.refl _ _); exact rfl) | exact rfl | (refine relUpon_enter ?_; fail))
                  (simp only [Act.put, List.setIfInBounds_toArray, List.set_cons_zero, List.set_cons_succ])
                  (with_reducible refine HK.out _ _ ?_)
                  clear HK K)
               | (fail)))
          refine relNil ?_
          intro r5 n5 hx5
          clear hcH
          (try simp only [List.nil_append, List.cons_append, List.mem_cons, List.not_mem_nil, or_false, forall_eq_or_imp, forall_eq, false_implies, implies_true] at hx5)
          obtain ⟨w5, hb5⟩ := n5
          (try dsimp only)
          obtain ⟨hc5, hf5⟩ := bcell hb5
          have hz5 := hb5.size
          (try simp at hz5)
          go_wp2
          go_ret
          exact ⟨by rw [Hbad.out]; rfl, by (repeat' (first | with_reducible exact Below.refl _ _ | with_reducible assumption | with_reducible refine Below.drew ?_ | with_reducible refine below_drewN' ?_ _ | with_reducible refine Below.alloc ?_ ?_ _ | with_reducible refine Below.setCell ?_ ?_ _ | with_reducible refine below_step (by assumption) ?_ ?_ | omega | (simp; done) | (simp; omega)))⟩
      · obtain rfl : k = n := by omega
        have Hend := Lib.hid (labs_end Hln.out (by omega) HE.out)
        go_wp2
        go_ret
        exact ⟨by rw [Hend.out]; rfl, by (repeat' (first | with_reducible exact Below.refl _ _ | with_reducible assumption | with_reducible refine Below.drew ?_ | with_reducible refine below_drewN' ?_ _ | with_reducible refine Below.alloc ?_ ?_ _ | with_reducible refine Below.setCell ?_ ?_ _ | with_reducible refine below_step (by assumption) ?_ ?_ | omega | (simp; done) | (simp; omega)))⟩
end Lb
end Go.Proofs.Ythbpnfpalcgfeaa
