/-
  Which states are right: triremelaw33.right.
-/
import Derived.Test.YtmkdfcggjlhcpaaPeL
import Derived.Deep.Cut
namespace Go.Proofs.Ytmkdfcggjlhcpaa
open Go.RowKit
set_option linter.unusedVariables false
set_option linter.unusedSimpArgs false

/-- What a state that is right has. -/
structure RtOk (s : St) : Prop where
  o : StOk s
  g : GrOk s.C
  gl : lightGs s.C = true
  gr : rightGs s.C = true
  l60 : s.L.length ≤ 60
  r20 : s.R.length ≤ 20
set_option maxRecDepth 100000 in
set_option maxHeartbeats 8000000 in
theorem right33_any (s : St) (w : World) (hI : StIn w s) (hC : s.C.length ≤ maxLen) (hT : s.T.length ≤ maxLen) (hL : s.L.length ≤ maxLen) (hR : s.R.length ≤ maxLen) :
    Calls Try.prog 4 #[.agg #[.slice s.ga s.C.length s.gk, .slice s.ta s.T.length s.tk, .slice s.ia s.L.length s.ik, .int .i64 s.c0, .int .i64 s.c1, .int .i64 s.c2, .slice s.ra s.R.length s.rk, .int .i64 s.un, .int .i64 s.sh]] w fun e w' => (∃ b, e = .returned (.bool b) ∧ (b = true → RtOk s)) ∧ Below w.heap.size w w' := by
  have HLg := Lib.hid (fun V (hV : Below w.heap.size w V) => lightgs_any s.ga s.C s.gk V (hI.g.mono hV) hC (fun g hg => (hI.m g hg).mono hV))
  have HRg := Lib.hid (fun V (hV : Below w.heap.size w V) (h : lightGs s.C = true) => refrightgs_any s.ga s.C s.gk V (hI.g.mono hV) (fun g hg => (hI.m g hg).mono hV) h)
  have HCp := Lib.hid (fun V => right23_any s.c0 s.c1 s.c2 V)
  have HOk := Lib.hid (fun hl hr ht h60 h20 hc hb => (⟨right_ok hl hr ht h60 h20 hc hb, GrOk.mk' hr hl, hl, hr, h60, h20⟩ : RtOk s))
  have HGi := Lib.hid hI.g
  have HTi := Lib.hid hI.t
  have HLi := Lib.hid hI.i
  obtain ⟨lg, hlg⟩ : ∃ b, lightGs s.C = b := ⟨_, rfl⟩
  obtain ⟨rg, hrg⟩ : ∃ b, rightGs s.C = b := ⟨_, rfl⟩
  obtain ⟨cp, hcp⟩ : ∃ b, rightC s.c0 s.c1 s.c2 = b := ⟨_, rfl⟩
  rw [hlg] at HLg HRg HOk
  rw [hrg] at HRg HOk
  rw [hcp] at HCp HOk
  have hTb : s.T.length ≤ 9223372036854775807 := by unfold maxLen at hT; omega
  clear hI hC hT hL hR hlg hrg hcp
  obtain ⟨ga, C, gk, ta, T, tk, ia, L, ik, z0, z1, z2, ra, R, rk, un, sh⟩ := s
  dsimp only at HLg HRg HCp HOk HGi HTi HLi hTb ⊢
  obtain ⟨nC, hnC⟩ : ∃ n, C.length = n := ⟨_, rfl⟩
  obtain ⟨nT, hnT⟩ : ∃ n, T.length = n := ⟨_, rfl⟩
  obtain ⟨nL, hnL⟩ : ∃ n, L.length = n := ⟨_, rfl⟩
  obtain ⟨nR, hnR⟩ : ∃ n, R.length = n := ⟨_, rfl⟩
  rw [hnC] at HLg HRg HOk ⊢
  rw [hnT] at HOk hTb ⊢
  rw [hnL] at HOk ⊢
  rw [hnR] at HOk ⊢
  have HnC := Lib.hid hnC
  have HnT := Lib.hid hnT
  have HnL := Lib.hid hnL
  clear hnC hnT hnL hnR
  obtain ⟨W, hW⟩ : ∃ W, W = (w.alloc (.cells #[.slice ga nC gk, .slice ta nT tk, .slice ia nL ik, .int .i64 z0, .int .i64 z1, .int .i64 z2, .slice ra nR rk, .int .i64 un, .int .i64 sh] 29)) := ⟨_, rfl⟩
  have HS := Lib.hid (show Blk W w.heap.size 29 [.slice ga nC gk, .slice ta nT tk, .slice ia nL ik, .int .i64 z0, .int .i64 z1, .int .i64 z2, .slice ra nR rk, .int .i64 un, .int .i64 sh] by rw [hW]; exact Blk.new w _ _)
  have HB := Lib.hid (show Below w.heap.size w W by rw [hW]; exact (Below.refl _ _).alloc (Nat.le_refl _) _)
  have hlt := HS.out.lt
  go_enter Try.func4, Try.ntmps4
  go_upto_region 1 with (fail)
  rw [← hW]
  clear hW
  have s0 := HS.out.cell 0
  dsimp only [List.getElem?_cons_zero, List.getElem?_cons_succ] at s0
  cases lg with
  | false =>
    go_wp2_with (go_at_call 9; (with_reducible refine (HLg.out _ HB.out).mono ?_); rintro e w1 ⟨rfl, hb⟩; have HB1 := Lib.hid (HB.out.trans (hb.mono HB.out.size)); clear hb)
    refine bodyPost_ret (v := .bool false) (by simp [results, Try.results4, go_sem]) rfl (by first | exact ⟨⟨false, rfl, fun h => by cases h⟩, HB1.out⟩ | exact ⟨.inl rfl, HB1.out⟩)
  | true =>
    cases rg with
    | false =>
      go_wp2_with (first
        | (go_at_call 9; (with_reducible refine (HLg.out _ HB.out).mono ?_); rintro e w1 ⟨rfl, hb⟩; have HB1 := Lib.hid (HB.out.trans (hb.mono HB.out.size)); have HS1 := Lib.hid (HS.out.below hb); have hlt1 := HS1.out.lt; clear hb s0; have s0 := HS1.out.cell 0; dsimp only [List.getElem?_cons_zero, List.getElem?_cons_succ] at s0)
        | (go_at_call 10; (with_reducible refine (HRg.out _ HB1.out (by trivial)).mono ?_); rintro e w2 ⟨rfl, hb⟩; have HB2 := Lib.hid (HB1.out.trans (hb.mono HB1.out.size)); have HS2 := Lib.hid (HS1.out.below hb); have hlt2 := HS2.out.lt; clear hb s0; have s0 := HS2.out.cell 0; have s1 := HS2.out.cell 1; have s2 := HS2.out.cell 2; have s6 := HS2.out.cell 6; dsimp only [List.getElem?_cons_zero, List.getElem?_cons_succ] at s0 s1 s2 s6))
      refine bodyPost_ret (v := .bool false) (by simp [results, Try.results4, go_sem]) rfl (by first | exact ⟨⟨false, rfl, fun h => by cases h⟩, HB2.out⟩ | exact ⟨.inl rfl, HB2.out⟩)
    | true =>
      by_cases ht : nT = nC
      · subst ht
        by_cases h60 : nL ≤ 60
        · have k60 : decide (60 < nL) = false := decide_eq_false (by omega)
          have k60i : decide ((60 : Int) < (nL : Int)) = false := decide_eq_false (by omega)
          by_cases h20 : nR ≤ 20
          · have k20 : decide (20 < nR) = false := decide_eq_false (by omega)
            have k20i : decide ((20 : Int) < (nR : Int)) = false := decide_eq_false (by omega)
            cases cp with
            | false =>
              go_wp2_with (first
                | (go_at_call 9; (with_reducible refine (HLg.out _ HB.out).mono ?_); rintro e w1 ⟨rfl, hb⟩; have HB1 := Lib.hid (HB.out.trans (hb.mono HB.out.size)); have HS1 := Lib.hid (HS.out.below hb); have hlt1 := HS1.out.lt; clear hb s0; have s0 := HS1.out.cell 0; dsimp only [List.getElem?_cons_zero, List.getElem?_cons_succ] at s0)
                | (go_at_call 10; (with_reducible refine (HRg.out _ HB1.out (by trivial)).mono ?_); rintro e w2 ⟨rfl, hb⟩; have HB2 := Lib.hid (HB1.out.trans (hb.mono HB1.out.size)); have HS2 := Lib.hid (HS1.out.below hb); have hlt2 := HS2.out.lt; clear hb s0; have s0 := HS2.out.cell 0; have s1 := HS2.out.cell 1; have s2 := HS2.out.cell 2; have s6 := HS2.out.cell 6; dsimp only [List.getElem?_cons_zero, List.getElem?_cons_succ] at s0 s1 s2 s6)
                | ((with_reducible refine at_load (ty := 26) ?_); refine load_cells rfl 26 (.tmp 37) rfl w.heap.size 3 rfl [.int .i64 z0, .int .i64 z1, .int .i64 z2] _ Try.underlying26 rfl (by kernel_rfl) (HS2.out.range 3 _ rfl) ?_)
                | (go_at_call 11; (with_reducible refine (HCp.out _).mono ?_); rintro e w3 ⟨rfl, hb⟩; have HB3 := Lib.hid (HB2.out.trans (hb.mono HB2.out.size)); have HS3 := Lib.hid (HS2.out.below hb); have hlt3 := HS3.out.lt; clear hb s0 s1 s2 s6; have s0 := HS3.out.cell 0; have s1 := HS3.out.cell 1; have s2 := HS3.out.cell 2; dsimp only [List.getElem?_cons_zero, List.getElem?_cons_succ] at s0 s1 s2))
              refine bodyPost_ret (v := .bool false) (by simp [results, Try.results4, go_sem]) rfl (by first | exact ⟨⟨false, rfl, fun h => by cases h⟩, HB3.out⟩ | exact ⟨.inl rfl, HB3.out⟩)
            | true =>
              go_wp2_with (first
                | (go_at_call 9; (with_reducible refine (HLg.out _ HB.out).mono ?_); rintro e w1 ⟨rfl, hb⟩; have HB1 := Lib.hid (HB.out.trans (hb.mono HB.out.size)); have HS1 := Lib.hid (HS.out.below hb); have hlt1 := HS1.out.lt; clear hb s0; have s0 := HS1.out.cell 0; dsimp only [List.getElem?_cons_zero, List.getElem?_cons_succ] at s0)
                | (go_at_call 10; (with_reducible refine (HRg.out _ HB1.out (by trivial)).mono ?_); rintro e w2 ⟨rfl, hb⟩; have HB2 := Lib.hid (HB1.out.trans (hb.mono HB1.out.size)); have HS2 := Lib.hid (HS1.out.below hb); have hlt2 := HS2.out.lt; clear hb s0; have s0 := HS2.out.cell 0; have s1 := HS2.out.cell 1; have s2 := HS2.out.cell 2; have s6 := HS2.out.cell 6; dsimp only [List.getElem?_cons_zero, List.getElem?_cons_succ] at s0 s1 s2 s6)
                | ((with_reducible refine at_load (ty := 26) ?_); refine load_cells rfl 26 (.tmp 37) rfl w.heap.size 3 rfl [.int .i64 z0, .int .i64 z1, .int .i64 z2] _ Try.underlying26 rfl (by kernel_rfl) (HS2.out.range 3 _ rfl) ?_)
                | (go_at_call 11; (with_reducible refine (HCp.out _).mono ?_); rintro e w3 ⟨rfl, hb⟩; have HB3 := Lib.hid (HB2.out.trans (hb.mono HB2.out.size)); have HS3 := Lib.hid (HS2.out.below hb); have hlt3 := HS3.out.lt; clear hb s0 s1 s2 s6; have s0 := HS3.out.cell 0; have s1 := HS3.out.cell 1; have s2 := HS3.out.cell 2; dsimp only [List.getElem?_cons_zero, List.getElem?_cons_succ] at s0 s1 s2))
              obtain ⟨V3, hV3⟩ : ∃ V, V = w3 := ⟨_, rfl⟩
              rw [← hV3] at HB3 HS3 hlt3 s0 s1 s2 ⊢
              clear hV3 HLg HRg HCp HB HS hlt HB1 HS1 hlt1 HB2 HS2 hlt2
              go_loopw [3] (fun i wr => ∃ k : Nat, k ≤ nT ∧ i = .int .i64 k ∧ (∀ (j : Nat) (g : Gp) (t : Int), j < k → C[j]? = some g → T[j]? = some t → g.mn ≤ t ∧ t ≤ g.mx) ∧ Below V3.heap.size V3 wr) (fun i _ => nT - (intOf i).toNat)
              case atStart => exact ⟨0, by omega, rfl, fun j g t h => absurd h (Nat.not_lt_zero _), Below.refl _ _⟩
              case round =>
                obtain ⟨k, hk, rfl, hE, hBr⟩ := hrel
                have HE := Lib.hid hE
                have HBr := Lib.hid hBr
                have HBw := Lib.hid (HB3.out.trans (hBr.mono HB3.out.size))
                have HSr := Lib.hid (HS3.out.below hBr)
                have hltr := HSr.out.lt
                clear hE hBr s0 s1 s2
                have s0 := HSr.out.cell 0
                have s1 := HSr.out.cell 1
                have s2 := HSr.out.cell 2
                dsimp only [List.getElem?_cons_zero, List.getElem?_cons_succ] at s0 s1 s2
                by_cases hlt0 : k < nT
                · obtain ⟨g, hg⟩ := mem_at (l := C) (k := k) (by rw [HnC.out]; exact hlt0)
                  obtain ⟨t, ht⟩ := mem_at (l := T) (k := k) (by rw [HnT.out]; exact hlt0)
                  obtain ⟨b1, o1, rfl, hb1, hc1⟩ := HGi.out (by rw [HnC.out]; omega)
                  obtain ⟨b2, o2, rfl, hb2, hc2⟩ := HTi.out (by rw [HnT.out]; omega)
                  obtain ⟨-, x1, x2, -⟩ := grow_cells (hc1 k g hg)
                  have y0 := int_cell (hc2 k t ht)
                  rw [Nat.mul_one] at y0
                  have x1 := (HBw.out.cell (p := ⟨b1, o1 + k * 15 + 1, none⟩) hb1).trans x1
                  have x2 := (HBw.out.cell (p := ⟨b1, o1 + k * 15 + 2, none⟩) hb1).trans x2
                  have y0 := (HBw.out.cell (p := ⟨b2, o2 + k, none⟩) hb2).trans y0
                  have hb1 : b1 < wr.heap.size := Nat.lt_of_lt_of_le hb1 HBw.out.size
                  have hb2 : b2 < wr.heap.size := Nat.lt_of_lt_of_le hb2 HBw.out.size
                  obtain ⟨mn, hmn⟩ : ∃ mn, g.mn = mn := ⟨_, rfl⟩
                  obtain ⟨mx, hmx⟩ : ∃ mx, g.mx = mx := ⟨_, rfl⟩
                  rw [hmn] at x1
                  rw [hmx] at x2
                  have HN := Lib.hid (fun (h1 : mn ≤ t) (h2 : t ≤ mx) => show ∀ (j : Nat) (g : Gp) (t : Int), j < k + 1 → C[j]? = some g → T[j]? = some t → g.mn ≤ t ∧ t ≤ g.mx from fun j y u hj hy hu => by
                    by_cases e : j = k
                    · subst e
                      rw [hg] at hy
                      rw [ht] at hu
                      obtain rfl := Option.some.inj hy
                      obtain rfl := Option.some.inj hu
                      exact ⟨by omega, by omega⟩
                    · exact HE.out j y u (by omega) hy hu)
                  clear hg ht hmn hmx hc1 hc2
                  by_cases h1 : t < mn
                  · have k1 : decide (t < mn) = true := decide_eq_true h1
                    go_upto_region 6 with (fail)
                    have hcH := held_cell
                    refine region_rel (by kernel_rfl) (by kernel_rfl) ?_
                    repeat
                      ((with_reducible refine relStep (fun K hK => ?_))
                       (have HK := Lib.hid hK)
                       clear hK
                       (apply relInl
                        · intro r n hf
                          have Hf := Lib.hid hf
                          clear hf
                          (first
                            | (fail)
                            | (unfold relAt
                               go_simp
                               (first | (refine relUpon_val ?_ (Below.refl _ _); exact rfl) | exact rfl | (refine relUpon_enter ?_; fail))))
                        (simp only [Act.put, List.setIfInBounds_toArray, List.set_cons_zero, List.set_cons_succ])
                        (with_reducible refine HK.out _ _ ?_)
                        clear HK K))
                    refine relNil ?_
                    intro r5 n5 hx5
                    clear hcH
                    (try simp only [List.nil_append, List.cons_append, List.mem_cons, List.not_mem_nil, or_false, forall_eq_or_imp, forall_eq, false_implies, implies_true] at hx5)
                    obtain ⟨w5, hb5⟩ := n5
                    (try dsimp only)
                    obtain ⟨hc5, hf5⟩ := bcell hb5
                    have hz5 := hb5.size
                    (try simp at hz5)
                    go_wp2
                    refine bodyPost_ret (v := .bool false) (by simp [results, Try.results4, go_sem]) rfl (by first | exact ⟨⟨false, rfl, fun h => by cases h⟩, HBw.out.trans (hb5.mono HBw.out.size)⟩ | exact ⟨.inl rfl, HBw.out.trans (hb5.mono HBw.out.size)⟩)
                  · have k1 : decide (t < mn) = false := decide_eq_false h1
                    by_cases h2 : mx < t
                    · have k2 : decide (mx < t) = true := decide_eq_true h2
                      go_upto_region 6 with (fail)
                      have hcH := held_cell
                      refine region_rel (by kernel_rfl) (by kernel_rfl) ?_
                      repeat
                        ((with_reducible refine relStep (fun K hK => ?_))
                         (have HK := Lib.hid hK)
                         clear hK
                         (apply relInl
                          · intro r n hf
                            have Hf := Lib.hid hf
                            clear hf
                            (first
                              | (fail)
                              | (unfold relAt
                                 go_simp
                                 (first | (refine relUpon_val ?_ (Below.refl _ _); exact rfl) | exact rfl | (refine relUpon_enter ?_; fail))))
                          (simp only [Act.put, List.setIfInBounds_toArray, List.set_cons_zero, List.set_cons_succ])
                          (with_reducible refine HK.out _ _ ?_)
                          clear HK K))
                      refine relNil ?_
                      intro r5 n5 hx5
                      clear hcH
                      (try simp only [List.nil_append, List.cons_append, List.mem_cons, List.not_mem_nil, or_false, forall_eq_or_imp, forall_eq, false_implies, implies_true] at hx5)
                      obtain ⟨w5, hb5⟩ := n5
                      (try dsimp only)
                      obtain ⟨hc5, hf5⟩ := bcell hb5
                      have hz5 := hb5.size
                      (try simp at hz5)
                      go_wp2
                      refine bodyPost_ret (v := .bool false) (by simp [results, Try.results4, go_sem]) rfl (by first | exact ⟨⟨false, rfl, fun h => by cases h⟩, HBw.out.trans (hb5.mono HBw.out.size)⟩ | exact ⟨.inl rfl, HBw.out.trans (hb5.mono HBw.out.size)⟩)
                    · have k2 : decide (mx < t) = false := decide_eq_false h2
                      have HN := Lib.hid (HN.out (by omega) (by omega))
                      go_upto_region 6 with (fail)
                      have hcH := held_cell
                      refine region_rel (by kernel_rfl) (by kernel_rfl) ?_
                      repeat
                        ((with_reducible refine relStep (fun K hK => ?_))
                         (have HK := Lib.hid hK)
                         clear hK
                         (apply relInl
                          · intro r n hf
                            have Hf := Lib.hid hf
                            clear hf
                            (first
                              | (fail)
                              | (unfold relAt
                                 go_simp
                                 (first | (refine relUpon_val ?_ (Below.refl _ _); exact rfl) | exact rfl | (refine relUpon_enter ?_; fail))))
                          (simp only [Act.put, List.setIfInBounds_toArray, List.set_cons_zero, List.set_cons_succ])
                          (with_reducible refine HK.out _ _ ?_)
                          clear HK K))
                      refine relNil ?_
                      intro r5 n5 hx5
                      clear hcH
                      (try simp only [List.nil_append, List.cons_append, List.mem_cons, List.not_mem_nil, or_false, forall_eq_or_imp, forall_eq, false_implies, implies_true] at hx5)
                      obtain ⟨w5, hb5⟩ := n5
                      (try dsimp only)
                      obtain ⟨hc5, hf5⟩ := bcell hb5
                      have hz5 := hb5.size
                      (try simp at hz5)
                      go_wp2
                      go_roundw
                      case rel => exact ⟨k + 1, by omega, by go_num, HN.out, HBr.out.trans (hb5.mono HBr.out.size)⟩
                      case measure => simp [intOf]; omega
                · obtain rfl : k = nT := by omega
                  have HTg := Lib.hid (show tgtB C T = true by
                    unfold tgtB
                    rw [List.all_eq_true]
                    intro j hj
                    have hj := List.mem_range.1 hj
                    rw [HnT.out] at hj
                    cases hy : C[j]? with
                    | none => rfl
                    | some y =>
                      cases hu : T[j]? with
                      | none => rfl
                      | some u =>
                        have := HE.out j y u hj hy hu
                        simp only [Bool.and_eq_true, decide_eq_true_eq]
                        exact this)
                  clear HE
                  go_upto_region 9 with (fail)
                  obtain ⟨V4, hV4⟩ : ∃ V, V = wr := ⟨_, rfl⟩
                  rw [← hV4] at HBw HSr hltr s0 s1 s2 ⊢
                  clear hV4 HB3 HS3 hlt3 HBr HGi HTi
                  go_loopw [4] (fun i wr => ∃ k : Nat, k ≤ nL ∧ i = .int .i64 k ∧ Below V4.heap.size V4 wr) (fun i _ => nL - (intOf i).toNat)
                  case atStart => exact ⟨0, by omega, rfl, Below.refl _ _⟩
                  case round =>
                    obtain ⟨q, hq, rfl, hBq⟩ := hrel
                    have HBq := Lib.hid hBq
                    have HBy := Lib.hid (HBw.out.trans (hBq.mono HBw.out.size))
                    have HSq := Lib.hid (HSr.out.below hBq)
                    have hltq := HSq.out.lt
                    clear hBq s0 s1 s2
                    have s2 := HSq.out.cell 2
                    dsimp only [List.getElem?_cons_zero, List.getElem?_cons_succ] at s2
                    by_cases hlt0 : q < nL
                    · obtain ⟨x, hx⟩ := mem_at (l := L) (k := q) (by rw [HnL.out]; exact hlt0)
                      obtain ⟨b1, o1, rfl, hb1, hc1⟩ := HLi.out (by rw [HnL.out]; omega)
                      obtain ⟨x0, x1, -⟩ := irow_cells (hc1 q x hx)
                      have x0 := (HBy.out.cell (p := ⟨b1, o1 + q * 5, none⟩) hb1).trans x0
                      have x1 := (HBy.out.cell (p := ⟨b1, o1 + q * 5 + 1, none⟩) hb1).trans x1
                      have hb1 : b1 < wr.heap.size := Nat.lt_of_lt_of_le hb1 HBy.out.size
                      obtain ⟨nm, hnm⟩ : ∃ nm, x.nm = nm := ⟨_, rfl⟩
                      obtain ⟨gp, hgp⟩ : ∃ gp, x.gp = gp := ⟨_, rfl⟩
                      rw [hnm] at x0
                      rw [hgp] at x1
                      clear hx hc1 hnm hgp
                      by_cases h1 : nm.size ≤ 300
                      · have k1 : decide (300 < nm.size) = false := decide_eq_false (by omega)
                        have k1i : decide ((300 : Int) < (nm.size : Int)) = false := decide_eq_false (by omega)
                        by_cases h2 : gp.size ≤ 300
                        · have k2 : decide (300 < gp.size) = false := decide_eq_false (by omega)
                          have k2i : decide ((300 : Int) < (gp.size : Int)) = false := decide_eq_false (by omega)
                          go_wp2
                          go_roundw
                          case rel => exact ⟨q + 1, by omega, by go_num, HBq.out⟩
                          case measure => simp [intOf]; omega
                        · have k2 : decide (300 < gp.size) = true := decide_eq_true (by omega)
                          have k2i : decide ((300 : Int) < (gp.size : Int)) = true := decide_eq_true (by omega)
                          go_wp2
                          refine bodyPost_ret (v := .bool false) (by simp [results, Try.results4, go_sem]) rfl (by first | exact ⟨⟨false, rfl, fun h => by cases h⟩, HBy.out⟩ | exact ⟨.inl rfl, HBy.out⟩)
                      · have k1 : decide (300 < nm.size) = true := decide_eq_true (by omega)
                        have k1i : decide ((300 : Int) < (nm.size : Int)) = true := decide_eq_true (by omega)
                        go_wp2
                        refine bodyPost_ret (v := .bool false) (by simp [results, Try.results4, go_sem]) rfl (by first | exact ⟨⟨false, rfl, fun h => by cases h⟩, HBy.out⟩ | exact ⟨.inl rfl, HBy.out⟩)
                    · obtain rfl : q = nL := by omega
                      go_wp2
                      refine bodyPost_ret (v := .bool true) (by simp [results, Try.results4, go_sem]) rfl (by first | exact ⟨⟨true, rfl, fun _ => HOk.out (by trivial) (by trivial) (by trivial) h60 h20 (by trivial) HTg.out⟩, HBy.out⟩ | exact ⟨.inr ⟨rfl, HOk.out (by trivial) (by trivial) (by trivial) h60 h20 (by trivial) HTg.out⟩, HBy.out⟩)
          · have k20 : decide (20 < nR) = true := decide_eq_true (by omega)
            have k20i : decide ((20 : Int) < (nR : Int)) = true := decide_eq_true (by omega)
            go_wp2_with (first
              | (go_at_call 9; (with_reducible refine (HLg.out _ HB.out).mono ?_); rintro e w1 ⟨rfl, hb⟩; have HB1 := Lib.hid (HB.out.trans (hb.mono HB.out.size)); have HS1 := Lib.hid (HS.out.below hb); have hlt1 := HS1.out.lt; clear hb s0; have s0 := HS1.out.cell 0; dsimp only [List.getElem?_cons_zero, List.getElem?_cons_succ] at s0)
              | (go_at_call 10; (with_reducible refine (HRg.out _ HB1.out (by trivial)).mono ?_); rintro e w2 ⟨rfl, hb⟩; have HB2 := Lib.hid (HB1.out.trans (hb.mono HB1.out.size)); have HS2 := Lib.hid (HS1.out.below hb); have hlt2 := HS2.out.lt; clear hb s0; have s0 := HS2.out.cell 0; have s1 := HS2.out.cell 1; have s2 := HS2.out.cell 2; have s6 := HS2.out.cell 6; dsimp only [List.getElem?_cons_zero, List.getElem?_cons_succ] at s0 s1 s2 s6))
            refine bodyPost_ret (v := .bool false) (by simp [results, Try.results4, go_sem]) rfl (by first | exact ⟨⟨false, rfl, fun h => by cases h⟩, HB2.out⟩ | exact ⟨.inl rfl, HB2.out⟩)
        · have k60 : decide (60 < nL) = true := decide_eq_true (by omega)
          have k60i : decide ((60 : Int) < (nL : Int)) = true := decide_eq_true (by omega)
          go_wp2_with (first
            | (go_at_call 9; (with_reducible refine (HLg.out _ HB.out).mono ?_); rintro e w1 ⟨rfl, hb⟩; have HB1 := Lib.hid (HB.out.trans (hb.mono HB.out.size)); have HS1 := Lib.hid (HS.out.below hb); have hlt1 := HS1.out.lt; clear hb s0; have s0 := HS1.out.cell 0; dsimp only [List.getElem?_cons_zero, List.getElem?_cons_succ] at s0)
            | (go_at_call 10; (with_reducible refine (HRg.out _ HB1.out (by trivial)).mono ?_); rintro e w2 ⟨rfl, hb⟩; have HB2 := Lib.hid (HB1.out.trans (hb.mono HB1.out.size)); have HS2 := Lib.hid (HS1.out.below hb); have hlt2 := HS2.out.lt; clear hb s0; have s0 := HS2.out.cell 0; have s1 := HS2.out.cell 1; have s2 := HS2.out.cell 2; have s6 := HS2.out.cell 6; dsimp only [List.getElem?_cons_zero, List.getElem?_cons_succ] at s0 s1 s2 s6))
          refine bodyPost_ret (v := .bool false) (by simp [results, Try.results4, go_sem]) rfl (by first | exact ⟨⟨false, rfl, fun h => by cases h⟩, HB2.out⟩ | exact ⟨.inl rfl, HB2.out⟩)
      · have kt : (nT == nC) = false := by simpa using ht
        go_wp2_with (first
          | (go_at_call 9; (with_reducible refine (HLg.out _ HB.out).mono ?_); rintro e w1 ⟨rfl, hb⟩; have HB1 := Lib.hid (HB.out.trans (hb.mono HB.out.size)); have HS1 := Lib.hid (HS.out.below hb); have hlt1 := HS1.out.lt; clear hb s0; have s0 := HS1.out.cell 0; dsimp only [List.getElem?_cons_zero, List.getElem?_cons_succ] at s0)
          | (go_at_call 10; (with_reducible refine (HRg.out _ HB1.out (by trivial)).mono ?_); rintro e w2 ⟨rfl, hb⟩; have HB2 := Lib.hid (HB1.out.trans (hb.mono HB1.out.size)); have HS2 := Lib.hid (HS1.out.below hb); have hlt2 := HS2.out.lt; clear hb s0; have s0 := HS2.out.cell 0; have s1 := HS2.out.cell 1; have s2 := HS2.out.cell 2; have s6 := HS2.out.cell 6; dsimp only [List.getElem?_cons_zero, List.getElem?_cons_succ] at s0 s1 s2 s6))
        refine bodyPost_ret (v := .bool false) (by simp [results, Try.results4, go_sem]) rfl (by first | exact ⟨⟨false, rfl, fun h => by cases h⟩, HB2.out⟩ | exact ⟨.inl rfl, HB2.out⟩)
end Go.Proofs.Ytmkdfcggjlhcpaa
