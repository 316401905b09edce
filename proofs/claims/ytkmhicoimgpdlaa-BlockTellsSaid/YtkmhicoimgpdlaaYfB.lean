/-
  Yards: the document's Used.
-/
import Derived.Test.YtkmhicoimgpdlaaND
import Derived.Test.YtkmhicoimgpdlaaYfA
namespace Go.Proofs.Ytkmhicoimgpdlaa
open Go.RowKit
set_option linter.unusedVariables false
set_option linter.unusedSimpArgs false

abbrev PodL := RowsAt prow 20
set_option maxRecDepth 100000 in
set_option maxHeartbeats 8000000 in
theorem refused_any (a : Option Addr) (ka : Nat) (bs : List Bd) (mm : ByteArray) (w : World) (hF : BndL w a bs) (hl : bs.length ≤ 1000000) (hr : ∀ b ∈ bs, rtP b.p = true) :
    Calls Try.prog 39 #[.slice a bs.length ka, .string mm] w fun e w' => e = .returned (.tuple #[(usedY bs mm).2.v, .int .i64 (usedY bs mm).1]) ∧ Below w.heap.size w w' := by
  have hU := used_sum (nm := mm) hr
  have hOn := fun V (hV : Below w.heap.size w V) => refon_any a ka bs mm V (hF.mono hV) hl
  have hql := onL_len bs mm
  have hrq : ∀ p ∈ onL bs mm, rtP p = true := fun p hp => by
    unfold onL at hp
    obtain ⟨b, hb, rfl⟩ := List.mem_map.1 hp
    exact hr b (List.mem_filter.1 hb).1
  obtain ⟨Q, hQ⟩ : ∃ Q, onL bs mm = Q := ⟨_, rfl⟩
  rw [hQ] at hU hOn hql hrq
  obtain ⟨U, hUU⟩ : ∃ U, usedY bs mm = U := ⟨_, rfl⟩
  rw [hUU] at hU ⊢
  obtain ⟨q, hq⟩ : ∃ q, Q.length = q := ⟨_, rfl⟩
  have HOn := Lib.hid (show ∀ V, Below w.heap.size w V → Calls Try.prog 38 #[.slice a bs.length ka, .string mm] V fun e V' => (∃ c k, e = .returned (.slice c q k) ∧ PodL V' c Q) ∧ Below V.heap.size V V' from fun V hV => (hOn V hV).mono fun e V' h => by
    obtain ⟨⟨v, rfl, ho⟩, hb⟩ := h
    obtain ⟨c, k, rfl, -, ht⟩ := IsL.of_own prow_len (by decide) ho
    exact ⟨⟨c, k, by rw [hq], ht⟩, hb⟩)
  have HU := Lib.hid hU
  have HQ := Lib.hid hq
  have HRq := Lib.hid hrq
  have hq6 : q ≤ 1000000 := by omega
  generalize bs.length = n at HOn hl ⊢
  clear hOn hU hUU hQ hq hrq hr hF hql
  go_enter Try.func39, Try.ntmps39
  go_wp2_with (go_at_call 38; (with_reducible refine (HOn.out _ (by (repeat' (first | with_reducible exact Below.refl _ _ | with_reducible assumption | with_reducible refine Below.drew ?_ | with_reducible refine below_drewN' ?_ _ | with_reducible refine Below.alloc ?_ ?_ _ | with_reducible refine Below.setCell ?_ ?_ _ | with_reducible refine below_step (by assumption) ?_ ?_ | omega | (simp; done) | (simp; omega))))).mono ?_); rintro e w1 ⟨⟨c1, k1, rfl, ht1⟩, hb1⟩; have HX1 := Lib.hid ((Blk.new w 31 R5.z.l).below hb1); have HB1 := Lib.hid (((Below.refl w.heap.size w).alloc (Nat.le_refl _) _).trans (hb1.mono (by simp))); have HT1 := Lib.hid ht1; clear hb1 ht1)
  go_loopw [7] (fun vi wr => ∃ k : Nat, k ≤ q ∧ vi = .int .i64 k ∧ Below w1.heap.size w1 wr) (fun vi _ => q - (intOf vi).toNat)
  case atStart => exact ⟨0, Nat.zero_le _, rfl, Below.refl _ _⟩
  case round =>
    obtain ⟨k, hk, rfl, hB⟩ := hrel
    have HB := Lib.hid hB
    have hbz := hB.size
    by_cases hlt : k < q
    · obtain ⟨p, hp⟩ := mem_at (l := Q) (k := k) (by rw [HQ.out]; exact hlt)
      obtain ⟨b, o, rfl, hb, hc⟩ := (HT1.out.mono hB) (by rw [HQ.out]; omega)
      have hrt := HRq.out p (List.mem_of_getElem? hp)
      have HRg := Lib.hid (show wr.rangeAt b (o + k * 20 + 1) [.int .i64 p.n0, .int .i64 p.n1, .int .i64 p.n2, .int .i64 p.n3, .int .i64 p.n4] from fun j v hj => by
        have hj5 : j < 5 := (List.getElem?_eq_some_iff.1 hj).1
        have h9 := hc k p hp (1 + j) (by omega)
        rw [show o + k * 20 + 1 + j = o + k * 20 + (1 + j) by omega, h9]
        match j, hj5, hj with
        | 0, _, hj => exact hj
        | 1, _, hj => exact hj
        | 2, _, hj => exact hj
        | 3, _, hj => exact hj
        | 4, _, hj => exact hj)
      have hRt := fun V => refright_any p.n0 p.n1 p.n2 p.n3 p.n4 V
      rw [show rtB p.n0 p.n1 p.n2 p.n3 p.n4 = true from hrt] at hRt
      have HRt := Lib.hid hRt
      obtain ⟨n0, n1, n2, n3, n4, hn0, hn1, hn2, hn3, hn4⟩ : ∃ n0 n1 n2 n3 n4, p.n0 = n0 ∧ p.n1 = n1 ∧ p.n2 = n2 ∧ p.n3 = n3 ∧ p.n4 = n4 := ⟨_, _, _, _, _, rfl, rfl, rfl, rfl, rfl⟩
      rw [hn0, hn1, hn2, hn3, hn4] at HRg HRt
      clear hc hp hrt hRt hB hn0 hn1 hn2 hn3 hn4
      go_wp2_with (first
        | ((with_reducible refine at_load (ty := 31) ?_); refine load_cells rfl 31 (.tmp 24) rfl b (o + k * 20 + 1) rfl [.int .i64 n0, .int .i64 n1, .int .i64 n2, .int .i64 n3, .int .i64 n4] _ Try.underlying31 rfl (by kernel_rfl) HRg.out ?_)
        | (go_at_call 54; (with_reducible refine (HRt.out _).mono ?_); rintro e w3 ⟨rfl, hb3⟩; have HB3 := Lib.hid (HB.out.trans (hb3.mono hbz)); clear hb3))
      go_roundw
      case rel => exact ⟨k + 1, by omega, by go_num, HB3.out⟩
      case measure => simp [intOf]; omega
    · obtain rfl : q = k := by omega
      have HX2 := Lib.hid (HX1.out.below hB)
      have HB2 := Lib.hid (HB1.out.trans (hB.mono HB1.out.size))
      have HT2 := Lib.hid (HT1.out.mono hB)
      clear hB HB hbz HX1 HT1
      go_wp2
      obtain ⟨V0, hV0⟩ : ∃ V, V = wr := ⟨_, rfl⟩
      subst hV0
      have HS0 := Lib.hid (Blk.new V0 31 R5.z.l)
      obtain ⟨N, hN⟩ : ∃ N, V0.heap.size = N := ⟨_, rfl⟩
      have HN := Lib.hid hN
      have hXN : w.heap.size < N := by rw [← hN]; exact HX2.out.lt
      have HBs := Lib.hid (show Below N V0 (V0.alloc (.cells R5.z.l.toArray 31)) by rw [← hN]; exact (Below.refl _ _).alloc (Nat.le_refl _) _)
      rw [hN] at HS0 ⊢
      have HUs := Lib.hid (show U = sumP (Q.drop 0) 0 R5.z from HU.out)
      clear hN HU
      go_loopw [9] (fun vi wq => ∃ (k : Nat) (r : R5), k ≤ q ∧ vi = .int .i64 k ∧ U = sumP (Q.drop k) 0 r ∧ Blk wq N 31 r.l ∧ Below N V0 wq) (fun vi _ => q - (intOf vi).toNat)
      case atStart => exact ⟨0, R5.z, Nat.zero_le _, rfl, HUs.out, HS0.out, HBs.out⟩
      case round =>
        obtain ⟨k, r, hk, rfl, hE, hS, hB⟩ := hrel
        have HE := Lib.hid hE
        have HS := Lib.hid hS
        have HB := Lib.hid hB
        have HV := Lib.hid (show Below V0.heap.size V0 wr by rw [HN.out]; exact hB)
        have HXr := Lib.hid (HX2.out.below HV.out)
        have HWr := Lib.hid (HB2.out.trans (HV.out.mono HB2.out.size))
        have hSl := HS.out.lt
        clear hE hS hB HUs HS0 HBs
        by_cases hlt : k < q
        · obtain ⟨p, hp⟩ := mem_at (l := Q) (k := k) (by rw [HQ.out]; exact hlt)
          obtain ⟨b, o, rfl, hb, hc⟩ := (HT2.out.mono HV.out) (by rw [HQ.out]; omega)
          have HRg := Lib.hid (show wr.rangeAt b (o + k * 20 + 1) [.int .i64 p.n0, .int .i64 p.n1, .int .i64 p.n2, .int .i64 p.n3, .int .i64 p.n4] from fun j v hj => by
            have hj5 : j < 5 := (List.getElem?_eq_some_iff.1 hj).1
            have h9 := hc k p hp (1 + j) (by omega)
            rw [show o + k * 20 + 1 + j = o + k * 20 + (1 + j) by omega, h9]
            match j, hj5, hj with
            | 0, _, hj => exact hj
            | 1, _, hj => exact hj
            | 2, _, hj => exact hj
            | 3, _, hj => exact hj
            | 4, _, hj => exact hj)
          have hnx := HE.out.trans (sumP_at hp 0 r)
          rw [if_pos rfl] at hnx
          have hbad := fun (h : addEP r p ≠ 0) => (hnx.trans (sumP_err _ _ _ h)).trans (congrArg (Prod.mk _) (addP_zero h))
          obtain ⟨r0, r1, r2, r3, r4⟩ := r
          obtain ⟨n0, n1, n2, n3, n4, hn0, hn1, hn2, hn3, hn4⟩ : ∃ n0 n1 n2 n3 n4, p.n0 = n0 ∧ p.n1 = n1 ∧ p.n2 = n2 ∧ p.n3 = n3 ∧ p.n4 = n4 := ⟨_, _, _, _, _, rfl, rfl, rfl, rfl, rfl⟩
          simp only [addEP, addP, hn0, hn1, hn2, hn3, hn4] at hnx hbad HRg
          have HNx := Lib.hid hnx
          have HBad := Lib.hid hbad
          have HRs := Lib.hid (show wr.rangeAt N 0 [.int .i64 r0, .int .i64 r1, .int .i64 r2, .int .i64 r3, .int .i64 r4] from fun j v hj => by rw [Nat.zero_add, HS.out.cell]; exact hj)
          clear hc hp hnx hbad hn0 hn1 hn2 hn3 hn4 HE
          obtain ⟨W, hWw⟩ : ∃ V, V = wr := ⟨_, rfl⟩
          subst hWw
          go_wp2
          have hcH := held_cell
          refine region_rel_late 11 [9] (by kernel_rfl) (by kernel_rfl) (by kernel_rfl) ?_ ?_
          · exact fun _ _ _ _ _ h => h
          dsimp only [List.take, List.drop]
          repeat
            ((with_reducible refine relStep (fun K hK => ?_))
             (have HK := Lib.hid hK)
             clear hK
             (apply relInl
              · intro r n hf
                have Hf := Lib.hid hf
                clear hf
                (first
                  | ((first | ((with_reducible refine at_rel (ty := 31) ?_); refine rel_load rfl N 0 rfl [.int .i64 r0, .int .i64 r1, .int .i64 r2, .int .i64 r3, .int .i64 r4] _ Try.underlying31 rfl (by kernel_rfl) (rangeAt_mono HRs.out hSl n.below) rfl) | ((with_reducible refine at_rel (ty := 31) ?_); refine rel_load rfl b (o + k * 20 + 1) rfl [.int .i64 n0, .int .i64 n1, .int .i64 n2, .int .i64 n3, .int .i64 n4] _ Try.underlying31 rfl (by kernel_rfl) (rangeAt_mono HRg.out hb n.below) rfl)))
                  | (unfold relAt
                     go_simp
                     (first | (refine relUpon_val ?_ (Below.refl _ _); exact rfl) | exact rfl | (refine relUpon_enter ?_; (go_at_call 55; (with_reducible refine (Rs.refadd_any r0 r1 r2 r3 r4 n0 n1 n2 n3 n4 _).mono ?_); rintro e w9 ⟨rfl, hb⟩; exact ⟨⟨_, rfl, rfl⟩, hb⟩)))))
              (simp only [Act.put, List.setIfInBounds_toArray, List.set_cons_zero, List.set_cons_succ])
              (with_reducible refine HK.out _ _ ?_)
              clear HK K))
          (with_reducible refine relStep (fun K hK => ?_))
          (have HK := Lib.hid hK)
          clear hK
          refine relInr (NewR W.heap.size) (NewR.stays _) (fun r n hf => ?_) ?_
          · have Hf := Lib.hid hf
            clear hf HK K
            unfold relAt
            (skip)
            go_simp
            ((refine relUpon_val ?_ ?_; exact NewR.mk n; exact (Below.refl _ _).alloc (Nat.le_refl _) _))
          (simp only [Act.put, List.setIfInBounds_toArray, List.set_cons_zero, List.set_cons_succ])
          (with_reducible refine HK.out _ _ ?_)
          clear HK K
          refine relNil ?_
          intro r9 n9 hx9
          clear hcH
          (try simp only [List.nil_append, List.cons_append, List.mem_cons, List.not_mem_nil, or_false, forall_eq_or_imp, forall_eq, false_implies, implies_true] at hx9)
          obtain ⟨w9, hb9⟩ := n9
          (try dsimp only)
          obtain ⟨hc9, hf9⟩ := bcell hb9
          have hz9 := hb9.size
          (try simp at hz9)
          obtain ⟨qb, e9, hq9, hB9⟩ := hx9
          have e9 : r9 10 = _ := e9
          dsimp only at hB9
          rw [e9]
          have Z9 := Lib.hid hB9
          have S9 := Lib.hid (HS.out.below hb9)
          have X9 := Lib.hid (HXr.out.below hb9)
          have B9 := Lib.hid (HB.out.trans (hb9.mono (Nat.le_of_lt hSl)))
          have W9 := Lib.hid (HWr.out.trans (hb9.mono HWr.out.size))
          have hNq : N < qb := Nat.lt_of_lt_of_le hSl hq9
          clear hB9 e9 hb9 hc9 hf9 hz9 hq9 HRs HRg HS HB HV HXr HWr hSl hb
          obtain ⟨E, hEE⟩ : ∃ E, Rs.addE r0 r1 r2 r3 r4 n0 n1 n2 n3 n4 = E := ⟨_, rfl⟩
          simp only [hEE] at HNx HBad ⊢
          generalize Rs.sel E (r0 + n0) = s0 at HNx ⊢
          generalize Rs.sel E (r1 + n1) = s1 at HNx ⊢
          generalize Rs.sel E (r2 + n2) = s2 at HNx ⊢
          generalize Rs.sel E (r3 + n3) = s3 at HNx ⊢
          generalize Rs.sel E (r4 + n4) = s4 at HNx ⊢
          clear hEE
          have z0 := Z9.out.cell 0
          have g0 := Z9.out.frozen 0
          have z1 := Z9.out.cell 1
          have g1 := Z9.out.frozen 1
          have z2 := Z9.out.cell 2
          have g2 := Z9.out.frozen 2
          have z3 := Z9.out.cell 3
          have g3 := Z9.out.frozen 3
          have z4 := Z9.out.cell 4
          have g4 := Z9.out.frozen 4
          have y0 := S9.out.cell 0
          have f0 := S9.out.frozen 0
          have y1 := S9.out.cell 1
          have f1 := S9.out.frozen 1
          have y2 := S9.out.cell 2
          have f2 := S9.out.frozen 2
          have y3 := S9.out.cell 3
          have f3 := S9.out.frozen 3
          have y4 := S9.out.cell 4
          have f4 := S9.out.frozen 4
          have hyl := S9.out.lt
          have hql := Z9.out.lt
          dsimp only [R5.z, R5.l, List.getElem?_cons_zero, List.getElem?_cons_succ] at z0 y0 z1 y1 z2 y2 z3 y3 z4 y4
          by_cases he : E = 0
          · subst he
            go_wp2
            go_roundw
            case rel => exact ⟨k + 1, ⟨s0, s1, s2, s3, s4⟩, by omega, by go_num, HNx.out, ((((((((((S9.out.other (Nat.ne_of_lt hNq) _).other (Nat.ne_of_lt hNq) _).other (Nat.ne_of_lt hNq) _).other (Nat.ne_of_lt hNq) _).other (Nat.ne_of_lt hNq) _).set 0 _).set 1 _).set 2 _).set 3 _).set 4 _), ((((((((((B9.out.setCell (Nat.le_of_lt hNq) _).setCell (Nat.le_of_lt hNq) _).setCell (Nat.le_of_lt hNq) _).setCell (Nat.le_of_lt hNq) _).setCell (Nat.le_of_lt hNq) _).setCell (Nat.le_refl _) _).setCell (Nat.le_refl _) _).setCell (Nat.le_refl _) _).setCell (Nat.le_refl _) _).setCell (Nat.le_refl _) _)⟩
            case measure => simp [intOf]; omega
          · have q0 : (E == 0) = false := by simpa using he
            have x0 := X9.out.cell 0
            have h0 := X9.out.frozen 0
            have x1 := X9.out.cell 1
            have h1 := X9.out.frozen 1
            have x2 := X9.out.cell 2
            have h2 := X9.out.frozen 2
            have x3 := X9.out.cell 3
            have h3 := X9.out.frozen 3
            have x4 := X9.out.cell 4
            have h4 := X9.out.frozen 4
            have hxl := X9.out.lt
            dsimp only [R5.z, R5.l, List.getElem?_cons_zero, List.getElem?_cons_succ] at x0 x1 x2 x3 x4
            have HU9 := Lib.hid (HBad.out he)
            go_wp2
            refine bodyPost_ret (v := .tuple #[R5.z.v, .int .i64 E]) (by simp [results, Try.results39, go_sem, R5.v, R5.z, *]) rfl ⟨by rw [HU9.out], ?_⟩
            have hwq : w.heap.size ≤ qb := by omega
            exact ((((((((((W9.out.setCell hwq _).setCell hwq _).setCell hwq _).setCell hwq _).setCell hwq _).setCell (Nat.le_refl _) _).setCell (Nat.le_refl _) _).setCell (Nat.le_refl _) _).setCell (Nat.le_refl _) _).setCell (Nat.le_refl _) _)
        · obtain rfl : q = k := by omega
          have hL : U = (0, r) := by rw [HE.out, List.drop_eq_nil_of_le (by rw [HQ.out]; exact Nat.le_refl _)]; rfl
          have HL := Lib.hid hL
          obtain ⟨r0, r1, r2, r3, r4⟩ := r
          clear hL HE
          have x0 := HXr.out.cell 0
          have h0 := HXr.out.frozen 0
          have x1 := HXr.out.cell 1
          have h1 := HXr.out.frozen 1
          have x2 := HXr.out.cell 2
          have h2 := HXr.out.frozen 2
          have x3 := HXr.out.cell 3
          have h3 := HXr.out.frozen 3
          have x4 := HXr.out.cell 4
          have h4 := HXr.out.frozen 4
          have y0 := HS.out.cell 0
          have f0 := HS.out.frozen 0
          have y1 := HS.out.cell 1
          have f1 := HS.out.frozen 1
          have y2 := HS.out.cell 2
          have f2 := HS.out.frozen 2
          have y3 := HS.out.cell 3
          have f3 := HS.out.frozen 3
          have y4 := HS.out.cell 4
          have f4 := HS.out.frozen 4
          have hxl := HXr.out.lt
          dsimp only [R5.z, R5.l, List.getElem?_cons_zero, List.getElem?_cons_succ] at x0 x1 x2 x3 x4 y0 y1 y2 y3 y4
          go_wp2
          refine bodyPost_ret (v := .tuple #[R5.v ⟨r0, r1, r2, r3, r4⟩, .int .i64 0]) (by simp [results, Try.results39, go_sem, R5.v, R5.z, *]) rfl ⟨by rw [HL.out], ?_⟩
          exact ((((HWr.out.setCell (Nat.le_refl _) _).setCell (Nat.le_refl _) _).setCell (Nat.le_refl _) _).setCell (Nat.le_refl _) _).setCell (Nat.le_refl _) _
end Go.Proofs.Ytkmhicoimgpdlaa
