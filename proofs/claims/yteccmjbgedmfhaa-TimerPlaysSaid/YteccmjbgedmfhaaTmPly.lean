/-
  TimerPlays: whatever is noted, dropped and copied, since when what is so, and what is so for long, is as the document says.
-/
import Derived.Test.YteccmjbgedmfhaaTmPr
import Derived.Test.YteccmjbgedmfhaaTmOp
namespace Go.Proofs.Yteccmjbgedmfhaa
namespace timerPlays
open Go.ChangeShapes Go.WideShapes Go.ChangeAt Go.RowKit
set_option linter.unusedVariables false
set_option linter.unusedSimpArgs false

set_option maxRecDepth 100000 in
set_option maxHeartbeats 16000000 in
theorem walk (a : Option Addr) (kc : Nat) (w : World) (L : List (OpIn w)) (hF : OpL w a L) (hl : L.length ≤ maxLen) :
    Calls Try.prog 3 #[.slice a L.length kc] w fun e w' => e = .returned (.bool true) ∧ Below w.heap.size w w' := by
  obtain ⟨q, hq⟩ : ∃ q, L.length = q := ⟨_, rfl⟩
  have Hq := Lib.hid hq
  have HF := Lib.hid hF
  rw [hq] at hl ⊢
  clear hq hF
  go_enter Try.func3, Try.ntmps3
  go_wp2_with (go_at_call 7; (with_reducible refine (new_any _).mono ?_); rintro e w1 ⟨b, m, rfl, hT1, hbb, hmm, hb1⟩; have HT1 := Lib.hid hT1; have HB1 := Lib.hid hb1; clear hT1 hb1)
  obtain ⟨W, hW⟩ : ∃ W, W = w1.alloc (.cells #[.slice none 0 0] 28) := ⟨_, rfl⟩
  obtain ⟨p, hpe⟩ : ∃ p, p = w1.heap.size := ⟨_, rfl⟩
  have HP0 := Lib.hid (show PS w W b m p (fun _ => none) [] (.slice none 0 0) (20 * 0) by
    have hbW : Below w1.heap.size w1 W := by rw [hW]; (repeat' (first | with_reducible exact Below.refl _ _ | with_reducible assumption | with_reducible refine Below.drew ?_ | with_reducible refine below_drewN' ?_ _ | with_reducible refine Below.alloc ?_ ?_ _ | with_reducible refine Below.setCell ?_ ?_ _ | with_reducible refine below_step (by assumption) ?_ ?_ | omega | (simp; done) | (simp; omega)))
    have hz := HB1.out.size
    refine ⟨HT1.out.below hbW, ⟨by rw [hW, hpe]; exact Blk.new w1 28 [.slice none 0 0], World.ownsRow_nil _ _ _ _, (fun e => by cases e), by omega⟩, ⟨List.Pairwise.nil, fun s t => by simp, by simp, by simp⟩, Nat.zero_le _, by simp, HB1.out.trans (hbW.mono hz), hbb, hmm⟩)
  rw [← hW, ← hpe]
  clear hW hpe HT1 HB1
  go_loopw [3, 5] (fun vt vi wr => ∃ (k b m : Nat) (T : ByteArray → Option Int) (M : List Nt) (v : Value), k ≤ 40 ∧ k ≤ q ∧ vi = .int .i64 k ∧ vt = .pointer (some ⟨b, 0, none⟩) ∧ PS w wr b m p T M v (20 * k)) (fun _ vi _ => 40 - (intOf vi).toNat)
  case atStart => exact ⟨0, b, m, _, _, _, by omega, by omega, rfl, rfl, HP0.out⟩
  case round =>
    obtain ⟨k, b, m, T, M, v, hk, hkq, rfl, rfl, hP⟩ := hrel
    have HP := Lib.hid hP
    have hbz := hP.bl.size
    have hlts := hP.lts
    clear hP HP0
    by_cases hlt : k < q ∧ k < 40
    · obtain ⟨hlt, hlt2⟩ := hlt
      obtain ⟨⟨x, hxm⟩, hx⟩ := mem_at (l := L) (k := k) (by rw [Hq.out]; exact hlt)
      obtain ⟨b1, o1, rfl, hb1, hc1⟩ := HF.out (by rw [Hq.out]; omega)
      obtain ⟨d0, d1, d2, d3⟩ := op_cells (hc1 k _ hx)
      rw [← HP.out.bl.cell (p := ⟨b1, _, none⟩) hb1] at d0 d1 d2 d3
      dsimp only at d0 d1 d2 d3
      have hbw : b1 < wr.heap.size := by omega
      obtain ⟨kd, ad, cp, nm, nw, lg⟩ := x
      dsimp only at d0 d1 d2 d3 hxm
      have HXM := Lib.hid hxm
      clear hc1 hx hxm
      obtain ⟨X, hXe⟩ : ∃ X, X = wr.heap.size := ⟨_, rfl⟩
      obtain ⟨W2, hW2⟩ : ∃ W2, W2 = wr.alloc (.cells #[.int .i64 kd, .slice ad nm.length cp, .int .i64 nw, .int .i64 lg] 31) := ⟨_, rfl⟩
      have hb2 : Below wr.heap.size wr W2 := by rw [hW2]; (repeat' (first | with_reducible exact Below.refl _ _ | with_reducible assumption | with_reducible refine Below.drew ?_ | with_reducible refine below_drewN' ?_ _ | with_reducible refine Below.alloc ?_ ?_ _ | with_reducible refine Below.setCell ?_ ?_ _ | with_reducible refine below_step (by assumption) ?_ ?_ | omega | (simp; done) | (simp; omega)))
      have HX2 := Lib.hid (show Blk W2 X 31 [.int .i64 kd, .slice ad nm.length cp, .int .i64 nw, .int .i64 lg] by rw [hW2, hXe]; exact Blk.new wr _ _)
      have HL := light_any ⟨kd, ad, cp, nm, nw, lg⟩ W2 ((HXM.out.mono HP.out.bl).mono hb2)
      dsimp only at HL
      have HP2 := Lib.hid (HP.out.below hb2)
      have hXl : X ∉ [b, m] ∧ X ∉ [p] := by
        obtain ⟨l1, l2, l3⟩ := hlts
        simp
        omega
      obtain ⟨ln, hln⟩ : ∃ ln, nm.length = ln := ⟨_, rfl⟩
      have Hln := Lib.hid hln
      have HW2 := Lib.hid hW2
      have HXe := Lib.hid hXe
      rw [hln] at d1 HL HX2 HW2
      clear hln hW2 hXe
      go_wp2_with fail
      rw [← HW2.out, ← HXe.out]
      cases hlb : lightB nm with
      | false =>
        rw [hlb] at HL
        have HL' := Lib.hid HL
        clear HL hlb
        go_wp2_with (go_at_call 8; (with_reducible refine HL'.out.mono ?_); rintro e w2 ⟨rfl, hb3⟩; have HP3 := Lib.hid (HP2.out.below hb3); clear hb3)
        go_roundw
        case rel => exact ⟨k + 1, b, m, T, M, v, by omega, by omega, by go_num, rfl, HP3.out.more (by omega)⟩
        case measure => simp [intOf]; omega
      | true =>
        obtain ⟨hn20, hn300⟩ := light_le hlb
        rw [hlb] at HL
        have HL' := Lib.hid HL
        clear HL hlb
        go_at_call 8
        (with_reducible refine HL'.out.mono ?_)
        rintro e Ww ⟨rfl, hb3⟩
        have HPW := Lib.hid (HP2.out.below hb3)
        have HXW := Lib.hid (HX2.out.below hb3)
        have x0 : Ww.cell? ⟨X, 0, none⟩ = some (.int .i64 kd) := HXW.out.cell 0
        have x1 : Ww.cell? ⟨X, 1, none⟩ = some (.slice ad ln cp) := HXW.out.cell 1
        have x2 : Ww.cell? ⟨X, 2, none⟩ = some (.int .i64 nw) := HXW.out.cell 2
        have hXl2 := HXW.out.lt
        obtain ⟨hXb, hXp⟩ := hXl
        have N1 := HPW.out.note1 (by omega) ad cp nm nw HXM.out hn20 hn300
        have N2 := fun V (h : PN w V b m p T (noteA T nm nw) M v (20 * k + 20)) => PN.note2 (M := M) (v := v) h HPW.out.len (by omega) ad cp HXM.out hn20 hn300
        rw [Hln.out] at N1 N2
        have N1' := Lib.hid N1
        have N2' := Lib.hid N2
        clear N1 N2
        have N1 := N1'
        have N2 := N2'
        clear N1' N2' HL' HP2 HX2 hb3 HW2 HXe hb2 d0 d1 d2 d3
        by_cases hz : 0 < ln
        · have k0 : decide ((0 : Int) < (ln : Int)) = true := decide_eq_true (by omega)
          obtain ⟨y, hy⟩ := mem_at (l := nm) (k := 0) (by rw [Hln.out]; exact hz)
          obtain ⟨b3, o3, rfl, hb3, hc3⟩ := (HXM.out.mono HPW.out.bl) (by rw [Hln.out]; exact hz)
          have y0 := txt_cell (hc3 0 y hy)
          rw [Nat.zero_mul, Nat.add_zero] at y0
          have hgs : y.size ≤ maxLen := by have := hn300 y (List.mem_of_getElem? hy); unfold maxLen; omega
          clear hc3 hy
          by_cases z0 : kd = 0
          · subst z0
            go_wp2_with (first
              | (go_at_call 9; (with_reducible refine N1.out.mono ?_); rintro e w3 ⟨rfl, hP3, hO3⟩; have HP3 := Lib.hid hP3; have HX3 := Lib.hid (HXW.out.only hO3 hXb); have v1 : w3.cell? ⟨X, 1, none⟩ = some (.slice (some ⟨b3, o3, none⟩) ln cp) := HX3.out.cell 1; have v2 : w3.cell? ⟨X, 2, none⟩ = some (.int .i64 nw) := HX3.out.cell 2; have v0 := HX3.out.lt; clear hP3 hO3)
              | (go_at_call 10; (with_reducible refine (N2.out _ HP3.out).mono ?_); rintro e V ⟨rfl, M4, v4, hP4, hO4⟩; have HX4 := Lib.hid (HX3.out.only hO4 hXp); have HQ4 := Lib.hid hP4; clear hP4 hO4 v1 v2 v0))
            obtain ⟨T4, hT4⟩ : ∃ T4, T4 = noteA T nm nw := ⟨_, rfl⟩
            have HP4 := Lib.hid (show PS w V b m p T4 M4 v4 (20 * (k + 1)) by rw [hT4]; exact HQ4.out)
            clear hT4 HQ4 N1 N2 x0 x1 x2 HX3 HXW HP3
            obtain ⟨av, hav⟩ : ∃ q, (T4 y).getD 0 = q := ⟨_, rfl⟩
            obtain ⟨iv2, hiv⟩ : ∃ q, (T4 y).isSome = q := ⟨_, rfl⟩
            obtain ⟨LN, hLN⟩ : ∃ L, L = M4.map (·.1) := ⟨_, rfl⟩
            obtain ⟨LR, hLR⟩ : ∃ L, L = ripeL T4 M4 nw lg := ⟨_, rfl⟩
            have hn4 : 20 * (k + 1) ≤ 100000 := by omega
            have S1 := Lib.hid (show Calls Try.prog 14 #[.pointer (some ⟨b, 0, none⟩), .string y] V (fun e w' => e = .returned (.tuple #[.int .i64 av, .bool iv2]) ∧ w' = V) from by (have h := since_any b _ T4 _ y V HP4.out.t hgs); unfold sinceV at h; rw [hav, hiv] at h; exact h)
            have S2 := Lib.hid (show Calls Try.prog 15 #[.pointer (some ⟨p, 0, none⟩), .string y] V (fun e w' => e = .returned (.tuple #[.int .i64 av, .bool iv2]) ∧ w' = V) from by (have h := rsince_any w.heap.size p T4 M4 v4 y V HP4.out.r HP4.out.e (by have := HP4.out.len; omega)); unfold sinceV at h; rw [hav, hiv] at h; exact h)
            have A1 := Lib.hid (show ∀ V', Below V.heap.size V V' → Calls Try.prog 17 #[.pointer (some ⟨b, 0, none⟩)] V' (Gives V' (IsL scs 1 LN)) from fun V' hb => by rw [hLN]; exact (HP4.out.below hb).names1 hn4)
            have A2 := Lib.hid (show ∀ V', Below V.heap.size V V' → Calls Try.prog 18 #[.pointer (some ⟨p, 0, none⟩)] V' (Gives V' (IsL scs 1 LN)) from fun V' hb => by rw [hLN]; exact (HP4.out.below hb).names2 hn4)
            have A3 := Lib.hid (show ∀ V', Below V.heap.size V V' → Calls Try.prog 19 #[.pointer (some ⟨b, 0, none⟩), .int .i64 nw, .int .i64 lg] V' (Gives V' (IsL scs 1 LR)) from fun V' hb => by rw [hLR]; exact (HP4.out.below hb).ripe1 hn4 nw lg)
            have A4 := Lib.hid (show ∀ V', Below V.heap.size V V' → Calls Try.prog 20 #[.pointer (some ⟨p, 0, none⟩), .int .i64 nw, .int .i64 lg] V' (Gives V' (IsL scs 1 LR)) from fun V' hb => by rw [hLR]; exact (HP4.out.below hb).ripe2 hn4 nw lg)
            have HLN := Lib.hid (show LN.length ≤ 1000000 by have := HP4.out.len; rw [hLN, List.length_map]; omega)
            have HLR := Lib.hid (show LR.length ≤ 1000000 by
              have := HP4.out.len
              rw [hLR]
              unfold ripeL
              split
              · refine Nat.le_trans (List.length_filter_le _ _) ?_
                rw [List.length_map]
                omega
              · simp)
            have x2 : V.cell? ⟨X, 2, none⟩ = some (.int .i64 nw) := HX4.out.cell 2
            have x3 : V.cell? ⟨X, 3, none⟩ = some (.int .i64 lg) := HX4.out.cell 3
            have hX := HX4.out.lt
            clear hLN hLR hav hiv
            go_wp2_with (first
              | (go_at_call 14; (with_reducible refine S1.out.mono ?_); rintro e w7 ⟨rfl, hw7⟩; subst hw7)
              | (go_at_call 15; (with_reducible refine S2.out.mono ?_); rintro e w8 ⟨rfl, hw8⟩; subst hw8))
            have hcH := held_cell
            refine region_rel (by kernel_rfl) (by kernel_rfl) ?_
            (try dsimp only [List.append])
            repeat
              ((with_reducible refine relStep (fun K hK => ?_))
               (have HK := Lib.hid hK)
               clear hK
               (apply relInl
                · intro r n hf
                  have Hf := Lib.hid hf
                  clear hf
                  (first
                    | (fail)
                    | (unfold relAt
                       go_simp
                       (first | (refine relUpon_val ?_ (Below.refl _ _); exact rfl) | exact rfl | (refine relUpon_enter ?_; fail))))
                (simp only [Act.put, List.setIfInBounds_toArray, List.set_cons_zero, List.set_cons_succ])
                (with_reducible refine HK.out _ _ ?_)
                clear HK K))
            (with_reducible refine relStep (fun K hK => ?_))
            (have HK := Lib.hid hK)
            clear hK
            refine relInr (IsL scs 1 LN) (IsL.stays _) (fun r n hf => ?_) ?_
            · have Hf := Lib.hid hf
              clear hf HK K
              unfold relAt
              (skip)
              go_simp
              ((refine relUpon_enter ?_; go_at_call 17; (with_reducible refine (A1.out _ n.below).mono ?_); rintro e w9 ⟨⟨v, rfl, hv⟩, hb⟩; exact ⟨⟨_, rfl, hv⟩, hb⟩))
            (simp only [Act.put, List.setIfInBounds_toArray, List.set_cons_zero, List.set_cons_succ])
            (with_reducible refine HK.out _ _ ?_)
            clear HK K
            repeat
              ((with_reducible refine relStep (fun K hK => ?_))
               (have HK := Lib.hid hK)
               clear hK
               (apply relInl
                · intro r n hf
                  have Hf := Lib.hid hf
                  clear hf
                  (first
                    | (fail)
                    | (unfold relAt
                       go_simp
                       (first | (refine relUpon_val ?_ (Below.refl _ _); exact rfl) | exact rfl | (refine relUpon_enter ?_; fail))))
                (simp only [Act.put, List.setIfInBounds_toArray, List.set_cons_zero, List.set_cons_succ])
                (with_reducible refine HK.out _ _ ?_)
                clear HK K))
            (with_reducible refine relStep (fun K hK => ?_))
            (have HK := Lib.hid hK)
            clear hK
            refine relInr (IsL scs 1 LN) (IsL.stays _) (fun r n hf => ?_) ?_
            · have Hf := Lib.hid hf
              clear hf HK K
              unfold relAt
              (skip)
              go_simp
              ((refine relUpon_enter ?_; go_at_call 18; (with_reducible refine (A2.out _ n.below).mono ?_); rintro e w9 ⟨⟨v, rfl, hv⟩, hb⟩; exact ⟨⟨_, rfl, hv⟩, hb⟩))
            (simp only [Act.put, List.setIfInBounds_toArray, List.set_cons_zero, List.set_cons_succ])
            (with_reducible refine HK.out _ _ ?_)
            clear HK K
            ((with_reducible refine relStep (fun K hK => ?_))
             (have HK := Lib.hid hK)
             clear hK
             (apply relInl
              · intro r n hf
                have Hf := Lib.hid hf
                clear hf
                ((obtain ⟨a1, k1, e1, _, g1⟩ := given_at Hf.out 0 rfl (by dsimp only; decide +kernel); obtain ⟨a2, k2, e2, _, g2⟩ := given_at Hf.out 1 rfl (by dsimp only; decide +kernel); dsimp only at e1 e2; unfold relAt; go_simp; refine relUpon_enter ?_; go_at_call 16; (try rw [e1, e2]); (with_reducible refine (texts_same a1 a2 k1 k2 LN _ g1 g2 HLN.out).mono ?_); rintro e w9 ⟨rfl, hb⟩; exact ⟨⟨_, rfl, rfl⟩, hb⟩)))
             (simp only [Act.put, List.setIfInBounds_toArray, List.set_cons_zero, List.set_cons_succ])
             (with_reducible refine HK.out _ _ ?_)
             clear HK K)
            repeat
              ((with_reducible refine relStep (fun K hK => ?_))
               (have HK := Lib.hid hK)
               clear hK
               (apply relInl
                · intro r n hf
                  have Hf := Lib.hid hf
                  clear hf
                  (first
                    | (fail)
                    | (unfold relAt
                       go_simp
                       (first | (refine relUpon_val ?_ (Below.refl _ _); exact rfl) | exact rfl | (refine relUpon_enter ?_; fail))))
                (simp only [Act.put, List.setIfInBounds_toArray, List.set_cons_zero, List.set_cons_succ])
                (with_reducible refine HK.out _ _ ?_)
                clear HK K))
            (with_reducible refine relStep (fun K hK => ?_))
            (have HK := Lib.hid hK)
            clear hK
            refine relInr (IsL scs 1 LR) (IsL.stays _) (fun r n hf => ?_) ?_
            · have Hf := Lib.hid hf
              clear hf HK K
              unfold relAt
              (skip)
              go_simp
              ((refine relUpon_enter ?_; go_at_call 19; (with_reducible refine (A3.out _ n.below).mono ?_); rintro e w9 ⟨⟨v, rfl, hv⟩, hb⟩; exact ⟨⟨_, rfl, hv⟩, hb⟩))
            (simp only [Act.put, List.setIfInBounds_toArray, List.set_cons_zero, List.set_cons_succ])
            (with_reducible refine HK.out _ _ ?_)
            clear HK K
            repeat
              ((with_reducible refine relStep (fun K hK => ?_))
               (have HK := Lib.hid hK)
               clear hK
               (apply relInl
                · intro r n hf
                  have Hf := Lib.hid hf
                  clear hf
                  (first
                    | (fail)
                    | (unfold relAt
                       go_simp
                       (first | (refine relUpon_val ?_ (Below.refl _ _); exact rfl) | exact rfl | (refine relUpon_enter ?_; fail))))
                (simp only [Act.put, List.setIfInBounds_toArray, List.set_cons_zero, List.set_cons_succ])
                (with_reducible refine HK.out _ _ ?_)
                clear HK K))
            (with_reducible refine relStep (fun K hK => ?_))
            (have HK := Lib.hid hK)
            clear hK
            refine relInr (IsL scs 1 LR) (IsL.stays _) (fun r n hf => ?_) ?_
            · have Hf := Lib.hid hf
              clear hf HK K
              unfold relAt
              (skip)
              go_simp
              ((refine relUpon_enter ?_; go_at_call 20; (with_reducible refine (A4.out _ n.below).mono ?_); rintro e w9 ⟨⟨v, rfl, hv⟩, hb⟩; exact ⟨⟨_, rfl, hv⟩, hb⟩))
            (simp only [Act.put, List.setIfInBounds_toArray, List.set_cons_zero, List.set_cons_succ])
            (with_reducible refine HK.out _ _ ?_)
            clear HK K
            ((with_reducible refine relStep (fun K hK => ?_))
             (have HK := Lib.hid hK)
             clear hK
             (apply relInl
              · intro r n hf
                have Hf := Lib.hid hf
                clear hf
                ((obtain ⟨a1, k1, e1, _, g1⟩ := given_at Hf.out 2 rfl (by dsimp only; decide +kernel); obtain ⟨a2, k2, e2, _, g2⟩ := given_at Hf.out 3 rfl (by dsimp only; decide +kernel); dsimp only at e1 e2; unfold relAt; go_simp; refine relUpon_enter ?_; go_at_call 16; (try rw [e1, e2]); (with_reducible refine (texts_same a1 a2 k1 k2 LR _ g1 g2 HLR.out).mono ?_); rintro e w9 ⟨rfl, hb⟩; exact ⟨⟨_, rfl, rfl⟩, hb⟩)))
             (simp only [Act.put, List.setIfInBounds_toArray, List.set_cons_zero, List.set_cons_succ])
             (with_reducible refine HK.out _ _ ?_)
             clear HK K)
            repeat
              ((with_reducible refine relStep (fun K hK => ?_))
               (have HK := Lib.hid hK)
               clear hK
               (apply relInl
                · intro r n hf
                  have Hf := Lib.hid hf
                  clear hf
                  (first
                    | (fail)
                    | (unfold relAt
                       go_simp
                       (first | (refine relUpon_val ?_ (Below.refl _ _); exact rfl) | exact rfl | (refine relUpon_enter ?_; fail))))
                (simp only [Act.put, List.setIfInBounds_toArray, List.set_cons_zero, List.set_cons_succ])
                (with_reducible refine HK.out _ _ ?_)
                clear HK K))
            refine relNil ?_
            intro r9 n9 hx9
            clear hcH
            (try simp only [List.nil_append, List.cons_append, List.mem_cons, List.not_mem_nil, or_false, forall_eq_or_imp, forall_eq, false_implies, implies_true] at hx9)
            obtain ⟨w9, hb9⟩ := n9
            (try dsimp only)
            obtain ⟨hc9, hf9⟩ := bcell hb9
            have hz9 := hb9.size
            (try simp at hz9)
            have HP9 := Lib.hid (HP4.out.below hb9)
            go_wp2
            go_roundw
            case rel => exact ⟨k + 1, _, _, T4, M4, v4, by omega, by omega, by go_num, rfl, HP9.out⟩
            case measure => simp [intOf]; omega
          · have z0' : (kd == 0) = false := by simpa using z0
            by_cases z1 : kd = 1
            · subst z1
              go_wp2_with (first
                | (go_at_call 11; (with_reducible refine (HPW.out.drop1 y hgs).mono ?_); rintro e w3 ⟨rfl, hP3, hO3⟩; have HP3 := Lib.hid hP3; have HX3 := Lib.hid (HXW.out.only hO3 hXb); clear hP3 hO3)
                | (go_at_call 12; (with_reducible refine (HP3.out.drop2 (by omega)).mono ?_); rintro e V ⟨rfl, M4, v4, hP4, hO4⟩; have HX4 := Lib.hid (HX3.out.only hO4 hXp); have HQ4 := Lib.hid hP4; clear hP4 hO4))
              obtain ⟨T4, hT4⟩ : ∃ T4, T4 = updT T y none := ⟨_, rfl⟩
              have HP4 := Lib.hid (show PS w V b m p T4 M4 v4 (20 * (k + 1)) by rw [hT4]; exact HQ4.out.more (by omega))
              clear hT4 HQ4 N1 N2 x0 x1 x2 HX3 HXW HP3
              obtain ⟨av, hav⟩ : ∃ q, (T4 y).getD 0 = q := ⟨_, rfl⟩
              obtain ⟨iv2, hiv⟩ : ∃ q, (T4 y).isSome = q := ⟨_, rfl⟩
              obtain ⟨LN, hLN⟩ : ∃ L, L = M4.map (·.1) := ⟨_, rfl⟩
              obtain ⟨LR, hLR⟩ : ∃ L, L = ripeL T4 M4 nw lg := ⟨_, rfl⟩
              have hn4 : 20 * (k + 1) ≤ 100000 := by omega
              have S1 := Lib.hid (show Calls Try.prog 14 #[.pointer (some ⟨b, 0, none⟩), .string y] V (fun e w' => e = .returned (.tuple #[.int .i64 av, .bool iv2]) ∧ w' = V) from by (have h := since_any b _ T4 _ y V HP4.out.t hgs); unfold sinceV at h; rw [hav, hiv] at h; exact h)
              have S2 := Lib.hid (show Calls Try.prog 15 #[.pointer (some ⟨p, 0, none⟩), .string y] V (fun e w' => e = .returned (.tuple #[.int .i64 av, .bool iv2]) ∧ w' = V) from by (have h := rsince_any w.heap.size p T4 M4 v4 y V HP4.out.r HP4.out.e (by have := HP4.out.len; omega)); unfold sinceV at h; rw [hav, hiv] at h; exact h)
              have A1 := Lib.hid (show ∀ V', Below V.heap.size V V' → Calls Try.prog 17 #[.pointer (some ⟨b, 0, none⟩)] V' (Gives V' (IsL scs 1 LN)) from fun V' hb => by rw [hLN]; exact (HP4.out.below hb).names1 hn4)
              have A2 := Lib.hid (show ∀ V', Below V.heap.size V V' → Calls Try.prog 18 #[.pointer (some ⟨p, 0, none⟩)] V' (Gives V' (IsL scs 1 LN)) from fun V' hb => by rw [hLN]; exact (HP4.out.below hb).names2 hn4)
              have A3 := Lib.hid (show ∀ V', Below V.heap.size V V' → Calls Try.prog 19 #[.pointer (some ⟨b, 0, none⟩), .int .i64 nw, .int .i64 lg] V' (Gives V' (IsL scs 1 LR)) from fun V' hb => by rw [hLR]; exact (HP4.out.below hb).ripe1 hn4 nw lg)
              have A4 := Lib.hid (show ∀ V', Below V.heap.size V V' → Calls Try.prog 20 #[.pointer (some ⟨p, 0, none⟩), .int .i64 nw, .int .i64 lg] V' (Gives V' (IsL scs 1 LR)) from fun V' hb => by rw [hLR]; exact (HP4.out.below hb).ripe2 hn4 nw lg)
              have HLN := Lib.hid (show LN.length ≤ 1000000 by have := HP4.out.len; rw [hLN, List.length_map]; omega)
              have HLR := Lib.hid (show LR.length ≤ 1000000 by
                have := HP4.out.len
                rw [hLR]
                unfold ripeL
                split
                · refine Nat.le_trans (List.length_filter_le _ _) ?_
                  rw [List.length_map]
                  omega
                · simp)
              have x2 : V.cell? ⟨X, 2, none⟩ = some (.int .i64 nw) := HX4.out.cell 2
              have x3 : V.cell? ⟨X, 3, none⟩ = some (.int .i64 lg) := HX4.out.cell 3
              have hX := HX4.out.lt
              clear hLN hLR hav hiv
              go_wp2_with (first
                | (go_at_call 14; (with_reducible refine S1.out.mono ?_); rintro e w7 ⟨rfl, hw7⟩; subst hw7)
                | (go_at_call 15; (with_reducible refine S2.out.mono ?_); rintro e w8 ⟨rfl, hw8⟩; subst hw8))
              have hcH := held_cell
              refine region_rel (by kernel_rfl) (by kernel_rfl) ?_
              (try dsimp only [List.append])
              repeat
                ((with_reducible refine relStep (fun K hK => ?_))
                 (have HK := Lib.hid hK)
                 clear hK
                 (apply relInl
                  · intro r n hf
                    have Hf := Lib.hid hf
                    clear hf
                    (first
                      | (fail)
                      | (unfold relAt
                         go_simp
                         (first | (refine relUpon_val ?_ (Below.refl _ _); exact rfl) | exact rfl | (refine relUpon_enter ?_; fail))))
                  (simp only [Act.put, List.setIfInBounds_toArray, List.set_cons_zero, List.set_cons_succ])
                  (with_reducible refine HK.out _ _ ?_)
                  clear HK K))
              (with_reducible refine relStep (fun K hK => ?_))
              (have HK := Lib.hid hK)
              clear hK
              refine relInr (IsL scs 1 LN) (IsL.stays _) (fun r n hf => ?_) ?_
              · have Hf := Lib.hid hf
                clear hf HK K
                unfold relAt
                (skip)
                go_simp
                ((refine relUpon_enter ?_; go_at_call 17; (with_reducible refine (A1.out _ n.below).mono ?_); rintro e w9 ⟨⟨v, rfl, hv⟩, hb⟩; exact ⟨⟨_, rfl, hv⟩, hb⟩))
              (simp only [Act.put, List.setIfInBounds_toArray, List.set_cons_zero, List.set_cons_succ])
              (with_reducible refine HK.out _ _ ?_)
              clear HK K
              repeat
                ((with_reducible refine relStep (fun K hK => ?_))
                 (have HK := Lib.hid hK)
                 clear hK
                 (apply relInl
                  · intro r n hf
                    have Hf := Lib.hid hf
                    clear hf
                    (first
                      | (fail)
                      | (unfold relAt
                         go_simp
                         (first | (refine relUpon_val ?_ (Below.refl _ _); exact rfl) | exact rfl | (refine relUpon_enter ?_; fail))))
                  (simp only [Act.put, List.setIfInBounds_toArray, List.set_cons_zero, List.set_cons_succ])
                  (with_reducible refine HK.out _ _ ?_)
                  clear HK K))
              (with_reducible refine relStep (fun K hK => ?_))
              (have HK := Lib.hid hK)
              clear hK
              refine relInr (IsL scs 1 LN) (IsL.stays _) (fun r n hf => ?_) ?_
              · have Hf := Lib.hid hf
                clear hf HK K
                unfold relAt
                (skip)
                go_simp
                ((refine relUpon_enter ?_; go_at_call 18; (with_reducible refine (A2.out _ n.below).mono ?_); rintro e w9 ⟨⟨v, rfl, hv⟩, hb⟩; exact ⟨⟨_, rfl, hv⟩, hb⟩))
              (simp only [Act.put, List.setIfInBounds_toArray, List.set_cons_zero, List.set_cons_succ])
              (with_reducible refine HK.out _ _ ?_)
              clear HK K
              ((with_reducible refine relStep (fun K hK => ?_))
               (have HK := Lib.hid hK)
               clear hK
               (apply relInl
                · intro r n hf
                  have Hf := Lib.hid hf
                  clear hf
                  ((obtain ⟨a1, k1, e1, _, g1⟩ := given_at Hf.out 0 rfl (by dsimp only; decide +kernel); obtain ⟨a2, k2, e2, _, g2⟩ := given_at Hf.out 1 rfl (by dsimp only; decide +kernel); dsimp only at e1 e2; unfold relAt; go_simp; refine relUpon_enter ?_; go_at_call 16; (try rw [e1, e2]); (with_reducible refine (texts_same a1 a2 k1 k2 LN _ g1 g2 HLN.out).mono ?_); rintro e w9 ⟨rfl, hb⟩; exact ⟨⟨_, rfl, rfl⟩, hb⟩)))
               (simp only [Act.put, List.setIfInBounds_toArray, List.set_cons_zero, List.set_cons_succ])
               (with_reducible refine HK.out _ _ ?_)
               clear HK K)
              repeat
                ((with_reducible refine relStep (fun K hK => ?_))
                 (have HK := Lib.hid hK)
                 clear hK
                 (apply relInl
                  · intro r n hf
                    have Hf := Lib.hid hf
                    clear hf
                    (first
                      | (fail)
                      | (unfold relAt
                         go_simp
                         (first | (refine relUpon_val ?_ (Below.refl _ _); exact rfl) | exact rfl | (refine relUpon_enter ?_; fail))))
                  (simp only [Act.put, List.setIfInBounds_toArray, List.set_cons_zero, List.set_cons_succ])
                  (with_reducible refine HK.out _ _ ?_)
                  clear HK K))
              (with_reducible refine relStep (fun K hK => ?_))
              (have HK := Lib.hid hK)
              clear hK
              refine relInr (IsL scs 1 LR) (IsL.stays _) (fun r n hf => ?_) ?_
              · have Hf := Lib.hid hf
                clear hf HK K
                unfold relAt
                (skip)
                go_simp
                ((refine relUpon_enter ?_; go_at_call 19; (with_reducible refine (A3.out _ n.below).mono ?_); rintro e w9 ⟨⟨v, rfl, hv⟩, hb⟩; exact ⟨⟨_, rfl, hv⟩, hb⟩))
              (simp only [Act.put, List.setIfInBounds_toArray, List.set_cons_zero, List.set_cons_succ])
              (with_reducible refine HK.out _ _ ?_)
              clear HK K
              repeat
                ((with_reducible refine relStep (fun K hK => ?_))
                 (have HK := Lib.hid hK)
                 clear hK
                 (apply relInl
                  · intro r n hf
                    have Hf := Lib.hid hf
                    clear hf
                    (first
                      | (fail)
                      | (unfold relAt
                         go_simp
                         (first | (refine relUpon_val ?_ (Below.refl _ _); exact rfl) | exact rfl | (refine relUpon_enter ?_; fail))))
                  (simp only [Act.put, List.setIfInBounds_toArray, List.set_cons_zero, List.set_cons_succ])
                  (with_reducible refine HK.out _ _ ?_)
                  clear HK K))
              (with_reducible refine relStep (fun K hK => ?_))
              (have HK := Lib.hid hK)
              clear hK
              refine relInr (IsL scs 1 LR) (IsL.stays _) (fun r n hf => ?_) ?_
              · have Hf := Lib.hid hf
                clear hf HK K
                unfold relAt
                (skip)
                go_simp
                ((refine relUpon_enter ?_; go_at_call 20; (with_reducible refine (A4.out _ n.below).mono ?_); rintro e w9 ⟨⟨v, rfl, hv⟩, hb⟩; exact ⟨⟨_, rfl, hv⟩, hb⟩))
              (simp only [Act.put, List.setIfInBounds_toArray, List.set_cons_zero, List.set_cons_succ])
              (with_reducible refine HK.out _ _ ?_)
              clear HK K
              ((with_reducible refine relStep (fun K hK => ?_))
               (have HK := Lib.hid hK)
               clear hK
               (apply relInl
                · intro r n hf
                  have Hf := Lib.hid hf
                  clear hf
                  ((obtain ⟨a1, k1, e1, _, g1⟩ := given_at Hf.out 2 rfl (by dsimp only; decide +kernel); obtain ⟨a2, k2, e2, _, g2⟩ := given_at Hf.out 3 rfl (by dsimp only; decide +kernel); dsimp only at e1 e2; unfold relAt; go_simp; refine relUpon_enter ?_; go_at_call 16; (try rw [e1, e2]); (with_reducible refine (texts_same a1 a2 k1 k2 LR _ g1 g2 HLR.out).mono ?_); rintro e w9 ⟨rfl, hb⟩; exact ⟨⟨_, rfl, rfl⟩, hb⟩)))
               (simp only [Act.put, List.setIfInBounds_toArray, List.set_cons_zero, List.set_cons_succ])
               (with_reducible refine HK.out _ _ ?_)
               clear HK K)
              repeat
                ((with_reducible refine relStep (fun K hK => ?_))
                 (have HK := Lib.hid hK)
                 clear hK
                 (apply relInl
                  · intro r n hf
                    have Hf := Lib.hid hf
                    clear hf
                    (first
                      | (fail)
                      | (unfold relAt
                         go_simp
                         (first | (refine relUpon_val ?_ (Below.refl _ _); exact rfl) | exact rfl | (refine relUpon_enter ?_; fail))))
                  (simp only [Act.put, List.setIfInBounds_toArray, List.set_cons_zero, List.set_cons_succ])
                  (with_reducible refine HK.out _ _ ?_)
                  clear HK K))
              refine relNil ?_
              intro r9 n9 hx9
              clear hcH
              (try simp only [List.nil_append, List.cons_append, List.mem_cons, List.not_mem_nil, or_false, forall_eq_or_imp, forall_eq, false_implies, implies_true] at hx9)
              obtain ⟨w9, hb9⟩ := n9
              (try dsimp only)
              obtain ⟨hc9, hf9⟩ := bcell hb9
              have hz9 := hb9.size
              (try simp at hz9)
              have HP9 := Lib.hid (HP4.out.below hb9)
              go_wp2
              go_roundw
              case rel => exact ⟨k + 1, _, _, T4, M4, v4, by omega, by omega, by go_num, rfl, HP9.out⟩
              case measure => simp [intOf]; omega
            · have z1' : (kd == 1) = false := by simpa using z1
              go_wp2_with (first
                | (go_at_call 13; (with_reducible refine (HPW.out.copy).mono ?_); rintro e w3 ⟨b2, m2, rfl, hP3, hA3, hq1, hq2, hB3⟩; have HP3 := Lib.hid hP3; have HA3 := Lib.hid hA3; have HX3 := Lib.hid (HXW.out.below hB3); have Hq1 := Lib.hid hq1; have Hq2 := Lib.hid hq2; clear hP3 hA3 hB3 hq1 hq2)
                | (go_at_call 9; (with_reducible refine (HP3.out.aside HA3.out (by omega) Hq1.out Hq2.out HP.out.hb HP.out.hm).mono ?_); rintro e V ⟨rfl, hP4, hO4⟩; have HX4 := Lib.hid (HX3.out.only hO4 hXb); have HQ4 := Lib.hid hP4; clear hP4 hO4))
              obtain ⟨T4, hT4⟩ : ∃ T4, T4 = T := ⟨_, rfl⟩
              obtain ⟨M4, hM4⟩ : ∃ M4, M4 = M := ⟨_, rfl⟩
              obtain ⟨v4, hv4⟩ : ∃ v4, v4 = v := ⟨_, rfl⟩
              have HP4 := Lib.hid (show PS w V b2 m2 p T4 M4 v4 (20 * (k + 1)) by rw [hT4, hM4, hv4]; exact HQ4.out.more (by omega))
              clear hT4 hM4 hv4 HQ4 N1 N2 x0 x1 x2 HX3 HXW HP3 HA3
              obtain ⟨av, hav⟩ : ∃ q, (T4 y).getD 0 = q := ⟨_, rfl⟩
              obtain ⟨iv2, hiv⟩ : ∃ q, (T4 y).isSome = q := ⟨_, rfl⟩
              obtain ⟨LN, hLN⟩ : ∃ L, L = M4.map (·.1) := ⟨_, rfl⟩
              obtain ⟨LR, hLR⟩ : ∃ L, L = ripeL T4 M4 nw lg := ⟨_, rfl⟩
              have hn4 : 20 * (k + 1) ≤ 100000 := by omega
              have S1 := Lib.hid (show Calls Try.prog 14 #[.pointer (some ⟨b2, 0, none⟩), .string y] V (fun e w' => e = .returned (.tuple #[.int .i64 av, .bool iv2]) ∧ w' = V) from by (have h := since_any b2 _ T4 _ y V HP4.out.t hgs); unfold sinceV at h; rw [hav, hiv] at h; exact h)
              have S2 := Lib.hid (show Calls Try.prog 15 #[.pointer (some ⟨p, 0, none⟩), .string y] V (fun e w' => e = .returned (.tuple #[.int .i64 av, .bool iv2]) ∧ w' = V) from by (have h := rsince_any w.heap.size p T4 M4 v4 y V HP4.out.r HP4.out.e (by have := HP4.out.len; omega)); unfold sinceV at h; rw [hav, hiv] at h; exact h)
              have A1 := Lib.hid (show ∀ V', Below V.heap.size V V' → Calls Try.prog 17 #[.pointer (some ⟨b2, 0, none⟩)] V' (Gives V' (IsL scs 1 LN)) from fun V' hb => by rw [hLN]; exact (HP4.out.below hb).names1 hn4)
              have A2 := Lib.hid (show ∀ V', Below V.heap.size V V' → Calls Try.prog 18 #[.pointer (some ⟨p, 0, none⟩)] V' (Gives V' (IsL scs 1 LN)) from fun V' hb => by rw [hLN]; exact (HP4.out.below hb).names2 hn4)
              have A3 := Lib.hid (show ∀ V', Below V.heap.size V V' → Calls Try.prog 19 #[.pointer (some ⟨b2, 0, none⟩), .int .i64 nw, .int .i64 lg] V' (Gives V' (IsL scs 1 LR)) from fun V' hb => by rw [hLR]; exact (HP4.out.below hb).ripe1 hn4 nw lg)
              have A4 := Lib.hid (show ∀ V', Below V.heap.size V V' → Calls Try.prog 20 #[.pointer (some ⟨p, 0, none⟩), .int .i64 nw, .int .i64 lg] V' (Gives V' (IsL scs 1 LR)) from fun V' hb => by rw [hLR]; exact (HP4.out.below hb).ripe2 hn4 nw lg)
              have HLN := Lib.hid (show LN.length ≤ 1000000 by have := HP4.out.len; rw [hLN, List.length_map]; omega)
              have HLR := Lib.hid (show LR.length ≤ 1000000 by
                have := HP4.out.len
                rw [hLR]
                unfold ripeL
                split
                · refine Nat.le_trans (List.length_filter_le _ _) ?_
                  rw [List.length_map]
                  omega
                · simp)
              have x2 : V.cell? ⟨X, 2, none⟩ = some (.int .i64 nw) := HX4.out.cell 2
              have x3 : V.cell? ⟨X, 3, none⟩ = some (.int .i64 lg) := HX4.out.cell 3
              have hX := HX4.out.lt
              clear hLN hLR hav hiv
              go_wp2_with (first
                | (go_at_call 14; (with_reducible refine S1.out.mono ?_); rintro e w7 ⟨rfl, hw7⟩; subst hw7)
                | (go_at_call 15; (with_reducible refine S2.out.mono ?_); rintro e w8 ⟨rfl, hw8⟩; subst hw8))
              have hcH := held_cell
              refine region_rel (by kernel_rfl) (by kernel_rfl) ?_
              (try dsimp only [List.append])
              repeat
                ((with_reducible refine relStep (fun K hK => ?_))
                 (have HK := Lib.hid hK)
                 clear hK
                 (apply relInl
                  · intro r n hf
                    have Hf := Lib.hid hf
                    clear hf
                    (first
                      | (fail)
                      | (unfold relAt
                         go_simp
                         (first | (refine relUpon_val ?_ (Below.refl _ _); exact rfl) | exact rfl | (refine relUpon_enter ?_; fail))))
                  (simp only [Act.put, List.setIfInBounds_toArray, List.set_cons_zero, List.set_cons_succ])
                  (with_reducible refine HK.out _ _ ?_)
                  clear HK K))
              (with_reducible refine relStep (fun K hK => ?_))
              (have HK := Lib.hid hK)
              clear hK
              refine relInr (IsL scs 1 LN) (IsL.stays _) (fun r n hf => ?_) ?_
              · have Hf := Lib.hid hf
                clear hf HK K
                unfold relAt
                (skip)
                go_simp
                ((refine relUpon_enter ?_; go_at_call 17; (with_reducible refine (A1.out _ n.below).mono ?_); rintro e w9 ⟨⟨v, rfl, hv⟩, hb⟩; exact ⟨⟨_, rfl, hv⟩, hb⟩))
              (simp only [Act.put, List.setIfInBounds_toArray, List.set_cons_zero, List.set_cons_succ])
              (with_reducible refine HK.out _ _ ?_)
              clear HK K
              repeat
                ((with_reducible refine relStep (fun K hK => ?_))
                 (have HK := Lib.hid hK)
                 clear hK
                 (apply relInl
                  · intro r n hf
                    have Hf := Lib.hid hf
                    clear hf
                    (first
                      | (fail)
                      | (unfold relAt
                         go_simp
                         (first | (refine relUpon_val ?_ (Below.refl _ _); exact rfl) | exact rfl | (refine relUpon_enter ?_; fail))))
                  (simp only [Act.put, List.setIfInBounds_toArray, List.set_cons_zero, List.set_cons_succ])
                  (with_reducible refine HK.out _ _ ?_)
                  clear HK K))
              (with_reducible refine relStep (fun K hK => ?_))
              (have HK := Lib.hid hK)
              clear hK
              refine relInr (IsL scs 1 LN) (IsL.stays _) (fun r n hf => ?_) ?_
              · have Hf := Lib.hid hf
                clear hf HK K
                unfold relAt
                (skip)
                go_simp
                ((refine relUpon_enter ?_; go_at_call 18; (with_reducible refine (A2.out _ n.below).mono ?_); rintro e w9 ⟨⟨v, rfl, hv⟩, hb⟩; exact ⟨⟨_, rfl, hv⟩, hb⟩))
              (simp only [Act.put, List.setIfInBounds_toArray, List.set_cons_zero, List.set_cons_succ])
              (with_reducible refine HK.out _ _ ?_)
              clear HK K
              ((with_reducible refine relStep (fun K hK => ?_))
               (have HK := Lib.hid hK)
               clear hK
               (apply relInl
                · intro r n hf
                  have Hf := Lib.hid hf
                  clear hf
                  ((obtain ⟨a1, k1, e1, _, g1⟩ := given_at Hf.out 0 rfl (by dsimp only; decide +kernel); obtain ⟨a2, k2, e2, _, g2⟩ := given_at Hf.out 1 rfl (by dsimp only; decide +kernel); dsimp only at e1 e2; unfold relAt; go_simp; refine relUpon_enter ?_; go_at_call 16; (try rw [e1, e2]); (with_reducible refine (texts_same a1 a2 k1 k2 LN _ g1 g2 HLN.out).mono ?_); rintro e w9 ⟨rfl, hb⟩; exact ⟨⟨_, rfl, rfl⟩, hb⟩)))
               (simp only [Act.put, List.setIfInBounds_toArray, List.set_cons_zero, List.set_cons_succ])
               (with_reducible refine HK.out _ _ ?_)
               clear HK K)
              repeat
                ((with_reducible refine relStep (fun K hK => ?_))
                 (have HK := Lib.hid hK)
                 clear hK
                 (apply relInl
                  · intro r n hf
                    have Hf := Lib.hid hf
                    clear hf
                    (first
                      | (fail)
                      | (unfold relAt
                         go_simp
                         (first | (refine relUpon_val ?_ (Below.refl _ _); exact rfl) | exact rfl | (refine relUpon_enter ?_; fail))))
                  (simp only [Act.put, List.setIfInBounds_toArray, List.set_cons_zero, List.set_cons_succ])
                  (with_reducible refine HK.out _ _ ?_)
                  clear HK K))
              (with_reducible refine relStep (fun K hK => ?_))
              (have HK := Lib.hid hK)
              clear hK
              refine relInr (IsL scs 1 LR) (IsL.stays _) (fun r n hf => ?_) ?_
              · have Hf := Lib.hid hf
                clear hf HK K
                unfold relAt
                (skip)
                go_simp
                ((refine relUpon_enter ?_; go_at_call 19; (with_reducible refine (A3.out _ n.below).mono ?_); rintro e w9 ⟨⟨v, rfl, hv⟩, hb⟩; exact ⟨⟨_, rfl, hv⟩, hb⟩))
              (simp only [Act.put, List.setIfInBounds_toArray, List.set_cons_zero, List.set_cons_succ])
              (with_reducible refine HK.out _ _ ?_)
              clear HK K
              repeat
                ((with_reducible refine relStep (fun K hK => ?_))
                 (have HK := Lib.hid hK)
                 clear hK
                 (apply relInl
                  · intro r n hf
                    have Hf := Lib.hid hf
                    clear hf
                    (first
                      | (fail)
                      | (unfold relAt
                         go_simp
                         (first | (refine relUpon_val ?_ (Below.refl _ _); exact rfl) | exact rfl | (refine relUpon_enter ?_; fail))))
                  (simp only [Act.put, List.setIfInBounds_toArray, List.set_cons_zero, List.set_cons_succ])
                  (with_reducible refine HK.out _ _ ?_)
                  clear HK K))
              (with_reducible refine relStep (fun K hK => ?_))
              (have HK := Lib.hid hK)
              clear hK
              refine relInr (IsL scs 1 LR) (IsL.stays _) (fun r n hf => ?_) ?_
              · have Hf := Lib.hid hf
                clear hf HK K
                unfold relAt
                (skip)
                go_simp
                ((refine relUpon_enter ?_; go_at_call 20; (with_reducible refine (A4.out _ n.below).mono ?_); rintro e w9 ⟨⟨v, rfl, hv⟩, hb⟩; exact ⟨⟨_, rfl, hv⟩, hb⟩))
              (simp only [Act.put, List.setIfInBounds_toArray, List.set_cons_zero, List.set_cons_succ])
              (with_reducible refine HK.out _ _ ?_)
              clear HK K
              ((with_reducible refine relStep (fun K hK => ?_))
               (have HK := Lib.hid hK)
               clear hK
               (apply relInl
                · intro r n hf
                  have Hf := Lib.hid hf
                  clear hf
                  ((obtain ⟨a1, k1, e1, _, g1⟩ := given_at Hf.out 2 rfl (by dsimp only; decide +kernel); obtain ⟨a2, k2, e2, _, g2⟩ := given_at Hf.out 3 rfl (by dsimp only; decide +kernel); dsimp only at e1 e2; unfold relAt; go_simp; refine relUpon_enter ?_; go_at_call 16; (try rw [e1, e2]); (with_reducible refine (texts_same a1 a2 k1 k2 LR _ g1 g2 HLR.out).mono ?_); rintro e w9 ⟨rfl, hb⟩; exact ⟨⟨_, rfl, rfl⟩, hb⟩)))
               (simp only [Act.put, List.setIfInBounds_toArray, List.set_cons_zero, List.set_cons_succ])
               (with_reducible refine HK.out _ _ ?_)
               clear HK K)
              repeat
                ((with_reducible refine relStep (fun K hK => ?_))
                 (have HK := Lib.hid hK)
                 clear hK
                 (apply relInl
                  · intro r n hf
                    have Hf := Lib.hid hf
                    clear hf
                    (first
                      | (fail)
                      | (unfold relAt
                         go_simp
                         (first | (refine relUpon_val ?_ (Below.refl _ _); exact rfl) | exact rfl | (refine relUpon_enter ?_; fail))))
                  (simp only [Act.put, List.setIfInBounds_toArray, List.set_cons_zero, List.set_cons_succ])
                  (with_reducible refine HK.out _ _ ?_)
                  clear HK K))
              refine relNil ?_
              intro r9 n9 hx9
              clear hcH
              (try simp only [List.nil_append, List.cons_append, List.mem_cons, List.not_mem_nil, or_false, forall_eq_or_imp, forall_eq, false_implies, implies_true] at hx9)
              obtain ⟨w9, hb9⟩ := n9
              (try dsimp only)
              obtain ⟨hc9, hf9⟩ := bcell hb9
              have hz9 := hb9.size
              (try simp at hz9)
              have HP9 := Lib.hid (HP4.out.below hb9)
              go_wp2
              go_roundw
              case rel => exact ⟨k + 1, _, _, T4, M4, v4, by omega, by omega, by go_num, rfl, HP9.out⟩
              case measure => simp [intOf]; omega
        · have k0 : decide ((0 : Int) < (ln : Int)) = false := decide_eq_false (by omega)
          have hgs : (⟨#[]⟩ : ByteArray).size ≤ maxLen := by decide
          by_cases z0 : kd = 0
          · subst z0
            go_wp2_with (first
              | (go_at_call 9; (with_reducible refine N1.out.mono ?_); rintro e w3 ⟨rfl, hP3, hO3⟩; have HP3 := Lib.hid hP3; have HX3 := Lib.hid (HXW.out.only hO3 hXb); have v1 : w3.cell? ⟨X, 1, none⟩ = some (.slice (ad) ln cp) := HX3.out.cell 1; have v2 : w3.cell? ⟨X, 2, none⟩ = some (.int .i64 nw) := HX3.out.cell 2; have v0 := HX3.out.lt; clear hP3 hO3)
              | (go_at_call 10; (with_reducible refine (N2.out _ HP3.out).mono ?_); rintro e V ⟨rfl, M4, v4, hP4, hO4⟩; have HX4 := Lib.hid (HX3.out.only hO4 hXp); have HQ4 := Lib.hid hP4; clear hP4 hO4 v1 v2 v0))
            obtain ⟨T4, hT4⟩ : ∃ T4, T4 = noteA T nm nw := ⟨_, rfl⟩
            have HP4 := Lib.hid (show PS w V b m p T4 M4 v4 (20 * (k + 1)) by rw [hT4]; exact HQ4.out)
            clear hT4 HQ4 N1 N2 x0 x1 x2 HX3 HXW HP3
            obtain ⟨av, hav⟩ : ∃ q, (T4 (⟨#[]⟩ : ByteArray)).getD 0 = q := ⟨_, rfl⟩
            obtain ⟨iv2, hiv⟩ : ∃ q, (T4 (⟨#[]⟩ : ByteArray)).isSome = q := ⟨_, rfl⟩
            obtain ⟨LN, hLN⟩ : ∃ L, L = M4.map (·.1) := ⟨_, rfl⟩
            obtain ⟨LR, hLR⟩ : ∃ L, L = ripeL T4 M4 nw lg := ⟨_, rfl⟩
            have hn4 : 20 * (k + 1) ≤ 100000 := by omega
            have S1 := Lib.hid (show Calls Try.prog 14 #[.pointer (some ⟨b, 0, none⟩), .string (⟨#[]⟩ : ByteArray)] V (fun e w' => e = .returned (.tuple #[.int .i64 av, .bool iv2]) ∧ w' = V) from by (have h := since_any b _ T4 _ (⟨#[]⟩ : ByteArray) V HP4.out.t hgs); unfold sinceV at h; rw [hav, hiv] at h; exact h)
            have S2 := Lib.hid (show Calls Try.prog 15 #[.pointer (some ⟨p, 0, none⟩), .string (⟨#[]⟩ : ByteArray)] V (fun e w' => e = .returned (.tuple #[.int .i64 av, .bool iv2]) ∧ w' = V) from by (have h := rsince_any w.heap.size p T4 M4 v4 (⟨#[]⟩ : ByteArray) V HP4.out.r HP4.out.e (by have := HP4.out.len; omega)); unfold sinceV at h; rw [hav, hiv] at h; exact h)
            have A1 := Lib.hid (show ∀ V', Below V.heap.size V V' → Calls Try.prog 17 #[.pointer (some ⟨b, 0, none⟩)] V' (Gives V' (IsL scs 1 LN)) from fun V' hb => by rw [hLN]; exact (HP4.out.below hb).names1 hn4)
            have A2 := Lib.hid (show ∀ V', Below V.heap.size V V' → Calls Try.prog 18 #[.pointer (some ⟨p, 0, none⟩)] V' (Gives V' (IsL scs 1 LN)) from fun V' hb => by rw [hLN]; exact (HP4.out.below hb).names2 hn4)
            have A3 := Lib.hid (show ∀ V', Below V.heap.size V V' → Calls Try.prog 19 #[.pointer (some ⟨b, 0, none⟩), .int .i64 nw, .int .i64 lg] V' (Gives V' (IsL scs 1 LR)) from fun V' hb => by rw [hLR]; exact (HP4.out.below hb).ripe1 hn4 nw lg)
            have A4 := Lib.hid (show ∀ V', Below V.heap.size V V' → Calls Try.prog 20 #[.pointer (some ⟨p, 0, none⟩), .int .i64 nw, .int .i64 lg] V' (Gives V' (IsL scs 1 LR)) from fun V' hb => by rw [hLR]; exact (HP4.out.below hb).ripe2 hn4 nw lg)
            have HLN := Lib.hid (show LN.length ≤ 1000000 by have := HP4.out.len; rw [hLN, List.length_map]; omega)
            have HLR := Lib.hid (show LR.length ≤ 1000000 by
              have := HP4.out.len
              rw [hLR]
              unfold ripeL
              split
              · refine Nat.le_trans (List.length_filter_le _ _) ?_
                rw [List.length_map]
                omega
              · simp)
            have x2 : V.cell? ⟨X, 2, none⟩ = some (.int .i64 nw) := HX4.out.cell 2
            have x3 : V.cell? ⟨X, 3, none⟩ = some (.int .i64 lg) := HX4.out.cell 3
            have hX := HX4.out.lt
            clear hLN hLR hav hiv
            go_wp2_with (first
              | (go_at_call 14; (with_reducible refine S1.out.mono ?_); rintro e w7 ⟨rfl, hw7⟩; subst hw7)
              | (go_at_call 15; (with_reducible refine S2.out.mono ?_); rintro e w8 ⟨rfl, hw8⟩; subst hw8))
            have hcH := held_cell
            refine region_rel (by kernel_rfl) (by kernel_rfl) ?_
            (try dsimp only [List.append])
            repeat
              ((with_reducible refine relStep (fun K hK => ?_))
               (have HK := Lib.hid hK)
               clear hK
               (apply relInl
                · intro r n hf
                  have Hf := Lib.hid hf
                  clear hf
                  (first
                    | (fail)
                    | (unfold relAt
                       go_simp
                       (first | (refine relUpon_val ?_ (Below.refl _ _); exact rfl) | exact rfl | (refine relUpon_enter ?_; fail))))
                (simp only [Act.put, List.setIfInBounds_toArray, List.set_cons_zero, List.set_cons_succ])
                (with_reducible refine HK.out _ _ ?_)
                clear HK K))
            (with_reducible refine relStep (fun K hK => ?_))
            (have HK := Lib.hid hK)
            clear hK
            refine relInr (IsL scs 1 LN) (IsL.stays _) (fun r n hf => ?_) ?_
            · have Hf := Lib.hid hf
              clear hf HK K
              unfold relAt
              (skip)
              go_simp
              ((refine relUpon_enter ?_; go_at_call 17; (with_reducible refine (A1.out _ n.below).mono ?_); rintro e w9 ⟨⟨v, rfl, hv⟩, hb⟩; exact ⟨⟨_, rfl, hv⟩, hb⟩))
            (simp only [Act.put, List.setIfInBounds_toArray, List.set_cons_zero, List.set_cons_succ])
            (with_reducible refine HK.out _ _ ?_)
            clear HK K
            repeat
              ((with_reducible refine relStep (fun K hK => ?_))
               (have HK := Lib.hid hK)
               clear hK
               (apply relInl
                · intro r n hf
                  have Hf := Lib.hid hf
                  clear hf
                  (first
                    | (fail)
                    | (unfold relAt
                       go_simp
                       (first | (refine relUpon_val ?_ (Below.refl _ _); exact rfl) | exact rfl | (refine relUpon_enter ?_; fail))))
                (simp only [Act.put, List.setIfInBounds_toArray, List.set_cons_zero, List.set_cons_succ])
                (with_reducible refine HK.out _ _ ?_)
                clear HK K))
            (with_reducible refine relStep (fun K hK => ?_))
            (have HK := Lib.hid hK)
            clear hK
            refine relInr (IsL scs 1 LN) (IsL.stays _) (fun r n hf => ?_) ?_
            · have Hf := Lib.hid hf
              clear hf HK K
              unfold relAt
              (skip)
              go_simp
              ((refine relUpon_enter ?_; go_at_call 18; (with_reducible refine (A2.out _ n.below).mono ?_); rintro e w9 ⟨⟨v, rfl, hv⟩, hb⟩; exact ⟨⟨_, rfl, hv⟩, hb⟩))
            (simp only [Act.put, List.setIfInBounds_toArray, List.set_cons_zero, List.set_cons_succ])
            (with_reducible refine HK.out _ _ ?_)
            clear HK K
            ((with_reducible refine relStep (fun K hK => ?_))
             (have HK := Lib.hid hK)
             clear hK
             (apply relInl
              · intro r n hf
                have Hf := Lib.hid hf
                clear hf
                ((obtain ⟨a1, k1, e1, _, g1⟩ := given_at Hf.out 0 rfl (by dsimp only; decide +kernel); obtain ⟨a2, k2, e2, _, g2⟩ := given_at Hf.out 1 rfl (by dsimp only; decide +kernel); dsimp only at e1 e2; unfold relAt; go_simp; refine relUpon_enter ?_; go_at_call 16; (try rw [e1, e2]); (with_reducible refine (texts_same a1 a2 k1 k2 LN _ g1 g2 HLN.out).mono ?_); rintro e w9 ⟨rfl, hb⟩; exact ⟨⟨_, rfl, rfl⟩, hb⟩)))
             (simp only [Act.put, List.setIfInBounds_toArray, List.set_cons_zero, List.set_cons_succ])
             (with_reducible refine HK.out _ _ ?_)
             clear HK K)
            repeat
              ((with_reducible refine relStep (fun K hK => ?_))
               (have HK := Lib.hid hK)
               clear hK
               (apply relInl
                · intro r n hf
                  have Hf := Lib.hid hf
                  clear hf
                  (first
                    | (fail)
                    | (unfold relAt
                       go_simp
                       (first | (refine relUpon_val ?_ (Below.refl _ _); exact rfl) | exact rfl | (refine relUpon_enter ?_; fail))))
                (simp only [Act.put, List.setIfInBounds_toArray, List.set_cons_zero, List.set_cons_succ])
                (with_reducible refine HK.out _ _ ?_)
                clear HK K))
            (with_reducible refine relStep (fun K hK => ?_))
            (have HK := Lib.hid hK)
            clear hK
            refine relInr (IsL scs 1 LR) (IsL.stays _) (fun r n hf => ?_) ?_
            · have Hf := Lib.hid hf
              clear hf HK K
              unfold relAt
              (skip)
              go_simp
              ((refine relUpon_enter ?_; go_at_call 19; (with_reducible refine (A3.out _ n.below).mono ?_); rintro e w9 ⟨⟨v, rfl, hv⟩, hb⟩; exact ⟨⟨_, rfl, hv⟩, hb⟩))
            (simp only [Act.put, List.setIfInBounds_toArray, List.set_cons_zero, List.set_cons_succ])
            (with_reducible refine HK.out _ _ ?_)
            clear HK K
            repeat
              ((with_reducible refine relStep (fun K hK => ?_))
               (have HK := Lib.hid hK)
               clear hK
               (apply relInl
                · intro r n hf
                  have Hf := Lib.hid hf
                  clear hf
                  (first
                    | (fail)
                    | (unfold relAt
                       go_simp
                       (first | (refine relUpon_val ?_ (Below.refl _ _); exact rfl) | exact rfl | (refine relUpon_enter ?_; fail))))
                (simp only [Act.put, List.setIfInBounds_toArray, List.set_cons_zero, List.set_cons_succ])
                (with_reducible refine HK.out _ _ ?_)
                clear HK K))
            (with_reducible refine relStep (fun K hK => ?_))
            (have HK := Lib.hid hK)
            clear hK
            refine relInr (IsL scs 1 LR) (IsL.stays _) (fun r n hf => ?_) ?_
            · have Hf := Lib.hid hf
              clear hf HK K
              unfold relAt
              (skip)
              go_simp
              ((refine relUpon_enter ?_; go_at_call 20; (with_reducible refine (A4.out _ n.below).mono ?_); rintro e w9 ⟨⟨v, rfl, hv⟩, hb⟩; exact ⟨⟨_, rfl, hv⟩, hb⟩))
            (simp only [Act.put, List.setIfInBounds_toArray, List.set_cons_zero, List.set_cons_succ])
            (with_reducible refine HK.out _ _ ?_)
            clear HK K
            ((with_reducible refine relStep (fun K hK => ?_))
             (have HK := Lib.hid hK)
             clear hK
             (apply relInl
              · intro r n hf
                have Hf := Lib.hid hf
                clear hf
                ((obtain ⟨a1, k1, e1, _, g1⟩ := given_at Hf.out 2 rfl (by dsimp only; decide +kernel); obtain ⟨a2, k2, e2, _, g2⟩ := given_at Hf.out 3 rfl (by dsimp only; decide +kernel); dsimp only at e1 e2; unfold relAt; go_simp; refine relUpon_enter ?_; go_at_call 16; (try rw [e1, e2]); (with_reducible refine (texts_same a1 a2 k1 k2 LR _ g1 g2 HLR.out).mono ?_); rintro e w9 ⟨rfl, hb⟩; exact ⟨⟨_, rfl, rfl⟩, hb⟩)))
             (simp only [Act.put, List.setIfInBounds_toArray, List.set_cons_zero, List.set_cons_succ])
             (with_reducible refine HK.out _ _ ?_)
             clear HK K)
            repeat
              ((with_reducible refine relStep (fun K hK => ?_))
               (have HK := Lib.hid hK)
               clear hK
               (apply relInl
                · intro r n hf
                  have Hf := Lib.hid hf
                  clear hf
                  (first
                    | (fail)
                    | (unfold relAt
                       go_simp
                       (first | (refine relUpon_val ?_ (Below.refl _ _); exact rfl) | exact rfl | (refine relUpon_enter ?_; fail))))
                (simp only [Act.put, List.setIfInBounds_toArray, List.set_cons_zero, List.set_cons_succ])
                (with_reducible refine HK.out _ _ ?_)
                clear HK K))
            refine relNil ?_
            intro r9 n9 hx9
            clear hcH
            (try simp only [List.nil_append, List.cons_append, List.mem_cons, List.not_mem_nil, or_false, forall_eq_or_imp, forall_eq, false_implies, implies_true] at hx9)
            obtain ⟨w9, hb9⟩ := n9
            (try dsimp only)
            obtain ⟨hc9, hf9⟩ := bcell hb9
            have hz9 := hb9.size
            (try simp at hz9)
            have HP9 := Lib.hid (HP4.out.below hb9)
            go_wp2
            go_roundw
            case rel => exact ⟨k + 1, _, _, T4, M4, v4, by omega, by omega, by go_num, rfl, HP9.out⟩
            case measure => simp [intOf]; omega
          · have z0' : (kd == 0) = false := by simpa using z0
            by_cases z1 : kd = 1
            · subst z1
              go_wp2_with (first
                | (go_at_call 11; (with_reducible refine (HPW.out.drop1 (⟨#[]⟩ : ByteArray) hgs).mono ?_); rintro e w3 ⟨rfl, hP3, hO3⟩; have HP3 := Lib.hid hP3; have HX3 := Lib.hid (HXW.out.only hO3 hXb); clear hP3 hO3)
                | (go_at_call 12; (with_reducible refine (HP3.out.drop2 (by omega)).mono ?_); rintro e V ⟨rfl, M4, v4, hP4, hO4⟩; have HX4 := Lib.hid (HX3.out.only hO4 hXp); have HQ4 := Lib.hid hP4; clear hP4 hO4))
              obtain ⟨T4, hT4⟩ : ∃ T4, T4 = updT T (⟨#[]⟩ : ByteArray) none := ⟨_, rfl⟩
              have HP4 := Lib.hid (show PS w V b m p T4 M4 v4 (20 * (k + 1)) by rw [hT4]; exact HQ4.out.more (by omega))
              clear hT4 HQ4 N1 N2 x0 x1 x2 HX3 HXW HP3
              obtain ⟨av, hav⟩ : ∃ q, (T4 (⟨#[]⟩ : ByteArray)).getD 0 = q := ⟨_, rfl⟩
              obtain ⟨iv2, hiv⟩ : ∃ q, (T4 (⟨#[]⟩ : ByteArray)).isSome = q := ⟨_, rfl⟩
              obtain ⟨LN, hLN⟩ : ∃ L, L = M4.map (·.1) := ⟨_, rfl⟩
              obtain ⟨LR, hLR⟩ : ∃ L, L = ripeL T4 M4 nw lg := ⟨_, rfl⟩
              have hn4 : 20 * (k + 1) ≤ 100000 := by omega
              have S1 := Lib.hid (show Calls Try.prog 14 #[.pointer (some ⟨b, 0, none⟩), .string (⟨#[]⟩ : ByteArray)] V (fun e w' => e = .returned (.tuple #[.int .i64 av, .bool iv2]) ∧ w' = V) from by (have h := since_any b _ T4 _ (⟨#[]⟩ : ByteArray) V HP4.out.t hgs); unfold sinceV at h; rw [hav, hiv] at h; exact h)
              have S2 := Lib.hid (show Calls Try.prog 15 #[.pointer (some ⟨p, 0, none⟩), .string (⟨#[]⟩ : ByteArray)] V (fun e w' => e = .returned (.tuple #[.int .i64 av, .bool iv2]) ∧ w' = V) from by (have h := rsince_any w.heap.size p T4 M4 v4 (⟨#[]⟩ : ByteArray) V HP4.out.r HP4.out.e (by have := HP4.out.len; omega)); unfold sinceV at h; rw [hav, hiv] at h; exact h)
              have A1 := Lib.hid (show ∀ V', Below V.heap.size V V' → Calls Try.prog 17 #[.pointer (some ⟨b, 0, none⟩)] V' (Gives V' (IsL scs 1 LN)) from fun V' hb => by rw [hLN]; exact (HP4.out.below hb).names1 hn4)
              have A2 := Lib.hid (show ∀ V', Below V.heap.size V V' → Calls Try.prog 18 #[.pointer (some ⟨p, 0, none⟩)] V' (Gives V' (IsL scs 1 LN)) from fun V' hb => by rw [hLN]; exact (HP4.out.below hb).names2 hn4)
              have A3 := Lib.hid (show ∀ V', Below V.heap.size V V' → Calls Try.prog 19 #[.pointer (some ⟨b, 0, none⟩), .int .i64 nw, .int .i64 lg] V' (Gives V' (IsL scs 1 LR)) from fun V' hb => by rw [hLR]; exact (HP4.out.below hb).ripe1 hn4 nw lg)
              have A4 := Lib.hid (show ∀ V', Below V.heap.size V V' → Calls Try.prog 20 #[.pointer (some ⟨p, 0, none⟩), .int .i64 nw, .int .i64 lg] V' (Gives V' (IsL scs 1 LR)) from fun V' hb => by rw [hLR]; exact (HP4.out.below hb).ripe2 hn4 nw lg)
              have HLN := Lib.hid (show LN.length ≤ 1000000 by have := HP4.out.len; rw [hLN, List.length_map]; omega)
              have HLR := Lib.hid (show LR.length ≤ 1000000 by
                have := HP4.out.len
                rw [hLR]
                unfold ripeL
                split
                · refine Nat.le_trans (List.length_filter_le _ _) ?_
                  rw [List.length_map]
                  omega
                · simp)
              have x2 : V.cell? ⟨X, 2, none⟩ = some (.int .i64 nw) := HX4.out.cell 2
              have x3 : V.cell? ⟨X, 3, none⟩ = some (.int .i64 lg) := HX4.out.cell 3
              have hX := HX4.out.lt
              clear hLN hLR hav hiv
              go_wp2_with (first
                | (go_at_call 14; (with_reducible refine S1.out.mono ?_); rintro e w7 ⟨rfl, hw7⟩; subst hw7)
                | (go_at_call 15; (with_reducible refine S2.out.mono ?_); rintro e w8 ⟨rfl, hw8⟩; subst hw8))
              have hcH := held_cell
              refine region_rel (by kernel_rfl) (by kernel_rfl) ?_
              (try dsimp only [List.append])
              repeat
                ((with_reducible refine relStep (fun K hK => ?_))
                 (have HK := Lib.hid hK)
                 clear hK
                 (apply relInl
                  · intro r n hf
                    have Hf := Lib.hid hf
                    clear hf
                    (first
                      | (fail)
                      | (unfold relAt
                         go_simp
                         (first | (refine relUpon_val ?_ (Below.refl _ _); exact rfl) | exact rfl | (refine relUpon_enter ?_; fail))))
                  (simp only [Act.put, List.setIfInBounds_toArray, List.set_cons_zero, List.set_cons_succ])
                  (with_reducible refine HK.out _ _ ?_)
                  clear HK K))
              (with_reducible refine relStep (fun K hK => ?_))
              (have HK := Lib.hid hK)
              clear hK
              refine relInr (IsL scs 1 LN) (IsL.stays _) (fun r n hf => ?_) ?_
              · have Hf := Lib.hid hf
                clear hf HK K
                unfold relAt
                (skip)
                go_simp
                ((refine relUpon_enter ?_; go_at_call 17; (with_reducible refine (A1.out _ n.below).mono ?_); rintro e w9 ⟨⟨v, rfl, hv⟩, hb⟩; exact ⟨⟨_, rfl, hv⟩, hb⟩))
              (simp only [Act.put, List.setIfInBounds_toArray, List.set_cons_zero, List.set_cons_succ])
              (with_reducible refine HK.out _ _ ?_)
              clear HK K
              repeat
                ((with_reducible refine relStep (fun K hK => ?_))
                 (have HK := Lib.hid hK)
                 clear hK
                 (apply relInl
                  · intro r n hf
                    have Hf := Lib.hid hf
                    clear hf
                    (first
                      | (fail)
                      | (unfold relAt
                         go_simp
                         (first | (refine relUpon_val ?_ (Below.refl _ _); exact rfl) | exact rfl | (refine relUpon_enter ?_; fail))))
                  (simp only [Act.put, List.setIfInBounds_toArray, List.set_cons_zero, List.set_cons_succ])
                  (with_reducible refine HK.out _ _ ?_)
                  clear HK K))
              (with_reducible refine relStep (fun K hK => ?_))
              (have HK := Lib.hid hK)
              clear hK
              refine relInr (IsL scs 1 LN) (IsL.stays _) (fun r n hf => ?_) ?_
              · have Hf := Lib.hid hf
                clear hf HK K
                unfold relAt
                (skip)
                go_simp
                ((refine relUpon_enter ?_; go_at_call 18; (with_reducible refine (A2.out _ n.below).mono ?_); rintro e w9 ⟨⟨v, rfl, hv⟩, hb⟩; exact ⟨⟨_, rfl, hv⟩, hb⟩))
              (simp only [Act.put, List.setIfInBounds_toArray, List.set_cons_zero, List.set_cons_succ])
              (with_reducible refine HK.out _ _ ?_)
              clear HK K
              ((with_reducible refine relStep (fun K hK => ?_))
               (have HK := Lib.hid hK)
               clear hK
               (apply relInl
                · intro r n hf
                  have Hf := Lib.hid hf
                  clear hf
                  ((obtain ⟨a1, k1, e1, _, g1⟩ := given_at Hf.out 0 rfl (by dsimp only; decide +kernel); obtain ⟨a2, k2, e2, _, g2⟩ := given_at Hf.out 1 rfl (by dsimp only; decide +kernel); dsimp only at e1 e2; unfold relAt; go_simp; refine relUpon_enter ?_; go_at_call 16; (try rw [e1, e2]); (with_reducible refine (texts_same a1 a2 k1 k2 LN _ g1 g2 HLN.out).mono ?_); rintro e w9 ⟨rfl, hb⟩; exact ⟨⟨_, rfl, rfl⟩, hb⟩)))
               (simp only [Act.put, List.setIfInBounds_toArray, List.set_cons_zero, List.set_cons_succ])
               (with_reducible refine HK.out _ _ ?_)
               clear HK K)
              repeat
                ((with_reducible refine relStep (fun K hK => ?_))
                 (have HK := Lib.hid hK)
                 clear hK
                 (apply relInl
                  · intro r n hf
                    have Hf := Lib.hid hf
                    clear hf
                    (first
                      | (fail)
                      | (unfold relAt
                         go_simp
                         (first | (refine relUpon_val ?_ (Below.refl _ _); exact rfl) | exact rfl | (refine relUpon_enter ?_; fail))))
                  (simp only [Act.put, List.setIfInBounds_toArray, List.set_cons_zero, List.set_cons_succ])
                  (with_reducible refine HK.out _ _ ?_)
                  clear HK K))
              (with_reducible refine relStep (fun K hK => ?_))
              (have HK := Lib.hid hK)
              clear hK
              refine relInr (IsL scs 1 LR) (IsL.stays _) (fun r n hf => ?_) ?_
              · have Hf := Lib.hid hf
                clear hf HK K
                unfold relAt
                (skip)
                go_simp
                ((refine relUpon_enter ?_; go_at_call 19; (with_reducible refine (A3.out _ n.below).mono ?_); rintro e w9 ⟨⟨v, rfl, hv⟩, hb⟩; exact ⟨⟨_, rfl, hv⟩, hb⟩))
              (simp only [Act.put, List.setIfInBounds_toArray, List.set_cons_zero, List.set_cons_succ])
              (with_reducible refine HK.out _ _ ?_)
              clear HK K
              repeat
                ((with_reducible refine relStep (fun K hK => ?_))
                 (have HK := Lib.hid hK)
                 clear hK
                 (apply relInl
                  · intro r n hf
                    have Hf := Lib.hid hf
                    clear hf
                    (first
                      | (fail)
                      | (unfold relAt
                         go_simp
                         (first | (refine relUpon_val ?_ (Below.refl _ _); exact rfl) | exact rfl | (refine relUpon_enter ?_; fail))))
                  (simp only [Act.put, List.setIfInBounds_toArray, List.set_cons_zero, List.set_cons_succ])
                  (with_reducible refine HK.out _ _ ?_)
                  clear HK K))
              (with_reducible refine relStep (fun K hK => ?_))
              (have HK := Lib.hid hK)
              clear hK
              refine relInr (IsL scs 1 LR) (IsL.stays _) (fun r n hf => ?_) ?_
              · have Hf := Lib.hid hf
                clear hf HK K
                unfold relAt
                (skip)
                go_simp
                ((refine relUpon_enter ?_; go_at_call 20; (with_reducible refine (A4.out _ n.below).mono ?_); rintro e w9 ⟨⟨v, rfl, hv⟩, hb⟩; exact ⟨⟨_, rfl, hv⟩, hb⟩))
              (simp only [Act.put, List.setIfInBounds_toArray, List.set_cons_zero, List.set_cons_succ])
              (with_reducible refine HK.out _ _ ?_)
              clear HK K
              ((with_reducible refine relStep (fun K hK => ?_))
               (have HK := Lib.hid hK)
               clear hK
               (apply relInl
                · intro r n hf
                  have Hf := Lib.hid hf
                  clear hf
                  ((obtain ⟨a1, k1, e1, _, g1⟩ := given_at Hf.out 2 rfl (by dsimp only; decide +kernel); obtain ⟨a2, k2, e2, _, g2⟩ := given_at Hf.out 3 rfl (by dsimp only; decide +kernel); dsimp only at e1 e2; unfold relAt; go_simp; refine relUpon_enter ?_; go_at_call 16; (try rw [e1, e2]); (with_reducible refine (texts_same a1 a2 k1 k2 LR _ g1 g2 HLR.out).mono ?_); rintro e w9 ⟨rfl, hb⟩; exact ⟨⟨_, rfl, rfl⟩, hb⟩)))
               (simp only [Act.put, List.setIfInBounds_toArray, List.set_cons_zero, List.set_cons_succ])
               (with_reducible refine HK.out _ _ ?_)
               clear HK K)
              repeat
                ((with_reducible refine relStep (fun K hK => ?_))
                 (have HK := Lib.hid hK)
                 clear hK
                 (apply relInl
                  · intro r n hf
                    have Hf := Lib.hid hf
                    clear hf
                    (first
                      | (fail)
                      | (unfold relAt
                         go_simp
                         (first | (refine relUpon_val ?_ (Below.refl _ _); exact rfl) | exact rfl | (refine relUpon_enter ?_; fail))))
                  (simp only [Act.put, List.setIfInBounds_toArray, List.set_cons_zero, List.set_cons_succ])
                  (with_reducible refine HK.out _ _ ?_)
                  clear HK K))
              refine relNil ?_
              intro r9 n9 hx9
              clear hcH
              (try simp only [List.nil_append, List.cons_append, List.mem_cons, List.not_mem_nil, or_false, forall_eq_or_imp, forall_eq, false_implies, implies_true] at hx9)
              obtain ⟨w9, hb9⟩ := n9
              (try dsimp only)
              obtain ⟨hc9, hf9⟩ := bcell hb9
              have hz9 := hb9.size
              (try simp at hz9)
              have HP9 := Lib.hid (HP4.out.below hb9)
              go_wp2
              go_roundw
              case rel => exact ⟨k + 1, _, _, T4, M4, v4, by omega, by omega, by go_num, rfl, HP9.out⟩
              case measure => simp [intOf]; omega
            · have z1' : (kd == 1) = false := by simpa using z1
              go_wp2_with (first
                | (go_at_call 13; (with_reducible refine (HPW.out.copy).mono ?_); rintro e w3 ⟨b2, m2, rfl, hP3, hA3, hq1, hq2, hB3⟩; have HP3 := Lib.hid hP3; have HA3 := Lib.hid hA3; have HX3 := Lib.hid (HXW.out.below hB3); have Hq1 := Lib.hid hq1; have Hq2 := Lib.hid hq2; clear hP3 hA3 hB3 hq1 hq2)
                | (go_at_call 9; (with_reducible refine (HP3.out.aside HA3.out (by omega) Hq1.out Hq2.out HP.out.hb HP.out.hm).mono ?_); rintro e V ⟨rfl, hP4, hO4⟩; have HX4 := Lib.hid (HX3.out.only hO4 hXb); have HQ4 := Lib.hid hP4; clear hP4 hO4))
              obtain ⟨T4, hT4⟩ : ∃ T4, T4 = T := ⟨_, rfl⟩
              obtain ⟨M4, hM4⟩ : ∃ M4, M4 = M := ⟨_, rfl⟩
              obtain ⟨v4, hv4⟩ : ∃ v4, v4 = v := ⟨_, rfl⟩
              have HP4 := Lib.hid (show PS w V b2 m2 p T4 M4 v4 (20 * (k + 1)) by rw [hT4, hM4, hv4]; exact HQ4.out.more (by omega))
              clear hT4 hM4 hv4 HQ4 N1 N2 x0 x1 x2 HX3 HXW HP3 HA3
              obtain ⟨av, hav⟩ : ∃ q, (T4 (⟨#[]⟩ : ByteArray)).getD 0 = q := ⟨_, rfl⟩
              obtain ⟨iv2, hiv⟩ : ∃ q, (T4 (⟨#[]⟩ : ByteArray)).isSome = q := ⟨_, rfl⟩
              obtain ⟨LN, hLN⟩ : ∃ L, L = M4.map (·.1) := ⟨_, rfl⟩
              obtain ⟨LR, hLR⟩ : ∃ L, L = ripeL T4 M4 nw lg := ⟨_, rfl⟩
              have hn4 : 20 * (k + 1) ≤ 100000 := by omega
              have S1 := Lib.hid (show Calls Try.prog 14 #[.pointer (some ⟨b2, 0, none⟩), .string (⟨#[]⟩ : ByteArray)] V (fun e w' => e = .returned (.tuple #[.int .i64 av, .bool iv2]) ∧ w' = V) from by (have h := since_any b2 _ T4 _ (⟨#[]⟩ : ByteArray) V HP4.out.t hgs); unfold sinceV at h; rw [hav, hiv] at h; exact h)
              have S2 := Lib.hid (show Calls Try.prog 15 #[.pointer (some ⟨p, 0, none⟩), .string (⟨#[]⟩ : ByteArray)] V (fun e w' => e = .returned (.tuple #[.int .i64 av, .bool iv2]) ∧ w' = V) from by (have h := rsince_any w.heap.size p T4 M4 v4 (⟨#[]⟩ : ByteArray) V HP4.out.r HP4.out.e (by have := HP4.out.len; omega)); unfold sinceV at h; rw [hav, hiv] at h; exact h)
              have A1 := Lib.hid (show ∀ V', Below V.heap.size V V' → Calls Try.prog 17 #[.pointer (some ⟨b2, 0, none⟩)] V' (Gives V' (IsL scs 1 LN)) from fun V' hb => by rw [hLN]; exact (HP4.out.below hb).names1 hn4)
              have A2 := Lib.hid (show ∀ V', Below V.heap.size V V' → Calls Try.prog 18 #[.pointer (some ⟨p, 0, none⟩)] V' (Gives V' (IsL scs 1 LN)) from fun V' hb => by rw [hLN]; exact (HP4.out.below hb).names2 hn4)
              have A3 := Lib.hid (show ∀ V', Below V.heap.size V V' → Calls Try.prog 19 #[.pointer (some ⟨b2, 0, none⟩), .int .i64 nw, .int .i64 lg] V' (Gives V' (IsL scs 1 LR)) from fun V' hb => by rw [hLR]; exact (HP4.out.below hb).ripe1 hn4 nw lg)
              have A4 := Lib.hid (show ∀ V', Below V.heap.size V V' → Calls Try.prog 20 #[.pointer (some ⟨p, 0, none⟩), .int .i64 nw, .int .i64 lg] V' (Gives V' (IsL scs 1 LR)) from fun V' hb => by rw [hLR]; exact (HP4.out.below hb).ripe2 hn4 nw lg)
              have HLN := Lib.hid (show LN.length ≤ 1000000 by have := HP4.out.len; rw [hLN, List.length_map]; omega)
              have HLR := Lib.hid (show LR.length ≤ 1000000 by
                have := HP4.out.len
                rw [hLR]
                unfold ripeL
                split
                · refine Nat.le_trans (List.length_filter_le _ _) ?_
                  rw [List.length_map]
                  omega
                · simp)
              have x2 : V.cell? ⟨X, 2, none⟩ = some (.int .i64 nw) := HX4.out.cell 2
              have x3 : V.cell? ⟨X, 3, none⟩ = some (.int .i64 lg) := HX4.out.cell 3
              have hX := HX4.out.lt
              clear hLN hLR hav hiv
              go_wp2_with (first
                | (go_at_call 14; (with_reducible refine S1.out.mono ?_); rintro e w7 ⟨rfl, hw7⟩; subst hw7)
                | (go_at_call 15; (with_reducible refine S2.out.mono ?_); rintro e w8 ⟨rfl, hw8⟩; subst hw8))
              have hcH := held_cell
              refine region_rel (by kernel_rfl) (by kernel_rfl) ?_
              (try dsimp only [List.append])
              repeat
                ((with_reducible refine relStep (fun K hK => ?_))
                 (have HK := Lib.hid hK)
                 clear hK
                 (apply relInl
                  · intro r n hf
                    have Hf := Lib.hid hf
                    clear hf
                    (first
                      | (fail)
                      | (unfold relAt
                         go_simp
                         (first | (refine relUpon_val ?_ (Below.refl _ _); exact rfl) | exact rfl | (refine relUpon_enter ?_; fail))))
                  (simp only [Act.put, List.setIfInBounds_toArray, List.set_cons_zero, List.set_cons_succ])
                  (with_reducible refine HK.out _ _ ?_)
                  clear HK K))
              (with_reducible refine relStep (fun K hK => ?_))
              (have HK := Lib.hid hK)
              clear hK
              refine relInr (IsL scs 1 LN) (IsL.stays _) (fun r n hf => ?_) ?_
              · have Hf := Lib.hid hf
                clear hf HK K
                unfold relAt
                (skip)
                go_simp
                ((refine relUpon_enter ?_; go_at_call 17; (with_reducible refine (A1.out _ n.below).mono ?_); rintro e w9 ⟨⟨v, rfl, hv⟩, hb⟩; exact ⟨⟨_, rfl, hv⟩, hb⟩))
              (simp only [Act.put, List.setIfInBounds_toArray, List.set_cons_zero, List.set_cons_succ])
              (with_reducible refine HK.out _ _ ?_)
              clear HK K
              repeat
                ((with_reducible refine relStep (fun K hK => ?_))
                 (have HK := Lib.hid hK)
                 clear hK
                 (apply relInl
                  · intro r n hf
                    have Hf := Lib.hid hf
                    clear hf
                    (first
                      | (fail)
                      | (unfold relAt
                         go_simp
                         (first | (refine relUpon_val ?_ (Below.refl _ _); exact rfl) | exact rfl | (refine relUpon_enter ?_; fail))))
                  (simp only [Act.put, List.setIfInBounds_toArray, List.set_cons_zero, List.set_cons_succ])
                  (with_reducible refine HK.out _ _ ?_)
                  clear HK K))
              (with_reducible refine relStep (fun K hK => ?_))
              (have HK := Lib.hid hK)
              clear hK
              refine relInr (IsL scs 1 LN) (IsL.stays _) (fun r n hf => ?_) ?_
              · have Hf := Lib.hid hf
                clear hf HK K
                unfold relAt
                (skip)
                go_simp
                ((refine relUpon_enter ?_; go_at_call 18; (with_reducible refine (A2.out _ n.below).mono ?_); rintro e w9 ⟨⟨v, rfl, hv⟩, hb⟩; exact ⟨⟨_, rfl, hv⟩, hb⟩))
              (simp only [Act.put, List.setIfInBounds_toArray, List.set_cons_zero, List.set_cons_succ])
              (with_reducible refine HK.out _ _ ?_)
              clear HK K
              ((with_reducible refine relStep (fun K hK => ?_))
               (have HK := Lib.hid hK)
               clear hK
               (apply relInl
                · intro r n hf
                  have Hf := Lib.hid hf
                  clear hf
                  ((obtain ⟨a1, k1, e1, _, g1⟩ := given_at Hf.out 0 rfl (by dsimp only; decide +kernel); obtain ⟨a2, k2, e2, _, g2⟩ := given_at Hf.out 1 rfl (by dsimp only; decide +kernel); dsimp only at e1 e2; unfold relAt; go_simp; refine relUpon_enter ?_; go_at_call 16; (try rw [e1, e2]); (with_reducible refine (texts_same a1 a2 k1 k2 LN _ g1 g2 HLN.out).mono ?_); rintro e w9 ⟨rfl, hb⟩; exact ⟨⟨_, rfl, rfl⟩, hb⟩)))
               (simp only [Act.put, List.setIfInBounds_toArray, List.set_cons_zero, List.set_cons_succ])
               (with_reducible refine HK.out _ _ ?_)
               clear HK K)
              repeat
                ((with_reducible refine relStep (fun K hK => ?_))
                 (have HK := Lib.hid hK)
                 clear hK
                 (apply relInl
                  · intro r n hf
                    have Hf := Lib.hid hf
                    clear hf
                    (first
                      | (fail)
                      | (unfold relAt
                         go_simp
                         (first | (refine relUpon_val ?_ (Below.refl _ _); exact rfl) | exact rfl | (refine relUpon_enter ?_; fail))))
                  (simp only [Act.put, List.setIfInBounds_toArray, List.set_cons_zero, List.set_cons_succ])
                  (with_reducible refine HK.out _ _ ?_)
                  clear HK K))
              (with_reducible refine relStep (fun K hK => ?_))
              (have HK := Lib.hid hK)
              clear hK
              refine relInr (IsL scs 1 LR) (IsL.stays _) (fun r n hf => ?_) ?_
              · have Hf := Lib.hid hf
                clear hf HK K
                unfold relAt
                (skip)
                go_simp
                ((refine relUpon_enter ?_; go_at_call 19; (with_reducible refine (A3.out _ n.below).mono ?_); rintro e w9 ⟨⟨v, rfl, hv⟩, hb⟩; exact ⟨⟨_, rfl, hv⟩, hb⟩))
              (simp only [Act.put, List.setIfInBounds_toArray, List.set_cons_zero, List.set_cons_succ])
              (with_reducible refine HK.out _ _ ?_)
              clear HK K
              repeat
                ((with_reducible refine relStep (fun K hK => ?_))
                 (have HK := Lib.hid hK)
                 clear hK
                 (apply relInl
                  · intro r n hf
                    have Hf := Lib.hid hf
                    clear hf
                    (first
                      | (fail)
                      | (unfold relAt
                         go_simp
                         (first | (refine relUpon_val ?_ (Below.refl _ _); exact rfl) | exact rfl | (refine relUpon_enter ?_; fail))))
                  (simp only [Act.put, List.setIfInBounds_toArray, List.set_cons_zero, List.set_cons_succ])
                  (with_reducible refine HK.out _ _ ?_)
                  clear HK K))
              (with_reducible refine relStep (fun K hK => ?_))
              (have HK := Lib.hid hK)
              clear hK
              refine relInr (IsL scs 1 LR) (IsL.stays _) (fun r n hf => ?_) ?_
              · have Hf := Lib.hid hf
                clear hf HK K
                unfold relAt
                (skip)
                go_simp
                ((refine relUpon_enter ?_; go_at_call 20; (with_reducible refine (A4.out _ n.below).mono ?_); rintro e w9 ⟨⟨v, rfl, hv⟩, hb⟩; exact ⟨⟨_, rfl, hv⟩, hb⟩))
              (simp only [Act.put, List.setIfInBounds_toArray, List.set_cons_zero, List.set_cons_succ])
              (with_reducible refine HK.out _ _ ?_)
              clear HK K
              ((with_reducible refine relStep (fun K hK => ?_))
               (have HK := Lib.hid hK)
               clear hK
               (apply relInl
                · intro r n hf
                  have Hf := Lib.hid hf
                  clear hf
                  ((obtain ⟨a1, k1, e1, _, g1⟩ := given_at Hf.out 2 rfl (by dsimp only; decide +kernel); obtain ⟨a2, k2, e2, _, g2⟩ := given_at Hf.out 3 rfl (by dsimp only; decide +kernel); dsimp only at e1 e2; unfold relAt; go_simp; refine relUpon_enter ?_; go_at_call 16; (try rw [e1, e2]); (with_reducible refine (texts_same a1 a2 k1 k2 LR _ g1 g2 HLR.out).mono ?_); rintro e w9 ⟨rfl, hb⟩; exact ⟨⟨_, rfl, rfl⟩, hb⟩)))
               (simp only [Act.put, List.setIfInBounds_toArray, List.set_cons_zero, List.set_cons_succ])
               (with_reducible refine HK.out _ _ ?_)
               clear HK K)
              repeat
                ((with_reducible refine relStep (fun K hK => ?_))
                 (have HK := Lib.hid hK)
                 clear hK
                 (apply relInl
                  · intro r n hf
                    have Hf := Lib.hid hf
                    clear hf
                    (first
                      | (fail)
                      | (unfold relAt
                         go_simp
                         (first | (refine relUpon_val ?_ (Below.refl _ _); exact rfl) | exact rfl | (refine relUpon_enter ?_; fail))))
                  (simp only [Act.put, List.setIfInBounds_toArray, List.set_cons_zero, List.set_cons_succ])
                  (with_reducible refine HK.out _ _ ?_)
                  clear HK K))
              refine relNil ?_
              intro r9 n9 hx9
              clear hcH
              (try simp only [List.nil_append, List.cons_append, List.mem_cons, List.not_mem_nil, or_false, forall_eq_or_imp, forall_eq, false_implies, implies_true] at hx9)
              obtain ⟨w9, hb9⟩ := n9
              (try dsimp only)
              obtain ⟨hc9, hf9⟩ := bcell hb9
              have hz9 := hb9.size
              (try simp at hz9)
              have HP9 := Lib.hid (HP4.out.below hb9)
              go_wp2
              go_roundw
              case rel => exact ⟨k + 1, _, _, T4, M4, v4, by omega, by omega, by go_num, rfl, HP9.out⟩
              case measure => simp [intOf]; omega
    · by_cases e : k < q
      · have e2 : k = 40 := by omega
        subst e2
        go_wp2_with (go_at_call 21; (with_reducible refine (known_any _).mono ?_); rintro e w4 ⟨rfl, hb4⟩)
        go_ret
        exact ⟨rfl, HP.out.bl.trans (hb4.mono HP.out.bl.size)⟩
      · obtain rfl : k = q := by omega
        go_wp2_with (go_at_call 21; (with_reducible refine (known_any _).mono ?_); rintro e w4 ⟨rfl, hb4⟩)
        go_ret
        exact ⟨rfl, HP.out.bl.trans (hb4.mono HP.out.bl.size)⟩

set_option maxRecDepth 100000 in
theorem lifted (os : Os) (started : os.Started) (H : Type) (enc : TypeId × Value → H) :
    ReturnsInHanded {} Try.checked os 3 .any (Rows.timerPlaysSpec.pre6 enc Try.prog Try.f3 Rows.timerPlaysRow.domain false) (Rows.timerPlaysSpec.post enc Try.prog Try.f3 false true false false) := by
  refine returnsInHanded_of_change (C := Try.checked) Try.own started (by kernel_rfl) Try.func3
    (ChangeSpec.witness6 (enc := enc) (C := Try.checked) false ⟨#[], #[.slice none 0 0], []⟩ 8 (by kernel_rfl) (by kernel_rfl) (by kernel_rfl) (by kernel_rfl)) ?_
  intro W base args ds gs before hval hW _ _
  have hW' := hW
  obtain ⟨p, q, hA, hV, rfl, hfz, hnd⟩ := hW
  rw [Try.params3] at hA hval
  obtain ⟨v0, d0, rfl, rfl, h0⟩ := trodAll_one hA
  obtain ⟨a, l, k, rfl, _, hF, hl, _⟩ := open_ops (hval 0 22 v0 rfl rfl) h0
  refine (walk a k W l hF hl).mono fun e W' ⟨he, hb⟩ => ?_
  exact ⟨_, he, law_post Try.laidOut hW' rfl (by kernel_rfl) (by kernel_rfl) Try.underlying4 rfl rfl rfl hb⟩

theorem over : Rows.timerPlaysRow.holds Try.pinned (OpenSpec.ofChange Rows.timerPlaysSpec) :=
  OpenClaim.holds_of_wide 3 Try.f3 rfl rfl rfl rfl rfl rfl rfl ⟨rfl, rfl, rfl, rfl, rfl⟩ rfl rfl rfl rfl rfl (by kernel_rfl) Try.func3 (by kernel_rfl)
    (of_decide_eq_true (by kernel_rfl)) (by unfold Func.isWrapper; first | (rw [if_pos (by decide +kernel)]; kernel_rfl) | (rw [if_neg (by decide +kernel)]; exact ⟨rfl, rfl⟩))
    (fun os started H enc _ => lifted os started H enc)

/-- The statement. -/
theorem proved : Rows.TimerPlaysSaid := over
end timerPlays
end Go.Proofs.Yteccmjbgedmfhaa
