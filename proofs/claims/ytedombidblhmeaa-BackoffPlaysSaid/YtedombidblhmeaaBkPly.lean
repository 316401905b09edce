/-
  BackoffPlays: the program's table and the document's through a script.
-/
import Derived.Test.YtedombidblhmeaaBkPr4
import Derived.Test.YtedombidblhmeaaBkOp
import Derived.Test.YtedombidblhmeaaFrame
import Derived.Laws.IdiomArrays
import Derived.Deep.Cut
namespace Go.Proofs.Ytedombidblhmeaa
open Go.ChangeShapes Go.WideShapes Go.ChangeAt Go.RowKit
set_option linter.unusedVariables false
set_option linter.unusedSimpArgs false
theorem PR.more {w0 w : World} {b m p : Nat} {fi mo re : Int} {E : ByteArray → Option En} {M : List Nt} {v : Value} {cr : Int} {n k : Nat} (h : PR w0 w b m p fi mo re E M v cr n) (hk : n ≤ k) : PR w0 w b m p fi mo re E M v cr k :=
  ⟨h.t.more2 hk, h.r, h.e, by have := h.len; omega, h.bl, h.hb, h.hm, h.bp, h.mp, h.vb⟩
namespace backoffPlays

theorem texts_same (a b : Option Addr) (ka kb : Nat) (L : List ByteArray) (w : World) (hF : TxtL w a L) (hG : TxtL w b L) (hL : L.length ≤ 1000000) :
    Calls Try.prog 21 #[.slice a L.length ka, .slice b L.length kb] w fun e w' => e = .returned (.bool true) ∧ Below w.heap.size w w' :=
  (texts_any a b ka kb L L w hF hG hL hL).mono fun e w' ⟨he, hb⟩ => ⟨by rw [he]; simp, hb⟩
set_option maxRecDepth 100000 in
set_option maxHeartbeats 8000000 in
theorem walk_no (x y z : Int) (c : Option Addr) (kc n : Nat) (w : World) (hk : ¬ okN x y z) :
    Calls Try.prog 3 #[.agg #[.int .i64 x, .int .i64 y, .int .i64 z], .slice c n kc] w fun e w' => e = .returned (.bool true) ∧ Below w.heap.size w w' := by
  have HN1 := Lib.hid (fun V => new_no x y z hk V)
  have HN2 := Lib.hid (fun V => rnew_no x y z hk V)
  go_enter Try.func3, Try.ntmps3
  go_wp2_with (first
    | (go_at_call 7; (with_reducible refine (HN1.out _).mono ?_); rintro e w1 ⟨rfl, rfl⟩)
    | (go_at_call 8; (with_reducible refine (HN2.out _).mono ?_); rintro e w2 ⟨⟨q, rfl⟩, hb2⟩; have HB2 := Lib.hid (((Below.refl w.heap.size w).alloc (Nat.le_refl _) _).trans (hb2.mono (by simp)))))
  refine wp_loop_rounds 1 ?_
  rw [rounds_succ]
  by_cases h0 : 0 < n
  · have k0 : decide ((0 : Int) < (n : Int)) = true := decide_eq_true (by omega)
    go_wp2_with (go_at_call 24; (with_reducible refine (known_any _).mono ?_); rintro e w4 ⟨rfl, hb4⟩; have HB4 := Lib.hid (HB2.out.trans (hb4.mono HB2.out.size)))
    go_ret
    exact ⟨rfl, HB4.out⟩
  · obtain rfl : n = 0 := by omega
    go_wp2_with (go_at_call 24; (with_reducible refine (known_any _).mono ?_); rintro e w4 ⟨rfl, hb4⟩; have HB4 := Lib.hid (HB2.out.trans (hb4.mono HB2.out.size)))
    go_ret
    exact ⟨rfl, HB4.out⟩

set_option maxRecDepth 100000 in
set_option maxHeartbeats 8000000 in
theorem walk_yes (x y z : Int) (c : Option Addr) (kc : Nat) (xs : List Opn) (w : World) (hk : okN x y z) (hF : OpL w c xs) (hm : xs.length ≤ maxLen) :
    Calls Try.prog 3 #[.agg #[.int .i64 x, .int .i64 y, .int .i64 z], .slice c xs.length kc] w fun e w' => e = .returned (.bool true) ∧ Below w.heap.size w w' := by
  have HF := Lib.hid hF
  obtain ⟨n, hn⟩ : ∃ n, xs.length = n := ⟨_, rfl⟩
  rw [hn] at hm ⊢
  have Hn := Lib.hid hn
  unfold maxLen at hm
  have hk2 := hk
  obtain ⟨p1, p2, p4, p3, p5⟩ := hk2
  have HN1 := Lib.hid (fun V => new_yes x y z p1 p2 p3 p4 p5 V)
  have HN2 := Lib.hid (fun V hV => rnew_yes w.heap.size x y z hk V hV)
  clear hF hn
  go_enter Try.func3, Try.ntmps3
  go_wp2_with (first
    | (go_at_call 7; (with_reducible refine (HN1.out _).mono ?_); rintro e w1 ⟨b, m, rfl, hT1, hb1, hm1, hB1⟩; have HT1 := Lib.hid hT1; have HB1 := Lib.hid (((Below.refl w.heap.size w).alloc (Nat.le_refl _) _).trans (hB1.mono (by simp))); have hz1 := hB1.size; have hK := (Blk.new w 22 [.int .i64 x, .int .i64 y, .int .i64 z]).below hB1; have g0 : w1.cell? ⟨w.heap.size, 0, none⟩ = some (.int .i64 x) := hK.cell 0; have g1 : w1.cell? ⟨w.heap.size, 1, none⟩ = some (.int .i64 y) := hK.cell 1; have g2 : w1.cell? ⟨w.heap.size, 2, none⟩ = some (.int .i64 z) := hK.cell 2; clear hT1 hB1 hK)
    | (go_at_call 8; (with_reducible refine (HN2.out _ HB1.out.size).mono ?_); rintro e w2 ⟨rfl, hR2, hb2⟩; have HPP := Lib.hid (show PR w w2 b m w1.heap.size x y z (fun _ => none) [] (.slice none 0 0) 0 0 from ⟨HT1.out.below hb2, hR2, EM.nil 0, Nat.zero_le _, HB1.out.trans (hb2.mono HB1.out.size), by simp at hb1; omega, by simp at hm1; omega, Nat.ne_of_lt HT1.out.row.lt, Nat.ne_of_lt HT1.out.mp.lt, fun q hq => by simp [Value.ownBlock] at hq⟩); clear hR2 hb2))
  obtain ⟨p, hp⟩ : ∃ p, p = w1.heap.size := ⟨_, rfl⟩
  rw [← hp] at HPP ⊢
  clear hp g0 g1 g2
  go_loopw [5, 9] (fun bv i wr => ∃ (k b m : Nat) (E : ByteArray → Option En) (M : List Nt) (v : Value) (cr : Int), k ≤ n ∧ k ≤ 40 ∧ bv = .pointer (some ⟨b, 0, none⟩) ∧ i = .int .i64 k ∧ PR w wr b m p x y z E M v cr (2 * k)) (fun _ i _ => 41 - (intOf i).toNat)
  case atStart => exact ⟨0, b, m, _, _, _, _, by omega, by omega, rfl, rfl, HPP.out⟩
  case round =>
    clear HPP HT1 HB1 HN1 HN2 hz1 hm1
    obtain ⟨k, b, m, E, M, v, cr, hkn, hk4, rfl, rfl, hP⟩ := hrel
    have HP := Lib.hid hP
    clear hP
    by_cases hlt : k < n
    · by_cases hl4 : k < 40
      · obtain ⟨q, hq⟩ := mem_at (l := xs) (k := k) (by rw [Hn.out]; exact hlt)
        obtain ⟨sb, off, e1, hsb, hc⟩ := HF.out (by rw [Hn.out]; omega)
        subst e1
        have hbz := HP.out.bl.size
        have hsw : sb < wr.heap.size := by omega
        obtain ⟨d0, d1, d2⟩ := op_cells (hc k q hq)
        obtain ⟨hcB, hfB⟩ := bcell HP.out.bl
        clear hc hq
        by_cases h3 : q.gp.size ≤ 300
        · have k3 : decide ((300 : Int) < (q.gp.size : Int)) = false := decide_eq_false (by omega)
          have hg : q.gp.size ≤ maxLen := by unfold maxLen; omega
          have HPW := Lib.hid (show PR w (wr.alloc (.cells #[.int .i64 q.kd, .string q.gp, .int .i64 q.nw] 32)) b m p x y z E M v cr (2 * k) from HP.out.below ((Below.refl _ _).alloc (Nat.le_refl _) _))
          have HXW := Lib.hid (Blk.new wr 32 [.int .i64 q.kd, .string q.gp, .int .i64 q.nw])
          have hlW := HP.out.lts
          have hoW := Lib.hid HP.out.own
          obtain ⟨kd, gp, nw⟩ := q
          dsimp only at HPW HXW h3 k3 d0 d1 d2 hg
          by_cases z0 : kd = 0
          · subst z0
            go_wp2
            obtain ⟨X, hXe⟩ : ∃ X, X = wr.heap.size := ⟨_, rfl⟩
            obtain ⟨W, hW⟩ : ∃ W, W = wr.alloc (.cells #[.int .i64 0, .string gp, .int .i64 nw] 32) := ⟨_, rfl⟩
            (try rw [← hW])
            (try rw [← hXe])
            rw [← hW] at HPW HXW
            rw [← hXe] at HXW hoW hlW
            have x1 : W.cell? ⟨X, 1, none⟩ = some (.string gp) := HXW.out.cell 1
            have x2 : W.cell? ⟨X, 2, none⟩ = some (.int .i64 nw) := HXW.out.cell 2
            have hX := HXW.out.lt
            have hXb : X ∉ [b, m] := by
              obtain ⟨l1, l2, l3⟩ := hlW
              simp
              omega
            have hXv : X ∉ turnS p v := fun hk => by
              have := (hoW.out X (List.mem_cons_of_mem _ (List.mem_cons_of_mem _ hk))).2
              omega
            clear hW hXe hlW hcB hfB
            obtain ⟨fv, hfv⟩ : ∃ q, failV x y z (E gp) nw = q := ⟨_, rfl⟩
            have F1 := Lib.hid (show ∀ V', Below W.heap.size W V' → Calls Try.prog 9 #[.pointer (some ⟨b, 0, none⟩), .string gp, .int .i64 nw] V' (fun e w' => e = .returned (.int .i64 fv) ∧ PM w w' b m p x y z E M v cr (2 * k) gp nw ∧ Only [b, m] V' w') from fun V' hb => by (have h := (HPW.out.below hb).fail1 gp nw (by omega) hg); rw [hfv] at h; exact h)
            have F2 := Lib.hid (show ∀ V', PM w V' b m p x y z E M v cr (2 * k) gp nw → Calls Try.prog 10 #[.pointer (some ⟨p, 0, none⟩), .string gp, .int .i64 nw] V' (fun e w' => e = .returned (.int .i64 fv) ∧ (∃ E' M' v' cr', PR w w' b m p x y z E' M' v' cr' (2 * k + 2)) ∧ Only (turnS p v) V' w') from fun V' hP => by (have h := hP.fail2 (by omega)); rw [hfv] at h; exact h)
            clear hfv
            go_region_held3 (fun w' => w'.cell? ⟨X, 1, none⟩ = some (.string gp) ∧ w'.cell? ⟨X, 2, none⟩ = some (.int .i64 nw))
              (first | exact ⟨y1, y2⟩ | go_keep | exact ⟨v1, v2⟩)
              ((first
                | (go_at_call 9; refine (F1.out _ (by (repeat' (first | with_reducible exact Below.refl _ _ | with_reducible assumption | with_reducible refine Below.drew ?_ | with_reducible refine below_drewN' ?_ _ | with_reducible refine Below.alloc ?_ ?_ _ | with_reducible refine Below.setCell ?_ ?_ _ | with_reducible refine below_step (by assumption) ?_ ?_ | omega | (simp; done) | (simp; omega))))).mono ?_; rintro e w3 ⟨rfl, hP3, hO3⟩; have HP3 := Lib.hid hP3; have HX3 := Lib.hid ((HXW.out.below (show Below W.heap.size W _ by (repeat' (first | with_reducible exact Below.refl _ _ | with_reducible assumption | with_reducible refine Below.drew ?_ | with_reducible refine below_drewN' ?_ _ | with_reducible refine Below.alloc ?_ ?_ _ | with_reducible refine Below.setCell ?_ ?_ _ | with_reducible refine below_step (by assumption) ?_ ?_ | omega | (simp; done) | (simp; omega))))).only hO3 hXb); have v1 : w3.cell? ⟨X, 1, none⟩ = some (.string gp) := HX3.out.cell 1; have v2 : w3.cell? ⟨X, 2, none⟩ = some (.int .i64 nw) := HX3.out.cell 2; clear hP3 hO3)
                | (go_at_call 10; refine (F2.out _ HP3.out).mono ?_; rintro e V ⟨rfl, ⟨E4, M4, v4, c4, hP4⟩, hO4⟩; have HP4 := Lib.hid hP4; have HX4 := Lib.hid (HX3.out.only hO4 hXv); have y1 : V.cell? ⟨X, 1, none⟩ = some (.string gp) := HX4.out.cell 1; have y2 : V.cell? ⟨X, 2, none⟩ = some (.int .i64 nw) := HX4.out.cell 2; clear hP4 hO4)))
            clear F1 F2 v1 v2 y1 y2 x1 x2 hX hXb hXv HP3 HX3 HPW HXW HP d0 d1 d2 hoW
            go_wp2
            have hlts := HP4.out.lts
            obtain ⟨L, hL⟩ : ∃ L, L = M4.map (·.1) := ⟨_, rfl⟩
            obtain ⟨mv, hmv⟩ : ∃ q, mayE (E4 gp) nw = q := ⟨_, rfl⟩
            obtain ⟨uv, huv⟩ : ∃ q, untilE (E4 gp) = q := ⟨_, rfl⟩
            obtain ⟨lv, hlv⟩ : ∃ q, lengthE (E4 gp) = q := ⟨_, rfl⟩
            have A1 := Lib.hid (show ∀ V', Below V.heap.size V V' → Calls Try.prog 15 #[.pointer (some ⟨b, 0, none⟩), .string gp, .int .i64 nw] V' (fun e w' => e = .returned (.bool mv) ∧ Below V'.heap.size V' w') from fun V' hb => by (have h := (HP4.out.below hb).may_1 gp nw hg); rw [hmv] at h; exact h)
            have A2 := Lib.hid (show ∀ V', Below V.heap.size V V' → Calls Try.prog 16 #[.pointer (some ⟨p, 0, none⟩), .string gp, .int .i64 nw] V' (fun e w' => e = .returned (.bool mv) ∧ Below V'.heap.size V' w') from fun V' hb => by (have h := (HP4.out.below hb).may_2 (by omega) gp nw); rw [hmv] at h; exact h)
            have A3 := Lib.hid (show ∀ V', Below V.heap.size V V' → Calls Try.prog 17 #[.pointer (some ⟨b, 0, none⟩), .string gp] V' (fun e w' => e = .returned (.int .i64 uv) ∧ Below V'.heap.size V' w') from fun V' hb => by (have h := (HP4.out.below hb).until_1 gp hg); rw [huv] at h; exact h)
            have A4 := Lib.hid (show ∀ V', Below V.heap.size V V' → Calls Try.prog 18 #[.pointer (some ⟨p, 0, none⟩), .string gp] V' (fun e w' => e = .returned (.int .i64 uv) ∧ Below V'.heap.size V' w') from fun V' hb => by (have h := (HP4.out.below hb).until_2 (by omega) gp); rw [huv] at h; exact h)
            have A5 := Lib.hid (show ∀ V', Below V.heap.size V V' → Calls Try.prog 19 #[.pointer (some ⟨b, 0, none⟩), .string gp] V' (fun e w' => e = .returned (.int .i64 lv) ∧ Below V'.heap.size V' w') from fun V' hb => by (have h := (HP4.out.below hb).length_1 gp hg); rw [hlv] at h; exact h)
            have A6 := Lib.hid (show ∀ V', Below V.heap.size V V' → Calls Try.prog 20 #[.pointer (some ⟨p, 0, none⟩), .string gp] V' (fun e w' => e = .returned (.int .i64 lv) ∧ Below V'.heap.size V' w') from fun V' hb => by (have h := (HP4.out.below hb).length_2 (by omega) gp); rw [hlv] at h; exact h)
            have A7 := Lib.hid (show ∀ V', Below V.heap.size V V' → Calls Try.prog 22 #[.pointer (some ⟨b, 0, none⟩)] V' (Gives V' (IsL scs 1 L)) from fun V' hb => by rw [hL]; exact (HP4.out.below hb).groups1 (by omega))
            have A8 := Lib.hid (show ∀ V', Below V.heap.size V V' → Calls Try.prog 23 #[.pointer (some ⟨p, 0, none⟩)] V' (Gives V' (IsL scs 1 L)) from fun V' hb => by rw [hL]; exact (HP4.out.below hb).groups2 (by omega))
            have HLl := Lib.hid (show L.length ≤ 1000000 by have := HP4.out.len; rw [hL, List.length_map]; omega)
            have x1 : V.cell? ⟨X, 1, none⟩ = some (.string gp) := HX4.out.cell 1
            have x2 : V.cell? ⟨X, 2, none⟩ = some (.int .i64 nw) := HX4.out.cell 2
            have hX := HX4.out.lt
            clear hL hmv huv hlv hlts
            have hcH := held_cell
            refine region_rel (by kernel_rfl) (by kernel_rfl) ?_
            (try dsimp only [List.append])
            repeat
              ((with_reducible refine relStep (fun K hK => ?_))
               (have HK := Lib.hid hK)
               clear hK
               (apply relInl
                · intro r n hf
                  have Hf := Lib.hid hf
                  clear hf
                  (first
                    | (fail)
                    | (unfold relAt
                       go_simp
                       (first | (refine relUpon_val ?_ (Below.refl _ _); exact rfl) | exact rfl | (refine relUpon_enter ?_; (first | (go_at_call 15; (with_reducible refine (A1.out _ n.below).mono ?_); rintro e w9 ⟨rfl, hb⟩; exact ⟨⟨_, rfl, rfl⟩, hb⟩) | (go_at_call 16; (with_reducible refine (A2.out _ n.below).mono ?_); rintro e w9 ⟨rfl, hb⟩; exact ⟨⟨_, rfl, rfl⟩, hb⟩) | (go_at_call 17; (with_reducible refine (A3.out _ n.below).mono ?_); rintro e w9 ⟨rfl, hb⟩; exact ⟨⟨_, rfl, rfl⟩, hb⟩) | (go_at_call 18; (with_reducible refine (A4.out _ n.below).mono ?_); rintro e w9 ⟨rfl, hb⟩; exact ⟨⟨_, rfl, rfl⟩, hb⟩) | (go_at_call 19; (with_reducible refine (A5.out _ n.below).mono ?_); rintro e w9 ⟨rfl, hb⟩; exact ⟨⟨_, rfl, rfl⟩, hb⟩) | (go_at_call 20; (with_reducible refine (A6.out _ n.below).mono ?_); rintro e w9 ⟨rfl, hb⟩; exact ⟨⟨_, rfl, rfl⟩, hb⟩))))))
                (simp only [Act.put, List.setIfInBounds_toArray, List.set_cons_zero, List.set_cons_succ])
                (with_reducible refine HK.out _ _ ?_)
                clear HK K))
            (with_reducible refine relStep (fun K hK => ?_))
            (have HK := Lib.hid hK)
            clear hK
            refine relInr (IsL scs 1 L) (IsL.stays _) (fun r n hf => ?_) ?_
            · have Hf := Lib.hid hf
              clear hf HK K
              unfold relAt
              (skip)
              go_simp
              ((refine relUpon_enter ?_; go_at_call 22; (with_reducible refine (A7.out _ n.below).mono ?_); rintro e w9 ⟨⟨v, rfl, hv⟩, hb⟩; exact ⟨⟨_, rfl, hv⟩, hb⟩))
            (simp only [Act.put, List.setIfInBounds_toArray, List.set_cons_zero, List.set_cons_succ])
            (with_reducible refine HK.out _ _ ?_)
            clear HK K
            repeat
              ((with_reducible refine relStep (fun K hK => ?_))
               (have HK := Lib.hid hK)
               clear hK
               (apply relInl
                · intro r n hf
                  have Hf := Lib.hid hf
                  clear hf
                  (first
                    | (fail)
                    | (unfold relAt
                       go_simp
                       (first | (refine relUpon_val ?_ (Below.refl _ _); exact rfl) | exact rfl | (refine relUpon_enter ?_; fail))))
                (simp only [Act.put, List.setIfInBounds_toArray, List.set_cons_zero, List.set_cons_succ])
                (with_reducible refine HK.out _ _ ?_)
                clear HK K))
            (with_reducible refine relStep (fun K hK => ?_))
            (have HK := Lib.hid hK)
            clear hK
            refine relInr (IsL scs 1 L) (IsL.stays _) (fun r n hf => ?_) ?_
            · have Hf := Lib.hid hf
              clear hf HK K
              unfold relAt
              (skip)
              go_simp
              ((refine relUpon_enter ?_; go_at_call 23; (with_reducible refine (A8.out _ n.below).mono ?_); rintro e w9 ⟨⟨v, rfl, hv⟩, hb⟩; exact ⟨⟨_, rfl, hv⟩, hb⟩))
            (simp only [Act.put, List.setIfInBounds_toArray, List.set_cons_zero, List.set_cons_succ])
            (with_reducible refine HK.out _ _ ?_)
            clear HK K
            ((with_reducible refine relStep (fun K hK => ?_))
             (have HK := Lib.hid hK)
             clear hK
             (apply relInl
              · intro r n hf
                have Hf := Lib.hid hf
                clear hf
                ((obtain ⟨a1, k1, e1, _, g1⟩ := given_at Hf.out 0 rfl (by dsimp only; decide +kernel); obtain ⟨a2, k2, e2, _, g2⟩ := given_at Hf.out 1 rfl (by dsimp only; decide +kernel); dsimp only at e1 e2; unfold relAt; go_simp; refine relUpon_enter ?_; go_at_call 21; (try rw [e1, e2]); (with_reducible refine (texts_same a1 a2 k1 k2 L _ g1 g2 HLl.out).mono ?_); rintro e w9 ⟨rfl, hb⟩; exact ⟨⟨_, rfl, rfl⟩, hb⟩)))
             (simp only [Act.put, List.setIfInBounds_toArray, List.set_cons_zero, List.set_cons_succ])
             (with_reducible refine HK.out _ _ ?_)
             clear HK K)
            repeat
              ((with_reducible refine relStep (fun K hK => ?_))
               (have HK := Lib.hid hK)
               clear hK
               (apply relInl
                · intro r n hf
                  have Hf := Lib.hid hf
                  clear hf
                  (first
                    | (fail)
                    | (unfold relAt
                       go_simp
                       (first | (refine relUpon_val ?_ (Below.refl _ _); exact rfl) | exact rfl | (refine relUpon_enter ?_; fail))))
                (simp only [Act.put, List.setIfInBounds_toArray, List.set_cons_zero, List.set_cons_succ])
                (with_reducible refine HK.out _ _ ?_)
                clear HK K))
            refine relNil ?_
            intro r9 n9 hx9
            clear hcH
            (try simp only [List.nil_append, List.cons_append, List.mem_cons, List.not_mem_nil, or_false, forall_eq_or_imp, forall_eq, false_implies, implies_true] at hx9)
            obtain ⟨w9, hb9⟩ := n9
            (try dsimp only)
            obtain ⟨hc9, hf9⟩ := bcell hb9
            have hz9 := hb9.size
            (try simp at hz9)
            have HP9 := Lib.hid (HP4.out.below hb9)
            go_wp2
            go_roundw
            case rel => exact ⟨k + 1, b, _, _, _, _, _, by omega, by omega, rfl, by go_num, HP9.out⟩
            case measure => simp [intOf]; omega
          · have z0' : (kd == 0) = false := by simpa using z0
            have hXb : wr.heap.size ∉ [b, m] := by
              obtain ⟨l1, l2, l3⟩ := hlW
              simp
              omega
            have hXp : wr.heap.size ∉ [p] := by
              obtain ⟨l1, l2, l3⟩ := hlW
              simp
              omega
            by_cases z1 : kd = 1
            · subst z1
              go_wp2_with (first
                | (go_at_call 11; (with_reducible refine (HPW.out.fine1 gp hg).mono ?_); rintro e w3 ⟨rfl, hP3, hO3⟩; have HP3 := Lib.hid hP3; have HX3 := Lib.hid (HXW.out.only hO3 hXb); have v1 : w3.cell? ⟨wr.heap.size, 1, none⟩ = some (.string gp) := HX3.out.cell 1; clear hP3 hO3)
                | (go_at_call 12; (with_reducible refine (HP3.out.fine2 (by omega) gp).mono ?_); rintro e V ⟨rfl, ⟨v4, hP4⟩, hO4⟩; have HQ4 := Lib.hid ((hP4.pair (HPW.out.e.drop gp)).more (show 2 * k ≤ 2 * k + 2 by omega)); have HX4 := Lib.hid (HX3.out.only hO4 hXp); clear hP4 hO4 v1))
              obtain ⟨E4, M4, c4, hP4⟩ : ∃ E' M' c', PR w V b m p x y z E' M' v4 c' (2 * k + 2) := ⟨_, _, _, HQ4.out⟩
              have HP4 := Lib.hid hP4
              clear hP4
              obtain ⟨X, hXe⟩ : ∃ X, X = wr.heap.size := ⟨_, rfl⟩
              rw [← hXe] at HX4 ⊢
              clear hXe hXb hXp HPW HXW HP d0 d1 d2 hoW hlW
              have hlts := HP4.out.lts
              obtain ⟨L, hL⟩ : ∃ L, L = M4.map (·.1) := ⟨_, rfl⟩
              obtain ⟨mv, hmv⟩ : ∃ q, mayE (E4 gp) nw = q := ⟨_, rfl⟩
              obtain ⟨uv, huv⟩ : ∃ q, untilE (E4 gp) = q := ⟨_, rfl⟩
              obtain ⟨lv, hlv⟩ : ∃ q, lengthE (E4 gp) = q := ⟨_, rfl⟩
              have A1 := Lib.hid (show ∀ V', Below V.heap.size V V' → Calls Try.prog 15 #[.pointer (some ⟨b, 0, none⟩), .string gp, .int .i64 nw] V' (fun e w' => e = .returned (.bool mv) ∧ Below V'.heap.size V' w') from fun V' hb => by (have h := (HP4.out.below hb).may_1 gp nw hg); rw [hmv] at h; exact h)
              have A2 := Lib.hid (show ∀ V', Below V.heap.size V V' → Calls Try.prog 16 #[.pointer (some ⟨p, 0, none⟩), .string gp, .int .i64 nw] V' (fun e w' => e = .returned (.bool mv) ∧ Below V'.heap.size V' w') from fun V' hb => by (have h := (HP4.out.below hb).may_2 (by omega) gp nw); rw [hmv] at h; exact h)
              have A3 := Lib.hid (show ∀ V', Below V.heap.size V V' → Calls Try.prog 17 #[.pointer (some ⟨b, 0, none⟩), .string gp] V' (fun e w' => e = .returned (.int .i64 uv) ∧ Below V'.heap.size V' w') from fun V' hb => by (have h := (HP4.out.below hb).until_1 gp hg); rw [huv] at h; exact h)
              have A4 := Lib.hid (show ∀ V', Below V.heap.size V V' → Calls Try.prog 18 #[.pointer (some ⟨p, 0, none⟩), .string gp] V' (fun e w' => e = .returned (.int .i64 uv) ∧ Below V'.heap.size V' w') from fun V' hb => by (have h := (HP4.out.below hb).until_2 (by omega) gp); rw [huv] at h; exact h)
              have A5 := Lib.hid (show ∀ V', Below V.heap.size V V' → Calls Try.prog 19 #[.pointer (some ⟨b, 0, none⟩), .string gp] V' (fun e w' => e = .returned (.int .i64 lv) ∧ Below V'.heap.size V' w') from fun V' hb => by (have h := (HP4.out.below hb).length_1 gp hg); rw [hlv] at h; exact h)
              have A6 := Lib.hid (show ∀ V', Below V.heap.size V V' → Calls Try.prog 20 #[.pointer (some ⟨p, 0, none⟩), .string gp] V' (fun e w' => e = .returned (.int .i64 lv) ∧ Below V'.heap.size V' w') from fun V' hb => by (have h := (HP4.out.below hb).length_2 (by omega) gp); rw [hlv] at h; exact h)
              have A7 := Lib.hid (show ∀ V', Below V.heap.size V V' → Calls Try.prog 22 #[.pointer (some ⟨b, 0, none⟩)] V' (Gives V' (IsL scs 1 L)) from fun V' hb => by rw [hL]; exact (HP4.out.below hb).groups1 (by omega))
              have A8 := Lib.hid (show ∀ V', Below V.heap.size V V' → Calls Try.prog 23 #[.pointer (some ⟨p, 0, none⟩)] V' (Gives V' (IsL scs 1 L)) from fun V' hb => by rw [hL]; exact (HP4.out.below hb).groups2 (by omega))
              have HLl := Lib.hid (show L.length ≤ 1000000 by have := HP4.out.len; rw [hL, List.length_map]; omega)
              have x1 : V.cell? ⟨X, 1, none⟩ = some (.string gp) := HX4.out.cell 1
              have x2 : V.cell? ⟨X, 2, none⟩ = some (.int .i64 nw) := HX4.out.cell 2
              have hX := HX4.out.lt
              clear hL hmv huv hlv hlts
              have hcH := held_cell
              refine region_rel (by kernel_rfl) (by kernel_rfl) ?_
              (try dsimp only [List.append])
              repeat
                ((with_reducible refine relStep (fun K hK => ?_))
                 (have HK := Lib.hid hK)
                 clear hK
                 (apply relInl
                  · intro r n hf
                    have Hf := Lib.hid hf
                    clear hf
                    (first
                      | (fail)
                      | (unfold relAt
                         go_simp
                         (first | (refine relUpon_val ?_ (Below.refl _ _); exact rfl) | exact rfl | (refine relUpon_enter ?_; (first | (go_at_call 15; (with_reducible refine (A1.out _ n.below).mono ?_); rintro e w9 ⟨rfl, hb⟩; exact ⟨⟨_, rfl, rfl⟩, hb⟩) | (go_at_call 16; (with_reducible refine (A2.out _ n.below).mono ?_); rintro e w9 ⟨rfl, hb⟩; exact ⟨⟨_, rfl, rfl⟩, hb⟩) | (go_at_call 17; (with_reducible refine (A3.out _ n.below).mono ?_); rintro e w9 ⟨rfl, hb⟩; exact ⟨⟨_, rfl, rfl⟩, hb⟩) | (go_at_call 18; (with_reducible refine (A4.out _ n.below).mono ?_); rintro e w9 ⟨rfl, hb⟩; exact ⟨⟨_, rfl, rfl⟩, hb⟩) | (go_at_call 19; (with_reducible refine (A5.out _ n.below).mono ?_); rintro e w9 ⟨rfl, hb⟩; exact ⟨⟨_, rfl, rfl⟩, hb⟩) | (go_at_call 20; (with_reducible refine (A6.out _ n.below).mono ?_); rintro e w9 ⟨rfl, hb⟩; exact ⟨⟨_, rfl, rfl⟩, hb⟩))))))
                  (simp only [Act.put, List.setIfInBounds_toArray, List.set_cons_zero, List.set_cons_succ])
                  (with_reducible refine HK.out _ _ ?_)
                  clear HK K))
              (with_reducible refine relStep (fun K hK => ?_))
              (have HK := Lib.hid hK)
              clear hK
              refine relInr (IsL scs 1 L) (IsL.stays _) (fun r n hf => ?_) ?_
              · have Hf := Lib.hid hf
                clear hf HK K
                unfold relAt
                (skip)
                go_simp
                ((refine relUpon_enter ?_; go_at_call 22; (with_reducible refine (A7.out _ n.below).mono ?_); rintro e w9 ⟨⟨v, rfl, hv⟩, hb⟩; exact ⟨⟨_, rfl, hv⟩, hb⟩))
              (simp only [Act.put, List.setIfInBounds_toArray, List.set_cons_zero, List.set_cons_succ])
              (with_reducible refine HK.out _ _ ?_)
              clear HK K
              repeat
                ((with_reducible refine relStep (fun K hK => ?_))
                 (have HK := Lib.hid hK)
                 clear hK
                 (apply relInl
                  · intro r n hf
                    have Hf := Lib.hid hf
                    clear hf
                    (first
                      | (fail)
                      | (unfold relAt
                         go_simp
                         (first | (refine relUpon_val ?_ (Below.refl _ _); exact rfl) | exact rfl | (refine relUpon_enter ?_; fail))))
                  (simp only [Act.put, List.setIfInBounds_toArray, List.set_cons_zero, List.set_cons_succ])
                  (with_reducible refine HK.out _ _ ?_)
                  clear HK K))
              (with_reducible refine relStep (fun K hK => ?_))
              (have HK := Lib.hid hK)
              clear hK
              refine relInr (IsL scs 1 L) (IsL.stays _) (fun r n hf => ?_) ?_
              · have Hf := Lib.hid hf
                clear hf HK K
                unfold relAt
                (skip)
                go_simp
                ((refine relUpon_enter ?_; go_at_call 23; (with_reducible refine (A8.out _ n.below).mono ?_); rintro e w9 ⟨⟨v, rfl, hv⟩, hb⟩; exact ⟨⟨_, rfl, hv⟩, hb⟩))
              (simp only [Act.put, List.setIfInBounds_toArray, List.set_cons_zero, List.set_cons_succ])
              (with_reducible refine HK.out _ _ ?_)
              clear HK K
              ((with_reducible refine relStep (fun K hK => ?_))
               (have HK := Lib.hid hK)
               clear hK
               (apply relInl
                · intro r n hf
                  have Hf := Lib.hid hf
                  clear hf
                  ((obtain ⟨a1, k1, e1, _, g1⟩ := given_at Hf.out 0 rfl (by dsimp only; decide +kernel); obtain ⟨a2, k2, e2, _, g2⟩ := given_at Hf.out 1 rfl (by dsimp only; decide +kernel); dsimp only at e1 e2; unfold relAt; go_simp; refine relUpon_enter ?_; go_at_call 21; (try rw [e1, e2]); (with_reducible refine (texts_same a1 a2 k1 k2 L _ g1 g2 HLl.out).mono ?_); rintro e w9 ⟨rfl, hb⟩; exact ⟨⟨_, rfl, rfl⟩, hb⟩)))
               (simp only [Act.put, List.setIfInBounds_toArray, List.set_cons_zero, List.set_cons_succ])
               (with_reducible refine HK.out _ _ ?_)
               clear HK K)
              repeat
                ((with_reducible refine relStep (fun K hK => ?_))
                 (have HK := Lib.hid hK)
                 clear hK
                 (apply relInl
                  · intro r n hf
                    have Hf := Lib.hid hf
                    clear hf
                    (first
                      | (fail)
                      | (unfold relAt
                         go_simp
                         (first | (refine relUpon_val ?_ (Below.refl _ _); exact rfl) | exact rfl | (refine relUpon_enter ?_; fail))))
                  (simp only [Act.put, List.setIfInBounds_toArray, List.set_cons_zero, List.set_cons_succ])
                  (with_reducible refine HK.out _ _ ?_)
                  clear HK K))
              refine relNil ?_
              intro r9 n9 hx9
              clear hcH
              (try simp only [List.nil_append, List.cons_append, List.mem_cons, List.not_mem_nil, or_false, forall_eq_or_imp, forall_eq, false_implies, implies_true] at hx9)
              obtain ⟨w9, hb9⟩ := n9
              (try dsimp only)
              obtain ⟨hc9, hf9⟩ := bcell hb9
              have hz9 := hb9.size
              (try simp at hz9)
              have HP9 := Lib.hid (HP4.out.below hb9)
              go_wp2
              go_roundw
              case rel => exact ⟨k + 1, b, _, _, _, _, _, by omega, by omega, rfl, by go_num, HP9.out⟩
              case measure => simp [intOf]; omega
            · have z1' : (kd == 1) = false := by simpa using z1
              by_cases z2 : kd = 2
              · subst z2
                go_wp2_with (go_at_call 13; (with_reducible refine (HPW.out.clear1).mono ?_); rintro e w3 ⟨rfl, hP3, hO3⟩; have HP3 := Lib.hid hP3; have HX3 := Lib.hid (HXW.out.only hO3 hXb); have u0 : w3.cell? ⟨p, 0, none⟩ = some v := hP3.r.row.cell 0; have u1 : w3.frozen? ⟨p, 0, none⟩ = false := hP3.r.row.frozen 0; clear hP3 hO3)
                obtain ⟨V, hV⟩ : ∃ V, V = w3.setCell ⟨p, 0, none⟩ (.slice none 0 0) := ⟨_, rfl⟩
                have hQ := (HP3.out.clear2 (fun _ => rfl)).more (show 2 * k ≤ 2 * k + 2 by omega)
                rw [← hV] at hQ
                obtain ⟨E4, M4, v4, c4, hP4⟩ : ∃ E' M' v' c', PR w V b m p x y z E' M' v' c' (2 * k + 2) := ⟨_, _, _, _, hQ⟩
                have HX4 := Lib.hid (show Blk V wr.heap.size 32 _ by rw [hV]; exact HX3.out.other (by simpa using hXp) _)
                have HP4 := Lib.hid hP4
                rw [← hV]
                clear hV hQ u0 u1
                clear hP4
                obtain ⟨X, hXe⟩ : ∃ X, X = wr.heap.size := ⟨_, rfl⟩
                rw [← hXe] at HX4 ⊢
                clear hXe hXb hXp HPW HXW HP d0 d1 d2 hoW hlW
                have hlts := HP4.out.lts
                obtain ⟨L, hL⟩ : ∃ L, L = M4.map (·.1) := ⟨_, rfl⟩
                obtain ⟨mv, hmv⟩ : ∃ q, mayE (E4 gp) nw = q := ⟨_, rfl⟩
                obtain ⟨uv, huv⟩ : ∃ q, untilE (E4 gp) = q := ⟨_, rfl⟩
                obtain ⟨lv, hlv⟩ : ∃ q, lengthE (E4 gp) = q := ⟨_, rfl⟩
                have A1 := Lib.hid (show ∀ V', Below V.heap.size V V' → Calls Try.prog 15 #[.pointer (some ⟨b, 0, none⟩), .string gp, .int .i64 nw] V' (fun e w' => e = .returned (.bool mv) ∧ Below V'.heap.size V' w') from fun V' hb => by (have h := (HP4.out.below hb).may_1 gp nw hg); rw [hmv] at h; exact h)
                have A2 := Lib.hid (show ∀ V', Below V.heap.size V V' → Calls Try.prog 16 #[.pointer (some ⟨p, 0, none⟩), .string gp, .int .i64 nw] V' (fun e w' => e = .returned (.bool mv) ∧ Below V'.heap.size V' w') from fun V' hb => by (have h := (HP4.out.below hb).may_2 (by omega) gp nw); rw [hmv] at h; exact h)
                have A3 := Lib.hid (show ∀ V', Below V.heap.size V V' → Calls Try.prog 17 #[.pointer (some ⟨b, 0, none⟩), .string gp] V' (fun e w' => e = .returned (.int .i64 uv) ∧ Below V'.heap.size V' w') from fun V' hb => by (have h := (HP4.out.below hb).until_1 gp hg); rw [huv] at h; exact h)
                have A4 := Lib.hid (show ∀ V', Below V.heap.size V V' → Calls Try.prog 18 #[.pointer (some ⟨p, 0, none⟩), .string gp] V' (fun e w' => e = .returned (.int .i64 uv) ∧ Below V'.heap.size V' w') from fun V' hb => by (have h := (HP4.out.below hb).until_2 (by omega) gp); rw [huv] at h; exact h)
                have A5 := Lib.hid (show ∀ V', Below V.heap.size V V' → Calls Try.prog 19 #[.pointer (some ⟨b, 0, none⟩), .string gp] V' (fun e w' => e = .returned (.int .i64 lv) ∧ Below V'.heap.size V' w') from fun V' hb => by (have h := (HP4.out.below hb).length_1 gp hg); rw [hlv] at h; exact h)
                have A6 := Lib.hid (show ∀ V', Below V.heap.size V V' → Calls Try.prog 20 #[.pointer (some ⟨p, 0, none⟩), .string gp] V' (fun e w' => e = .returned (.int .i64 lv) ∧ Below V'.heap.size V' w') from fun V' hb => by (have h := (HP4.out.below hb).length_2 (by omega) gp); rw [hlv] at h; exact h)
                have A7 := Lib.hid (show ∀ V', Below V.heap.size V V' → Calls Try.prog 22 #[.pointer (some ⟨b, 0, none⟩)] V' (Gives V' (IsL scs 1 L)) from fun V' hb => by rw [hL]; exact (HP4.out.below hb).groups1 (by omega))
                have A8 := Lib.hid (show ∀ V', Below V.heap.size V V' → Calls Try.prog 23 #[.pointer (some ⟨p, 0, none⟩)] V' (Gives V' (IsL scs 1 L)) from fun V' hb => by rw [hL]; exact (HP4.out.below hb).groups2 (by omega))
                have HLl := Lib.hid (show L.length ≤ 1000000 by have := HP4.out.len; rw [hL, List.length_map]; omega)
                have x1 : V.cell? ⟨X, 1, none⟩ = some (.string gp) := HX4.out.cell 1
                have x2 : V.cell? ⟨X, 2, none⟩ = some (.int .i64 nw) := HX4.out.cell 2
                have hX := HX4.out.lt
                clear hL hmv huv hlv hlts
                have hcH := held_cell
                refine region_rel (by kernel_rfl) (by kernel_rfl) ?_
                (try dsimp only [List.append])
                repeat
                  ((with_reducible refine relStep (fun K hK => ?_))
                   (have HK := Lib.hid hK)
                   clear hK
                   (apply relInl
                    · intro r n hf
                      have Hf := Lib.hid hf
                      clear hf
                      (first
                        | (fail)
                        | (unfold relAt
                           go_simp
                           (first | (refine relUpon_val ?_ (Below.refl _ _); exact rfl) | exact rfl | (refine relUpon_enter ?_; (first | (go_at_call 15; (with_reducible refine (A1.out _ n.below).mono ?_); rintro e w9 ⟨rfl, hb⟩; exact ⟨⟨_, rfl, rfl⟩, hb⟩) | (go_at_call 16; (with_reducible refine (A2.out _ n.below).mono ?_); rintro e w9 ⟨rfl, hb⟩; exact ⟨⟨_, rfl, rfl⟩, hb⟩) | (go_at_call 17; (with_reducible refine (A3.out _ n.below).mono ?_); rintro e w9 ⟨rfl, hb⟩; exact ⟨⟨_, rfl, rfl⟩, hb⟩) | (go_at_call 18; (with_reducible refine (A4.out _ n.below).mono ?_); rintro e w9 ⟨rfl, hb⟩; exact ⟨⟨_, rfl, rfl⟩, hb⟩) | (go_at_call 19; (with_reducible refine (A5.out _ n.below).mono ?_); rintro e w9 ⟨rfl, hb⟩; exact ⟨⟨_, rfl, rfl⟩, hb⟩) | (go_at_call 20; (with_reducible refine (A6.out _ n.below).mono ?_); rintro e w9 ⟨rfl, hb⟩; exact ⟨⟨_, rfl, rfl⟩, hb⟩))))))
                    (simp only [Act.put, List.setIfInBounds_toArray, List.set_cons_zero, List.set_cons_succ])
                    (with_reducible refine HK.out _ _ ?_)
                    clear HK K))
                (with_reducible refine relStep (fun K hK => ?_))
                (have HK := Lib.hid hK)
                clear hK
                refine relInr (IsL scs 1 L) (IsL.stays _) (fun r n hf => ?_) ?_
                · have Hf := Lib.hid hf
                  clear hf HK K
                  unfold relAt
                  (skip)
                  go_simp
                  ((refine relUpon_enter ?_; go_at_call 22; (with_reducible refine (A7.out _ n.below).mono ?_); rintro e w9 ⟨⟨v, rfl, hv⟩, hb⟩; exact ⟨⟨_, rfl, hv⟩, hb⟩))
                (simp only [Act.put, List.setIfInBounds_toArray, List.set_cons_zero, List.set_cons_succ])
                (with_reducible refine HK.out _ _ ?_)
                clear HK K
                repeat
                  ((with_reducible refine relStep (fun K hK => ?_))
                   (have HK := Lib.hid hK)
                   clear hK
                   (apply relInl
                    · intro r n hf
                      have Hf := Lib.hid hf
                      clear hf
                      (first
                        | (fail)
                        | (unfold relAt
                           go_simp
                           (first | (refine relUpon_val ?_ (Below.refl _ _); exact rfl) | exact rfl | (refine relUpon_enter ?_; fail))))
                    (simp only [Act.put, List.setIfInBounds_toArray, List.set_cons_zero, List.set_cons_succ])
                    (with_reducible refine HK.out _ _ ?_)
                    clear HK K))
                (with_reducible refine relStep (fun K hK => ?_))
                (have HK := Lib.hid hK)
                clear hK
                refine relInr (IsL scs 1 L) (IsL.stays _) (fun r n hf => ?_) ?_
                · have Hf := Lib.hid hf
                  clear hf HK K
                  unfold relAt
                  (skip)
                  go_simp
                  ((refine relUpon_enter ?_; go_at_call 23; (with_reducible refine (A8.out _ n.below).mono ?_); rintro e w9 ⟨⟨v, rfl, hv⟩, hb⟩; exact ⟨⟨_, rfl, hv⟩, hb⟩))
                (simp only [Act.put, List.setIfInBounds_toArray, List.set_cons_zero, List.set_cons_succ])
                (with_reducible refine HK.out _ _ ?_)
                clear HK K
                ((with_reducible refine relStep (fun K hK => ?_))
                 (have HK := Lib.hid hK)
                 clear hK
                 (apply relInl
                  · intro r n hf
                    have Hf := Lib.hid hf
                    clear hf
                    ((obtain ⟨a1, k1, e1, _, g1⟩ := given_at Hf.out 0 rfl (by dsimp only; decide +kernel); obtain ⟨a2, k2, e2, _, g2⟩ := given_at Hf.out 1 rfl (by dsimp only; decide +kernel); dsimp only at e1 e2; unfold relAt; go_simp; refine relUpon_enter ?_; go_at_call 21; (try rw [e1, e2]); (with_reducible refine (texts_same a1 a2 k1 k2 L _ g1 g2 HLl.out).mono ?_); rintro e w9 ⟨rfl, hb⟩; exact ⟨⟨_, rfl, rfl⟩, hb⟩)))
                 (simp only [Act.put, List.setIfInBounds_toArray, List.set_cons_zero, List.set_cons_succ])
                 (with_reducible refine HK.out _ _ ?_)
                 clear HK K)
                repeat
                  ((with_reducible refine relStep (fun K hK => ?_))
                   (have HK := Lib.hid hK)
                   clear hK
                   (apply relInl
                    · intro r n hf
                      have Hf := Lib.hid hf
                      clear hf
                      (first
                        | (fail)
                        | (unfold relAt
                           go_simp
                           (first | (refine relUpon_val ?_ (Below.refl _ _); exact rfl) | exact rfl | (refine relUpon_enter ?_; fail))))
                    (simp only [Act.put, List.setIfInBounds_toArray, List.set_cons_zero, List.set_cons_succ])
                    (with_reducible refine HK.out _ _ ?_)
                    clear HK K))
                refine relNil ?_
                intro r9 n9 hx9
                clear hcH
                (try simp only [List.nil_append, List.cons_append, List.mem_cons, List.not_mem_nil, or_false, forall_eq_or_imp, forall_eq, false_implies, implies_true] at hx9)
                obtain ⟨w9, hb9⟩ := n9
                (try dsimp only)
                obtain ⟨hc9, hf9⟩ := bcell hb9
                have hz9 := hb9.size
                (try simp at hz9)
                have HP9 := Lib.hid (HP4.out.below hb9)
                go_wp2
                go_roundw
                case rel => exact ⟨k + 1, b, _, _, _, _, _, by omega, by omega, rfl, by go_num, HP9.out⟩
                case measure => simp [intOf]; omega
              · have z2' : (kd == 2) = false := by simpa using z2
                go_wp2_with (first
                  | (go_at_call 14; (with_reducible refine (HPW.out.copy).mono ?_); rintro e w3 ⟨b2, m2, rfl, hP3, hA3, hB3⟩; have HP3 := Lib.hid hP3; have HA3 := Lib.hid hA3; have HX3 := Lib.hid (HXW.out.below hB3); clear hP3 hA3 hB3)
                  | (go_at_call 9; (with_reducible refine (Aside.fail HP3.out HA3.out (by omega) _ 1 (by decide)).mono ?_); rintro e w5 ⟨⟨zz, rfl⟩, hP5, hA5, hO5⟩; have HP5 := Lib.hid hP5; have HA5 := Lib.hid hA5; have HX5 := Lib.hid (HX3.out.only hO5 hXb); clear hP5 hA5 hO5)
                  | (go_at_call 13; (with_reducible refine (Aside.clear HP5.out HA5.out).mono ?_); rintro e V ⟨rfl, hP4, hO4⟩; have HQ4 := Lib.hid (hP4.more (show 2 * k ≤ 2 * k + 2 by omega)); have HX4 := Lib.hid (HX5.out.only hO4 hXb); clear hP4 hO4))
                obtain ⟨E4, M4, v4, c4, hP4⟩ : ∃ E' M' v' c', PR w V b2 m2 p x y z E' M' v' c' (2 * k + 2) := ⟨_, _, _, _, HQ4.out⟩
                have HP4 := Lib.hid hP4
                clear hP4
                obtain ⟨X, hXe⟩ : ∃ X, X = wr.heap.size := ⟨_, rfl⟩
                rw [← hXe] at HX4 ⊢
                clear hXe hXb hXp HPW HXW HP d0 d1 d2 hoW hlW
                have hlts := HP4.out.lts
                obtain ⟨L, hL⟩ : ∃ L, L = M4.map (·.1) := ⟨_, rfl⟩
                obtain ⟨mv, hmv⟩ : ∃ q, mayE (E4 gp) nw = q := ⟨_, rfl⟩
                obtain ⟨uv, huv⟩ : ∃ q, untilE (E4 gp) = q := ⟨_, rfl⟩
                obtain ⟨lv, hlv⟩ : ∃ q, lengthE (E4 gp) = q := ⟨_, rfl⟩
                have A1 := Lib.hid (show ∀ V', Below V.heap.size V V' → Calls Try.prog 15 #[.pointer (some ⟨b2, 0, none⟩), .string gp, .int .i64 nw] V' (fun e w' => e = .returned (.bool mv) ∧ Below V'.heap.size V' w') from fun V' hb => by (have h := (HP4.out.below hb).may_1 gp nw hg); rw [hmv] at h; exact h)
                have A2 := Lib.hid (show ∀ V', Below V.heap.size V V' → Calls Try.prog 16 #[.pointer (some ⟨p, 0, none⟩), .string gp, .int .i64 nw] V' (fun e w' => e = .returned (.bool mv) ∧ Below V'.heap.size V' w') from fun V' hb => by (have h := (HP4.out.below hb).may_2 (by omega) gp nw); rw [hmv] at h; exact h)
                have A3 := Lib.hid (show ∀ V', Below V.heap.size V V' → Calls Try.prog 17 #[.pointer (some ⟨b2, 0, none⟩), .string gp] V' (fun e w' => e = .returned (.int .i64 uv) ∧ Below V'.heap.size V' w') from fun V' hb => by (have h := (HP4.out.below hb).until_1 gp hg); rw [huv] at h; exact h)
                have A4 := Lib.hid (show ∀ V', Below V.heap.size V V' → Calls Try.prog 18 #[.pointer (some ⟨p, 0, none⟩), .string gp] V' (fun e w' => e = .returned (.int .i64 uv) ∧ Below V'.heap.size V' w') from fun V' hb => by (have h := (HP4.out.below hb).until_2 (by omega) gp); rw [huv] at h; exact h)
                have A5 := Lib.hid (show ∀ V', Below V.heap.size V V' → Calls Try.prog 19 #[.pointer (some ⟨b2, 0, none⟩), .string gp] V' (fun e w' => e = .returned (.int .i64 lv) ∧ Below V'.heap.size V' w') from fun V' hb => by (have h := (HP4.out.below hb).length_1 gp hg); rw [hlv] at h; exact h)
                have A6 := Lib.hid (show ∀ V', Below V.heap.size V V' → Calls Try.prog 20 #[.pointer (some ⟨p, 0, none⟩), .string gp] V' (fun e w' => e = .returned (.int .i64 lv) ∧ Below V'.heap.size V' w') from fun V' hb => by (have h := (HP4.out.below hb).length_2 (by omega) gp); rw [hlv] at h; exact h)
                have A7 := Lib.hid (show ∀ V', Below V.heap.size V V' → Calls Try.prog 22 #[.pointer (some ⟨b2, 0, none⟩)] V' (Gives V' (IsL scs 1 L)) from fun V' hb => by rw [hL]; exact (HP4.out.below hb).groups1 (by omega))
                have A8 := Lib.hid (show ∀ V', Below V.heap.size V V' → Calls Try.prog 23 #[.pointer (some ⟨p, 0, none⟩)] V' (Gives V' (IsL scs 1 L)) from fun V' hb => by rw [hL]; exact (HP4.out.below hb).groups2 (by omega))
                have HLl := Lib.hid (show L.length ≤ 1000000 by have := HP4.out.len; rw [hL, List.length_map]; omega)
                have x1 : V.cell? ⟨X, 1, none⟩ = some (.string gp) := HX4.out.cell 1
                have x2 : V.cell? ⟨X, 2, none⟩ = some (.int .i64 nw) := HX4.out.cell 2
                have hX := HX4.out.lt
                clear hL hmv huv hlv hlts
                have hcH := held_cell
                refine region_rel (by kernel_rfl) (by kernel_rfl) ?_
                (try dsimp only [List.append])
                repeat
                  ((with_reducible refine relStep (fun K hK => ?_))
                   (have HK := Lib.hid hK)
                   clear hK
                   (apply relInl
                    · intro r n hf
                      have Hf := Lib.hid hf
                      clear hf
                      (first
                        | (fail)
                        | (unfold relAt
                           go_simp
                           (first | (refine relUpon_val ?_ (Below.refl _ _); exact rfl) | exact rfl | (refine relUpon_enter ?_; (first | (go_at_call 15; (with_reducible refine (A1.out _ n.below).mono ?_); rintro e w9 ⟨rfl, hb⟩; exact ⟨⟨_, rfl, rfl⟩, hb⟩) | (go_at_call 16; (with_reducible refine (A2.out _ n.below).mono ?_); rintro e w9 ⟨rfl, hb⟩; exact ⟨⟨_, rfl, rfl⟩, hb⟩) | (go_at_call 17; (with_reducible refine (A3.out _ n.below).mono ?_); rintro e w9 ⟨rfl, hb⟩; exact ⟨⟨_, rfl, rfl⟩, hb⟩) | (go_at_call 18; (with_reducible refine (A4.out _ n.below).mono ?_); rintro e w9 ⟨rfl, hb⟩; exact ⟨⟨_, rfl, rfl⟩, hb⟩) | (go_at_call 19; (with_reducible refine (A5.out _ n.below).mono ?_); rintro e w9 ⟨rfl, hb⟩; exact ⟨⟨_, rfl, rfl⟩, hb⟩) | (go_at_call 20; (with_reducible refine (A6.out _ n.below).mono ?_); rintro e w9 ⟨rfl, hb⟩; exact ⟨⟨_, rfl, rfl⟩, hb⟩))))))
                    (simp only [Act.put, List.setIfInBounds_toArray, List.set_cons_zero, List.set_cons_succ])
                    (with_reducible refine HK.out _ _ ?_)
                    clear HK K))
                (with_reducible refine relStep (fun K hK => ?_))
                (have HK := Lib.hid hK)
                clear hK
                refine relInr (IsL scs 1 L) (IsL.stays _) (fun r n hf => ?_) ?_
                · have Hf := Lib.hid hf
                  clear hf HK K
                  unfold relAt
                  (skip)
                  go_simp
                  ((refine relUpon_enter ?_; go_at_call 22; (with_reducible refine (A7.out _ n.below).mono ?_); rintro e w9 ⟨⟨v, rfl, hv⟩, hb⟩; exact ⟨⟨_, rfl, hv⟩, hb⟩))
                (simp only [Act.put, List.setIfInBounds_toArray, List.set_cons_zero, List.set_cons_succ])
                (with_reducible refine HK.out _ _ ?_)
                clear HK K
                repeat
                  ((with_reducible refine relStep (fun K hK => ?_))
                   (have HK := Lib.hid hK)
                   clear hK
                   (apply relInl
                    · intro r n hf
                      have Hf := Lib.hid hf
                      clear hf
                      (first
                        | (fail)
                        | (unfold relAt
                           go_simp
                           (first | (refine relUpon_val ?_ (Below.refl _ _); exact rfl) | exact rfl | (refine relUpon_enter ?_; fail))))
                    (simp only [Act.put, List.setIfInBounds_toArray, List.set_cons_zero, List.set_cons_succ])
                    (with_reducible refine HK.out _ _ ?_)
                    clear HK K))
                (with_reducible refine relStep (fun K hK => ?_))
                (have HK := Lib.hid hK)
                clear hK
                refine relInr (IsL scs 1 L) (IsL.stays _) (fun r n hf => ?_) ?_
                · have Hf := Lib.hid hf
                  clear hf HK K
                  unfold relAt
                  (skip)
                  go_simp
                  ((refine relUpon_enter ?_; go_at_call 23; (with_reducible refine (A8.out _ n.below).mono ?_); rintro e w9 ⟨⟨v, rfl, hv⟩, hb⟩; exact ⟨⟨_, rfl, hv⟩, hb⟩))
                (simp only [Act.put, List.setIfInBounds_toArray, List.set_cons_zero, List.set_cons_succ])
                (with_reducible refine HK.out _ _ ?_)
                clear HK K
                ((with_reducible refine relStep (fun K hK => ?_))
                 (have HK := Lib.hid hK)
                 clear hK
                 (apply relInl
                  · intro r n hf
                    have Hf := Lib.hid hf
                    clear hf
                    ((obtain ⟨a1, k1, e1, _, g1⟩ := given_at Hf.out 0 rfl (by dsimp only; decide +kernel); obtain ⟨a2, k2, e2, _, g2⟩ := given_at Hf.out 1 rfl (by dsimp only; decide +kernel); dsimp only at e1 e2; unfold relAt; go_simp; refine relUpon_enter ?_; go_at_call 21; (try rw [e1, e2]); (with_reducible refine (texts_same a1 a2 k1 k2 L _ g1 g2 HLl.out).mono ?_); rintro e w9 ⟨rfl, hb⟩; exact ⟨⟨_, rfl, rfl⟩, hb⟩)))
                 (simp only [Act.put, List.setIfInBounds_toArray, List.set_cons_zero, List.set_cons_succ])
                 (with_reducible refine HK.out _ _ ?_)
                 clear HK K)
                repeat
                  ((with_reducible refine relStep (fun K hK => ?_))
                   (have HK := Lib.hid hK)
                   clear hK
                   (apply relInl
                    · intro r n hf
                      have Hf := Lib.hid hf
                      clear hf
                      (first
                        | (fail)
                        | (unfold relAt
                           go_simp
                           (first | (refine relUpon_val ?_ (Below.refl _ _); exact rfl) | exact rfl | (refine relUpon_enter ?_; fail))))
                    (simp only [Act.put, List.setIfInBounds_toArray, List.set_cons_zero, List.set_cons_succ])
                    (with_reducible refine HK.out _ _ ?_)
                    clear HK K))
                refine relNil ?_
                intro r9 n9 hx9
                clear hcH
                (try simp only [List.nil_append, List.cons_append, List.mem_cons, List.not_mem_nil, or_false, forall_eq_or_imp, forall_eq, false_implies, implies_true] at hx9)
                obtain ⟨w9, hb9⟩ := n9
                (try dsimp only)
                obtain ⟨hc9, hf9⟩ := bcell hb9
                have hz9 := hb9.size
                (try simp at hz9)
                have HP9 := Lib.hid (HP4.out.below hb9)
                go_wp2
                go_roundw
                case rel => exact ⟨k + 1, b2, _, _, _, _, _, by omega, by omega, rfl, by go_num, HP9.out⟩
                case measure => simp [intOf]; omega
        · have k3 : decide ((300 : Int) < (q.gp.size : Int)) = true := decide_eq_true (by omega)
          go_wp2
          go_roundw
          case rel => exact ⟨k + 1, b, m, E, M, v, cr, by omega, by omega, rfl, by go_num, (have h := HP.out.below (show Below wr.heap.size wr _ by (repeat' (first | with_reducible exact Below.refl _ _ | with_reducible assumption | with_reducible refine Below.drew ?_ | with_reducible refine below_drewN' ?_ _ | with_reducible refine Below.alloc ?_ ?_ _ | with_reducible refine Below.setCell ?_ ?_ _ | with_reducible refine below_step (by assumption) ?_ ?_ | omega | (simp; done) | (simp; omega)))); ⟨h.t.more2 (by omega), h.r, h.e, by have := h.len; omega, h.bl, h.hb, h.hm, h.bp, h.mp, h.vb⟩)⟩
          case measure => simp [intOf]; omega
      · have hk40 : k = 40 := by omega
        subst hk40
        go_wp2_with (go_at_call 24; (with_reducible refine (known_any _).mono ?_); rintro e w4 ⟨rfl, hb4⟩; have HB4 := Lib.hid (HP.out.bl.trans (hb4.mono HP.out.bl.size)))
        go_ret
        exact ⟨rfl, HB4.out⟩
    · have hkn2 : k = n := by omega
      subst hkn2
      go_wp2_with (go_at_call 24; (with_reducible refine (known_any _).mono ?_); rintro e w4 ⟨rfl, hb4⟩; have HB4 := Lib.hid (HP.out.bl.trans (hb4.mono HP.out.bl.size)))
      go_ret
      exact ⟨rfl, HB4.out⟩

theorem walk (x y z : Int) (c : Option Addr) (kc : Nat) (xs : List Opn) (w : World) (hF : OpL w c xs) (hm : xs.length ≤ maxLen) :
    Calls Try.prog 3 #[.agg #[.int .i64 x, .int .i64 y, .int .i64 z], .slice c xs.length kc] w fun e w' => e = .returned (.bool true) ∧ Below w.heap.size w w' := by
  by_cases hk : okN x y z
  · exact walk_yes x y z c kc xs w hk hF hm
  · exact walk_no x y z c kc xs.length w hk
theorem okWide_arr3 {P : Program} {w : World} {r : Reach} {base : Nat} {t e : TypeId} {v : Value} {n : Nat} (ht : P.underlying t = some (.array n e)) (h : Value.okWide P w r base t v) : ∃ cs, v = .agg cs ∧ cs.size = P.cellsOf t := by
  simp only [Value.okWide, ht] at h
  obtain ⟨cs, h1, h2, _⟩ := h
  exact ⟨cs, h1, h2⟩
theorem cells3 : Try.prog.cellsOf 22 = 3 := by kernel_rfl
theorem open_conf {H : Type} {enc : TypeId × Value → H} {W : World} {base : Nat} {v : Value} {d : DataW H} {p : List MemPlace}
    (hv : Value.okWide Try.prog W .any base 22 v) (h : DataW.Trod enc Try.prog W 0 (fun _ => true) true 22 v d p) :
    ∃ x y z : Int, v = .agg #[.int .i64 x, .int .i64 y, .int .i64 z] := by
  obtain ⟨cs, rfl, hsz⟩ := okWide_arr3 Try.underlying22 hv
  rw [cells3] at hsz
  obtain ⟨fuel, hf⟩ := h
  obtain ⟨l⟩ := cs
  match l, hsz with
  | [c0, c1, c2], _ =>
    obtain ⟨y0, y1, y2, n, _, g0, g1, g2⟩ := trod_array3 Try.underlying22 cells_int hf
    obtain ⟨n0, q0, _⟩ := DataW.trod_int Try.underlying3 g0
    obtain ⟨n1, q1, _⟩ := DataW.trod_int Try.underlying3 g1
    obtain ⟨n2, q2, _⟩ := DataW.trod_int Try.underlying3 g2
    simp at q0 q1 q2
    exact ⟨n0, n1, n2, by rw [q0, q1, q2]⟩

set_option maxRecDepth 100000 in
theorem lifted (os : Os) (started : os.Started) (H : Type) (enc : TypeId × Value → H) :
    ReturnsInHanded {} Try.checked os 3 .any (Rows.backoffPlaysSpec.pre6 enc Try.prog Try.f3 Rows.backoffPlaysRow.domain false) (Rows.backoffPlaysSpec.post enc Try.prog Try.f3 false true false false) := by
  refine returnsInHanded_of_change (C := Try.checked) Try.own started (by kernel_rfl) Try.func3
    (ChangeSpec.witness6 (enc := enc) (C := Try.checked) false ⟨#[], #[.agg #[.int .i64 0, .int .i64 0, .int .i64 0], .slice none 0 0], []⟩ 8 (by kernel_rfl) (by kernel_rfl) (by kernel_rfl) (by kernel_rfl)) ?_
  intro W base args ds gs before hval hW _ _
  have hW' := hW
  obtain ⟨p, q, hA, hV, rfl, hfz, hnd⟩ := hW
  rw [Try.params3] at hA hval
  obtain ⟨v0, v1, d0, d1, p0, p1, rfl, rfl, rfl, h0, h1⟩ := trodAll_two hA
  obtain ⟨x, y, z, rfl⟩ := open_conf (hval 0 22 v0 rfl rfl) h0
  obtain ⟨c, xs, kc, rfl, _, hF, hm, _⟩ := open_ops (hval 1 23 v1 rfl rfl) h1
  refine (walk x y z c kc xs W hF hm).mono fun e W' ⟨he, hb⟩ => ?_
  exact ⟨_, he, law_post Try.laidOut hW' rfl (by kernel_rfl) (by kernel_rfl) Try.underlying4 rfl rfl rfl hb⟩

theorem over : Rows.backoffPlaysRow.holds Try.pinned (OpenSpec.ofChange Rows.backoffPlaysSpec) :=
  OpenClaim.holds_of_wide 3 Try.f3 rfl rfl rfl rfl rfl rfl rfl ⟨rfl, rfl, rfl, rfl, rfl⟩ rfl rfl rfl rfl rfl (by kernel_rfl) Try.func3 (by kernel_rfl)
    (of_decide_eq_true (by kernel_rfl)) (by unfold Func.isWrapper; first | (rw [if_pos (by decide +kernel)]; kernel_rfl) | (rw [if_neg (by decide +kernel)]; exact ⟨rfl, rfl⟩))
    (fun os started H enc _ => lifted os started H enc)

/-- The statement. -/
theorem proved : Rows.BackoffPlaysSaid := over
end backoffPlays
end Go.Proofs.Ytedombidblhmeaa
