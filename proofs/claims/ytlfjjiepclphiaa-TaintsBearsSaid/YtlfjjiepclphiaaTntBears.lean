/-
  TaintsBears: which of any taints any tolerations do not bear, whether they keep a pod away, and how many would rather, is as the document says. For any tolerations, any taints and any effect; no condition.
-/
import Derived.Test.YtlfjjiepclphiaaTntM
import Derived.Deep.AppendLies
namespace Go.Proofs.Ytlfjjiepclphiaa
open Go.ChangeShapes Go.WideShapes Go.ChangeAt Go.RowKit
set_option linter.unusedVariables false
namespace taintsBears

theorem rows_of {l : List Tnt} {a : Option Addr} {k n : Nat} {w : World} (h : IsL tcs 3 l (.slice a n k) w) : TntsAt w a l := by
  obtain ⟨a', k', e, _, hr⟩ := h
  simp only [Value.slice.injEq] at e
  rw [e.1]
  exact hr
theorem own_cell {w : World} {base g cap n K : Nat} {e : TypeId} {xs : List Value} (h : w.ownsRow base e K (.slice (some ⟨g, 0, none⟩) n cap) n xs) (j : Nat) (hj : j < n * K) : ∃ u, w.cell? ⟨g, j, none⟩ = some u := by
  have h1 := World.ownsRow.cellAt h j hj
  rw [List.getElem?_eq_getElem (by rw [h.1]; exact hj)] at h1
  exact ⟨_, h1⟩

set_option maxRecDepth 100000 in
set_option maxHeartbeats 4000000 in
theorem walk_no (a c : Option Addr) (ka kc : Nat) (l : List Tol) (xs : List Tnt) (eff : Int) (w : World) (hD : TolsAt w a l) (hn : l.length ≤ maxLen) (hF : TntsAt w c xs) (hm : xs.length ≤ maxLen) (hL : lightB l xs = false) :
    Calls Try.prog 6 #[.slice a l.length ka, .slice c xs.length kc, .int .i64 eff] w fun e w' => e = .returned (.bool true) ∧ Below w.heap.size w w' := by
  have HL := Lib.hid hL
  clear hL
  go_enter Try.func6, Try.ntmps6
  go_wp2_with (first | (go_at_call 8; (with_reducible refine (light_any a c ka kc l xs _ hD hn hF hm).mono ?_); rintro e w1 ⟨rfl, hb1⟩; rw [HL.out]; have hz1 := hb1.size) | (go_at_call 9; (with_reducible refine (known_any _).mono ?_); rintro e w2 ⟨rfl, hb2⟩))
  go_ret
  exact ⟨rfl, by (repeat' (first | with_reducible exact Below.refl _ _ | with_reducible assumption | with_reducible refine Below.drew ?_ | with_reducible refine below_drewN' ?_ _ | with_reducible refine Below.alloc ?_ ?_ _ | with_reducible refine Below.setCell ?_ ?_ _ | with_reducible refine below_step (by assumption) ?_ ?_ | omega | (simp; done) | (simp; omega)))⟩

set_option maxRecDepth 100000 in
set_option maxHeartbeats 4000000 in
theorem walk_yes (a c : Option Addr) (ka kc : Nat) (l : List Tol) (xs : List Tnt) (eff : Int) (w : World) (hD : TolsAt w a l) (hn : l.length ≤ 40) (hF : TntsAt w c xs) (hok : NilOk c xs.length kc) (hm : xs.length ≤ 40) (hL : lightB l xs = true) :
    Calls Try.prog 6 #[.slice a l.length ka, .slice c xs.length kc, .int .i64 eff] w fun e w' => e = .returned (.bool true) ∧ Below w.heap.size w w' := by
  have HL := Lib.hid hL
  have HD := Lib.hid hD
  have HF := Lib.hid hF
  have Hok := Lib.hid hok
  clear hL hD hF hok
  obtain ⟨i0, hi, hz0, hz1, hz2⟩ := info_parts Try.info30
  have Hi := Lib.hid hi
  have Hz0 := Lib.hid hz0
  have Hz1 := Lib.hid hz1
  have Hz2 := Lib.hid hz2
  clear hi hz0 hz1 hz2
  have hmL : xs.length ≤ maxLen := by unfold maxLen; omega
  have hnL : l.length ≤ maxLen := by unfold maxLen; omega
  go_enter Try.func6, Try.ntmps6
  go_wp2_with (go_at_call 8; (with_reducible refine (light_any a c ka kc l xs _ HD.out hnL HF.out hmL).mono ?_); rintro e W ⟨rfl, hbW⟩; rw [HL.out])
  have hzW := hbW.size
  have HDW := Lib.hid (HD.out.mono hbW)
  have HFW := Lib.hid (HF.out.mono hbW)
  have HW := Lib.hid hbW
  go_loopw [7] (fun i wr => ∃ k : Nat, k ≤ l.length ∧ i = .int .i64 k ∧ Below W.heap.size W wr) (fun i _ => l.length - (intOf i).toNat)
  case atStart => exact ⟨0, Nat.zero_le _, rfl, by (repeat' (first | with_reducible exact Below.refl _ _ | with_reducible assumption | with_reducible refine Below.drew ?_ | with_reducible refine below_drewN' ?_ _ | with_reducible refine Below.alloc ?_ ?_ _ | with_reducible refine Below.setCell ?_ ?_ _ | with_reducible refine below_step (by assumption) ?_ ?_ | omega | (simp; done) | (simp; omega)))⟩
  case round =>
    obtain ⟨k, hk, rfl, hB⟩ := hrel
    obtain ⟨hcB, hfB⟩ := bcell hB
    have hbz := hB.size
    have HB := Lib.hid hB
    by_cases hlt : k < l.length ∧ 0 < xs.length
    · obtain ⟨hlt, hpos⟩ := hlt
      obtain ⟨t, ht⟩ := mem_at (l := l) (k := k) hlt
      have hj : k % xs.length < xs.length := Nat.mod_lt _ hpos
      obtain ⟨x, hx⟩ := mem_at (l := xs) (k := k % xs.length) hj
      obtain ⟨b, off, rfl, hb, hc⟩ := HDW.out (by omega)
      obtain ⟨b2, off2, rfl, hb2, hc2⟩ := HFW.out hpos
      have hbw : b < wr.heap.size := by omega
      have hbw2 : b2 < wr.heap.size := by omega
      obtain ⟨c0, c1, c2, c3⟩ := tol_cells (hc k t ht)
      obtain ⟨d0, d1, d2⟩ := tnt_cells (hc2 _ x hx)
      clear hc hc2 ht hx
      obtain ⟨j, hje⟩ : ∃ j, k % xs.length = j := ⟨_, rfl⟩
      rw [hje] at d0 d1 d2 hj
      have hrem : Int.tmod (k : Int) (xs.length : Int) = (j : Int) := by rw [← hje]; exact (Int.ofNat_tmod k xs.length).symm
      have h0 : (xs = []) = False := by
        refine eq_false fun e => ?_
        rw [e] at hpos
        exact absurd hpos (Nat.lt_irrefl 0)
      go_wp2
      have hcH := held_cell
      refine region_rel (by kernel_rfl) (by kernel_rfl) ?_
      repeat
        ((with_reducible refine relStep (fun K hK => ?_))
         (have HK := Lib.hid hK)
         clear hK
         (first
           | (apply relInl
              · intro r n hf
                have Hf := Lib.hid hf
                clear hf
                unfold relAt
                go_simp
                (first | (refine relUpon_val ?_ (Below.refl _ _); exact rfl) | exact rfl | (refine relUpon_enter ?_; (first | (go_at_call 11; (with_reducible refine (bears_any t x _).mono ?_); rintro e w1 ⟨rfl, hb⟩; exact ⟨⟨_, rfl, rfl⟩, hb⟩) | (go_at_call 19; (with_reducible refine (refbears_any t x _).mono ?_); rintro e w1 ⟨rfl, hb⟩; exact ⟨⟨_, rfl, rfl⟩, hb⟩))))
              (simp only [Act.put, List.setIfInBounds_toArray, List.set_cons_zero, List.set_cons_succ])
              (with_reducible refine HK.out _ _ ?_)
              clear HK K)
           | (fail)))
      refine relNil ?_
      intro r5 n5 hx5
      clear hcH
      (try simp only [List.nil_append, List.cons_append, List.mem_cons, List.not_mem_nil, or_false, forall_eq_or_imp, forall_eq, false_implies, implies_true] at hx5)
      obtain ⟨w5, hb5⟩ := n5
      (try dsimp only)
      obtain ⟨hc5, hf5⟩ := bcell hb5
      have hz5 := hb5.size
      (try simp at hz5)
      go_wp2
      go_roundw
      case rel => exact ⟨k + 1, by omega, by go_num, by (repeat' (first | with_reducible exact Below.refl _ _ | with_reducible assumption | with_reducible refine Below.drew ?_ | with_reducible refine below_drewN' ?_ _ | with_reducible refine Below.alloc ?_ ?_ _ | with_reducible refine Below.setCell ?_ ?_ _ | with_reducible refine below_step (by assumption) ?_ ?_ | omega | (simp; done) | (simp; omega)))⟩
      case measure => simp [intOf]; omega
    · have RA := Lib.hid (HDW.out.mono HB.out)
      have RB := Lib.hid (HFW.out.mono HB.out)
      have HBB := Lib.hid (HW.out.trans (HB.out.mono hzW))
      have hwr := HBB.out.size
      have hn' : l.length ≤ 1000000 := by omega
      have hm' : xs.length ≤ 1000000 := by omega
      have hU : (unborneL l xs eff).length ≤ 1000000 := Nat.le_trans (List.length_filter_le _ _) hm'
      have HU := Lib.hid hU
      have hc3 : 0 + xs.length ≤ maxLen := by omega
      have hc4 : (0 + xs.length) * 40 ≤ 140737488355328 := by omega
      clear HB hcB hfB hB hbz HDW HFW hU
      obtain ⟨V, hV9⟩ : ∃ W9, W9 = wr := ⟨_, rfl⟩
      subst hV9
      have hd2 : (¬ k < l.length ∧ decide (k < l.length) = false) ∨ (k < l.length ∧ decide (k < l.length) = true ∧ ¬ 0 < xs.length ∧ decide (0 < xs.length) = false) := by
        by_cases h1 : k < l.length
        · have h2 : ¬ 0 < xs.length := fun h => hlt ⟨h1, h⟩
          exact .inr ⟨h1, decide_eq_true h1, h2, decide_eq_false h2⟩
        · exact .inl ⟨h1, decide_eq_false h1⟩
      clear hlt hk
      rcases hd2 with ⟨d1, d2⟩ | ⟨d1, d2, d3, d4⟩
      all_goals
        go_wp2_with (first
          | (go_at_call 10; (with_reducible refine (unborne_any a c ka kc l xs eff _ RA.out hn' RB.out hm').mono ?_); rintro e w1 ⟨⟨v1, rfl, hv1⟩, hb1⟩; have HB1 := Lib.hid hb1; have OU := Lib.hid hv1; obtain ⟨qu, ku, rfl, _, _⟩ := hv1.isL tcs_len (by decide); have hz1 := hb1.size; clear hv1)
          | (go_at_call 20; (with_reducible refine (refunborne_any a c ka kc l xs eff _ (RA.out.mono (by (repeat' (first | with_reducible exact Below.refl _ _ | with_reducible assumption | with_reducible refine Below.drew ?_ | with_reducible refine below_drewN' ?_ _ | with_reducible refine Below.alloc ?_ ?_ _ | with_reducible refine Below.setCell ?_ ?_ _ | with_reducible refine below_step (by assumption) ?_ ?_ | omega | (simp; done) | (simp; omega))))) hn' (RB.out.mono (by (repeat' (first | with_reducible exact Below.refl _ _ | with_reducible assumption | with_reducible refine Below.drew ?_ | with_reducible refine below_drewN' ?_ _ | with_reducible refine Below.alloc ?_ ?_ _ | with_reducible refine Below.setCell ?_ ?_ _ | with_reducible refine below_step (by assumption) ?_ ?_ | omega | (simp; done) | (simp; omega))))) hm').mono ?_); rintro e w2 ⟨⟨v2, rfl, hv2⟩, hb2⟩; have HB2 := Lib.hid hb2; obtain ⟨q2, k2, rfl, _, hr2⟩ := hv2.isL tcs_len (by decide); have HR2 := Lib.hid hr2; have hz2 := hb2.size; clear hv2 hr2)
          | (go_at_call 13; (with_reducible refine (same_any qu q2 ku k2 (unborneL l xs eff) (unborneL l xs eff) _ (rows_of ((OU.out.isL tcs_len (by decide)).mono HB2.out)) HR2.out HU.out HU.out).mono ?_); rw [kvS]; rintro e w3 ⟨rfl, hb3⟩; have HB3 := Lib.hid hb3; have hz3 := hb3.size)
          | (go_at_call 12; (with_reducible refine (allows_any a c ka kc l xs _ (RA.out.mono (by (repeat' (first | with_reducible exact Below.refl _ _ | with_reducible assumption | with_reducible refine Below.drew ?_ | with_reducible refine below_drewN' ?_ _ | with_reducible refine Below.alloc ?_ ?_ _ | with_reducible refine Below.setCell ?_ ?_ _ | with_reducible refine below_step (by assumption) ?_ ?_ | omega | (simp; done) | (simp; omega))))) hn' (RB.out.mono (by (repeat' (first | with_reducible exact Below.refl _ _ | with_reducible assumption | with_reducible refine Below.drew ?_ | with_reducible refine below_drewN' ?_ _ | with_reducible refine Below.alloc ?_ ?_ _ | with_reducible refine Below.setCell ?_ ?_ _ | with_reducible refine below_step (by assumption) ?_ ?_ | omega | (simp; done) | (simp; omega))))) hm').mono ?_); rintro e w4 ⟨rfl, hb4⟩; have HB4 := Lib.hid hb4; have hz4 := hb4.size)
          | (go_at_call 21; (with_reducible refine (refallows_any a c ka kc l xs _ (RA.out.mono (by (repeat' (first | with_reducible exact Below.refl _ _ | with_reducible assumption | with_reducible refine Below.drew ?_ | with_reducible refine below_drewN' ?_ _ | with_reducible refine Below.alloc ?_ ?_ _ | with_reducible refine Below.setCell ?_ ?_ _ | with_reducible refine below_step (by assumption) ?_ ?_ | omega | (simp; done) | (simp; omega))))) hn' (RB.out.mono (by (repeat' (first | with_reducible exact Below.refl _ _ | with_reducible assumption | with_reducible refine Below.drew ?_ | with_reducible refine below_drewN' ?_ _ | with_reducible refine Below.alloc ?_ ?_ _ | with_reducible refine Below.setCell ?_ ?_ _ | with_reducible refine below_step (by assumption) ?_ ?_ | omega | (simp; done) | (simp; omega))))) hm').mono ?_); rintro e w5 ⟨rfl, hb5⟩; have HB5 := Lib.hid hb5; have hz5 := hb5.size)
          | (go_at_call 16; (with_reducible refine (prefers_any a c ka kc l xs _ (RA.out.mono (by (repeat' (first | with_reducible exact Below.refl _ _ | with_reducible assumption | with_reducible refine Below.drew ?_ | with_reducible refine below_drewN' ?_ _ | with_reducible refine Below.alloc ?_ ?_ _ | with_reducible refine Below.setCell ?_ ?_ _ | with_reducible refine below_step (by assumption) ?_ ?_ | omega | (simp; done) | (simp; omega))))) hn' (RB.out.mono (by (repeat' (first | with_reducible exact Below.refl _ _ | with_reducible assumption | with_reducible refine Below.drew ?_ | with_reducible refine below_drewN' ?_ _ | with_reducible refine Below.alloc ?_ ?_ _ | with_reducible refine Below.setCell ?_ ?_ _ | with_reducible refine below_step (by assumption) ?_ ?_ | omega | (simp; done) | (simp; omega))))) hm').mono ?_); rintro e w6 ⟨rfl, hb6⟩; have HB6 := Lib.hid hb6; have hz6 := hb6.size)
          | (go_at_call 22; (with_reducible refine (refprefers_any a c ka kc l xs _ (RA.out.mono (by (repeat' (first | with_reducible exact Below.refl _ _ | with_reducible assumption | with_reducible refine Below.drew ?_ | with_reducible refine below_drewN' ?_ _ | with_reducible refine Below.alloc ?_ ?_ _ | with_reducible refine Below.setCell ?_ ?_ _ | with_reducible refine below_step (by assumption) ?_ ?_ | omega | (simp; done) | (simp; omega))))) hn' (RB.out.mono (by (repeat' (first | with_reducible exact Below.refl _ _ | with_reducible assumption | with_reducible refine Below.drew ?_ | with_reducible refine below_drewN' ?_ _ | with_reducible refine Below.alloc ?_ ?_ _ | with_reducible refine Below.setCell ?_ ?_ _ | with_reducible refine below_step (by assumption) ?_ ?_ | omega | (simp; done) | (simp; omega))))) hm').mono ?_); rintro e w7 ⟨rfl, hb7⟩; have HB7 := Lib.hid (show Below w1.heap.size w1 w7 by (repeat' (first | with_reducible exact Below.refl _ _ | with_reducible assumption | with_reducible refine Below.drew ?_ | with_reducible refine below_drewN' ?_ _ | with_reducible refine Below.alloc ?_ ?_ _ | with_reducible refine Below.setCell ?_ ?_ _ | with_reducible refine below_step (by assumption) ?_ ?_ | omega | (simp; done) | (simp; omega)))); have HB70 := Lib.hid (show Below V.heap.size V w7 by (repeat' (first | with_reducible exact Below.refl _ _ | with_reducible assumption | with_reducible refine Below.drew ?_ | with_reducible refine below_drewN' ?_ _ | with_reducible refine Below.alloc ?_ ?_ _ | with_reducible refine Below.setCell ?_ ?_ _ | with_reducible refine below_step (by assumption) ?_ ?_ | omega | (simp; done) | (simp; omega)))); have hz7 := hb7.size)
          | (at_builtin; refine wpList_append_src rfl (.tmp 81) (.tmp 82) 23 rfl w7.heap.size 30 i0 _ 3 40 Try.underlying23 Hi.out Hz0.out Hz1.out Hz2.out rfl (by decide) _ 0 [] rfl (World.ownsRow_made w7 #[] 0 (Nat.le_refl w7.heap.size) (Nat.zero_le _) rfl) c xs.length kc (xs.flatMap tcs) rfl (rows_length tcs 3 tcs_len xs) (RowsAt.news tcs_len ((RB.out.mono HB70.out).mono ((Below.refl _ w7).alloc (Nat.le_refl _) _))) Hok.out (flat_ones tcs_one xs) hc3 hc4 (le_alloc (Nat.le_refl w7.heap.size) _) ?_; intro vo w8 hown1 hgrow1; rw [Nat.zero_add, List.nil_append] at hown1; have HB8 := Lib.hid (own_below (World.ownsRow_made w7 #[] 0 (Nat.le_refl w7.heap.size) (Nat.zero_le _) rfl : (w7.alloc (.cells #[] 30)).ownsRow w7.heap.size 30 3 (.slice (some ⟨w7.heap.size, 0, none⟩) 0 0) 0 []) ((Below.refl _ w7).alloc (Nat.le_refl w7.heap.size) _) (le_alloc (Nat.le_refl w7.heap.size) _) hgrow1); have HO8 := Lib.hid hown1; obtain ⟨s1, k1, rfl, hn1, hI⟩ := IsL.of_own (l := xs) tcs_len (by decide) hown1; have HI := Lib.hid hI; have hz8 := HB8.out.size; clear hown1 hgrow1 hI hn1))
        have OUV := Lib.hid (own_kept (own_kept (own_kept OU.out (HB7.out)) HB8.out) (Below.refl _ _))
        have HBV := Lib.hid (show Below V.heap.size V w8 from HB70.out.trans (HB8.out.mono HB70.out.size))
        have HG := Lib.hid (fun q hq => World.ownsRow.lt OU.out q hq)
        have hz18 : w1.heap.size ≤ w7.heap.size := HB7.out.size
        have hzV8 := HBV.out.size
        have HO8 := Lib.hid (World.ownsRow.lt HO8.out)
        have hU := HU.out
        clear hb1 hb2 hb3 hb4 hb5 hb6 hb7
        go_loopw [11] (fun i wr => ∃ k : Nat, k ≤ (unborneL l xs eff).length ∧ i = .int .i64 k ∧ (∃ us, wr.ownsRow V.heap.size 30 3 (Value.slice qu (unborneL l xs eff).length ku) (unborneL l xs eff).length us) ∧ w8.grownBy wr ((Value.slice qu (unborneL l xs eff).length ku)).ownBlock) (fun i _ => (unborneL l xs eff).length - (intOf i).toNat)
        case atStart => exact ⟨0, Nat.zero_le _, rfl, ⟨_, OUV.out⟩, World.grownBy.refl w8 _⟩
        case round =>
          obtain ⟨k, hk, rfl, ⟨us, hus⟩, hgb⟩ := hrel
          have Hus := Lib.hid hus
          have Hgb := Lib.hid hgb
          clear hus hgb
          by_cases hlt : k < (unborneL l xs eff).length
          · skip
            obtain ⟨g, cap9, e9, hg9, hgl⟩ := World.ownsRow.form Hus.out (by omega)
            simp only [Value.slice.injEq, true_and] at e9
            obtain ⟨e8, e9⟩ := e9
            subst e8
            subst e9
            have hst := World.ownsRow.stored Hus.out (k * 3 + 2) (.int .i64 99)
            obtain ⟨uc, hcell⟩ := own_cell Hus.out (k * 3 + 2) (by omega)
            have hfz := World.ownsRow.frozenAt Hus.out (k * 3 + 2)
            have Hst := Lib.hid hst
            clear hst
            go_wp2
            go_roundw
            case rel => exact ⟨k + 1, by omega, by go_num, ⟨_, Hst.out.1⟩, Hgb.out.trans Hst.out.2⟩
            case measure => simp [intOf]; omega
          · obtain rfl : k = (unborneL l xs eff).length := by omega
            have HBG := Lib.hid (show Below V.heap.size w8 wr from Below.grown (Below.refl _ _) Hgb.out hzV8 fun q hq => (HG.out q hq).1)
            have HIZ : TntsAt wr s1 xs := fun hp => by
              obtain ⟨b, off, e, hb, hc⟩ := HI.out hp
              subst e
              have hbq : w7.heap.size ≤ b := (HO8.out b rfl).1
              have hne : some b ≠ (Value.slice qu (unborneL l xs eff).length ku).ownBlock := fun h => by
                have := HG.out b h.symm
                omega
              refine ⟨b, off, rfl, Nat.lt_of_lt_of_le hb Hgb.out.size, fun i x hx r hr => ?_⟩
              rw [← hc i x hx r hr]
              exact World.cell?_of_block (Hgb.out.block b hb hne)
            have HIZ := Lib.hid HIZ
            have HBZ := Lib.hid (HBV.out.trans HBG.out)
            have HFZ := Lib.hid (RB.out.mono HBZ.out)
            have HZ := Lib.hid (HBB.out.trans (HBZ.out.mono hwr))
            clear Hus Hgb
            obtain ⟨V3, hV9⟩ : ∃ W9, W9 = wr := ⟨_, rfl⟩
            subst hV9
            have hzZ := HZ.out.size
            go_wp2_with (first
              | (go_at_call 13; (with_reducible refine (same_any c s1 kc k1 xs xs _ HFZ.out HIZ.out hm' hm').mono ?_); rw [kvS]; rintro e w11 ⟨rfl, hb11⟩; have hz11 := hb11.size)
              | (go_at_call 9; (with_reducible refine (known_any _).mono ?_); rintro e w12 ⟨rfl, hb12⟩))
            go_ret
            exact ⟨by simp, HZ.out.trans (by (repeat' (first | with_reducible exact Below.refl _ _ | with_reducible assumption | with_reducible refine Below.drew ?_ | with_reducible refine below_drewN' ?_ _ | with_reducible refine Below.alloc ?_ ?_ _ | with_reducible refine Below.setCell ?_ ?_ _ | with_reducible refine below_step (by assumption) ?_ ?_ | omega | (simp; done) | (simp; omega))))⟩

theorem walk {H : Type} {enc : TypeId × Value → H} {W : World} {base : Nat} {v u : Value} {d f : DataW H} {p q : List MemPlace} (N : Int)
    (hv : Value.okWide Try.prog W .any base 22 v) (h : DataW.Trod enc Try.prog W 0 (fun _ => true) true 22 v d p)
    (hu : Value.okWide Try.prog W .any base 23 u) (k : DataW.Trod enc Try.prog W 0 (fun _ => true) true 23 u f q) :
    Calls Try.prog 6 #[v, u, .int .i64 N] W fun e W' => e = .returned (.bool true) ∧ Below W.heap.size W W' := by
  obtain ⟨a, l, ka, rfl, _, hD, hn, _⟩ := open_tols hv h
  obtain ⟨c, xs, kc, rfl, hok, hF, hm, _⟩ := open_tnts hu k
  cases hL : lightB l xs
  · exact walk_no a c ka kc l xs N W hD hn hF hm hL
  · have h2 := hL
    unfold lightB at h2
    rw [Bool.and_eq_true, decide_eq_true_eq] at h2
    exact walk_yes a c ka kc l xs N W hD h2.1.1 hF hok h2.1.2 hL

set_option maxRecDepth 100000 in
theorem lifted (os : Os) (started : os.Started) (H : Type) (enc : TypeId × Value → H) :
    ReturnsInHanded {} Try.checked os 6 .any (Rows.taintsBearsSpec.pre6 enc Try.prog Try.f6 Rows.taintsBearsRow.domain false) (Rows.taintsBearsSpec.post enc Try.prog Try.f6 false true false false) := by
  refine returnsInHanded_of_change (C := Try.checked) Try.own started (by kernel_rfl) Try.func6
    (ChangeSpec.witness6 (enc := enc) (C := Try.checked) false ⟨#[], #[.slice none 0 0, .slice none 0 0, .int .i64 0], []⟩ 8 (by kernel_rfl) (by kernel_rfl) (by kernel_rfl) (by kernel_rfl)) ?_
  intro W base args ds gs before hval hW _ _
  have hW' := hW
  obtain ⟨p, q, hA, hV, rfl, hfz, hnd⟩ := hW
  rw [Try.params6] at hA hval
  obtain ⟨v0, v1, v2, d0, d1, d2, p0, p1, p2, rfl, rfl, rfl, h0, h1, h2⟩ := trodAll_three hA
  obtain ⟨n, rfl, _, _, w2⟩ := open_int Try.underlying3 (hval 2 3 v2 rfl rfl) h2
  refine (walk n (hval 0 22 v0 rfl rfl) h0 (hval 1 23 v1 rfl rfl) h1).mono fun e W' ⟨he, hb⟩ => ?_
  exact ⟨_, he, law_post Try.laidOut hW' rfl (by kernel_rfl) (by kernel_rfl) Try.underlying4 rfl rfl rfl hb⟩

theorem over : Rows.taintsBearsRow.holds Try.pinned (OpenSpec.ofChange Rows.taintsBearsSpec) :=
  OpenClaim.holds_of_wide 6 Try.f6 rfl rfl rfl rfl rfl rfl rfl ⟨rfl, rfl, rfl, rfl, rfl⟩ rfl rfl rfl rfl rfl (by kernel_rfl) Try.func6 (by kernel_rfl)
    (of_decide_eq_true (by kernel_rfl)) (by unfold Func.isWrapper; first | (rw [if_pos (by decide +kernel)]; kernel_rfl) | (rw [if_neg (by decide +kernel)]; exact ⟨rfl, rfl⟩))
    (fun os started H enc _ => lifted os started H enc)

/-- The statement. -/
theorem proved : Rows.TaintsBearsSaid := over
end taintsBears
end Go.Proofs.Ytlfjjiepclphiaa
