/-
  A state's own lists are stored to; the contract of permit.State.grow.
-/
import Derived.Test.YtmkdfcggjlhcpaaGreatDoorPe4x
namespace Go.Proofs.YtmkdfcggjlhcpaaGreatDoor
open Go.RowKit
set_option linter.unusedVariables false
set_option linter.unusedSimpArgs false
set_option maxRecDepth 100000 in
set_option maxHeartbeats 8000000 in
theorem whyi_any (s : St) (what nm : ByteArray) (n : Int) (w : World) (hI : StIn w s) (hO : StOk s) (hw : what = sClean ∨ what = sDelete) :
    Calls Tryz.prog 47 #[.agg #[.slice s.ga s.C.length s.gk, .slice s.ta s.T.length s.tk, .slice s.ia s.L.length s.ik, .int .i64 s.c0, .int .i64 s.c1, .int .i64 s.c2, .slice s.ra s.R.length s.rk, .int .i64 s.un, .int .i64 s.sh], .agg #[.string what, .string nm, .int .i64 n]] w fun e w' => e = .returned (.int .i64 (whyI s what nm)) ∧ Below w.heap.size w w' := by
  have hg16 := hO.g16
  have hlb := hO.lb
  have HZ0 := Lib.hid (fun (o : Obj) => World.size_alloc w o)
  cases hf : fndI s.L nm with
  | none =>
    have HF := Lib.hid (fun V (hV : Below w.heap.size w V) => pfind_none s nm V (hI.mono hV) (by omega) hf)
    rw [show whyI s what nm = 16 by unfold whyI; rw [hf]]
    clear hI hO hf hw
    obtain ⟨ga, C, gk, ta, T, tk, ia, L, ik, z0, z1, z2, ra, R, rk, un, sh⟩ := s
    dsimp only at *
    obtain ⟨N, hN⟩ : ∃ N, C.length = N := ⟨_, rfl⟩
    obtain ⟨M, hM⟩ : ∃ M, T.length = M := ⟨_, rfl⟩
    obtain ⟨m, hm⟩ : ∃ m, L.length = m := ⟨_, rfl⟩
    obtain ⟨Nr, hNr⟩ : ∃ Nr, R.length = Nr := ⟨_, rfl⟩
    simp only [hN, hM, hm, hNr] at *
    clear hN hM hm hNr
    go_enter Tryz.func47, Tryz.ntmps47
    go_wp2_with (go_at_call 39; (with_reducible refine (HF.out _ (by (repeat' (first | with_reducible exact Below.refl _ _ | with_reducible assumption | with_reducible refine Below.drew ?_ | with_reducible refine below_drewN' ?_ _ | with_reducible refine Below.alloc ?_ ?_ _ | with_reducible refine Below.setCell ?_ ?_ _ | with_reducible refine below_step (by assumption) ?_ ?_ | omega | (simp; done) | (simp; omega))))).mono ?_); rintro e w1 ⟨rfl, hb1⟩; have HB1 := Lib.hid (show Below w.heap.size w w1 by (repeat' (first | with_reducible exact Below.refl _ _ | with_reducible assumption | with_reducible refine Below.drew ?_ | with_reducible refine below_drewN' ?_ _ | with_reducible refine Below.alloc ?_ ?_ _ | with_reducible refine Below.setCell ?_ ?_ _ | with_reducible refine below_step (by assumption) ?_ ?_ | omega | (simp; done) | (simp; omega)))); have HS1 := Lib.hid (((Blk.new w 52 [.slice _ N gk, .slice ta M tk, .slice _ m ik, .int .i64 z0, .int .i64 z1, .int .i64 z2, .slice ra Nr rk, .int .i64 un, .int .i64 sh]).alloc _).below hb1); have HC1 := Lib.hid ((Blk.new (w.alloc _) 59 [.string what, .string nm, .int .i64 n]).below hb1); rw [HZ0.out] at HC1; have hz1 := hb1.size; (try simp at hz1); have hy1 : w.heap.size < w1.heap.size := (by omega); have hx1 : w.heap.size + 1 < w1.heap.size := (by omega); have s0 := HS1.out.cell 0; have s1 := HS1.out.cell 1; have s2 := HS1.out.cell 2; have s3 := HS1.out.cell 3; have s4 := HS1.out.cell 4; have s5 := HS1.out.cell 5; have s6 := HS1.out.cell 6; have s7 := HS1.out.cell 7; have s8 := HS1.out.cell 8; have r0 := HC1.out.cell 0; have r1 := HC1.out.cell 1; have r2 := HC1.out.cell 2; dsimp only [List.getElem?_cons_zero, List.getElem?_cons_succ] at s0 s1 s2 s3 s4 s5 s6 s7 s8 r0 r1 r2; clear hb1)
    go_ret
    exact ⟨rfl, HB1.out⟩
  | some k =>
  obtain ⟨x, hx, hxn⟩ := fndI_lt hf
  cases hg : fndK s.G x.gp with
  | none =>
    have HF := Lib.hid (fun V (hV : Below w.heap.size w V) => pfind_some s nm k x (-1) V (hI.mono hV) (by omega) hf hx (findA_none hg) (by omega))
    rw [show whyI s what nm = 16 by unfold whyI; rw [hf]; dsimp only; rw [hx]; dsimp only; rw [hg]]
    clear hI hO hf hw hx hg hxn
    obtain ⟨ga, C, gk, ta, T, tk, ia, L, ik, z0, z1, z2, ra, R, rk, un, sh⟩ := s
    dsimp only at *
    obtain ⟨N, hN⟩ : ∃ N, C.length = N := ⟨_, rfl⟩
    obtain ⟨M, hM⟩ : ∃ M, T.length = M := ⟨_, rfl⟩
    obtain ⟨m, hm⟩ : ∃ m, L.length = m := ⟨_, rfl⟩
    obtain ⟨Nr, hNr⟩ : ∃ Nr, R.length = Nr := ⟨_, rfl⟩
    simp only [hN, hM, hm, hNr] at *
    clear hN hM hm hNr
    go_enter Tryz.func47, Tryz.ntmps47
    go_wp2_with (go_at_call 39; (with_reducible refine (HF.out _ (by (repeat' (first | with_reducible exact Below.refl _ _ | with_reducible assumption | with_reducible refine Below.drew ?_ | with_reducible refine below_drewN' ?_ _ | with_reducible refine Below.alloc ?_ ?_ _ | with_reducible refine Below.setCell ?_ ?_ _ | with_reducible refine below_step (by assumption) ?_ ?_ | omega | (simp; done) | (simp; omega))))).mono ?_); rintro e w1 ⟨rfl, hb1⟩; have HB1 := Lib.hid (show Below w.heap.size w w1 by (repeat' (first | with_reducible exact Below.refl _ _ | with_reducible assumption | with_reducible refine Below.drew ?_ | with_reducible refine below_drewN' ?_ _ | with_reducible refine Below.alloc ?_ ?_ _ | with_reducible refine Below.setCell ?_ ?_ _ | with_reducible refine below_step (by assumption) ?_ ?_ | omega | (simp; done) | (simp; omega)))); have HS1 := Lib.hid (((Blk.new w 52 [.slice _ N gk, .slice ta M tk, .slice _ m ik, .int .i64 z0, .int .i64 z1, .int .i64 z2, .slice ra Nr rk, .int .i64 un, .int .i64 sh]).alloc _).below hb1); have HC1 := Lib.hid ((Blk.new (w.alloc _) 59 [.string what, .string nm, .int .i64 n]).below hb1); rw [HZ0.out] at HC1; have hz1 := hb1.size; (try simp at hz1); have hy1 : w.heap.size < w1.heap.size := (by omega); have hx1 : w.heap.size + 1 < w1.heap.size := (by omega); have s0 := HS1.out.cell 0; have s1 := HS1.out.cell 1; have s2 := HS1.out.cell 2; have s3 := HS1.out.cell 3; have s4 := HS1.out.cell 4; have s5 := HS1.out.cell 5; have s6 := HS1.out.cell 6; have s7 := HS1.out.cell 7; have s8 := HS1.out.cell 8; have r0 := HC1.out.cell 0; have r1 := HC1.out.cell 1; have r2 := HC1.out.cell 2; dsimp only [List.getElem?_cons_zero, List.getElem?_cons_succ] at s0 s1 s2 s3 s4 s5 s6 s7 s8 r0 r1 r2; clear hb1)
    go_ret
    exact ⟨rfl, HB1.out⟩
  | some j =>
    have HF := Lib.hid (fun V (hV : Below w.heap.size w V) => pfind_some s nm k x j V (hI.mono hV) (by omega) hf hx (findA_some hg) (by omega))
    rw [decide_eq_true (show (0 : Int) ≤ (j : Int) by omega)] at HF
    obtain ⟨g, hgj⟩ : ∃ g, s.C[j]? = some g := by
      obtain ⟨g0, hg0, -⟩ := fndK_lt hg
      unfold St.G at hg0
      rw [List.getElem?_map] at hg0
      cases h : s.C[j]? with
      | none => rw [h] at hg0; cases hg0
      | some g => exact ⟨g, rfl⟩
    have hjn := lt_at hgj
    have hkl := lt_at hx
    have hlt := hO.lt
    obtain ⟨t, ht⟩ := mem_at (l := s.T) (k := j) (by omega)
    have hR : whyI s what nm = whyV (decide (what = sClean)) x.st s.un s.sh t g.mn := by
      unfold whyI
      rw [hf]
      dsimp only
      rw [hx]
      dsimp only
      rw [hg]
      dsimp only
      rw [hgj, ht]
    rw [hR]
    have HTg := Lib.hid (fun V (hV : Below w.heap.size w V) => ptarget_any s j t V (hI.mono hV) ht (by omega))
    obtain ⟨b2, o2, hb2, hbw2, hc2⟩ := hI.g (by omega)
    obtain ⟨-, x1, -⟩ := grow_cells (hc2 j g hgj)
    obtain ⟨b1, o1, hb1, hbw1, hc1⟩ := hI.i (by omega)
    obtain ⟨-, -, d2, -⟩ := irow_cells (hc1 k x hx)
    obtain ⟨mn, hmn⟩ : ∃ mn, g.mn = mn := ⟨_, rfl⟩
    obtain ⟨st, hst⟩ : ∃ st, x.st = st := ⟨_, rfl⟩
    rw [hmn] at x1 ⊢
    rw [hst] at d2 ⊢
    clear hI hO hf hx hg hxn hgj hlt ht hR hc2 hc1 hmn hst
    obtain ⟨ga, C, gk, ta, T, tk, ia, L, ik, z0, z1, z2, ra, R, rk, un, sh⟩ := s
    dsimp only at *
    obtain ⟨N, hN⟩ : ∃ N, C.length = N := ⟨_, rfl⟩
    obtain ⟨M, hM⟩ : ∃ M, T.length = M := ⟨_, rfl⟩
    obtain ⟨m, hm⟩ : ∃ m, L.length = m := ⟨_, rfl⟩
    obtain ⟨Nr, hNr⟩ : ∃ Nr, R.length = Nr := ⟨_, rfl⟩
    simp only [hN, hM, hm, hNr] at *
    clear hN hM hm hNr
    subst hb2
    subst hb1
    unfold whyV
    by_cases h3 : st = 3
    · subst h3
      rw [if_pos rfl]
      clear hw
      go_enter Tryz.func47, Tryz.ntmps47
      go_wp2_with (go_at_call 39; (with_reducible refine (HF.out _ (by (repeat' (first | with_reducible exact Below.refl _ _ | with_reducible assumption | with_reducible refine Below.drew ?_ | with_reducible refine below_drewN' ?_ _ | with_reducible refine Below.alloc ?_ ?_ _ | with_reducible refine Below.setCell ?_ ?_ _ | with_reducible refine below_step (by assumption) ?_ ?_ | omega | (simp; done) | (simp; omega))))).mono ?_); rintro e w1 ⟨rfl, hb1⟩; have HB1 := Lib.hid (show Below w.heap.size w w1 by (repeat' (first | with_reducible exact Below.refl _ _ | with_reducible assumption | with_reducible refine Below.drew ?_ | with_reducible refine below_drewN' ?_ _ | with_reducible refine Below.alloc ?_ ?_ _ | with_reducible refine Below.setCell ?_ ?_ _ | with_reducible refine below_step (by assumption) ?_ ?_ | omega | (simp; done) | (simp; omega)))); have HS1 := Lib.hid (((Blk.new w 52 [.slice _ N gk, .slice ta M tk, .slice _ m ik, .int .i64 z0, .int .i64 z1, .int .i64 z2, .slice ra Nr rk, .int .i64 un, .int .i64 sh]).alloc _).below hb1); have HC1 := Lib.hid ((Blk.new (w.alloc _) 59 [.string what, .string nm, .int .i64 n]).below hb1); rw [HZ0.out] at HC1; have hz1 := hb1.size; (try simp at hz1); have hy1 : w.heap.size < w1.heap.size := (by omega); have hx1 : w.heap.size + 1 < w1.heap.size := (by omega); have s0 := HS1.out.cell 0; have s1 := HS1.out.cell 1; have s2 := HS1.out.cell 2; have s3 := HS1.out.cell 3; have s4 := HS1.out.cell 4; have s5 := HS1.out.cell 5; have s6 := HS1.out.cell 6; have s7 := HS1.out.cell 7; have s8 := HS1.out.cell 8; have r0 := HC1.out.cell 0; have r1 := HC1.out.cell 1; have r2 := HC1.out.cell 2; dsimp only [List.getElem?_cons_zero, List.getElem?_cons_succ] at s0 s1 s2 s3 s4 s5 s6 s7 s8 r0 r1 r2; have e1 := (HB1.out.cell (p := ⟨b1, o1 + k * 5 + 2, none⟩) hbw1).trans d2; have e2 := (HB1.out.cell (p := ⟨b2, o2 + j * 15 + 1, none⟩) hbw2).trans x1; have hv1 : b1 < w1.heap.size := Nat.lt_of_lt_of_le hbw1 HB1.out.size; have hv2 : b2 < w1.heap.size := Nat.lt_of_lt_of_le hbw2 HB1.out.size; clear hb1)
      go_ret
      exact ⟨rfl, HB1.out⟩
    have k3 : (st == 3) = false := by rw [beq_eq_false_iff_ne]; exact h3
    rw [if_neg h3]
    rcases hw with hw | hw
    · rw [decide_eq_true hw, if_pos rfl]
      have q1 : (what.toList == [99, 108, 101, 97, 110]) = true := plit_yes hw
      have q2 : (what.toList == [100, 101, 108, 101, 116, 101]) = false := plit_no (by rw [hw]; decide)
      by_cases h4 : st = 4 ∨ st = 1 ∨ st = 2
      · rw [if_pos h4]
        have hk : ((st != 4) = false) ∨ ((st != 4) = true ∧ (st != 1) = false) ∨ ((st != 4) = true ∧ (st != 1) = true ∧ (st != 2) = false) := by
          rcases h4 with rfl | rfl | rfl
          · exact .inl rfl
          · exact .inr (.inl ⟨rfl, rfl⟩)
          · exact .inr (.inr ⟨rfl, rfl, rfl⟩)
        clear hw h3 h4
        rcases hk with k4 | ⟨k4, k5⟩ | ⟨k4, k5, k6⟩
        all_goals
          go_enter Tryz.func47, Tryz.ntmps47
          go_wp2_with (go_at_call 39; (with_reducible refine (HF.out _ (by (repeat' (first | with_reducible exact Below.refl _ _ | with_reducible assumption | with_reducible refine Below.drew ?_ | with_reducible refine below_drewN' ?_ _ | with_reducible refine Below.alloc ?_ ?_ _ | with_reducible refine Below.setCell ?_ ?_ _ | with_reducible refine below_step (by assumption) ?_ ?_ | omega | (simp; done) | (simp; omega))))).mono ?_); rintro e w1 ⟨rfl, hb1⟩; have HB1 := Lib.hid (show Below w.heap.size w w1 by (repeat' (first | with_reducible exact Below.refl _ _ | with_reducible assumption | with_reducible refine Below.drew ?_ | with_reducible refine below_drewN' ?_ _ | with_reducible refine Below.alloc ?_ ?_ _ | with_reducible refine Below.setCell ?_ ?_ _ | with_reducible refine below_step (by assumption) ?_ ?_ | omega | (simp; done) | (simp; omega)))); have HS1 := Lib.hid (((Blk.new w 52 [.slice _ N gk, .slice ta M tk, .slice _ m ik, .int .i64 z0, .int .i64 z1, .int .i64 z2, .slice ra Nr rk, .int .i64 un, .int .i64 sh]).alloc _).below hb1); have HC1 := Lib.hid ((Blk.new (w.alloc _) 59 [.string what, .string nm, .int .i64 n]).below hb1); rw [HZ0.out] at HC1; have hz1 := hb1.size; (try simp at hz1); have hy1 : w.heap.size < w1.heap.size := (by omega); have hx1 : w.heap.size + 1 < w1.heap.size := (by omega); have s0 := HS1.out.cell 0; have s1 := HS1.out.cell 1; have s2 := HS1.out.cell 2; have s3 := HS1.out.cell 3; have s4 := HS1.out.cell 4; have s5 := HS1.out.cell 5; have s6 := HS1.out.cell 6; have s7 := HS1.out.cell 7; have s8 := HS1.out.cell 8; have r0 := HC1.out.cell 0; have r1 := HC1.out.cell 1; have r2 := HC1.out.cell 2; dsimp only [List.getElem?_cons_zero, List.getElem?_cons_succ] at s0 s1 s2 s3 s4 s5 s6 s7 s8 r0 r1 r2; have e1 := (HB1.out.cell (p := ⟨b1, o1 + k * 5 + 2, none⟩) hbw1).trans d2; have e2 := (HB1.out.cell (p := ⟨b2, o2 + j * 15 + 1, none⟩) hbw2).trans x1; have hv1 : b1 < w1.heap.size := Nat.lt_of_lt_of_le hbw1 HB1.out.size; have hv2 : b2 < w1.heap.size := Nat.lt_of_lt_of_le hbw2 HB1.out.size; clear hb1)
          have HRs := Lib.hid (show w1.rangeAt w.heap.size 0 [.slice (some ⟨b2, o2, none⟩) N gk, .slice ta M tk, .slice (some ⟨b1, o1, none⟩) m ik, .int .i64 z0, .int .i64 z1, .int .i64 z2, .slice ra Nr rk, .int .i64 un, .int .i64 sh] from HS1.out.range 0 _ rfl)
          have hcH := held_cell
          refine region_rel (by kernel_rfl) (by kernel_rfl) ?_
          repeat
            ((with_reducible refine relStep (fun K hK => ?_))
             (have HK := Lib.hid hK)
             clear hK
             (apply relInl
              · intro r n hf
                have Hf := Lib.hid hf
                clear hf
                (first
                  | (((with_reducible refine at_rel (ty := 52) ?_); refine rel_load rfl w.heap.size 0 rfl [.slice (some ⟨b2, o2, none⟩) N gk, .slice ta M tk, .slice (some ⟨b1, o1, none⟩) m ik, .int .i64 z0, .int .i64 z1, .int .i64 z2, .slice ra Nr rk, .int .i64 un, .int .i64 sh] _ Tryz.underlying52 rfl (by kernel_rfl) (rangeAt_mono HRs.out hy1 n.below) rfl))
                  | (unfold relAt
                     go_simp
                     (first | (refine relUpon_val ?_ (Below.refl _ _); exact rfl) | exact rfl | (refine relUpon_enter ?_; (go_at_call 40; (with_reducible refine (HTg.out _ (HB1.out.trans (n.below.mono HB1.out.size))).mono ?_); rintro e w9 ⟨rfl, hb⟩; exact ⟨⟨_, rfl, rfl⟩, hb⟩)))))
              (simp only [Act.put, List.setIfInBounds_toArray, List.set_cons_zero, List.set_cons_succ])
              (with_reducible refine HK.out _ _ ?_)
              clear HK K))
          refine relNil ?_
          intro r9 n9 hx9
          clear hcH
          (try simp only [List.nil_append, List.cons_append, List.mem_cons, List.not_mem_nil, or_false, forall_eq_or_imp, forall_eq, false_implies, implies_true] at hx9)
          obtain ⟨w9, hb9⟩ := n9
          (try dsimp only)
          obtain ⟨hc9, hf9⟩ := bcell hb9
          have hz9 := hb9.size
          (try simp at hz9)
          have HB9 := Lib.hid (HB1.out.trans (hb9.mono HB1.out.size))
          clear hc9 hf9
          go_wp2
          go_ret
          exact ⟨rfl, HB9.out⟩
      · rw [if_neg h4]
        have k4 : (st != 4) = true := by simp; omega
        have k5 : (st != 1) = true := by simp; omega
        have k6 : (st != 2) = true := by simp; omega
        clear hw h3 h4
        go_enter Tryz.func47, Tryz.ntmps47
        go_wp2_with (go_at_call 39; (with_reducible refine (HF.out _ (by (repeat' (first | with_reducible exact Below.refl _ _ | with_reducible assumption | with_reducible refine Below.drew ?_ | with_reducible refine below_drewN' ?_ _ | with_reducible refine Below.alloc ?_ ?_ _ | with_reducible refine Below.setCell ?_ ?_ _ | with_reducible refine below_step (by assumption) ?_ ?_ | omega | (simp; done) | (simp; omega))))).mono ?_); rintro e w1 ⟨rfl, hb1⟩; have HB1 := Lib.hid (show Below w.heap.size w w1 by (repeat' (first | with_reducible exact Below.refl _ _ | with_reducible assumption | with_reducible refine Below.drew ?_ | with_reducible refine below_drewN' ?_ _ | with_reducible refine Below.alloc ?_ ?_ _ | with_reducible refine Below.setCell ?_ ?_ _ | with_reducible refine below_step (by assumption) ?_ ?_ | omega | (simp; done) | (simp; omega)))); have HS1 := Lib.hid (((Blk.new w 52 [.slice _ N gk, .slice ta M tk, .slice _ m ik, .int .i64 z0, .int .i64 z1, .int .i64 z2, .slice ra Nr rk, .int .i64 un, .int .i64 sh]).alloc _).below hb1); have HC1 := Lib.hid ((Blk.new (w.alloc _) 59 [.string what, .string nm, .int .i64 n]).below hb1); rw [HZ0.out] at HC1; have hz1 := hb1.size; (try simp at hz1); have hy1 : w.heap.size < w1.heap.size := (by omega); have hx1 : w.heap.size + 1 < w1.heap.size := (by omega); have s0 := HS1.out.cell 0; have s1 := HS1.out.cell 1; have s2 := HS1.out.cell 2; have s3 := HS1.out.cell 3; have s4 := HS1.out.cell 4; have s5 := HS1.out.cell 5; have s6 := HS1.out.cell 6; have s7 := HS1.out.cell 7; have s8 := HS1.out.cell 8; have r0 := HC1.out.cell 0; have r1 := HC1.out.cell 1; have r2 := HC1.out.cell 2; dsimp only [List.getElem?_cons_zero, List.getElem?_cons_succ] at s0 s1 s2 s3 s4 s5 s6 s7 s8 r0 r1 r2; have e1 := (HB1.out.cell (p := ⟨b1, o1 + k * 5 + 2, none⟩) hbw1).trans d2; have e2 := (HB1.out.cell (p := ⟨b2, o2 + j * 15 + 1, none⟩) hbw2).trans x1; have hv1 : b1 < w1.heap.size := Nat.lt_of_lt_of_le hbw1 HB1.out.size; have hv2 : b2 < w1.heap.size := Nat.lt_of_lt_of_le hbw2 HB1.out.size; clear hb1)
        go_ret
        exact ⟨rfl, HB1.out⟩
    · rw [decide_eq_false (show ¬ what = sClean by rw [hw]; decide), if_neg (by decide)]
      have q1 : (what.toList == [99, 108, 101, 97, 110]) = false := plit_no (by rw [hw]; decide)
      have q2 : (what.toList == [100, 101, 108, 101, 116, 101]) = true := plit_yes hw
      clear hw
      by_cases h2 : st = 2
      · have k2 : (st != 2) = false := by rw [h2]; rfl
        by_cases h5 : sh < un
        · have k5 : decide (sh < un) = true := decide_eq_true h5
          rw [if_pos (.inr h5)]
          clear h2 h3 h5
          go_enter Tryz.func47, Tryz.ntmps47
          go_wp2_with (go_at_call 39; (with_reducible refine (HF.out _ (by (repeat' (first | with_reducible exact Below.refl _ _ | with_reducible assumption | with_reducible refine Below.drew ?_ | with_reducible refine below_drewN' ?_ _ | with_reducible refine Below.alloc ?_ ?_ _ | with_reducible refine Below.setCell ?_ ?_ _ | with_reducible refine below_step (by assumption) ?_ ?_ | omega | (simp; done) | (simp; omega))))).mono ?_); rintro e w1 ⟨rfl, hb1⟩; have HB1 := Lib.hid (show Below w.heap.size w w1 by (repeat' (first | with_reducible exact Below.refl _ _ | with_reducible assumption | with_reducible refine Below.drew ?_ | with_reducible refine below_drewN' ?_ _ | with_reducible refine Below.alloc ?_ ?_ _ | with_reducible refine Below.setCell ?_ ?_ _ | with_reducible refine below_step (by assumption) ?_ ?_ | omega | (simp; done) | (simp; omega)))); have HS1 := Lib.hid (((Blk.new w 52 [.slice _ N gk, .slice ta M tk, .slice _ m ik, .int .i64 z0, .int .i64 z1, .int .i64 z2, .slice ra Nr rk, .int .i64 un, .int .i64 sh]).alloc _).below hb1); have HC1 := Lib.hid ((Blk.new (w.alloc _) 59 [.string what, .string nm, .int .i64 n]).below hb1); rw [HZ0.out] at HC1; have hz1 := hb1.size; (try simp at hz1); have hy1 : w.heap.size < w1.heap.size := (by omega); have hx1 : w.heap.size + 1 < w1.heap.size := (by omega); have s0 := HS1.out.cell 0; have s1 := HS1.out.cell 1; have s2 := HS1.out.cell 2; have s3 := HS1.out.cell 3; have s4 := HS1.out.cell 4; have s5 := HS1.out.cell 5; have s6 := HS1.out.cell 6; have s7 := HS1.out.cell 7; have s8 := HS1.out.cell 8; have r0 := HC1.out.cell 0; have r1 := HC1.out.cell 1; have r2 := HC1.out.cell 2; dsimp only [List.getElem?_cons_zero, List.getElem?_cons_succ] at s0 s1 s2 s3 s4 s5 s6 s7 s8 r0 r1 r2; have e1 := (HB1.out.cell (p := ⟨b1, o1 + k * 5 + 2, none⟩) hbw1).trans d2; have e2 := (HB1.out.cell (p := ⟨b2, o2 + j * 15 + 1, none⟩) hbw2).trans x1; have hv1 : b1 < w1.heap.size := Nat.lt_of_lt_of_le hbw1 HB1.out.size; have hv2 : b2 < w1.heap.size := Nat.lt_of_lt_of_le hbw2 HB1.out.size; clear hb1)
          go_ret
          exact ⟨rfl, HB1.out⟩
        · have k5 : decide (sh < un) = false := decide_eq_false h5
          rw [if_neg (by omega)]
          by_cases h6 : t ≤ mn
          · have k6 : decide (t ≤ mn) = true := decide_eq_true h6
            rw [if_pos h6]
            clear h2 h3 h5 h6
            go_enter Tryz.func47, Tryz.ntmps47
            go_wp2_with (go_at_call 39; (with_reducible refine (HF.out _ (by (repeat' (first | with_reducible exact Below.refl _ _ | with_reducible assumption | with_reducible refine Below.drew ?_ | with_reducible refine below_drewN' ?_ _ | with_reducible refine Below.alloc ?_ ?_ _ | with_reducible refine Below.setCell ?_ ?_ _ | with_reducible refine below_step (by assumption) ?_ ?_ | omega | (simp; done) | (simp; omega))))).mono ?_); rintro e w1 ⟨rfl, hb1⟩; have HB1 := Lib.hid (show Below w.heap.size w w1 by (repeat' (first | with_reducible exact Below.refl _ _ | with_reducible assumption | with_reducible refine Below.drew ?_ | with_reducible refine below_drewN' ?_ _ | with_reducible refine Below.alloc ?_ ?_ _ | with_reducible refine Below.setCell ?_ ?_ _ | with_reducible refine below_step (by assumption) ?_ ?_ | omega | (simp; done) | (simp; omega)))); have HS1 := Lib.hid (((Blk.new w 52 [.slice _ N gk, .slice ta M tk, .slice _ m ik, .int .i64 z0, .int .i64 z1, .int .i64 z2, .slice ra Nr rk, .int .i64 un, .int .i64 sh]).alloc _).below hb1); have HC1 := Lib.hid ((Blk.new (w.alloc _) 59 [.string what, .string nm, .int .i64 n]).below hb1); rw [HZ0.out] at HC1; have hz1 := hb1.size; (try simp at hz1); have hy1 : w.heap.size < w1.heap.size := (by omega); have hx1 : w.heap.size + 1 < w1.heap.size := (by omega); have s0 := HS1.out.cell 0; have s1 := HS1.out.cell 1; have s2 := HS1.out.cell 2; have s3 := HS1.out.cell 3; have s4 := HS1.out.cell 4; have s5 := HS1.out.cell 5; have s6 := HS1.out.cell 6; have s7 := HS1.out.cell 7; have s8 := HS1.out.cell 8; have r0 := HC1.out.cell 0; have r1 := HC1.out.cell 1; have r2 := HC1.out.cell 2; dsimp only [List.getElem?_cons_zero, List.getElem?_cons_succ] at s0 s1 s2 s3 s4 s5 s6 s7 s8 r0 r1 r2; have e1 := (HB1.out.cell (p := ⟨b1, o1 + k * 5 + 2, none⟩) hbw1).trans d2; have e2 := (HB1.out.cell (p := ⟨b2, o2 + j * 15 + 1, none⟩) hbw2).trans x1; have hv1 : b1 < w1.heap.size := Nat.lt_of_lt_of_le hbw1 HB1.out.size; have hv2 : b2 < w1.heap.size := Nat.lt_of_lt_of_le hbw2 HB1.out.size; clear hb1)
            have HRs := Lib.hid (show w1.rangeAt w.heap.size 0 [.slice (some ⟨b2, o2, none⟩) N gk, .slice ta M tk, .slice (some ⟨b1, o1, none⟩) m ik, .int .i64 z0, .int .i64 z1, .int .i64 z2, .slice ra Nr rk, .int .i64 un, .int .i64 sh] from HS1.out.range 0 _ rfl)
            have hcH := held_cell
            refine region_rel (by kernel_rfl) (by kernel_rfl) ?_
            repeat
              ((with_reducible refine relStep (fun K hK => ?_))
               (have HK := Lib.hid hK)
               clear hK
               (apply relInl
                · intro r n hf
                  have Hf := Lib.hid hf
                  clear hf
                  (first
                    | (((with_reducible refine at_rel (ty := 52) ?_); refine rel_load rfl w.heap.size 0 rfl [.slice (some ⟨b2, o2, none⟩) N gk, .slice ta M tk, .slice (some ⟨b1, o1, none⟩) m ik, .int .i64 z0, .int .i64 z1, .int .i64 z2, .slice ra Nr rk, .int .i64 un, .int .i64 sh] _ Tryz.underlying52 rfl (by kernel_rfl) (rangeAt_mono HRs.out hy1 n.below) rfl))
                    | (unfold relAt
                       go_simp
                       (first | (refine relUpon_val ?_ (Below.refl _ _); exact rfl) | exact rfl | (refine relUpon_enter ?_; (go_at_call 40; (with_reducible refine (HTg.out _ (HB1.out.trans (n.below.mono HB1.out.size))).mono ?_); rintro e w9 ⟨rfl, hb⟩; exact ⟨⟨_, rfl, rfl⟩, hb⟩)))))
                (simp only [Act.put, List.setIfInBounds_toArray, List.set_cons_zero, List.set_cons_succ])
                (with_reducible refine HK.out _ _ ?_)
                clear HK K))
            refine relNil ?_
            intro r9 n9 hx9
            clear hcH
            (try simp only [List.nil_append, List.cons_append, List.mem_cons, List.not_mem_nil, or_false, forall_eq_or_imp, forall_eq, false_implies, implies_true] at hx9)
            obtain ⟨w9, hb9⟩ := n9
            (try dsimp only)
            obtain ⟨hc9, hf9⟩ := bcell hb9
            have hz9 := hb9.size
            (try simp at hz9)
            have HB9 := Lib.hid (HB1.out.trans (hb9.mono HB1.out.size))
            clear hc9 hf9
            go_wp2
            go_ret
            exact ⟨rfl, HB9.out⟩
          · have k6 : decide (t ≤ mn) = false := decide_eq_false h6
            rw [if_neg h6]
            clear h2 h3 h5 h6
            go_enter Tryz.func47, Tryz.ntmps47
            go_wp2_with (go_at_call 39; (with_reducible refine (HF.out _ (by (repeat' (first | with_reducible exact Below.refl _ _ | with_reducible assumption | with_reducible refine Below.drew ?_ | with_reducible refine below_drewN' ?_ _ | with_reducible refine Below.alloc ?_ ?_ _ | with_reducible refine Below.setCell ?_ ?_ _ | with_reducible refine below_step (by assumption) ?_ ?_ | omega | (simp; done) | (simp; omega))))).mono ?_); rintro e w1 ⟨rfl, hb1⟩; have HB1 := Lib.hid (show Below w.heap.size w w1 by (repeat' (first | with_reducible exact Below.refl _ _ | with_reducible assumption | with_reducible refine Below.drew ?_ | with_reducible refine below_drewN' ?_ _ | with_reducible refine Below.alloc ?_ ?_ _ | with_reducible refine Below.setCell ?_ ?_ _ | with_reducible refine below_step (by assumption) ?_ ?_ | omega | (simp; done) | (simp; omega)))); have HS1 := Lib.hid (((Blk.new w 52 [.slice _ N gk, .slice ta M tk, .slice _ m ik, .int .i64 z0, .int .i64 z1, .int .i64 z2, .slice ra Nr rk, .int .i64 un, .int .i64 sh]).alloc _).below hb1); have HC1 := Lib.hid ((Blk.new (w.alloc _) 59 [.string what, .string nm, .int .i64 n]).below hb1); rw [HZ0.out] at HC1; have hz1 := hb1.size; (try simp at hz1); have hy1 : w.heap.size < w1.heap.size := (by omega); have hx1 : w.heap.size + 1 < w1.heap.size := (by omega); have s0 := HS1.out.cell 0; have s1 := HS1.out.cell 1; have s2 := HS1.out.cell 2; have s3 := HS1.out.cell 3; have s4 := HS1.out.cell 4; have s5 := HS1.out.cell 5; have s6 := HS1.out.cell 6; have s7 := HS1.out.cell 7; have s8 := HS1.out.cell 8; have r0 := HC1.out.cell 0; have r1 := HC1.out.cell 1; have r2 := HC1.out.cell 2; dsimp only [List.getElem?_cons_zero, List.getElem?_cons_succ] at s0 s1 s2 s3 s4 s5 s6 s7 s8 r0 r1 r2; have e1 := (HB1.out.cell (p := ⟨b1, o1 + k * 5 + 2, none⟩) hbw1).trans d2; have e2 := (HB1.out.cell (p := ⟨b2, o2 + j * 15 + 1, none⟩) hbw2).trans x1; have hv1 : b1 < w1.heap.size := Nat.lt_of_lt_of_le hbw1 HB1.out.size; have hv2 : b2 < w1.heap.size := Nat.lt_of_lt_of_le hbw2 HB1.out.size; clear hb1)
            have HRs := Lib.hid (show w1.rangeAt w.heap.size 0 [.slice (some ⟨b2, o2, none⟩) N gk, .slice ta M tk, .slice (some ⟨b1, o1, none⟩) m ik, .int .i64 z0, .int .i64 z1, .int .i64 z2, .slice ra Nr rk, .int .i64 un, .int .i64 sh] from HS1.out.range 0 _ rfl)
            have hcH := held_cell
            refine region_rel (by kernel_rfl) (by kernel_rfl) ?_
            repeat
              ((with_reducible refine relStep (fun K hK => ?_))
               (have HK := Lib.hid hK)
               clear hK
               (apply relInl
                · intro r n hf
                  have Hf := Lib.hid hf
                  clear hf
                  (first
                    | (((with_reducible refine at_rel (ty := 52) ?_); refine rel_load rfl w.heap.size 0 rfl [.slice (some ⟨b2, o2, none⟩) N gk, .slice ta M tk, .slice (some ⟨b1, o1, none⟩) m ik, .int .i64 z0, .int .i64 z1, .int .i64 z2, .slice ra Nr rk, .int .i64 un, .int .i64 sh] _ Tryz.underlying52 rfl (by kernel_rfl) (rangeAt_mono HRs.out hy1 n.below) rfl))
                    | (unfold relAt
                       go_simp
                       (first | (refine relUpon_val ?_ (Below.refl _ _); exact rfl) | exact rfl | (refine relUpon_enter ?_; (go_at_call 40; (with_reducible refine (HTg.out _ (HB1.out.trans (n.below.mono HB1.out.size))).mono ?_); rintro e w9 ⟨rfl, hb⟩; exact ⟨⟨_, rfl, rfl⟩, hb⟩)))))
                (simp only [Act.put, List.setIfInBounds_toArray, List.set_cons_zero, List.set_cons_succ])
                (with_reducible refine HK.out _ _ ?_)
                clear HK K))
            refine relNil ?_
            intro r9 n9 hx9
            clear hcH
            (try simp only [List.nil_append, List.cons_append, List.mem_cons, List.not_mem_nil, or_false, forall_eq_or_imp, forall_eq, false_implies, implies_true] at hx9)
            obtain ⟨w9, hb9⟩ := n9
            (try dsimp only)
            obtain ⟨hc9, hf9⟩ := bcell hb9
            have hz9 := hb9.size
            (try simp at hz9)
            have HB9 := Lib.hid (HB1.out.trans (hb9.mono HB1.out.size))
            clear hc9 hf9
            go_wp2
            go_ret
            exact ⟨rfl, HB9.out⟩
      · have k2 : (st != 2) = true := by simpa using h2
        rw [if_pos (.inl h2)]
        clear h2 h3
        go_enter Tryz.func47, Tryz.ntmps47
        go_wp2_with (go_at_call 39; (with_reducible refine (HF.out _ (by (repeat' (first | with_reducible exact Below.refl _ _ | with_reducible assumption | with_reducible refine Below.drew ?_ | with_reducible refine below_drewN' ?_ _ | with_reducible refine Below.alloc ?_ ?_ _ | with_reducible refine Below.setCell ?_ ?_ _ | with_reducible refine below_step (by assumption) ?_ ?_ | omega | (simp; done) | (simp; omega))))).mono ?_); rintro e w1 ⟨rfl, hb1⟩; have HB1 := Lib.hid (show Below w.heap.size w w1 by (repeat' (first | with_reducible exact Below.refl _ _ | with_reducible assumption | with_reducible refine Below.drew ?_ | with_reducible refine below_drewN' ?_ _ | with_reducible refine Below.alloc ?_ ?_ _ | with_reducible refine Below.setCell ?_ ?_ _ | with_reducible refine below_step (by assumption) ?_ ?_ | omega | (simp; done) | (simp; omega)))); have HS1 := Lib.hid (((Blk.new w 52 [.slice _ N gk, .slice ta M tk, .slice _ m ik, .int .i64 z0, .int .i64 z1, .int .i64 z2, .slice ra Nr rk, .int .i64 un, .int .i64 sh]).alloc _).below hb1); have HC1 := Lib.hid ((Blk.new (w.alloc _) 59 [.string what, .string nm, .int .i64 n]).below hb1); rw [HZ0.out] at HC1; have hz1 := hb1.size; (try simp at hz1); have hy1 : w.heap.size < w1.heap.size := (by omega); have hx1 : w.heap.size + 1 < w1.heap.size := (by omega); have s0 := HS1.out.cell 0; have s1 := HS1.out.cell 1; have s2 := HS1.out.cell 2; have s3 := HS1.out.cell 3; have s4 := HS1.out.cell 4; have s5 := HS1.out.cell 5; have s6 := HS1.out.cell 6; have s7 := HS1.out.cell 7; have s8 := HS1.out.cell 8; have r0 := HC1.out.cell 0; have r1 := HC1.out.cell 1; have r2 := HC1.out.cell 2; dsimp only [List.getElem?_cons_zero, List.getElem?_cons_succ] at s0 s1 s2 s3 s4 s5 s6 s7 s8 r0 r1 r2; have e1 := (HB1.out.cell (p := ⟨b1, o1 + k * 5 + 2, none⟩) hbw1).trans d2; have e2 := (HB1.out.cell (p := ⟨b2, o2 + j * 15 + 1, none⟩) hbw2).trans x1; have hv1 : b1 < w1.heap.size := Nat.lt_of_lt_of_le hbw1 HB1.out.size; have hv2 : b2 < w1.heap.size := Nat.lt_of_lt_of_le hbw2 HB1.out.size; clear hb1)
        go_ret
        exact ⟨rfl, HB1.out⟩
end Go.Proofs.YtmkdfcggjlhcpaaGreatDoor
namespace Go.Proofs.YtmkdfcggjlhcpaaGreatDoor
open Go.RowKit
set_option linter.unusedVariables false
set_option linter.unusedSimpArgs false
set_option maxRecDepth 100000 in
set_option maxHeartbeats 4000000 in
theorem why_any (s : St) (what nm : ByteArray) (n : Int) (w : World) (hI : StIn w s) (hO : StOk s) (hn0 : -9223372036854775808 ≤ n) (hn1 : n ≤ 9223372036854775807) :
    Calls Tryz.prog 24 #[.agg #[.slice s.ga s.C.length s.gk, .slice s.ta s.T.length s.tk, .slice s.ia s.L.length s.ik, .int .i64 s.c0, .int .i64 s.c1, .int .i64 s.c2, .slice s.ra s.R.length s.rk, .int .i64 s.un, .int .i64 s.sh], .agg #[.string what, .string nm, .int .i64 n]] w fun e w' => (∃ b, e = .returned (.int .i64 (whyP s what nm n b)) ∧ b = bX s nm n) ∧ Below w.heap.size w w' := by
  by_cases h1 : what = sUp ∨ what = sRaise ∨ what = sFix
  · have HW := Lib.hid (fun V (hV : Below w.heap.size w V) => whyg_any s what nm n V (hI.mono hV) hO hn0 hn1)
    have hp : ∀ b, whyP s what nm n b = whyG s what nm n b := fun b => by unfold whyP; rw [if_pos h1]
    refine Calls.mono (R := fun e w' => (∃ b, e = .returned (.int .i64 (whyG s what nm n b)) ∧ b = bX s nm n) ∧ Below w.heap.size w w') ?_ fun e w' ⟨⟨b, e1, e2⟩, hb⟩ => ⟨⟨b, by rw [hp]; exact e1, e2⟩, hb⟩
    obtain ⟨F, hF⟩ : ∃ F, whyG s what nm n = F := ⟨_, rfl⟩
    obtain ⟨wb, hwb⟩ : ∃ wb, bX s nm n = wb := ⟨_, rfl⟩
    rw [hF, hwb] at HW ⊢
    clear hI hO hp hF hwb
    obtain ⟨ga, C, gk, ta, T, tk, ia, L, ik, z0, z1, z2, ra, R, rk, un, sh⟩ := s
    dsimp only at *
    obtain ⟨N, hN⟩ : ∃ N, C.length = N := ⟨_, rfl⟩
    obtain ⟨M, hM⟩ : ∃ M, T.length = M := ⟨_, rfl⟩
    obtain ⟨m, hm⟩ : ∃ m, L.length = m := ⟨_, rfl⟩
    obtain ⟨Nr, hNr⟩ : ∃ Nr, R.length = Nr := ⟨_, rfl⟩
    simp only [hN, hM, hm, hNr] at *
    clear hN hM hm hNr
    have hk : ((what.toList == [117, 112]) = true) ∨ ((what.toList == [117, 112]) = false ∧ (what.toList == [114, 97, 105, 115, 101]) = true) ∨ ((what.toList == [117, 112]) = false ∧ (what.toList == [114, 97, 105, 115, 101]) = false ∧ (what.toList == [102, 105, 120]) = true) := by
      rcases h1 with h | h | h
      · exact .inl (plit_yes h)
      · exact .inr (.inl ⟨plit_no (by rw [h]; decide), plit_yes h⟩)
      · exact .inr (.inr ⟨plit_no (by rw [h]; decide), plit_no (by rw [h]; decide), plit_yes h⟩)
    clear h1
    rcases hk with k1 | ⟨k1, k2⟩ | ⟨k1, k2, k3⟩
    all_goals
      go_enter Tryz.func24, Tryz.ntmps24
      go_wp2_with (go_at_call 46; (with_reducible refine (HW.out _ (by (repeat' (first | with_reducible exact Below.refl _ _ | with_reducible assumption | with_reducible refine Below.drew ?_ | with_reducible refine below_drewN' ?_ _ | with_reducible refine Below.alloc ?_ ?_ _ | with_reducible refine Below.setCell ?_ ?_ _ | with_reducible refine below_step (by assumption) ?_ ?_ | omega | (simp; done) | (simp; omega))))).mono ?_); rintro e w1 ⟨⟨b, rfl, hb⟩, hb1⟩; have Hb := Lib.hid hb; clear hb)
      go_ret
      exact ⟨⟨_, rfl, Hb.out⟩, by (repeat' (first | with_reducible exact Below.refl _ _ | with_reducible assumption | with_reducible refine Below.drew ?_ | with_reducible refine below_drewN' ?_ _ | with_reducible refine Below.alloc ?_ ?_ _ | with_reducible refine Below.setCell ?_ ?_ _ | with_reducible refine below_step (by assumption) ?_ ?_ | omega | (simp; done) | (simp; omega)))⟩
  have g1 : (what.toList == [117, 112]) = false := plit_no fun h => h1 (.inl h)
  have g2 : (what.toList == [114, 97, 105, 115, 101]) = false := plit_no fun h => h1 (.inr (.inl h))
  have g3 : (what.toList == [102, 105, 120]) = false := plit_no fun h => h1 (.inr (.inr h))
  by_cases h2 : what = sClean ∨ what = sDelete
  · have HW := Lib.hid (fun V (hV : Below w.heap.size w V) => whyi_any s what nm n V (hI.mono hV) hO h2)
    have hp : ∀ b, whyP s what nm n b = whyI s what nm := fun b => by unfold whyP; rw [if_neg h1, if_pos h2]
    refine Calls.mono (R := fun e w' => e = .returned (.int .i64 (whyI s what nm)) ∧ Below w.heap.size w w') ?_ fun e w' ⟨e1, hb⟩ => ⟨⟨bX s nm n, by rw [hp]; exact e1, rfl⟩, hb⟩
    obtain ⟨F, hF⟩ : ∃ F, whyI s what nm = F := ⟨_, rfl⟩
    rw [hF] at HW ⊢
    clear hI hO hp hF h1
    obtain ⟨ga, C, gk, ta, T, tk, ia, L, ik, z0, z1, z2, ra, R, rk, un, sh⟩ := s
    dsimp only at *
    obtain ⟨N, hN⟩ : ∃ N, C.length = N := ⟨_, rfl⟩
    obtain ⟨M, hM⟩ : ∃ M, T.length = M := ⟨_, rfl⟩
    obtain ⟨m, hm⟩ : ∃ m, L.length = m := ⟨_, rfl⟩
    obtain ⟨Nr, hNr⟩ : ∃ Nr, R.length = Nr := ⟨_, rfl⟩
    simp only [hN, hM, hm, hNr] at *
    clear hN hM hm hNr
    have hk : ((what.toList == [99, 108, 101, 97, 110]) = true) ∨ ((what.toList == [99, 108, 101, 97, 110]) = false ∧ (what.toList == [100, 101, 108, 101, 116, 101]) = true) := by
      rcases h2 with h | h
      · exact .inl (plit_yes h)
      · exact .inr ⟨plit_no (by rw [h]; decide), plit_yes h⟩
    clear h2
    rcases hk with k1 | ⟨k1, k2⟩
    all_goals
      go_enter Tryz.func24, Tryz.ntmps24
      go_wp2_with (go_at_call 47; (with_reducible refine (HW.out _ (by (repeat' (first | with_reducible exact Below.refl _ _ | with_reducible assumption | with_reducible refine Below.drew ?_ | with_reducible refine below_drewN' ?_ _ | with_reducible refine Below.alloc ?_ ?_ _ | with_reducible refine Below.setCell ?_ ?_ _ | with_reducible refine below_step (by assumption) ?_ ?_ | omega | (simp; done) | (simp; omega))))).mono ?_); rintro e w1 ⟨rfl, hb1⟩)
      go_ret
      exact ⟨rfl, by (repeat' (first | with_reducible exact Below.refl _ _ | with_reducible assumption | with_reducible refine Below.drew ?_ | with_reducible refine below_drewN' ?_ _ | with_reducible refine Below.alloc ?_ ?_ _ | with_reducible refine Below.setCell ?_ ?_ _ | with_reducible refine below_step (by assumption) ?_ ?_ | omega | (simp; done) | (simp; omega)))⟩
  · have g4 : (what.toList == [99, 108, 101, 97, 110]) = false := plit_no fun h => h2 (.inl h)
    have g5 : (what.toList == [100, 101, 108, 101, 116, 101]) = false := plit_no fun h => h2 (.inr h)
    have hp : ∀ b, whyP s what nm n b = 14 := fun b => by unfold whyP; rw [if_neg h1, if_neg h2]
    refine Calls.mono (R := fun e w' => e = .returned (.int .i64 14) ∧ Below w.heap.size w w') ?_ fun e w' ⟨e1, hb⟩ => ⟨⟨bX s nm n, by rw [hp]; exact e1, rfl⟩, hb⟩
    clear hI hO hp h1 h2
    obtain ⟨ga, C, gk, ta, T, tk, ia, L, ik, z0, z1, z2, ra, R, rk, un, sh⟩ := s
    dsimp only at *
    obtain ⟨N, hN⟩ : ∃ N, C.length = N := ⟨_, rfl⟩
    obtain ⟨M, hM⟩ : ∃ M, T.length = M := ⟨_, rfl⟩
    obtain ⟨m, hm⟩ : ∃ m, L.length = m := ⟨_, rfl⟩
    obtain ⟨Nr, hNr⟩ : ∃ Nr, R.length = Nr := ⟨_, rfl⟩
    simp only [hN, hM, hm, hNr] at *
    clear hN hM hm hNr
    go_enter Tryz.func24, Tryz.ntmps24
    go_wp2
    go_ret
    exact ⟨rfl, by (repeat' (first | with_reducible exact Below.refl _ _ | with_reducible assumption | with_reducible refine Below.drew ?_ | with_reducible refine below_drewN' ?_ _ | with_reducible refine Below.alloc ?_ ?_ _ | with_reducible refine Below.setCell ?_ ?_ _ | with_reducible refine below_step (by assumption) ?_ ?_ | omega | (simp; done) | (simp; omega)))⟩
theorem Tryz.info3 : (Tryz.prog.info? 3).map (fun i => (i.zero, i.size, i.bytes)) = some (some (.int .i64 0), 1, 8) := by kernel_rfl
set_option maxRecDepth 100000 in
set_option maxHeartbeats 4000000 in
theorem cloneint_any (c : Option Addr) (kc : Nat) (xs : List Int) (w : World) (hF : IntL w c xs) (hok : NilOk c xs.length kc) (hm : xs.length ≤ 1000000) :
    Calls Tryz.prog 58 #[.slice c xs.length kc] w (Gives w (OwnL pcs 1 w.heap.size 3 xs)) := by
  have HF := Lib.hid hF
  have Hok := Lib.hid hok
  clear hF
  obtain ⟨i0, hi, hz0, hz1, hz2⟩ := info_parts Tryz.info3
  have Hi := Lib.hid hi
  have Hz0 := Lib.hid hz0
  have Hz1 := Lib.hid hz1
  have Hz2 := Lib.hid hz2
  clear hi hz0 hz1 hz2
  cases c with
  | none =>
    obtain ⟨h1, h2⟩ := hok rfl
    obtain rfl : xs = [] := List.eq_nil_of_length_eq_zero h1
    clear h1 hok
    subst h2
    have hq : ∀ V : World, (binOp .eql 46 (.slice none 0 0) (.slice none 0 0)).run Tryz.prog V = .ok (.bool true) V := fun V => Lib.run_eql_slice_nil V _ _ none 0 0 0 0 Tryz.underlying46
    go_enter Tryz.func58, Tryz.ntmps58
    go_wp2
    refine bodyPost_ret (v := .slice none 0 0) (by simp [results, Tryz.results58, go_sem]) rfl ⟨⟨_, rfl, World.ownsRow_nil _ _ _ _⟩, by (repeat' (first | with_reducible exact Below.refl _ _ | with_reducible assumption | with_reducible refine Below.drew ?_ | with_reducible refine below_drewN' ?_ _ | with_reducible refine Below.alloc ?_ ?_ _ | with_reducible refine Below.setCell ?_ ?_ _ | with_reducible refine below_step (by assumption) ?_ ?_ | omega | (simp; done) | (simp; omega)))⟩
  | some q =>
    clear hok
    have hc3 : 0 + xs.length ≤ maxLen := by unfold maxLen; omega
    have hc4 : (0 + xs.length) * 8 ≤ 140737488355328 := by omega
    have hq : ∀ V : World, (binOp .eql 46 (.slice (some q) xs.length kc) (.slice none 0 0)).run Tryz.prog V = .ok (.bool false) V := fun V => Lib.run_eql_slice_nil V _ _ (some q) _ _ 0 0 Tryz.underlying46
    go_enter Tryz.func58, Tryz.ntmps58
    go_wp2_with (at_builtin; refine wpList_append_src rfl (.tmp 5) (.tmp 6) 46 rfl w.heap.size 3 i0 _ 1 8 Tryz.underlying46 Hi.out Hz0.out Hz1.out Hz2.out rfl (by decide) _ 0 [] rfl (World.ownsRow_made w #[] 0 (Nat.le_refl w.heap.size) (Nat.zero_le _) rfl) (some q) xs.length kc (xs.flatMap pcs) rfl (rows_length pcs 1 pcs_len xs) (RowsAt.news pcs_len (HF.out.mono ((Below.refl _ w).alloc (Nat.le_refl _) _))) Hok.out (flat_ones pcs_one xs) hc3 hc4 (le_alloc (Nat.le_refl w.heap.size) _) ?_; intro v1 w3 hown1 hgrow1; rw [Nat.zero_add, List.nil_append] at hown1; have HB3 := Lib.hid (own_below (World.ownsRow_made w #[] 0 (Nat.le_refl w.heap.size) (Nat.zero_le _) rfl : (w.alloc (.cells #[] 3)).ownsRow w.heap.size 3 5 (.slice (some ⟨w.heap.size, 0, none⟩) 0 0) 0 []) ((Below.refl _ w).alloc (Nat.le_refl w.heap.size) _) (le_alloc (Nat.le_refl w.heap.size) _) hgrow1); have HO3 := Lib.hid hown1; clear hown1 hgrow1)
    refine bodyPost_ret (v := v1) (by simp [results, Tryz.results58, go_sem]) rfl ⟨⟨_, rfl, HO3.out⟩, HB3.out⟩
set_option maxRecDepth 100000 in
set_option maxHeartbeats 4000000 in
theorem clonestr_any (c : Option Addr) (kc : Nat) (xs : List ByteArray) (w : World) (hF : TxtL w c xs) (hok : NilOk c xs.length kc) (hm : xs.length ≤ 1000000) :
    Calls Tryz.prog 59 #[.slice c xs.length kc] w (Gives w (OwnL scs 1 w.heap.size 9 xs)) := by
  have HF := Lib.hid hF
  have Hok := Lib.hid hok
  clear hF
  obtain ⟨i0, hi, hz0, hz1, hz2⟩ := info_parts Tryz.info9
  have Hi := Lib.hid hi
  have Hz0 := Lib.hid hz0
  have Hz1 := Lib.hid hz1
  have Hz2 := Lib.hid hz2
  clear hi hz0 hz1 hz2
  cases c with
  | none =>
    obtain ⟨h1, h2⟩ := hok rfl
    obtain rfl : xs = [] := List.eq_nil_of_length_eq_zero h1
    clear h1 hok
    subst h2
    have hq : ∀ V : World, (binOp .eql 50 (.slice none 0 0) (.slice none 0 0)).run Tryz.prog V = .ok (.bool true) V := fun V => Lib.run_eql_slice_nil V _ _ none 0 0 0 0 Tryz.underlying50
    go_enter Tryz.func59, Tryz.ntmps59
    go_wp2
    refine bodyPost_ret (v := .slice none 0 0) (by simp [results, Tryz.results59, go_sem]) rfl ⟨⟨_, rfl, World.ownsRow_nil _ _ _ _⟩, by (repeat' (first | with_reducible exact Below.refl _ _ | with_reducible assumption | with_reducible refine Below.drew ?_ | with_reducible refine below_drewN' ?_ _ | with_reducible refine Below.alloc ?_ ?_ _ | with_reducible refine Below.setCell ?_ ?_ _ | with_reducible refine below_step (by assumption) ?_ ?_ | omega | (simp; done) | (simp; omega)))⟩
  | some q =>
    clear hok
    have hc3 : 0 + xs.length ≤ maxLen := by unfold maxLen; omega
    have hc4 : (0 + xs.length) * 16 ≤ 140737488355328 := by omega
    have hq : ∀ V : World, (binOp .eql 50 (.slice (some q) xs.length kc) (.slice none 0 0)).run Tryz.prog V = .ok (.bool false) V := fun V => Lib.run_eql_slice_nil V _ _ (some q) _ _ 0 0 Tryz.underlying50
    go_enter Tryz.func59, Tryz.ntmps59
    go_wp2_with (at_builtin; refine wpList_append_src rfl (.tmp 5) (.tmp 6) 50 rfl w.heap.size 9 i0 _ 1 16 Tryz.underlying50 Hi.out Hz0.out Hz1.out Hz2.out rfl (by decide) _ 0 [] rfl (World.ownsRow_made w #[] 0 (Nat.le_refl w.heap.size) (Nat.zero_le _) rfl) (some q) xs.length kc (xs.flatMap scs) rfl (rows_length scs 1 scs_len xs) (RowsAt.news scs_len (HF.out.mono ((Below.refl _ w).alloc (Nat.le_refl _) _))) Hok.out (flat_ones scs_one xs) hc3 hc4 (le_alloc (Nat.le_refl w.heap.size) _) ?_; intro v1 w3 hown1 hgrow1; rw [Nat.zero_add, List.nil_append] at hown1; have HB3 := Lib.hid (own_below (World.ownsRow_made w #[] 0 (Nat.le_refl w.heap.size) (Nat.zero_le _) rfl : (w.alloc (.cells #[] 9)).ownsRow w.heap.size 9 5 (.slice (some ⟨w.heap.size, 0, none⟩) 0 0) 0 []) ((Below.refl _ w).alloc (Nat.le_refl w.heap.size) _) (le_alloc (Nat.le_refl w.heap.size) _) hgrow1); have HO3 := Lib.hid hown1; clear hown1 hgrow1)
    refine bodyPost_ret (v := v1) (by simp [results, Tryz.results59, go_sem]) rfl ⟨⟨_, rfl, HO3.out⟩, HB3.out⟩
end Go.Proofs.YtmkdfcggjlhcpaaGreatDoor
namespace Go.Proofs.YtmkdfcggjlhcpaaGreatDoor
open Go.RowKit
set_option linter.unusedVariables false
set_option linter.unusedSimpArgs false
structure SOwn (B : Nat) (s : St) (w : World) : Prop where
  g : OwnL grow 15 B 37 s.C (.slice s.ga s.C.length s.gk) w
  m : ∀ x ∈ s.C, MO w B x.like
  t : OwnL pcs 1 B 3 s.T (.slice s.ta s.T.length s.tk) w
  i : OwnL irow 5 B 62 s.L (.slice s.ia s.L.length s.ik) w
  r : OwnL scs 1 B 9 s.R (.slice s.ra s.R.length s.rk) w
theorem SOwn.mono {B : Nat} {s : St} {w w' : World} (h : SOwn B s w) (hb : Below w.heap.size w w') : SOwn B s w' :=
  ⟨own_kept h.g hb, fun x hx => (h.m x hx).kept hb, own_kept h.t hb, own_kept h.i hb, own_kept h.r hb⟩
theorem SOwn.less {B B' : Nat} {s : St} {w : World} (h : SOwn B s w) (hb : B' ≤ B) : SOwn B' s w :=
  ⟨OwnL.mono h.g hb, fun x hx => (h.m x hx).less hb, OwnL.mono h.t hb, OwnL.mono h.i hb, OwnL.mono h.r hb⟩
theorem own_out {w : World} {B : Nat} {v : Value} {n k : Nat} {e : TypeId} {xs : List Value} (h : w.ownsRow B e k v n xs) {q : Nat} (hq : q < B) (i : Nat) (u : Value) : (w.setCell ⟨q, i, none⟩ u).ownsRow B e k v n xs :=
  own_same h fun g e => Below.heap_setCell w ⟨q, i, none⟩ u g (by have := (own_lt h e).1; show g ≠ q; omega)
structure PAl (s s' : St) : Prop where
  c : s'.C.map nrm = s.C.map nrm
  t : s'.T = s.T
  l : s'.L = s.L
  r : s'.R = s.R
  c0 : s'.c0 = s.c0
  c1 : s'.c1 = s.c1
  c2 : s'.c2 = s.c2
  un : s'.un = s.un
  sh : s'.sh = s.sh
set_option maxRecDepth 100000 in
set_option maxHeartbeats 8000000 in
theorem copied_any (s : St) (w : World) (hI : StIn w s) (hO : StOk s) :
    Calls Tryz.prog 35 #[.agg #[.slice s.ga s.C.length s.gk, .slice s.ta s.T.length s.tk, .slice s.ia s.L.length s.ik, .int .i64 s.c0, .int .i64 s.c1, .int .i64 s.c2, .slice s.ra s.R.length s.rk, .int .i64 s.un, .int .i64 s.sh]] w fun e w' => (∃ s', e = .returned (.agg #[.slice s'.ga s'.C.length s'.gk, .slice s'.ta s'.T.length s'.tk, .slice s'.ia s'.L.length s'.ik, .int .i64 s'.c0, .int .i64 s'.c1, .int .i64 s'.c2, .slice s'.ra s'.R.length s'.rk, .int .i64 s'.un, .int .i64 s'.sh]) ∧ SOwn w.heap.size s' w' ∧ PAl s s') ∧ Below w.heap.size w w' := by
  have HZ0 := Lib.hid (fun (o : Obj) => World.size_alloc w o)
  have hg16 := hO.g16
  have hlt := hO.lt
  have hlb := hO.lb
  have hrb := hO.rb
  have HG := Lib.hid (fun V (hV : Below w.heap.size w V) => groups_any s.ga s.gk s.C V (hI.g.mono hV) (fun g hg => (hI.m g hg).mono hV) hO.gl (by omega))
  have HT := Lib.hid (fun V (hV : Below w.heap.size w V) => cloneint_any s.ta s.tk s.T V (hI.t.mono hV) hI.tn (by omega))
  have HL := Lib.hid (fun V (hV : Below w.heap.size w V) => clonei_any s.ia s.ik s.L V (hI.i.mono hV) hI.iN (by omega))
  have HR := Lib.hid (fun V (hV : Below w.heap.size w V) => clonestr_any s.ra s.rk s.R V (hI.r.mono hV) hI.rn (by omega))
  clear hI hO hg16 hlt hlb hrb
  obtain ⟨ga, C, gk, ta, T, tk, ia, L, ik, z0, z1, z2, ra, R, rk, un, sh⟩ := s
  dsimp only at HG HT HL HR ⊢
  go_enter Tryz.func35, Tryz.ntmps35
  go_wp2_with (first
    | (go_at_call 27; (with_reducible refine (HG.out _ (by (repeat' (first | with_reducible exact Below.refl _ _ | with_reducible assumption | with_reducible refine Below.drew ?_ | with_reducible refine below_drewN' ?_ _ | with_reducible refine Below.alloc ?_ ?_ _ | with_reducible refine Below.setCell ?_ ?_ _ | with_reducible refine below_step (by assumption) ?_ ?_ | omega | (simp; done) | (simp; omega))))).mono ?_); rintro e w1 ⟨⟨v1, C1, rfl, hC, ho1, hm1⟩, hb1⟩; have HB1 := Lib.hid (show Below w.heap.size w w1 by (repeat' (first | with_reducible exact Below.refl _ _ | with_reducible assumption | with_reducible refine Below.drew ?_ | with_reducible refine below_drewN' ?_ _ | with_reducible refine Below.alloc ?_ ?_ _ | with_reducible refine Below.setCell ?_ ?_ _ | with_reducible refine below_step (by assumption) ?_ ?_ | omega | (simp; done) | (simp; omega)))); have HX1 := Lib.hid (((Blk.new w 52 [.slice ga C.length gk, .slice ta T.length tk, .slice ia L.length ik, .int .i64 z0, .int .i64 z1, .int .i64 z2, .slice ra R.length rk, .int .i64 un, .int .i64 sh]).alloc _).below hb1); have HY1 := Lib.hid ((Blk.new (w.alloc _) 52 [.slice none 0 0, .slice none 0 0, .slice none 0 0, .int .i64 0, .int .i64 0, .int .i64 0, .slice none 0 0, .int .i64 0, .int .i64 0]).below hb1); rw [HZ0.out] at HY1; have hz1 := hb1.size; (try simp at hz1); have HC1 := Lib.hid hC; have HG1 := Lib.hid (show OwnL grow 15 (w.heap.size + 2) 37 C1 v1 w1 from OwnL.mono ho1 (by simp)); have HM1 := Lib.hid (show ∀ g ∈ C1, MO w1 (w.heap.size + 2) g.like from fun g hg => (hm1 g hg).less (by simp)); obtain ⟨a1, k1, rfl, -, -⟩ := OwnL.isL grow_len (by decide) ho1; clear hb1 hC ho1 hm1; have hx1 : w.heap.size < w1.heap.size := (by omega); have x0 := HX1.out.cell 0; have f0 := HX1.out.frozen 0; have y1 := (fun v => (HX1.out.set 0 v).cell 1); dsimp only [List.getElem?_cons_zero, List.getElem?_cons_succ, List.set] at x0 y1)
    | (go_at_call 58; (with_reducible refine (HT.out _ (HB1.out.setCell (Nat.le_refl _) _)).mono ?_); rintro e w2 ⟨⟨v2, rfl, ho2⟩, hb2⟩; have HB2 := Lib.hid ((HB1.out.setCell (Nat.le_refl _) _).trans (hb2.mono (HB1.out.setCell (Nat.le_refl _) _).size)); have HX2 := Lib.hid ((HX1.out.set 0 _).below hb2); have HY2 := Lib.hid ((HY1.out.other (Nat.succ_ne_self _) _).below hb2); have hz2 := hb2.size; (try simp at hz2); have HG2 := Lib.hid (own_kept (own_out HG1.out (by omega) 0 _) hb2); have HM2 := Lib.hid (show ∀ g ∈ C1, MO w2 (w.heap.size + 2) g.like from fun g hg => ⟨own_kept (own_out (HM1.out g hg).l (by omega) 0 _) hb2, own_kept (own_out (HM1.out g hg).t (by omega) 0 _) hb2⟩); have HT2 := Lib.hid (show OwnL pcs 1 (w.heap.size + 2) 3 T v2 w2 from OwnL.mono ho2 (by simp; omega)); obtain ⟨a2, k2, rfl, -, -⟩ := OwnL.isL pcs_len (by decide) ho2; clear hb2 ho2 x0 f0 y1; have hx2 : w.heap.size < w2.heap.size := (by omega); have x1 := HX2.out.cell 1; have f1 := HX2.out.frozen 1; have y2 := (fun v => (HX2.out.set 1 v).cell 2); dsimp only [List.getElem?_cons_zero, List.getElem?_cons_succ, List.set] at x1 y2)
    | (go_at_call 36; (with_reducible refine (HL.out _ (HB2.out.setCell (Nat.le_refl _) _)).mono ?_); rintro e w3 ⟨⟨v3, rfl, ho3⟩, hb3⟩; have HB3 := Lib.hid ((HB2.out.setCell (Nat.le_refl _) _).trans (hb3.mono (HB2.out.setCell (Nat.le_refl _) _).size)); have HX3 := Lib.hid ((HX2.out.set 1 _).below hb3); have HY3 := Lib.hid ((HY2.out.other (Nat.succ_ne_self _) _).below hb3); have hz3 := hb3.size; (try simp at hz3); have HG3 := Lib.hid (own_kept (own_out HG2.out (by omega) 1 _) hb3); have HM3 := Lib.hid (show ∀ g ∈ C1, MO w3 (w.heap.size + 2) g.like from fun g hg => ⟨own_kept (own_out (HM2.out g hg).l (by omega) 1 _) hb3, own_kept (own_out (HM2.out g hg).t (by omega) 1 _) hb3⟩); have HT3 := Lib.hid (own_kept (own_out HT2.out (by omega) 1 _) hb3); have HL3 := Lib.hid (show OwnL irow 5 (w.heap.size + 2) 62 L v3 w3 from OwnL.mono ho3 (by simp; omega)); obtain ⟨a3, k3, rfl, -, -⟩ := OwnL.isL irow_len (by decide) ho3; clear hb3 ho3 x1 f1 y2; have hx3 : w.heap.size < w3.heap.size := (by omega); have x2 := HX3.out.cell 2; have f2 := HX3.out.frozen 2; have y6 := (fun v => (HX3.out.set 2 v).cell 6); dsimp only [List.getElem?_cons_zero, List.getElem?_cons_succ, List.set] at x2 y6)
    | (go_at_call 59; (with_reducible refine (HR.out _ (HB3.out.setCell (Nat.le_refl _) _)).mono ?_); rintro e w4 ⟨⟨v4, rfl, ho4⟩, hb4⟩; have HB4 := Lib.hid ((HB3.out.setCell (Nat.le_refl _) _).trans (hb4.mono (HB3.out.setCell (Nat.le_refl _) _).size)); have HX4 := Lib.hid ((HX3.out.set 2 _).below hb4); have HY4 := Lib.hid ((HY3.out.other (Nat.succ_ne_self _) _).below hb4); have hz4 := hb4.size; (try simp at hz4); have HG4 := Lib.hid (own_kept (own_out HG3.out (by omega) 2 _) hb4); have HM4 := Lib.hid (show ∀ g ∈ C1, MO w4 (w.heap.size + 2) g.like from fun g hg => ⟨own_kept (own_out (HM3.out g hg).l (by omega) 2 _) hb4, own_kept (own_out (HM3.out g hg).t (by omega) 2 _) hb4⟩); have HT4 := Lib.hid (own_kept (own_out HT3.out (by omega) 2 _) hb4); have HL4 := Lib.hid (own_kept (own_out HL3.out (by omega) 2 _) hb4); have HR4 := Lib.hid (show OwnL scs 1 (w.heap.size + 2) 9 R v4 w4 from OwnL.mono ho4 (by simp; omega)); obtain ⟨a4, k4, rfl, -, -⟩ := OwnL.isL scs_len (by decide) ho4; clear hb4 ho4 x2 f2 y6; have hx4 : w.heap.size < w4.heap.size := (by omega); have x6 := HX4.out.cell 6; have f6 := HX4.out.frozen 6; dsimp only [List.getElem?_cons_zero, List.getElem?_cons_succ, List.set] at x6)
    | ((with_reducible refine at_load (ty := 52) ?_); refine load_cells rfl 52 (.tmp 1) rfl w.heap.size 0 rfl [.slice a1 C1.length k1, .slice a2 T.length k2, .slice a3 L.length k3, .int .i64 z0, .int .i64 z1, .int .i64 z2, .slice a4 R.length k4, .int .i64 un, .int .i64 sh] _ Tryz.underlying52 rfl (by kernel_rfl) ((HX4.out.set 6 _).range 0 [.slice a1 C1.length k1, .slice a2 T.length k2, .slice a3 L.length k3, .int .i64 z0, .int .i64 z1, .int .i64 z2, .slice a4 R.length k4, .int .i64 un, .int .i64 sh] rfl) ?_)
    | ((with_reducible refine at_store (ty := 52) ?_); refine wpList_store_mid rfl 52 (.tmp 2) (.tmp 19) rfl (w.heap.size + 1) 0 _ rfl rfl ((HY4.out.other (Nat.succ_ne_self _) _).there 0 9 (Nat.le_of_ble_eq_true rfl)) (by kernel_rfl) (by rw [← Array.all_toList]; rfl) ?_; obtain ⟨W5, hW5⟩ : ∃ W5, W5 = (w4.setCell ⟨w.heap.size, 6, none⟩ (.slice a4 R.length k4)).setCells (w.heap.size + 1) 0 [.slice a1 C1.length k1, .slice a2 T.length k2, .slice a3 L.length k3, .int .i64 z0, .int .i64 z1, .int .i64 z2, .slice a4 R.length k4, .int .i64 un, .int .i64 sh] := ⟨_, rfl⟩; (show wpList _ _ _ _ _ ((w4.setCell ⟨w.heap.size, 6, none⟩ (.slice a4 R.length k4)).setCells (w.heap.size + 1) 0 [.slice a1 C1.length k1, .slice a2 T.length k2, .slice a3 L.length k3, .int .i64 z0, .int .i64 z1, .int .i64 z2, .slice a4 R.length k4, .int .i64 un, .int .i64 sh])); rw [← hW5]; have HO5 := Lib.hid (show Only [w.heap.size, w.heap.size + 1] w4 W5 from by rw [hW5]; exact Only.setCells (.inl (by simp)) ((Only.refl _ _).setCell (.inl (by simp)) _) _ _); have HY5 := Lib.hid (show Blk W5 (w.heap.size + 1) 52 [.slice a1 C1.length k1, .slice a2 T.length k2, .slice a3 L.length k3, .int .i64 z0, .int .i64 z1, .int .i64 z2, .slice a4 R.length k4, .int .i64 un, .int .i64 sh] from by rw [hW5]; exact (HY4.out.other (Nat.succ_ne_self _) _).setCells 0 _); clear hW5))
  have c0 := HY5.out.cell 0
  have c1 := HY5.out.cell 1
  have c2 := HY5.out.cell 2
  have c3 := HY5.out.cell 3
  have c4 := HY5.out.cell 4
  have c5 := HY5.out.cell 5
  have c6 := HY5.out.cell 6
  have c7 := HY5.out.cell 7
  have c8 := HY5.out.cell 8
  dsimp only [List.getElem?_cons_zero, List.getElem?_cons_succ] at c0 c1 c2 c3 c4 c5 c6 c7 c8
  have hk : ∀ {v : Value} {n k : Nat} {e : TypeId} {xs : List Value}, w4.ownsRow (w.heap.size + 2) e k v n xs → W5.ownsRow (w.heap.size + 2) e k v n xs := fun h =>
    own_same h fun g e => HO5.out.block g (own_lt h e).2 fun hh => by
      have := (own_lt h e).1
      simp at hh
      omega
  refine bodyPost_ret (v := .agg #[.slice a1 C1.length k1, .slice a2 T.length k2, .slice a3 L.length k3, .int .i64 z0, .int .i64 z1, .int .i64 z2, .slice a4 R.length k4, .int .i64 un, .int .i64 sh]) (by simp [results, Tryz.results35, go_sem, *]) rfl ⟨⟨⟨a1, C1, k1, a2, T, k2, a3, L, k3, z0, z1, z2, a4, R, k4, un, sh⟩, rfl, SOwn.less (B := w.heap.size + 2) ⟨hk HG4.out, fun g hg => ⟨hk (HM4.out g hg).l, hk (HM4.out g hg).t⟩, hk HT4.out, hk HL4.out, hk HR4.out⟩ (by omega), ⟨HC1.out, rfl, rfl, rfl, rfl, rfl, rfl, rfl, rfl⟩⟩, HO5.out.below HB4.out (by omega) (by simp)⟩
end Go.Proofs.YtmkdfcggjlhcpaaGreatDoor
namespace Go.Proofs.YtmkdfcggjlhcpaaGreatDoor
open Go.RowKit
set_option linter.unusedVariables false
set_option linter.unusedSimpArgs false
theorem own_blk {w : World} {B n c k : Nat} {a : Option Addr} {e : TypeId} {xs : List Value} (h : w.ownsRow B e k (.slice a n c) n xs) (hn : 0 < n) : ∃ z, a = some ⟨z, 0, none⟩ ∧ B ≤ z ∧ z < w.heap.size := by
  rcases h.2 with ⟨h1, h2⟩ | ⟨g, cap, cur, h1, h2⟩
  · omega
  · injection h1 with h1 _ _
    exact ⟨g, h1, own_lt h (by rw [h1]; rfl)⟩
theorem SOwn.tset {B : Nat} {s : St} {w : World} (h : SOwn B s w) {z j : Nat} {t : Int} (hz : s.ta = some ⟨z, 0, none⟩) (ht : s.T[j]? = some t) (v : Int) :
    SOwn B { s with T := s.T.set j v } (w.setCell ⟨z, j, none⟩ (.int .i64 v)) := by
  have hT := h.t
  unfold OwnL at hT
  rw [hz] at hT
  have tp := own_ty hT rfl
  have N : ∀ {q : Nat} {ty : TypeId}, TyAt w q ty → ty ≠ 3 → q ≠ z := fun hq hy => hq.ne tp hy
  refine ⟨own_same h.g fun q hq => Below.heap_setCell _ _ _ _ (N (own_ty h.g hq) (by decide)), fun m hm => ⟨own_same (h.m m hm).l fun q hq => Below.heap_setCell _ _ _ _ (N (own_ty (h.m m hm).l hq) (by decide)), own_same (h.m m hm).t fun q hq => Below.heap_setCell _ _ _ _ (N (own_ty (h.m m hm).t hq) (by decide))⟩, ?_, own_same h.i fun q hq => Below.heap_setCell _ _ _ _ (N (own_ty h.i hq) (by decide)), own_same h.r fun q hq => Below.heap_setCell _ _ _ _ (N (own_ty h.r hq) (by decide))⟩
  have h9 := (hT.stored (j * 1 + 0) (.int .i64 v)).1
  rw [flat_set pcs_len s.T j t v 0 (.int .i64 v) ht (by decide) rfl] at h9
  unfold OwnL
  dsimp only
  rw [hz, List.length_set]
  simpa using h9
theorem SOwn.iset {B : Nat} {s : St} {w : World} (h : SOwn B s w) {z k r : Nat} {x y : Ins} {v : Value} (hz : s.ia = some ⟨z, 0, none⟩) (hx : s.L[k]? = some x) (hr : r < 5) (e : irow y = (irow x).set r v) :
    SOwn B { s with L := s.L.set k y } (w.setCell ⟨z, k * 5 + r, none⟩ v) := by
  have hL := h.i
  unfold OwnL at hL
  rw [hz] at hL
  have tp := own_ty hL rfl
  have N : ∀ {q : Nat} {ty : TypeId}, TyAt w q ty → ty ≠ 62 → q ≠ z := fun hq hy => hq.ne tp hy
  refine ⟨own_same h.g fun q hq => Below.heap_setCell _ _ _ _ (N (own_ty h.g hq) (by decide)), fun m hm => ⟨own_same (h.m m hm).l fun q hq => Below.heap_setCell _ _ _ _ (N (own_ty (h.m m hm).l hq) (by decide)), own_same (h.m m hm).t fun q hq => Below.heap_setCell _ _ _ _ (N (own_ty (h.m m hm).t hq) (by decide))⟩, own_same h.t fun q hq => Below.heap_setCell _ _ _ _ (N (own_ty h.t hq) (by decide)), ?_, own_same h.r fun q hq => Below.heap_setCell _ _ _ _ (N (own_ty h.r hq) (by decide))⟩
  have h9 := (hL.stored (k * 5 + r) v).1
  rw [flat_set irow_len s.L k x y r v hx hr e] at h9
  unfold OwnL
  dsimp only
  rw [hz, List.length_set]
  exact h9
set_option maxRecDepth 100000 in
set_option maxHeartbeats 4000000 in
theorem grow_any (s : St) (B j : Nat) (t n : Int) (w : World) (h : SOwn B s w) (hB : B ≤ w.heap.size) (ht : s.T[j]? = some t) (h0 : -9223372036854775808 ≤ t + n) (h1 : t + n < 9223372036854775808) (hT : s.T.length ≤ 1000) :
    Calls Tryz.prog 37 #[.agg #[.slice s.ga s.C.length s.gk, .slice s.ta s.T.length s.tk, .slice s.ia s.L.length s.ik, .int .i64 s.c0, .int .i64 s.c1, .int .i64 s.c2, .slice s.ra s.R.length s.rk, .int .i64 s.un, .int .i64 s.sh], .int .i64 (j : Int), .int .i64 n] w fun e w' => e = .returned (.tuple #[]) ∧ SOwn B { s with T := s.T.set j (t + n) } w' ∧ ∃ z, s.ta = some ⟨z, 0, none⟩ ∧ B ≤ z ∧ Only [z] w w' := by
  have hlt := lt_at ht
  obtain ⟨z, hz, hBz, hzw⟩ := own_blk h.t (by omega)
  obtain ⟨a0, k0, e0, -, hR⟩ := OwnL.isL pcs_len (by decide) h.t
  injection e0 with e0 e1 e2
  clear e1 e2
  subst e0
  obtain ⟨b, off, hb, hbw, hc⟩ := hR (by omega)
  rw [hz] at hb
  obtain ⟨rfl, rfl⟩ : z = b ∧ 0 = off := by injection hb with hb; injection hb with h1 h2; exact ⟨h1, h2⟩
  have d0 := int_cell (hc j t ht)
  have hT2 := h.t
  unfold OwnL at hT2
  rw [hz] at hT2
  have hfz := hT2.frozenAt j
  have H := Lib.hid h
  have HS := Lib.hid (fun (o : Obj) (v : Int) => (h.tset hz ht v).mono (((Below.refl _ (w.setCell ⟨z, j, none⟩ (.int .i64 v)))).alloc (Nat.le_refl _) o))
  have k1 : IntKind.i64.wrap (t + n) = t + n := wrap_in h0 h1
  have Hz := Lib.hid hz
  rw [Nat.mul_one, Nat.zero_add] at d0
  clear h ht hR hc hb hT2
  obtain ⟨ga, C, gk, ta, T, tk, ia, L, ik, z0, z1, z2, ra, R, rk, un, sh⟩ := s
  dsimp only at H HS Hz hz hlt hT ⊢
  subst hz
  obtain ⟨M, hM⟩ : ∃ M, T.length = M := ⟨_, rfl⟩
  rw [hM] at hlt hT ⊢
  clear hM
  go_enter Tryz.func37, Tryz.ntmps37
  go_wp2
  go_end0
  have hon := ((Only.refl [z] w).setCell (p := ⟨z, j, none⟩) (.inl (List.mem_singleton.2 rfl)) (.int .i64 (t + n))).alloc (Obj.cells #[.slice ga C.length gk, .slice (some ⟨z, 0, none⟩) M tk, .slice ia L.length ik, .int .i64 z0, .int .i64 z1, .int .i64 z2, .slice ra R.length rk, .int .i64 un, .int .i64 sh] 52)
  exact ⟨rfl, HS.out _ (t + n), by first | exact ⟨z, rfl, hBz, hon⟩ | exact ⟨hBz, hon⟩ | exact hon⟩
end Go.Proofs.YtmkdfcggjlhcpaaGreatDoor
