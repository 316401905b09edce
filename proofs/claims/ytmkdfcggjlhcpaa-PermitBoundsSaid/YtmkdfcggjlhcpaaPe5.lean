/-
  The contract of permit.State.whyInst.
-/
import Derived.Test.YtmkdfcggjlhcpaaPe4
namespace Go.Proofs.Ytmkdfcggjlhcpaa
open Go.RowKit
set_option linter.unusedVariables false
set_option linter.unusedSimpArgs false

set_option maxRecDepth 100000 in
set_option maxHeartbeats 8000000 in
theorem whyi_any (s : St) (what nm : ByteArray) (n : Int) (w : World) (hI : StIn w s) (hO : StOk s) (hw : what = sClean ∨ what = sDelete) :
    Calls Try.prog 31 #[.agg #[.slice s.ga s.C.length s.gk, .slice s.ta s.T.length s.tk, .slice s.ia s.L.length s.ik, .int .i64 s.c0, .int .i64 s.c1, .int .i64 s.c2, .slice s.ra s.R.length s.rk, .int .i64 s.un, .int .i64 s.sh], .agg #[.string what, .string nm, .int .i64 n]] w fun e w' => e = .returned (.int .i64 (whyI s what nm)) ∧ Below w.heap.size w w' := by
  have hg16 := hO.g16
  have hlb := hO.lb
  have HZ0 := Lib.hid (fun (o : Obj) => World.size_alloc w o)
  cases hf : fndI s.L nm with
  | none =>
    have HF := Lib.hid (fun V (hV : Below w.heap.size w V) => pfind_none s nm V (hI.mono hV) (by omega) hf)
    rw [show whyI s what nm = 16 by unfold whyI; rw [hf]]
    clear hI hO hf hw
    obtain ⟨ga, C, gk, ta, T, tk, ia, L, ik, z0, z1, z2, ra, R, rk, un, sh⟩ := s
    dsimp only at *
    obtain ⟨N, hN⟩ : ∃ N, C.length = N := ⟨_, rfl⟩
    obtain ⟨M, hM⟩ : ∃ M, T.length = M := ⟨_, rfl⟩
    obtain ⟨m, hm⟩ : ∃ m, L.length = m := ⟨_, rfl⟩
    obtain ⟨Nr, hNr⟩ : ∃ Nr, R.length = Nr := ⟨_, rfl⟩
    simp only [hN, hM, hm, hNr] at *
    clear hN hM hm hNr
    go_enter Try.func31, Try.ntmps31
    go_wp2_with (go_at_call 19; (with_reducible refine (HF.out _ (by (repeat' (first | with_reducible exact Below.refl _ _ | with_reducible assumption | with_reducible refine Below.drew ?_ | with_reducible refine below_drewN' ?_ _ | with_reducible refine Below.alloc ?_ ?_ _ | with_reducible refine Below.setCell ?_ ?_ _ | with_reducible refine below_step (by assumption) ?_ ?_ | omega | (simp; done) | (simp; omega))))).mono ?_); rintro e w1 ⟨rfl, hb1⟩; have HB1 := Lib.hid (show Below w.heap.size w w1 by (repeat' (first | with_reducible exact Below.refl _ _ | with_reducible assumption | with_reducible refine Below.drew ?_ | with_reducible refine below_drewN' ?_ _ | with_reducible refine Below.alloc ?_ ?_ _ | with_reducible refine Below.setCell ?_ ?_ _ | with_reducible refine below_step (by assumption) ?_ ?_ | omega | (simp; done) | (simp; omega)))); have HS1 := Lib.hid (((Blk.new w 33 [.slice _ N gk, .slice ta M tk, .slice _ m ik, .int .i64 z0, .int .i64 z1, .int .i64 z2, .slice ra Nr rk, .int .i64 un, .int .i64 sh]).alloc _).below hb1); have HC1 := Lib.hid ((Blk.new (w.alloc _) 39 [.string what, .string nm, .int .i64 n]).below hb1); rw [HZ0.out] at HC1; have hz1 := hb1.size; (try simp at hz1); have hy1 : w.heap.size < w1.heap.size := (by omega); have hx1 : w.heap.size + 1 < w1.heap.size := (by omega); have s0 := HS1.out.cell 0; have s1 := HS1.out.cell 1; have s2 := HS1.out.cell 2; have s3 := HS1.out.cell 3; have s4 := HS1.out.cell 4; have s5 := HS1.out.cell 5; have s6 := HS1.out.cell 6; have s7 := HS1.out.cell 7; have s8 := HS1.out.cell 8; have r0 := HC1.out.cell 0; have r1 := HC1.out.cell 1; have r2 := HC1.out.cell 2; dsimp only [List.getElem?_cons_zero, List.getElem?_cons_succ] at s0 s1 s2 s3 s4 s5 s6 s7 s8 r0 r1 r2; clear hb1)
    go_ret
    exact ⟨rfl, HB1.out⟩
  | some k =>
  obtain ⟨x, hx, hxn⟩ := fndI_lt hf
  cases hg : fndK s.G x.gp with
  | none =>
    have HF := Lib.hid (fun V (hV : Below w.heap.size w V) => pfind_some s nm k x (-1) V (hI.mono hV) (by omega) hf hx (findA_none hg) (by omega))
    rw [show whyI s what nm = 16 by unfold whyI; rw [hf]; dsimp only; rw [hx]; dsimp only; rw [hg]]
    clear hI hO hf hw hx hg hxn
    obtain ⟨ga, C, gk, ta, T, tk, ia, L, ik, z0, z1, z2, ra, R, rk, un, sh⟩ := s
    dsimp only at *
    obtain ⟨N, hN⟩ : ∃ N, C.length = N := ⟨_, rfl⟩
    obtain ⟨M, hM⟩ : ∃ M, T.length = M := ⟨_, rfl⟩
    obtain ⟨m, hm⟩ : ∃ m, L.length = m := ⟨_, rfl⟩
    obtain ⟨Nr, hNr⟩ : ∃ Nr, R.length = Nr := ⟨_, rfl⟩
    simp only [hN, hM, hm, hNr] at *
    clear hN hM hm hNr
    go_enter Try.func31, Try.ntmps31
    go_wp2_with (go_at_call 19; (with_reducible refine (HF.out _ (by (repeat' (first | with_reducible exact Below.refl _ _ | with_reducible assumption | with_reducible refine Below.drew ?_ | with_reducible refine below_drewN' ?_ _ | with_reducible refine Below.alloc ?_ ?_ _ | with_reducible refine Below.setCell ?_ ?_ _ | with_reducible refine below_step (by assumption) ?_ ?_ | omega | (simp; done) | (simp; omega))))).mono ?_); rintro e w1 ⟨rfl, hb1⟩; have HB1 := Lib.hid (show Below w.heap.size w w1 by (repeat' (first | with_reducible exact Below.refl _ _ | with_reducible assumption | with_reducible refine Below.drew ?_ | with_reducible refine below_drewN' ?_ _ | with_reducible refine Below.alloc ?_ ?_ _ | with_reducible refine Below.setCell ?_ ?_ _ | with_reducible refine below_step (by assumption) ?_ ?_ | omega | (simp; done) | (simp; omega)))); have HS1 := Lib.hid (((Blk.new w 33 [.slice _ N gk, .slice ta M tk, .slice _ m ik, .int .i64 z0, .int .i64 z1, .int .i64 z2, .slice ra Nr rk, .int .i64 un, .int .i64 sh]).alloc _).below hb1); have HC1 := Lib.hid ((Blk.new (w.alloc _) 39 [.string what, .string nm, .int .i64 n]).below hb1); rw [HZ0.out] at HC1; have hz1 := hb1.size; (try simp at hz1); have hy1 : w.heap.size < w1.heap.size := (by omega); have hx1 : w.heap.size + 1 < w1.heap.size := (by omega); have s0 := HS1.out.cell 0; have s1 := HS1.out.cell 1; have s2 := HS1.out.cell 2; have s3 := HS1.out.cell 3; have s4 := HS1.out.cell 4; have s5 := HS1.out.cell 5; have s6 := HS1.out.cell 6; have s7 := HS1.out.cell 7; have s8 := HS1.out.cell 8; have r0 := HC1.out.cell 0; have r1 := HC1.out.cell 1; have r2 := HC1.out.cell 2; dsimp only [List.getElem?_cons_zero, List.getElem?_cons_succ] at s0 s1 s2 s3 s4 s5 s6 s7 s8 r0 r1 r2; clear hb1)
    go_ret
    exact ⟨rfl, HB1.out⟩
  | some j =>
    have HF := Lib.hid (fun V (hV : Below w.heap.size w V) => pfind_some s nm k x j V (hI.mono hV) (by omega) hf hx (findA_some hg) (by omega))
    rw [decide_eq_true (show (0 : Int) ≤ (j : Int) by omega)] at HF
    obtain ⟨g, hgj⟩ : ∃ g, s.C[j]? = some g := by
      obtain ⟨g0, hg0, -⟩ := fndK_lt hg
      unfold St.G at hg0
      rw [List.getElem?_map] at hg0
      cases h : s.C[j]? with
      | none => rw [h] at hg0; cases hg0
      | some g => exact ⟨g, rfl⟩
    have hjn := lt_at hgj
    have hkl := lt_at hx
    have hlt := hO.lt
    obtain ⟨t, ht⟩ := mem_at (l := s.T) (k := j) (by omega)
    have hR : whyI s what nm = whyV (decide (what = sClean)) x.st s.un s.sh t g.mn := by
      unfold whyI
      rw [hf]
      dsimp only
      rw [hx]
      dsimp only
      rw [hg]
      dsimp only
      rw [hgj, ht]
    rw [hR]
    have HTg := Lib.hid (fun V (hV : Below w.heap.size w V) => ptarget_any s j t V (hI.mono hV) ht (by omega))
    obtain ⟨b2, o2, hb2, hbw2, hc2⟩ := hI.g (by omega)
    obtain ⟨-, x1, -⟩ := grow_cells (hc2 j g hgj)
    obtain ⟨b1, o1, hb1, hbw1, hc1⟩ := hI.i (by omega)
    obtain ⟨-, -, d2, -⟩ := irow_cells (hc1 k x hx)
    obtain ⟨mn, hmn⟩ : ∃ mn, g.mn = mn := ⟨_, rfl⟩
    obtain ⟨st, hst⟩ : ∃ st, x.st = st := ⟨_, rfl⟩
    rw [hmn] at x1 ⊢
    rw [hst] at d2 ⊢
    clear hI hO hf hx hg hxn hgj hlt ht hR hc2 hc1 hmn hst
    obtain ⟨ga, C, gk, ta, T, tk, ia, L, ik, z0, z1, z2, ra, R, rk, un, sh⟩ := s
    dsimp only at *
    obtain ⟨N, hN⟩ : ∃ N, C.length = N := ⟨_, rfl⟩
    obtain ⟨M, hM⟩ : ∃ M, T.length = M := ⟨_, rfl⟩
    obtain ⟨m, hm⟩ : ∃ m, L.length = m := ⟨_, rfl⟩
    obtain ⟨Nr, hNr⟩ : ∃ Nr, R.length = Nr := ⟨_, rfl⟩
    simp only [hN, hM, hm, hNr] at *
    clear hN hM hm hNr
    subst hb2
    subst hb1
    unfold whyV
    by_cases h3 : st = 3
    · subst h3
      rw [if_pos rfl]
      clear hw
      go_enter Try.func31, Try.ntmps31
      go_wp2_with (go_at_call 19; (with_reducible refine (HF.out _ (by (repeat' (first | with_reducible exact Below.refl _ _ | with_reducible assumption | with_reducible refine Below.drew ?_ | with_reducible refine below_drewN' ?_ _ | with_reducible refine Below.alloc ?_ ?_ _ | with_reducible refine Below.setCell ?_ ?_ _ | with_reducible refine below_step (by assumption) ?_ ?_ | omega | (simp; done) | (simp; omega))))).mono ?_); rintro e w1 ⟨rfl, hb1⟩; have HB1 := Lib.hid (show Below w.heap.size w w1 by (repeat' (first | with_reducible exact Below.refl _ _ | with_reducible assumption | with_reducible refine Below.drew ?_ | with_reducible refine below_drewN' ?_ _ | with_reducible refine Below.alloc ?_ ?_ _ | with_reducible refine Below.setCell ?_ ?_ _ | with_reducible refine below_step (by assumption) ?_ ?_ | omega | (simp; done) | (simp; omega)))); have HS1 := Lib.hid (((Blk.new w 33 [.slice _ N gk, .slice ta M tk, .slice _ m ik, .int .i64 z0, .int .i64 z1, .int .i64 z2, .slice ra Nr rk, .int .i64 un, .int .i64 sh]).alloc _).below hb1); have HC1 := Lib.hid ((Blk.new (w.alloc _) 39 [.string what, .string nm, .int .i64 n]).below hb1); rw [HZ0.out] at HC1; have hz1 := hb1.size; (try simp at hz1); have hy1 : w.heap.size < w1.heap.size := (by omega); have hx1 : w.heap.size + 1 < w1.heap.size := (by omega); have s0 := HS1.out.cell 0; have s1 := HS1.out.cell 1; have s2 := HS1.out.cell 2; have s3 := HS1.out.cell 3; have s4 := HS1.out.cell 4; have s5 := HS1.out.cell 5; have s6 := HS1.out.cell 6; have s7 := HS1.out.cell 7; have s8 := HS1.out.cell 8; have r0 := HC1.out.cell 0; have r1 := HC1.out.cell 1; have r2 := HC1.out.cell 2; dsimp only [List.getElem?_cons_zero, List.getElem?_cons_succ] at s0 s1 s2 s3 s4 s5 s6 s7 s8 r0 r1 r2; have e1 := (HB1.out.cell (p := ⟨b1, o1 + k * 5 + 2, none⟩) hbw1).trans d2; have e2 := (HB1.out.cell (p := ⟨b2, o2 + j * 15 + 1, none⟩) hbw2).trans x1; have hv1 : b1 < w1.heap.size := Nat.lt_of_lt_of_le hbw1 HB1.out.size; have hv2 : b2 < w1.heap.size := Nat.lt_of_lt_of_le hbw2 HB1.out.size; clear hb1)
      go_ret
      exact ⟨rfl, HB1.out⟩
    have k3 : (st == 3) = false := by rw [beq_eq_false_iff_ne]; exact h3
    rw [if_neg h3]
    rcases hw with hw | hw
    · rw [decide_eq_true hw, if_pos rfl]
      have q1 : (what.toList == [99, 108, 101, 97, 110]) = true := plit_yes hw
      have q2 : (what.toList == [100, 101, 108, 101, 116, 101]) = false := plit_no (by rw [hw]; decide)
      by_cases h4 : st = 4 ∨ st = 1 ∨ st = 2
      · rw [if_pos h4]
        have hk : ((st != 4) = false) ∨ ((st != 4) = true ∧ (st != 1) = false) ∨ ((st != 4) = true ∧ (st != 1) = true ∧ (st != 2) = false) := by
          rcases h4 with rfl | rfl | rfl
          · exact .inl rfl
          · exact .inr (.inl ⟨rfl, rfl⟩)
          · exact .inr (.inr ⟨rfl, rfl, rfl⟩)
        clear hw h3 h4
        rcases hk with k4 | ⟨k4, k5⟩ | ⟨k4, k5, k6⟩
        all_goals
          go_enter Try.func31, Try.ntmps31
          go_wp2_with (go_at_call 19; (with_reducible refine (HF.out _ (by (repeat' (first | with_reducible exact Below.refl _ _ | with_reducible assumption | with_reducible refine Below.drew ?_ | with_reducible refine below_drewN' ?_ _ | with_reducible refine Below.alloc ?_ ?_ _ | with_reducible refine Below.setCell ?_ ?_ _ | with_reducible refine below_step (by assumption) ?_ ?_ | omega | (simp; done) | (simp; omega))))).mono ?_); rintro e w1 ⟨rfl, hb1⟩; have HB1 := Lib.hid (show Below w.heap.size w w1 by (repeat' (first | with_reducible exact Below.refl _ _ | with_reducible assumption | with_reducible refine Below.drew ?_ | with_reducible refine below_drewN' ?_ _ | with_reducible refine Below.alloc ?_ ?_ _ | with_reducible refine Below.setCell ?_ ?_ _ | with_reducible refine below_step (by assumption) ?_ ?_ | omega | (simp; done) | (simp; omega)))); have HS1 := Lib.hid (((Blk.new w 33 [.slice _ N gk, .slice ta M tk, .slice _ m ik, .int .i64 z0, .int .i64 z1, .int .i64 z2, .slice ra Nr rk, .int .i64 un, .int .i64 sh]).alloc _).below hb1); have HC1 := Lib.hid ((Blk.new (w.alloc _) 39 [.string what, .string nm, .int .i64 n]).below hb1); rw [HZ0.out] at HC1; have hz1 := hb1.size; (try simp at hz1); have hy1 : w.heap.size < w1.heap.size := (by omega); have hx1 : w.heap.size + 1 < w1.heap.size := (by omega); have s0 := HS1.out.cell 0; have s1 := HS1.out.cell 1; have s2 := HS1.out.cell 2; have s3 := HS1.out.cell 3; have s4 := HS1.out.cell 4; have s5 := HS1.out.cell 5; have s6 := HS1.out.cell 6; have s7 := HS1.out.cell 7; have s8 := HS1.out.cell 8; have r0 := HC1.out.cell 0; have r1 := HC1.out.cell 1; have r2 := HC1.out.cell 2; dsimp only [List.getElem?_cons_zero, List.getElem?_cons_succ] at s0 s1 s2 s3 s4 s5 s6 s7 s8 r0 r1 r2; have e1 := (HB1.out.cell (p := ⟨b1, o1 + k * 5 + 2, none⟩) hbw1).trans d2; have e2 := (HB1.out.cell (p := ⟨b2, o2 + j * 15 + 1, none⟩) hbw2).trans x1; have hv1 : b1 < w1.heap.size := Nat.lt_of_lt_of_le hbw1 HB1.out.size; have hv2 : b2 < w1.heap.size := Nat.lt_of_lt_of_le hbw2 HB1.out.size; clear hb1)
          have HRs := Lib.hid (show w1.rangeAt w.heap.size 0 [.slice (some ⟨b2, o2, none⟩) N gk, .slice ta M tk, .slice (some ⟨b1, o1, none⟩) m ik, .int .i64 z0, .int .i64 z1, .int .i64 z2, .slice ra Nr rk, .int .i64 un, .int .i64 sh] from HS1.out.range 0 _ rfl)
          have hcH := held_cell
          refine region_rel (by kernel_rfl) (by kernel_rfl) ?_
          repeat
            ((with_reducible refine relStep (fun K hK => ?_))
             (have HK := Lib.hid hK)
             clear hK
             (apply relInl
              · intro r n hf
                have Hf := Lib.hid hf
                clear hf
                (first
                  | (((with_reducible refine at_rel (ty := 33) ?_); refine rel_load rfl w.heap.size 0 rfl [.slice (some ⟨b2, o2, none⟩) N gk, .slice ta M tk, .slice (some ⟨b1, o1, none⟩) m ik, .int .i64 z0, .int .i64 z1, .int .i64 z2, .slice ra Nr rk, .int .i64 un, .int .i64 sh] _ Try.underlying33 rfl (by kernel_rfl) (rangeAt_mono HRs.out hy1 n.below) rfl))
                  | (unfold relAt
                     go_simp
                     (first | (refine relUpon_val ?_ (Below.refl _ _); exact rfl) | exact rfl | (refine relUpon_enter ?_; (go_at_call 20; (with_reducible refine (HTg.out _ (HB1.out.trans (n.below.mono HB1.out.size))).mono ?_); rintro e w9 ⟨rfl, hb⟩; exact ⟨⟨_, rfl, rfl⟩, hb⟩)))))
              (simp only [Act.put, List.setIfInBounds_toArray, List.set_cons_zero, List.set_cons_succ])
              (with_reducible refine HK.out _ _ ?_)
              clear HK K))
          refine relNil ?_
          intro r9 n9 hx9
          clear hcH
          (try simp only [List.nil_append, List.cons_append, List.mem_cons, List.not_mem_nil, or_false, forall_eq_or_imp, forall_eq, false_implies, implies_true] at hx9)
          obtain ⟨w9, hb9⟩ := n9
          (try dsimp only)
          obtain ⟨hc9, hf9⟩ := bcell hb9
          have hz9 := hb9.size
          (try simp at hz9)
          have HB9 := Lib.hid (HB1.out.trans (hb9.mono HB1.out.size))
          clear hc9 hf9
          go_wp2
          go_ret
          exact ⟨rfl, HB9.out⟩
      · rw [if_neg h4]
        have k4 : (st != 4) = true := by simp; omega
        have k5 : (st != 1) = true := by simp; omega
        have k6 : (st != 2) = true := by simp; omega
        clear hw h3 h4
        go_enter Try.func31, Try.ntmps31
        go_wp2_with (go_at_call 19; (with_reducible refine (HF.out _ (by (repeat' (first | with_reducible exact Below.refl _ _ | with_reducible assumption | with_reducible refine Below.drew ?_ | with_reducible refine below_drewN' ?_ _ | with_reducible refine Below.alloc ?_ ?_ _ | with_reducible refine Below.setCell ?_ ?_ _ | with_reducible refine below_step (by assumption) ?_ ?_ | omega | (simp; done) | (simp; omega))))).mono ?_); rintro e w1 ⟨rfl, hb1⟩; have HB1 := Lib.hid (show Below w.heap.size w w1 by (repeat' (first | with_reducible exact Below.refl _ _ | with_reducible assumption | with_reducible refine Below.drew ?_ | with_reducible refine below_drewN' ?_ _ | with_reducible refine Below.alloc ?_ ?_ _ | with_reducible refine Below.setCell ?_ ?_ _ | with_reducible refine below_step (by assumption) ?_ ?_ | omega | (simp; done) | (simp; omega)))); have HS1 := Lib.hid (((Blk.new w 33 [.slice _ N gk, .slice ta M tk, .slice _ m ik, .int .i64 z0, .int .i64 z1, .int .i64 z2, .slice ra Nr rk, .int .i64 un, .int .i64 sh]).alloc _).below hb1); have HC1 := Lib.hid ((Blk.new (w.alloc _) 39 [.string what, .string nm, .int .i64 n]).below hb1); rw [HZ0.out] at HC1; have hz1 := hb1.size; (try simp at hz1); have hy1 : w.heap.size < w1.heap.size := (by omega); have hx1 : w.heap.size + 1 < w1.heap.size := (by omega); have s0 := HS1.out.cell 0; have s1 := HS1.out.cell 1; have s2 := HS1.out.cell 2; have s3 := HS1.out.cell 3; have s4 := HS1.out.cell 4; have s5 := HS1.out.cell 5; have s6 := HS1.out.cell 6; have s7 := HS1.out.cell 7; have s8 := HS1.out.cell 8; have r0 := HC1.out.cell 0; have r1 := HC1.out.cell 1; have r2 := HC1.out.cell 2; dsimp only [List.getElem?_cons_zero, List.getElem?_cons_succ] at s0 s1 s2 s3 s4 s5 s6 s7 s8 r0 r1 r2; have e1 := (HB1.out.cell (p := ⟨b1, o1 + k * 5 + 2, none⟩) hbw1).trans d2; have e2 := (HB1.out.cell (p := ⟨b2, o2 + j * 15 + 1, none⟩) hbw2).trans x1; have hv1 : b1 < w1.heap.size := Nat.lt_of_lt_of_le hbw1 HB1.out.size; have hv2 : b2 < w1.heap.size := Nat.lt_of_lt_of_le hbw2 HB1.out.size; clear hb1)
        go_ret
        exact ⟨rfl, HB1.out⟩
    · rw [decide_eq_false (show ¬ what = sClean by rw [hw]; decide), if_neg (by decide)]
      have q1 : (what.toList == [99, 108, 101, 97, 110]) = false := plit_no (by rw [hw]; decide)
      have q2 : (what.toList == [100, 101, 108, 101, 116, 101]) = true := plit_yes hw
      clear hw
      by_cases h2 : st = 2
      · have k2 : (st != 2) = false := by rw [h2]; rfl
        by_cases h5 : sh < un
        · have k5 : decide (sh < un) = true := decide_eq_true h5
          rw [if_pos (.inr h5)]
          clear h2 h3 h5
          go_enter Try.func31, Try.ntmps31
          go_wp2_with (go_at_call 19; (with_reducible refine (HF.out _ (by (repeat' (first | with_reducible exact Below.refl _ _ | with_reducible assumption | with_reducible refine Below.drew ?_ | with_reducible refine below_drewN' ?_ _ | with_reducible refine Below.alloc ?_ ?_ _ | with_reducible refine Below.setCell ?_ ?_ _ | with_reducible refine below_step (by assumption) ?_ ?_ | omega | (simp; done) | (simp; omega))))).mono ?_); rintro e w1 ⟨rfl, hb1⟩; have HB1 := Lib.hid (show Below w.heap.size w w1 by (repeat' (first | with_reducible exact Below.refl _ _ | with_reducible assumption | with_reducible refine Below.drew ?_ | with_reducible refine below_drewN' ?_ _ | with_reducible refine Below.alloc ?_ ?_ _ | with_reducible refine Below.setCell ?_ ?_ _ | with_reducible refine below_step (by assumption) ?_ ?_ | omega | (simp; done) | (simp; omega)))); have HS1 := Lib.hid (((Blk.new w 33 [.slice _ N gk, .slice ta M tk, .slice _ m ik, .int .i64 z0, .int .i64 z1, .int .i64 z2, .slice ra Nr rk, .int .i64 un, .int .i64 sh]).alloc _).below hb1); have HC1 := Lib.hid ((Blk.new (w.alloc _) 39 [.string what, .string nm, .int .i64 n]).below hb1); rw [HZ0.out] at HC1; have hz1 := hb1.size; (try simp at hz1); have hy1 : w.heap.size < w1.heap.size := (by omega); have hx1 : w.heap.size + 1 < w1.heap.size := (by omega); have s0 := HS1.out.cell 0; have s1 := HS1.out.cell 1; have s2 := HS1.out.cell 2; have s3 := HS1.out.cell 3; have s4 := HS1.out.cell 4; have s5 := HS1.out.cell 5; have s6 := HS1.out.cell 6; have s7 := HS1.out.cell 7; have s8 := HS1.out.cell 8; have r0 := HC1.out.cell 0; have r1 := HC1.out.cell 1; have r2 := HC1.out.cell 2; dsimp only [List.getElem?_cons_zero, List.getElem?_cons_succ] at s0 s1 s2 s3 s4 s5 s6 s7 s8 r0 r1 r2; have e1 := (HB1.out.cell (p := ⟨b1, o1 + k * 5 + 2, none⟩) hbw1).trans d2; have e2 := (HB1.out.cell (p := ⟨b2, o2 + j * 15 + 1, none⟩) hbw2).trans x1; have hv1 : b1 < w1.heap.size := Nat.lt_of_lt_of_le hbw1 HB1.out.size; have hv2 : b2 < w1.heap.size := Nat.lt_of_lt_of_le hbw2 HB1.out.size; clear hb1)
          go_ret
          exact ⟨rfl, HB1.out⟩
        · have k5 : decide (sh < un) = false := decide_eq_false h5
          rw [if_neg (by omega)]
          by_cases h6 : t ≤ mn
          · have k6 : decide (t ≤ mn) = true := decide_eq_true h6
            rw [if_pos h6]
            clear h2 h3 h5 h6
            go_enter Try.func31, Try.ntmps31
            go_wp2_with (go_at_call 19; (with_reducible refine (HF.out _ (by (repeat' (first | with_reducible exact Below.refl _ _ | with_reducible assumption | with_reducible refine Below.drew ?_ | with_reducible refine below_drewN' ?_ _ | with_reducible refine Below.alloc ?_ ?_ _ | with_reducible refine Below.setCell ?_ ?_ _ | with_reducible refine below_step (by assumption) ?_ ?_ | omega | (simp; done) | (simp; omega))))).mono ?_); rintro e w1 ⟨rfl, hb1⟩; have HB1 := Lib.hid (show Below w.heap.size w w1 by (repeat' (first | with_reducible exact Below.refl _ _ | with_reducible assumption | with_reducible refine Below.drew ?_ | with_reducible refine below_drewN' ?_ _ | with_reducible refine Below.alloc ?_ ?_ _ | with_reducible refine Below.setCell ?_ ?_ _ | with_reducible refine below_step (by assumption) ?_ ?_ | omega | (simp; done) | (simp; omega)))); have HS1 := Lib.hid (((Blk.new w 33 [.slice _ N gk, .slice ta M tk, .slice _ m ik, .int .i64 z0, .int .i64 z1, .int .i64 z2, .slice ra Nr rk, .int .i64 un, .int .i64 sh]).alloc _).below hb1); have HC1 := Lib.hid ((Blk.new (w.alloc _) 39 [.string what, .string nm, .int .i64 n]).below hb1); rw [HZ0.out] at HC1; have hz1 := hb1.size; (try simp at hz1); have hy1 : w.heap.size < w1.heap.size := (by omega); have hx1 : w.heap.size + 1 < w1.heap.size := (by omega); have s0 := HS1.out.cell 0; have s1 := HS1.out.cell 1; have s2 := HS1.out.cell 2; have s3 := HS1.out.cell 3; have s4 := HS1.out.cell 4; have s5 := HS1.out.cell 5; have s6 := HS1.out.cell 6; have s7 := HS1.out.cell 7; have s8 := HS1.out.cell 8; have r0 := HC1.out.cell 0; have r1 := HC1.out.cell 1; have r2 := HC1.out.cell 2; dsimp only [List.getElem?_cons_zero, List.getElem?_cons_succ] at s0 s1 s2 s3 s4 s5 s6 s7 s8 r0 r1 r2; have e1 := (HB1.out.cell (p := ⟨b1, o1 + k * 5 + 2, none⟩) hbw1).trans d2; have e2 := (HB1.out.cell (p := ⟨b2, o2 + j * 15 + 1, none⟩) hbw2).trans x1; have hv1 : b1 < w1.heap.size := Nat.lt_of_lt_of_le hbw1 HB1.out.size; have hv2 : b2 < w1.heap.size := Nat.lt_of_lt_of_le hbw2 HB1.out.size; clear hb1)
            have HRs := Lib.hid (show w1.rangeAt w.heap.size 0 [.slice (some ⟨b2, o2, none⟩) N gk, .slice ta M tk, .slice (some ⟨b1, o1, none⟩) m ik, .int .i64 z0, .int .i64 z1, .int .i64 z2, .slice ra Nr rk, .int .i64 un, .int .i64 sh] from HS1.out.range 0 _ rfl)
            have hcH := held_cell
            refine region_rel (by kernel_rfl) (by kernel_rfl) ?_
            repeat
              ((with_reducible refine relStep (fun K hK => ?_))
               (have HK := Lib.hid hK)
               clear hK
               (apply relInl
                · intro r n hf
                  have Hf := Lib.hid hf
                  clear hf
                  (first
                    | (((with_reducible refine at_rel (ty := 33) ?_); refine rel_load rfl w.heap.size 0 rfl [.slice (some ⟨b2, o2, none⟩) N gk, .slice ta M tk, .slice (some ⟨b1, o1, none⟩) m ik, .int .i64 z0, .int .i64 z1, .int .i64 z2, .slice ra Nr rk, .int .i64 un, .int .i64 sh] _ Try.underlying33 rfl (by kernel_rfl) (rangeAt_mono HRs.out hy1 n.below) rfl))
                    | (unfold relAt
                       go_simp
                       (first | (refine relUpon_val ?_ (Below.refl _ _); exact rfl) | exact rfl | (refine relUpon_enter ?_; (go_at_call 20; (with_reducible refine (HTg.out _ (HB1.out.trans (n.below.mono HB1.out.size))).mono ?_); rintro e w9 ⟨rfl, hb⟩; exact ⟨⟨_, rfl, rfl⟩, hb⟩)))))
                (simp only [Act.put, List.setIfInBounds_toArray, List.set_cons_zero, List.set_cons_succ])
                (with_reducible refine HK.out _ _ ?_)
                clear HK K))
            refine relNil ?_
            intro r9 n9 hx9
            clear hcH
            (try simp only [List.nil_append, List.cons_append, List.mem_cons, List.not_mem_nil, or_false, forall_eq_or_imp, forall_eq, false_implies, implies_true] at hx9)
            obtain ⟨w9, hb9⟩ := n9
            (try dsimp only)
            obtain ⟨hc9, hf9⟩ := bcell hb9
            have hz9 := hb9.size
            (try simp at hz9)
            have HB9 := Lib.hid (HB1.out.trans (hb9.mono HB1.out.size))
            clear hc9 hf9
            go_wp2
            go_ret
            exact ⟨rfl, HB9.out⟩
          · have k6 : decide (t ≤ mn) = false := decide_eq_false h6
            rw [if_neg h6]
            clear h2 h3 h5 h6
            go_enter Try.func31, Try.ntmps31
            go_wp2_with (go_at_call 19; (with_reducible refine (HF.out _ (by (repeat' (first | with_reducible exact Below.refl _ _ | with_reducible assumption | with_reducible refine Below.drew ?_ | with_reducible refine below_drewN' ?_ _ | with_reducible refine Below.alloc ?_ ?_ _ | with_reducible refine Below.setCell ?_ ?_ _ | with_reducible refine below_step (by assumption) ?_ ?_ | omega | (simp; done) | (simp; omega))))).mono ?_); rintro e w1 ⟨rfl, hb1⟩; have HB1 := Lib.hid (show Below w.heap.size w w1 by (repeat' (first | with_reducible exact Below.refl _ _ | with_reducible assumption | with_reducible refine Below.drew ?_ | with_reducible refine below_drewN' ?_ _ | with_reducible refine Below.alloc ?_ ?_ _ | with_reducible refine Below.setCell ?_ ?_ _ | with_reducible refine below_step (by assumption) ?_ ?_ | omega | (simp; done) | (simp; omega)))); have HS1 := Lib.hid (((Blk.new w 33 [.slice _ N gk, .slice ta M tk, .slice _ m ik, .int .i64 z0, .int .i64 z1, .int .i64 z2, .slice ra Nr rk, .int .i64 un, .int .i64 sh]).alloc _).below hb1); have HC1 := Lib.hid ((Blk.new (w.alloc _) 39 [.string what, .string nm, .int .i64 n]).below hb1); rw [HZ0.out] at HC1; have hz1 := hb1.size; (try simp at hz1); have hy1 : w.heap.size < w1.heap.size := (by omega); have hx1 : w.heap.size + 1 < w1.heap.size := (by omega); have s0 := HS1.out.cell 0; have s1 := HS1.out.cell 1; have s2 := HS1.out.cell 2; have s3 := HS1.out.cell 3; have s4 := HS1.out.cell 4; have s5 := HS1.out.cell 5; have s6 := HS1.out.cell 6; have s7 := HS1.out.cell 7; have s8 := HS1.out.cell 8; have r0 := HC1.out.cell 0; have r1 := HC1.out.cell 1; have r2 := HC1.out.cell 2; dsimp only [List.getElem?_cons_zero, List.getElem?_cons_succ] at s0 s1 s2 s3 s4 s5 s6 s7 s8 r0 r1 r2; have e1 := (HB1.out.cell (p := ⟨b1, o1 + k * 5 + 2, none⟩) hbw1).trans d2; have e2 := (HB1.out.cell (p := ⟨b2, o2 + j * 15 + 1, none⟩) hbw2).trans x1; have hv1 : b1 < w1.heap.size := Nat.lt_of_lt_of_le hbw1 HB1.out.size; have hv2 : b2 < w1.heap.size := Nat.lt_of_lt_of_le hbw2 HB1.out.size; clear hb1)
            have HRs := Lib.hid (show w1.rangeAt w.heap.size 0 [.slice (some ⟨b2, o2, none⟩) N gk, .slice ta M tk, .slice (some ⟨b1, o1, none⟩) m ik, .int .i64 z0, .int .i64 z1, .int .i64 z2, .slice ra Nr rk, .int .i64 un, .int .i64 sh] from HS1.out.range 0 _ rfl)
            have hcH := held_cell
            refine region_rel (by kernel_rfl) (by kernel_rfl) ?_
            repeat
              ((with_reducible refine relStep (fun K hK => ?_))
               (have HK := Lib.hid hK)
               clear hK
               (apply relInl
                · intro r n hf
                  have Hf := Lib.hid hf
                  clear hf
                  (first
                    | (((with_reducible refine at_rel (ty := 33) ?_); refine rel_load rfl w.heap.size 0 rfl [.slice (some ⟨b2, o2, none⟩) N gk, .slice ta M tk, .slice (some ⟨b1, o1, none⟩) m ik, .int .i64 z0, .int .i64 z1, .int .i64 z2, .slice ra Nr rk, .int .i64 un, .int .i64 sh] _ Try.underlying33 rfl (by kernel_rfl) (rangeAt_mono HRs.out hy1 n.below) rfl))
                    | (unfold relAt
                       go_simp
                       (first | (refine relUpon_val ?_ (Below.refl _ _); exact rfl) | exact rfl | (refine relUpon_enter ?_; (go_at_call 20; (with_reducible refine (HTg.out _ (HB1.out.trans (n.below.mono HB1.out.size))).mono ?_); rintro e w9 ⟨rfl, hb⟩; exact ⟨⟨_, rfl, rfl⟩, hb⟩)))))
                (simp only [Act.put, List.setIfInBounds_toArray, List.set_cons_zero, List.set_cons_succ])
                (with_reducible refine HK.out _ _ ?_)
                clear HK K))
            refine relNil ?_
            intro r9 n9 hx9
            clear hcH
            (try simp only [List.nil_append, List.cons_append, List.mem_cons, List.not_mem_nil, or_false, forall_eq_or_imp, forall_eq, false_implies, implies_true] at hx9)
            obtain ⟨w9, hb9⟩ := n9
            (try dsimp only)
            obtain ⟨hc9, hf9⟩ := bcell hb9
            have hz9 := hb9.size
            (try simp at hz9)
            have HB9 := Lib.hid (HB1.out.trans (hb9.mono HB1.out.size))
            clear hc9 hf9
            go_wp2
            go_ret
            exact ⟨rfl, HB9.out⟩
      · have k2 : (st != 2) = true := by simpa using h2
        rw [if_pos (.inl h2)]
        clear h2 h3
        go_enter Try.func31, Try.ntmps31
        go_wp2_with (go_at_call 19; (with_reducible refine (HF.out _ (by (repeat' (first | with_reducible exact Below.refl _ _ | with_reducible assumption | with_reducible refine Below.drew ?_ | with_reducible refine below_drewN' ?_ _ | with_reducible refine Below.alloc ?_ ?_ _ | with_reducible refine Below.setCell ?_ ?_ _ | with_reducible refine below_step (by assumption) ?_ ?_ | omega | (simp; done) | (simp; omega))))).mono ?_); rintro e w1 ⟨rfl, hb1⟩; have HB1 := Lib.hid (show Below w.heap.size w w1 by (repeat' (first | with_reducible exact Below.refl _ _ | with_reducible assumption | with_reducible refine Below.drew ?_ | with_reducible refine below_drewN' ?_ _ | with_reducible refine Below.alloc ?_ ?_ _ | with_reducible refine Below.setCell ?_ ?_ _ | with_reducible refine below_step (by assumption) ?_ ?_ | omega | (simp; done) | (simp; omega)))); have HS1 := Lib.hid (((Blk.new w 33 [.slice _ N gk, .slice ta M tk, .slice _ m ik, .int .i64 z0, .int .i64 z1, .int .i64 z2, .slice ra Nr rk, .int .i64 un, .int .i64 sh]).alloc _).below hb1); have HC1 := Lib.hid ((Blk.new (w.alloc _) 39 [.string what, .string nm, .int .i64 n]).below hb1); rw [HZ0.out] at HC1; have hz1 := hb1.size; (try simp at hz1); have hy1 : w.heap.size < w1.heap.size := (by omega); have hx1 : w.heap.size + 1 < w1.heap.size := (by omega); have s0 := HS1.out.cell 0; have s1 := HS1.out.cell 1; have s2 := HS1.out.cell 2; have s3 := HS1.out.cell 3; have s4 := HS1.out.cell 4; have s5 := HS1.out.cell 5; have s6 := HS1.out.cell 6; have s7 := HS1.out.cell 7; have s8 := HS1.out.cell 8; have r0 := HC1.out.cell 0; have r1 := HC1.out.cell 1; have r2 := HC1.out.cell 2; dsimp only [List.getElem?_cons_zero, List.getElem?_cons_succ] at s0 s1 s2 s3 s4 s5 s6 s7 s8 r0 r1 r2; have e1 := (HB1.out.cell (p := ⟨b1, o1 + k * 5 + 2, none⟩) hbw1).trans d2; have e2 := (HB1.out.cell (p := ⟨b2, o2 + j * 15 + 1, none⟩) hbw2).trans x1; have hv1 : b1 < w1.heap.size := Nat.lt_of_lt_of_le hbw1 HB1.out.size; have hv2 : b2 < w1.heap.size := Nat.lt_of_lt_of_le hbw2 HB1.out.size; clear hb1)
        go_ret
        exact ⟨rfl, HB1.out⟩
end Go.Proofs.Ytmkdfcggjlhcpaa
