/-
  Yards: Left.
-/
import Derived.Test.YthbpnfpalcgfeaaYd6
import Derived.Test.YthbpnfpalcgfeaaRes3
import Derived.Test.YthbpnfpalcgfeaaRes6
namespace Go.Proofs.Ythbpnfpalcgfeaa
open Go.RowKit
set_option linter.unusedVariables false
set_option linter.unusedSimpArgs false

def lstP (a b : R5) : R5 := ⟨Rs.leastC a.r0 a.r1 a.r2 a.r3 a.r4 b.r0 b.r1 b.r2 b.r3 b.r4 a.r0 b.r0, Rs.leastC a.r0 a.r1 a.r2 a.r3 a.r4 b.r0 b.r1 b.r2 b.r3 b.r4 a.r1 b.r1, Rs.leastC a.r0 a.r1 a.r2 a.r3 a.r4 b.r0 b.r1 b.r2 b.r3 b.r4 a.r2 b.r2, Rs.leastC a.r0 a.r1 a.r2 a.r3 a.r4 b.r0 b.r1 b.r2 b.r3 b.r4 a.r3 b.r3, Rs.leastC a.r0 a.r1 a.r2 a.r3 a.r4 b.r0 b.r1 b.r2 b.r3 b.r4 a.r4 b.r4⟩
def subEP (a b : R5) : Int := Rs.subE a.r0 a.r1 a.r2 a.r3 a.r4 b.r0 b.r1 b.r2 b.r3 b.r4
def subP (a b : R5) : R5 := ⟨Rs.sel (subEP a b) (a.r0 - b.r0), Rs.sel (subEP a b) (a.r1 - b.r1), Rs.sel (subEP a b) (a.r2 - b.r2), Rs.sel (subEP a b) (a.r3 - b.r3), Rs.sel (subEP a b) (a.r4 - b.r4)⟩
def hasM (m : Mac) : R5 := ⟨m.r0, m.r1, m.r2, m.r3, m.r4⟩
def leftY (m : Mac) (bs : List Bd) : R5 := if (usedY bs m.nm).1 = 0 then subP (hasM m) (lstP (hasM m) (usedY bs m.nm).2) else R5.z
def NewR (N : Nat) (u : Value) (w : World) : Prop := ∃ X, u = .pointer (some ⟨X, 0, none⟩) ∧ N ≤ X ∧ Blk w X 29 R5.z.l
theorem NewR.mk {W : World} (n : Held W) : NewR W.heap.size (.pointer (some ⟨n.w.heap.size, 0, none⟩)) (n.w.alloc (.cells #[.int .i64 0, .int .i64 0, .int .i64 0, .int .i64 0, .int .i64 0] 29)) := ⟨_, rfl, n.below.size, Blk.new _ 29 R5.z.l⟩
theorem NewR.stays (N : Nat) : Stays (NewR N) := fun v w w' hb ⟨X, e, h, hB⟩ => ⟨X, e, h, hB.below hb⟩

set_option maxRecDepth 100000 in
set_option maxHeartbeats 4000000 in
theorem left_any (m : Mac) (a : Option Addr) (ka : Nat) (bs : List Bd) (w : World) (hF : BndL w a bs) (hl : bs.length ≤ 1000000) :
    Calls Try.prog 17 #[.agg #[.string (m).nm, .string (m).gp, .int .i64 (m).r0, .int .i64 (m).r1, .int .i64 (m).r2, .int .i64 (m).r3, .int .i64 (m).r4, .slice (m).la (m).labs.length (m).lk, .slice (m).ta (m).tnts.length (m).tk, .bool (m).rd], .slice a bs.length ka] w fun e w' => e = .returned ((leftY m bs).v) ∧ Below w.heap.size w w' := by
  obtain ⟨nm, gp, r0, r1, r2, r3, r4, la, lk, L, ta, tk, T, rd⟩ := m
  obtain ⟨n, hn⟩ : ∃ n, bs.length = n := ⟨_, rfl⟩
  have hUs := (fun W hW => used_any a ka bs nm W (hF.mono hW) hl)
  obtain ⟨U, hU⟩ : ∃ U, usedY bs nm = U := ⟨_, rfl⟩
  have hLY : leftY ⟨nm, gp, r0, r1, r2, r3, r4, la, lk, L, ta, tk, T, rd⟩ bs = if U.1 = 0 then subP ⟨r0, r1, r2, r3, r4⟩ (lstP ⟨r0, r1, r2, r3, r4⟩ U.2) else R5.z := by rw [← hU]; rfl
  rw [hU, hn] at hUs
  rw [hLY, hn]
  clear hn hF hU hLY
  obtain ⟨e, u0, u1, u2, u3, u4⟩ := U
  dsimp only [R5.v] at hUs
  have HUs := Lib.hid hUs
  clear hUs
  by_cases he : e = 0
  · subst he
    rw [if_pos rfl]
    obtain ⟨E, hE⟩ : ∃ E, lstP ⟨r0, r1, r2, r3, r4⟩ ⟨u0, u1, u2, u3, u4⟩ = E := ⟨_, rfl⟩
    obtain ⟨e0, e1, e2, e3, e4⟩ := E
    injection hE with h0 h1 h2 h3 h4
    have hLs := fun W => Rs.least_any r0 r1 r2 r3 r4 u0 u1 u2 u3 u4 W
    rw [show lstP ⟨r0, r1, r2, r3, r4⟩ ⟨u0, u1, u2, u3, u4⟩ = ⟨e0, e1, e2, e3, e4⟩ by unfold lstP; simp only [h0, h1, h2, h3, h4]]
    simp only [h0, h1, h2, h3, h4] at hLs
    obtain ⟨D, hD⟩ : ∃ D, subP ⟨r0, r1, r2, r3, r4⟩ ⟨e0, e1, e2, e3, e4⟩ = D := ⟨_, rfl⟩
    rw [hD]
    obtain ⟨d0, d1, d2, d3, d4⟩ := D
    injection hD with h0' h1' h2' h3' h4'
    have hSb := fun W => Rs.sub_any r0 r1 r2 r3 r4 e0 e1 e2 e3 e4 W
    simp only [subEP] at h0' h1' h2' h3' h4'
    simp only [h0', h1', h2', h3', h4'] at hSb
    obtain ⟨E, hE⟩ : ∃ E, Rs.subE r0 r1 r2 r3 r4 e0 e1 e2 e3 e4 = E := ⟨_, rfl⟩
    rw [hE] at hSb
    have HLs := Lib.hid hLs
    have HSb := Lib.hid hSb
    clear hLs hSb h0 h1 h2 h3 h4 h0' h1' h2' h3' h4' hE
    dsimp only [R5.v, R5.z]
    go_enter Try.func17, Try.ntmps17
    go_wp2_with (go_at_call 16; (with_reducible refine (HUs.out _ (by (repeat' (first | with_reducible exact Below.refl _ _ | with_reducible assumption | with_reducible refine Below.drew ?_ | with_reducible refine below_drewN' ?_ _ | with_reducible refine Below.alloc ?_ ?_ _ | with_reducible refine Below.setCell ?_ ?_ _ | with_reducible refine below_step (by assumption) ?_ ?_ | omega | (simp; done) | (simp; omega))))).mono ?_); rintro e w3 ⟨rfl, hb3⟩; have X3 := Lib.hid (((Blk.new w 35 [.string nm, .string gp, .int .i64 r0, .int .i64 r1, .int .i64 r2, .int .i64 r3, .int .i64 r4, .slice la L.length lk, .slice ta T.length tk, .bool rd]).alloc _).below hb3); have Y3 := Lib.hid ((by have h9 := Blk.new (w.alloc (.cells [.string nm, .string gp, .int .i64 r0, .int .i64 r1, .int .i64 r2, .int .i64 r3, .int .i64 r4, .slice la L.length lk, .slice ta T.length tk, .bool rd].toArray 35)) 29 R5.z.l; rw [World.size_alloc] at h9; exact h9 : Blk ((w.alloc (.cells [.string nm, .string gp, .int .i64 r0, .int .i64 r1, .int .i64 r2, .int .i64 r3, .int .i64 r4, .slice la L.length lk, .slice ta T.length tk, .bool rd].toArray 35)).alloc (.cells R5.z.l.toArray 29)) (w.heap.size + 1) 29 R5.z.l).below hb3); have HB3 := Lib.hid ((show Below w.heap.size w _ from by (repeat' (first | with_reducible exact Below.refl _ _ | with_reducible assumption | with_reducible refine Below.drew ?_ | with_reducible refine below_drewN' ?_ _ | with_reducible refine Below.alloc ?_ ?_ _ | with_reducible refine Below.setCell ?_ ?_ _ | with_reducible refine below_step (by assumption) ?_ ?_ | omega | (simp; done) | (simp; omega)))).trans (hb3.mono (by simp; omega))); have hz3 := hb3.size; (try simp at hz3); clear hb3)
    obtain ⟨W, hW⟩ : ∃ W, w3.alloc (.cells #[.int .i64 u0, .int .i64 u1, .int .i64 u2, .int .i64 u3, .int .i64 u4] 29) = W := ⟨_, rfl⟩
    have X4 := Lib.hid (hW ▸ X3.out.alloc (.cells #[.int .i64 u0, .int .i64 u1, .int .i64 u2, .int .i64 u3, .int .i64 u4] 29) : Blk W w.heap.size 35 [.string nm, .string gp, .int .i64 r0, .int .i64 r1, .int .i64 r2, .int .i64 r3, .int .i64 r4, .slice la L.length lk, .slice ta T.length tk, .bool rd])
    have Y4 := Lib.hid (hW ▸ Y3.out.alloc (.cells #[.int .i64 u0, .int .i64 u1, .int .i64 u2, .int .i64 u3, .int .i64 u4] 29) : Blk W (w.heap.size + 1) 29 R5.z.l)
    have Z4 := Lib.hid (hW ▸ Blk.new w3 29 [.int .i64 u0, .int .i64 u1, .int .i64 u2, .int .i64 u3, .int .i64 u4] : Blk W w3.heap.size 29 [.int .i64 u0, .int .i64 u1, .int .i64 u2, .int .i64 u3, .int .i64 u4])
    have HB4 := Lib.hid (hW ▸ HB3.out.alloc HB3.out.size (.cells #[.int .i64 u0, .int .i64 u1, .int .i64 u2, .int .i64 u3, .int .i64 u4] 29) : Below w.heap.size w W)
    rw [hW]
    obtain ⟨x, hx⟩ : ∃ x, w3.heap.size = x := ⟨_, rfl⟩
    rw [hx] at Z4 hz3 ⊢
    clear hW hx X3 Y3 HB3
    have HRX := Lib.hid (show W.rangeAt w.heap.size 2 [.int .i64 r0, .int .i64 r1, .int .i64 r2, .int .i64 r3, .int .i64 r4] from fun j v hj => by
      rw [X4.out.cell]
      have hj5 : j < 5 := (List.getElem?_eq_some_iff.1 hj).1
      match j, hj5, hj with
      | 0, _, hj => exact hj
      | 1, _, hj => exact hj
      | 2, _, hj => exact hj
      | 3, _, hj => exact hj
      | 4, _, hj => exact hj)
    have HRU := Lib.hid (show W.rangeAt x 0 [.int .i64 u0, .int .i64 u1, .int .i64 u2, .int .i64 u3, .int .i64 u4] from fun j v hj => by rw [Nat.zero_add, Z4.out.cell]; exact hj)
    have hxl := X4.out.lt
    have hzl := Z4.out.lt
    have hcH := held_cell
    refine region_rel_late 11 [9] (by kernel_rfl) (by kernel_rfl) (by kernel_rfl) ?_ ?_
    · exact fun _ _ _ _ _ h => h
    dsimp only [List.take, List.drop]
    repeat
      ((with_reducible refine relStep (fun K hK => ?_))
       (have HK := Lib.hid hK)
       clear hK
       (apply relInl
        · intro r n hf
          have Hf := Lib.hid hf
          clear hf
          (first
            | ((first | ((with_reducible refine at_rel (ty := 29) ?_); refine rel_load rfl w.heap.size 2 rfl [.int .i64 r0, .int .i64 r1, .int .i64 r2, .int .i64 r3, .int .i64 r4] _ Try.underlying29 rfl (by kernel_rfl) (rangeAt_mono HRX.out hxl n.below) rfl) | ((with_reducible refine at_rel (ty := 29) ?_); refine rel_load rfl x 0 rfl [.int .i64 u0, .int .i64 u1, .int .i64 u2, .int .i64 u3, .int .i64 u4] _ Try.underlying29 rfl (by kernel_rfl) (rangeAt_mono HRU.out hzl n.below) rfl)))
            | (unfold relAt
               go_simp
               (first | (refine relUpon_val ?_ (Below.refl _ _); exact rfl) | exact rfl | (refine relUpon_enter ?_; (first | (go_at_call 55; (with_reducible refine (HLs.out _).mono ?_); rintro e w9 ⟨rfl, hb⟩; exact ⟨⟨_, rfl, rfl⟩, hb⟩) | (go_at_call 54; (with_reducible refine (HSb.out _).mono ?_); rintro e w9 ⟨rfl, hb⟩; exact ⟨⟨_, rfl, rfl⟩, hb⟩))))))
        (simp only [Act.put, List.setIfInBounds_toArray, List.set_cons_zero, List.set_cons_succ])
        (with_reducible refine HK.out _ _ ?_)
        clear HK K))
    (with_reducible refine relStep (fun K hK => ?_))
    (have HK := Lib.hid hK)
    clear hK
    refine relInr (NewR W.heap.size) (NewR.stays _) (fun r n hf => ?_) ?_
    · have Hf := Lib.hid hf
      clear hf HK K
      unfold relAt
      (skip)
      go_simp
      ((refine relUpon_val ?_ ?_; exact NewR.mk n; exact (Below.refl _ _).alloc (Nat.le_refl _) _))
    (simp only [Act.put, List.setIfInBounds_toArray, List.set_cons_zero, List.set_cons_succ])
    (with_reducible refine HK.out _ _ ?_)
    clear HK K
    refine relNil ?_
    intro r9 n9 hx9
    clear hcH
    (try simp only [List.nil_append, List.cons_append, List.mem_cons, List.not_mem_nil, or_false, forall_eq_or_imp, forall_eq, false_implies, implies_true] at hx9)
    obtain ⟨w9, hb9⟩ := n9
    (try dsimp only)
    obtain ⟨hc9, hf9⟩ := bcell hb9
    have hz9 := hb9.size
    (try simp at hz9)
    obtain ⟨q, e9, hq, hB9⟩ := hx9
    have e9 : r9 10 = _ := e9
    dsimp only at hB9
    rw [e9]
    have Z9 := Lib.hid hB9
    have Y9 := Lib.hid (Y4.out.below hb9)
    have HB9 := Lib.hid (HB4.out.trans (hb9.mono HB4.out.size))
    have y0 := Y9.out.cell 0
    have f0 := Y9.out.frozen 0
    have z0 := Z9.out.cell 0
    have g0 := Z9.out.frozen 0
    have y1 := Y9.out.cell 1
    have f1 := Y9.out.frozen 1
    have z1 := Z9.out.cell 1
    have g1 := Z9.out.frozen 1
    have y2 := Y9.out.cell 2
    have f2 := Y9.out.frozen 2
    have z2 := Z9.out.cell 2
    have g2 := Z9.out.frozen 2
    have y3 := Y9.out.cell 3
    have f3 := Y9.out.frozen 3
    have z3 := Z9.out.cell 3
    have g3 := Z9.out.frozen 3
    have y4 := Y9.out.cell 4
    have f4 := Y9.out.frozen 4
    have z4 := Z9.out.cell 4
    have g4 := Z9.out.frozen 4
    have hyl := Y9.out.lt
    have hql := Z9.out.lt
    have hqw : w.heap.size + 1 < q := Nat.lt_of_lt_of_le Y4.out.lt hq
    dsimp only [R5.z, R5.l, List.getElem?_cons_zero, List.getElem?_cons_succ] at y0 y1 y2 y3 y4 z0 z1 z2 z3 z4
    clear hB9 e9 hb9 hc9 hf9 hz9 hq hxl hzl HRX HRU X4 Y4 Z4 HB4 hz3
    go_wp2
    refine bodyPost_ret (v := .agg #[.int .i64 d0, .int .i64 d1, .int .i64 d2, .int .i64 d3, .int .i64 d4]) (by simp [results, Try.results17, go_sem, *]) rfl ⟨rfl, ?_⟩
    have hqw' : w.heap.size ≤ q := by omega
    exact ((((((((((HB9.out.setCell hqw' _).setCell hqw' _).setCell hqw' _).setCell hqw' _).setCell hqw' _).setCell (Nat.le_succ _) _).setCell (Nat.le_succ _) _).setCell (Nat.le_succ _) _).setCell (Nat.le_succ _) _).setCell (Nat.le_succ _) _)
  · have q0 : (e == 0) = false := by simpa using he
    rw [if_neg he]
    dsimp only [R5.v, R5.z]
    go_enter Try.func17, Try.ntmps17
    go_wp2_with (go_at_call 16; (with_reducible refine (HUs.out _ (by (repeat' (first | with_reducible exact Below.refl _ _ | with_reducible assumption | with_reducible refine Below.drew ?_ | with_reducible refine below_drewN' ?_ _ | with_reducible refine Below.alloc ?_ ?_ _ | with_reducible refine Below.setCell ?_ ?_ _ | with_reducible refine below_step (by assumption) ?_ ?_ | omega | (simp; done) | (simp; omega))))).mono ?_); rintro e w3 ⟨rfl, hb3⟩; have X3 := Lib.hid (((Blk.new w 35 [.string nm, .string gp, .int .i64 r0, .int .i64 r1, .int .i64 r2, .int .i64 r3, .int .i64 r4, .slice la L.length lk, .slice ta T.length tk, .bool rd]).alloc _).below hb3); have Y3 := Lib.hid ((by have h9 := Blk.new (w.alloc (.cells [.string nm, .string gp, .int .i64 r0, .int .i64 r1, .int .i64 r2, .int .i64 r3, .int .i64 r4, .slice la L.length lk, .slice ta T.length tk, .bool rd].toArray 35)) 29 R5.z.l; rw [World.size_alloc] at h9; exact h9 : Blk ((w.alloc (.cells [.string nm, .string gp, .int .i64 r0, .int .i64 r1, .int .i64 r2, .int .i64 r3, .int .i64 r4, .slice la L.length lk, .slice ta T.length tk, .bool rd].toArray 35)).alloc (.cells R5.z.l.toArray 29)) (w.heap.size + 1) 29 R5.z.l).below hb3); have HB3 := Lib.hid ((show Below w.heap.size w _ from by (repeat' (first | with_reducible exact Below.refl _ _ | with_reducible assumption | with_reducible refine Below.drew ?_ | with_reducible refine below_drewN' ?_ _ | with_reducible refine Below.alloc ?_ ?_ _ | with_reducible refine Below.setCell ?_ ?_ _ | with_reducible refine below_step (by assumption) ?_ ?_ | omega | (simp; done) | (simp; omega)))).trans (hb3.mono (by simp; omega))); have hz3 := hb3.size; (try simp at hz3); clear hb3; have y0 := Y3.out.cell 0; have f0 := Y3.out.frozen 0; have y1 := Y3.out.cell 1; have f1 := Y3.out.frozen 1; have y2 := Y3.out.cell 2; have f2 := Y3.out.frozen 2; have y3 := Y3.out.cell 3; have f3 := Y3.out.frozen 3; have y4 := Y3.out.cell 4; have f4 := Y3.out.frozen 4; have hyl := Y3.out.lt; (dsimp only [R5.z, R5.l, List.getElem?_cons_zero, List.getElem?_cons_succ] at y0 y1 y2 y3 y4))
    refine bodyPost_ret (v := R5.z.v) (by simp [results, Try.results17, go_sem, R5.v, R5.z, *]) rfl ⟨rfl, ?_⟩
    exact (((((HB3.out.setCell (Nat.le_succ _) _).setCell (Nat.le_succ _) _).setCell (Nat.le_succ _) _).setCell (Nat.le_succ _) _).setCell (Nat.le_succ _) _).alloc (by simp; omega) _
end Go.Proofs.Ythbpnfpalcgfeaa
