/-
  Yards: the document's Left.
-/
import Derived.Test.YthbpnfpalcgfeaaGreatYfB
namespace Go.Proofs.YthbpnfpalcgfeaaGreat
open Go.RowKit
set_option linter.unusedVariables false
set_option linter.unusedSimpArgs false

set_option maxRecDepth 100000 in
set_option maxHeartbeats 8000000 in
theorem refleft_any (m : Mac) (a : Option Addr) (ka : Nat) (bs : List Bd) (w : World) (hF : BndL w a bs) (hl : bs.length ≤ 1000000) (hr : ∀ b ∈ bs, rtP b.p = true) (hh : rt5 (hasM m) = true) (hu : (usedY bs m.nm).1 = 0) :
    Calls Tryz.prog 81 #[.agg (mrow m).toArray, .slice a bs.length ka] w fun e w' => e = .returned ((leftY m bs).v) ∧ Below w.heap.size w w' := by
  have hv : leftY m bs = _ := (if_pos hu).trans (left_plain hh (usedY_right hu))
  have hUs := fun W hW => refused_any a ka bs m.nm W (hF.mono hW) hl hr
  have hur := (rtB_iff _ _ _ _ _).1 (usedY_right hu)
  have hhr := (rtB_iff _ _ _ _ _).1 hh
  have hRt := fun V => refright_any m.r0 m.r1 m.r2 m.r3 m.r4 V
  rw [show rtB m.r0 m.r1 m.r2 m.r3 m.r4 = true from hh] at hRt
  obtain ⟨U, hU⟩ : ∃ U, usedY bs m.nm = U := ⟨_, rfl⟩
  rw [hU] at hUs hv hur hu
  rw [hv]
  obtain ⟨e, u0, u1, u2, u3, u4⟩ := U
  dsimp only at hu
  subst hu
  dsimp only [R5.v] at hUs
  obtain ⟨W, hW⟩ : ∃ W, W = (w.alloc (.cells (mrow m).toArray 37)).alloc (.cells R5.z.l.toArray 25) := ⟨_, rfl⟩
  have hb1 : Below w.heap.size w (w.alloc (.cells (mrow m).toArray 37)) := (Below.refl _ w).alloc (Nat.le_refl _) _
  have HW := Lib.hid (show Below w.heap.size w W by rw [hW]; exact hb1.alloc hb1.size _)
  have HM := Lib.hid (show Blk W w.heap.size 37 (mrow m) by rw [hW]; exact (Blk.new w 37 (mrow m)).alloc _)
  have HX := Lib.hid (show Blk W (w.heap.size + 1) 25 R5.z.l by
    have h9 := Blk.new (w.alloc (.cells (mrow m).toArray 37)) 25 R5.z.l
    rw [World.size_alloc] at h9
    rw [hW]
    exact h9)
  generalize bs.length = n at hUs hl ⊢
  clear hF hl hr hh hb1 hv hU
  obtain ⟨mn, mg, r0, r1, r2, r3, r4, ma, mk, ML, mta, mtk, MT, rd⟩ := m
  dsimp only [hasM] at hhr hRt hUs ⊢
  have HUs := Lib.hid hUs
  have HRt := Lib.hid hRt
  replace hW : W = (w.alloc (.cells #[.string mn, .string mg, .int .i64 r0, .int .i64 r1, .int .i64 r2, .int .i64 r3, .int .i64 r4, .slice ma ML.length mk, .slice mta MT.length mtk, .bool rd] 37)).alloc (.cells #[.int .i64 0, .int .i64 0, .int .i64 0, .int .i64 0, .int .i64 0] 25) := hW
  show Calls Tryz.prog 81 #[.agg #[.string mn, .string mg, .int .i64 r0, .int .i64 r1, .int .i64 r2, .int .i64 r3, .int .i64 r4, .slice ma ML.length mk, .slice mta MT.length mtk, .bool rd], .slice a n ka] w _
  have HM := Lib.hid (show Blk W w.heap.size 37 [.string mn, .string mg, .int .i64 r0, .int .i64 r1, .int .i64 r2, .int .i64 r3, .int .i64 r4, .slice ma ML.length mk, .slice mta MT.length mtk, .bool rd] from HM.out)
  clear hUs hRt
  have Hur := Lib.hid hur
  have Hhr := Lib.hid hhr
  clear hur hhr
  go_enter Tryz.func81, Tryz.ntmps81
  go_upto_region 1 with (fail)
  rw [← hW]
  clear hW
  have c0 := HM.out.cell 0
  have hml := HM.out.lt
  dsimp only [List.getElem?_cons_zero] at c0
  have HRh := Lib.hid (show ∀ V, Blk V w.heap.size 37 [.string mn, .string mg, .int .i64 r0, .int .i64 r1, .int .i64 r2, .int .i64 r3, .int .i64 r4, .slice ma ML.length mk, .slice mta MT.length mtk, .bool rd] → V.rangeAt w.heap.size 2 [.int .i64 r0, .int .i64 r1, .int .i64 r2, .int .i64 r3, .int .i64 r4] from fun V h j v hj => by
    have hj5 : j < 5 := (List.getElem?_eq_some_iff.1 hj).1
    rw [h.cell]
    match j, hj5, hj with
    | 0, _, hj => exact hj
    | 1, _, hj => exact hj
    | 2, _, hj => exact hj
    | 3, _, hj => exact hj
    | 4, _, hj => exact hj)
  go_upto_region 2 with (go_at_call 106; (with_reducible refine (HUs.out _ HW.out).mono ?_); rintro e w3 ⟨rfl, hb3⟩; have HB3 := Lib.hid (HW.out.trans (hb3.mono HW.out.size)); have HM3 := Lib.hid (HM.out.below hb3); have HX3 := Lib.hid (HX.out.below hb3); clear hb3 c0 hml)
  obtain ⟨V, hV⟩ : ∃ V, V = w3.alloc (.cells #[.int .i64 u0, .int .i64 u1, .int .i64 u2, .int .i64 u3, .int .i64 u4] 25) := ⟨_, rfl⟩
  obtain ⟨B, hB⟩ : ∃ B, w3.heap.size = B := ⟨_, rfl⟩
  have HBV := Lib.hid (show Below w.heap.size w V by rw [hV]; exact HB3.out.alloc HB3.out.size _)
  have HMV := Lib.hid (show Blk V w.heap.size 37 [.string mn, .string mg, .int .i64 r0, .int .i64 r1, .int .i64 r2, .int .i64 r3, .int .i64 r4, .slice ma ML.length mk, .slice mta MT.length mtk, .bool rd] by rw [hV]; exact HM3.out.alloc _)
  have HXV := Lib.hid (show Blk V (w.heap.size + 1) 25 R5.z.l by rw [hV]; exact HX3.out.alloc _)
  have HUV := Lib.hid (show Blk V B 25 [.int .i64 u0, .int .i64 u1, .int .i64 u2, .int .i64 u3, .int .i64 u4] by rw [hV, ← hB]; exact Blk.new w3 25 [.int .i64 u0, .int .i64 u1, .int .i64 u2, .int .i64 u3, .int .i64 u4])
  have hXB : w.heap.size + 1 < B := by rw [← hB]; exact HX3.out.lt
  rw [← hV, hB]
  clear hV hB HB3 HM3 HX3 HW HM HX HUs
  go_upto_region 4 with (first
    | ((with_reducible refine at_load (ty := 25) ?_); refine load_cells rfl 25 (.tmp 18) rfl w.heap.size 2 rfl [.int .i64 r0, .int .i64 r1, .int .i64 r2, .int .i64 r3, .int .i64 r4] _ Tryz.underlying25 rfl (by kernel_rfl) (HRh.out _ HMV.out) ?_)
    | (go_at_call 35; (with_reducible refine (HRt.out _).mono ?_); rintro e w4 ⟨rfl, hb4⟩; have HB4 := Lib.hid (HBV.out.trans (hb4.mono HBV.out.size)); have HM4 := Lib.hid (HMV.out.below hb4); have HX4 := Lib.hid (HXV.out.below hb4); have HU4 := Lib.hid (HUV.out.below hb4); clear hb4))
  clear HBV HMV HXV HUV HRt
  go_upto_region 5 with (first
    | ((with_reducible refine at_load (ty := 25) ?_); refine load_cells rfl 25 (.tmp 24) rfl w.heap.size 2 rfl [.int .i64 r0, .int .i64 r1, .int .i64 r2, .int .i64 r3, .int .i64 r4] _ Tryz.underlying25 rfl (by kernel_rfl) (HRh.out _ HM4.out) ?_)
    | ((with_reducible refine at_store (ty := 25) ?_); refine store_new rfl 25 (.tmp 7) (.tmp 25) rfl _ _ rfl rfl (by kernel_rfl) rfl (by rfl) rfl ?_))
  obtain ⟨V5, hV⟩ : ∃ V, V = w4.alloc (.cells #[.int .i64 r0, .int .i64 r1, .int .i64 r2, .int .i64 r3, .int .i64 r4] 25) := ⟨_, rfl⟩
  obtain ⟨C, hC⟩ : ∃ B, w4.heap.size = B := ⟨_, rfl⟩
  have HB5 := Lib.hid (show Below w.heap.size w V5 by rw [hV]; exact HB4.out.alloc HB4.out.size _)
  have HX5 := Lib.hid (show Blk V5 (w.heap.size + 1) 25 R5.z.l by rw [hV]; exact HX4.out.alloc _)
  have HU5 := Lib.hid (show Blk V5 B 25 [.int .i64 u0, .int .i64 u1, .int .i64 u2, .int .i64 u3, .int .i64 u4] by rw [hV]; exact HU4.out.alloc _)
  have HC5 := Lib.hid (show Blk V5 C 25 [.int .i64 r0, .int .i64 r1, .int .i64 r2, .int .i64 r3, .int .i64 r4] by rw [hV, ← hC]; exact Blk.new w4 25 [.int .i64 r0, .int .i64 r1, .int .i64 r2, .int .i64 r3, .int .i64 r4])
  rw [← hV, hC]
  clear hV hC HB4 HM4 HX4 HU4 HRh
  have x0 := HX5.out.cell 0
  have f0 := HX5.out.frozen 0
  have x1 := HX5.out.cell 1
  have f1 := HX5.out.frozen 1
  have x2 := HX5.out.cell 2
  have f2 := HX5.out.frozen 2
  have x3 := HX5.out.cell 3
  have f3 := HX5.out.frozen 3
  have x4 := HX5.out.cell 4
  have f4 := HX5.out.frozen 4
  have y0 := HU5.out.cell 0
  have y1 := HU5.out.cell 1
  have y2 := HU5.out.cell 2
  have y3 := HU5.out.cell 3
  have y4 := HU5.out.cell 4
  have z0 := HC5.out.cell 0
  have z1 := HC5.out.cell 1
  have z2 := HC5.out.cell 2
  have z3 := HC5.out.cell 3
  have z4 := HC5.out.cell 4
  have hxl := HX5.out.lt
  have hul := HU5.out.lt
  have hcl := HC5.out.lt
  dsimp only [R5.z, R5.l, List.getElem?_cons_zero, List.getElem?_cons_succ] at x0 x1 x2 x3 x4 y0 y1 y2 y3 y4 z0 z1 z2 z3 z4
  have k0 : IntKind.i64.wrap (r0 - u0) = r0 - u0 := wrap_in (by have := Hur.out; have := Hhr.out; omega) (by have := Hur.out; have := Hhr.out; omega)
  have k1 : IntKind.i64.wrap (r1 - u1) = r1 - u1 := wrap_in (by have := Hur.out; have := Hhr.out; omega) (by have := Hur.out; have := Hhr.out; omega)
  have k2 : IntKind.i64.wrap (r2 - u2) = r2 - u2 := wrap_in (by have := Hur.out; have := Hhr.out; omega) (by have := Hur.out; have := Hhr.out; omega)
  have k3 : IntKind.i64.wrap (r3 - u3) = r3 - u3 := wrap_in (by have := Hur.out; have := Hhr.out; omega) (by have := Hur.out; have := Hhr.out; omega)
  have k4 : IntKind.i64.wrap (r4 - u4) = r4 - u4 := wrap_in (by have := Hur.out; have := Hhr.out; omega) (by have := Hur.out; have := Hhr.out; omega)
  have A0 := Lib.hid (show (u0 < r0 → r0 - minI r0 u0 = r0 - u0) ∧ (r0 ≤ u0 → r0 - minI r0 u0 = 0) from ⟨fun h => by unfold minI; rw [if_pos h], fun h => by unfold minI; rw [if_neg (by omega)]; omega⟩)
  have A1 := Lib.hid (show (u1 < r1 → r1 - minI r1 u1 = r1 - u1) ∧ (r1 ≤ u1 → r1 - minI r1 u1 = 0) from ⟨fun h => by unfold minI; rw [if_pos h], fun h => by unfold minI; rw [if_neg (by omega)]; omega⟩)
  have A2 := Lib.hid (show (u2 < r2 → r2 - minI r2 u2 = r2 - u2) ∧ (r2 ≤ u2 → r2 - minI r2 u2 = 0) from ⟨fun h => by unfold minI; rw [if_pos h], fun h => by unfold minI; rw [if_neg (by omega)]; omega⟩)
  have A3 := Lib.hid (show (u3 < r3 → r3 - minI r3 u3 = r3 - u3) ∧ (r3 ≤ u3 → r3 - minI r3 u3 = 0) from ⟨fun h => by unfold minI; rw [if_pos h], fun h => by unfold minI; rw [if_neg (by omega)]; omega⟩)
  have A4 := Lib.hid (show (u4 < r4 → r4 - minI r4 u4 = r4 - u4) ∧ (r4 ≤ u4 → r4 - minI r4 u4 = 0) from ⟨fun h => by unfold minI; rw [if_pos h], fun h => by unfold minI; rw [if_neg (by omega)]; omega⟩)
  go_wp2
  all_goals
    refine bodyPost_ret (v := R5.v ⟨r0 - minI r0 u0, r1 - minI r1 u1, r2 - minI r2 u2, r3 - minI r3 u3, r4 - minI r4 u4⟩) (by have a0 := A0.out.1; have b0 := A0.out.2; have a1 := A1.out.1; have b1 := A1.out.2; have a2 := A2.out.1; have b2 := A2.out.2; have a3 := A3.out.1; have b3 := A3.out.2; have a4 := A4.out.1; have b4 := A4.out.2; simp [results, Tryz.results81, go_sem, R5.v, *]) rfl ⟨rfl, ((((HB5.out.setCell (Nat.le_succ _) _).setCell (Nat.le_succ _) _).setCell (Nat.le_succ _) _).setCell (Nat.le_succ _) _).setCell (Nat.le_succ _) _⟩
end Go.Proofs.YthbpnfpalcgfeaaGreat
