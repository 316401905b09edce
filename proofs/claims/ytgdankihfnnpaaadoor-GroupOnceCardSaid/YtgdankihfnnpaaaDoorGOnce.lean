/-
  GroupOnce: the number of a machine's name is its number; machines of two numbers, and of two right groups, have two names; a right group's machine is right, and of its group.
-/
import Derived.Test.YtgdankihfnnpaaaDoorGOnceP
import Derived.Test.YtgdankihfnnpaaaDoorAgg2
namespace Go.Proofs.YtgdankihfnnpaaaDoor
open Go.ChangeShapes Go.WideShapes Go.ChangeAt Go.RowKit
set_option linter.unusedVariables false
namespace groupOnce

theorem mach_is (g : Gp) (q : Nat) (hq : q < 999999999) (w : World) (hT : Tab10 w) (hA : MacIn w g.like) (hr : rightG g = true) (hs : g.nm.size ≤ 48) (hL : lightM g.like = true) :
    Calls Tryd.prog 19 #[.agg #[.string (g).nm, .int .i64 (g).mn, .int .i64 (g).mx, .string (g).like.nm, .string (g).like.gp, .int .i64 (g).like.r0, .int .i64 (g).like.r1, .int .i64 (g).like.r2, .int .i64 (g).like.r3, .int .i64 (g).like.r4, .slice (g).like.la (g).like.labs.length (g).like.lk, .slice (g).like.ta (g).like.tnts.length (g).like.tk, .bool (g).like.rd, .int .i64 (g).pr, .int .i64 (g).rk], .int .i64 (1 + (q : Int))] w (Gives w (fun v w' => ∃ M : Mac, v = .agg #[.string (M).nm, .string (M).gp, .int .i64 (M).r0, .int .i64 (M).r1, .int .i64 (M).r2, .int .i64 (M).r3, .int .i64 (M).r4, .slice (M).la (M).labs.length (M).lk, .slice (M).ta (M).tnts.length (M).tk, .bool (M).rd] ∧ MacIn w' M ∧ M.nm = nameB g.nm (q + 1) ∧ M.gp = g.nm ∧ rightM M = true ∧ lightM M = true)) := by
  have e : (1 + (q : Int)) = ((q + 1 : Nat) : Int) := by omega
  rw [e]
  have hl : g.like.labs.length ≤ 40 ∧ g.like.tnts.length ≤ 40 := by
    have h := hL
    unfold lightM at h
    simp only [Bool.and_eq_true, decide_eq_true_eq] at h
    refine ⟨((lightL_iff _).1 h.1.2).1, ?_⟩
    have h2 := h.2
    unfold lightB at h2
    rw [Bool.and_eq_true, decide_eq_true_eq] at h2
    exact h2.1.2
  obtain ⟨m1, m2, m3, m4⟩ := mach_right hr hs hL (show 1 ≤ q + 1 by omega) (show q + 1 ≤ 999999999 by omega)
  have hln := grpM_len (g := g) (n := ((q + 1 : Nat) : Int)) hl.1 hl.2
  refine (machine_any g ((q + 1 : Nat) : Int) w hT hA (by omega) (by omega) (by omega)).mono fun e w' h => h.weak fun v w' h => ?_
  obtain ⟨la, lk, ta, tk, rfl, hM⟩ := h.at (by unfold maxLen; omega) (by unfold maxLen; omega)
  exact ⟨_, rfl, hM, m4, m3, m1, m2⟩
theorem names_differ {l : List Gp} (h : rightGs l = true) {i j : Nat} {g x : Gp} (hg : l[i]? = some g) (hx : l[j]? = some x) (hji : j < i) : g.nm ≠ x.nm := fun e => by
  unfold rightGs at h
  rw [Bool.and_eq_true, List.all_eq_true] at h
  have h1 := h.2 i (List.mem_range.2 (lt_at hg))
  rw [okG_at hg, Bool.and_eq_true, decide_eq_true_eq] at h1
  have := findA_le l g.nm 0 j x hx e.symm
  have := h1.2
  omega
theorem ok_of {l : List Gp} (h : rightGs l = true) {i : Nat} {g : Gp} (hg : l[i]? = some g) : rightG g = true ∧ g.nm.size ≤ 48 := by
  unfold rightGs at h
  rw [Bool.and_eq_true, List.all_eq_true] at h
  have h1 := h.2 i (List.mem_range.2 (lt_at hg))
  rw [okG_at hg, Bool.and_eq_true, Bool.and_eq_true, decide_eq_true_eq] at h1
  exact h1.1
theorem row_range {w : World} {b o : Nat} {g : Gp} (h : ∀ r, r < 15 → w.cell? ⟨b, o + r, none⟩ = (grow g)[r]?) : w.rangeAt b o (grow g) := fun j v hv => by
  rw [h j (by have := (List.getElem?_eq_some_iff.1 hv).1; exact this), hv]

theorem at_rel {P : Program} {ops : Array Oper} {a : Act} {w : World} {R : Value → World → Prop} {d0 : Option Tmp} {ty : TypeId} {x : Operand} {t : TypeId} {p : String} {af : Array Edge} {g : Option (Nat × Bool)}
    (h : relAt P ops { dst := d0, op := .load ty x, type := t, pos := p, after := af, guard := g } a w R) : relAt P ops { dst := d0, op := .load ty x, type := t, pos := p, after := af, guard := g } a w R := h

set_option maxRecDepth 100000 in
set_option maxHeartbeats 8000000 in
theorem walk (a : Option Addr) (ka : Nat) (l : List Gp) (n k : Nat) (w : World) (hT : Tab10 w) (hF : GpL w a l) (hl : l.length ≤ maxLen) (hI : ∀ g ∈ l, MacIn w g.like) (hn : n ≤ 4294967295) (hk : k ≤ 4294967295) :
    Calls Tryd.prog 5 #[.slice a l.length ka, .int .u32 (n : Int), .int .u32 (k : Int)] w fun e w' => e = .returned (.bool true) ∧ Below w.heap.size w w' := by
  have HX := Lib.hid (Below.refl w.heap.size w)
  have K := fun V (hV : Below w.heap.size w V) => known_any V (hT.mono hV)
  have A1 := fun V (hV : Below w.heap.size w V) => lightgs_any a l ka V (hF.mono hV) hl (fun g hg => (hI g hg).mono hV)
  have HK := Lib.hid K
  cases h1 : lightGs l
  · rw [h1] at A1
    have HA1 := Lib.hid A1
    clear A1 K h1 hT hF hI
    go_enter Tryd.func5, Tryd.ntmps5
    go_wp2_with (first
      | (go_at_call 7; ((with_reducible refine (HA1.out _ HX.out).mono ?_); rintro e w1 ⟨rfl, hb1⟩; have HX1 := Lib.hid ((HX).out.trans (Below.mono hb1 (HX).out.size))))
      | (go_at_call 9; ((with_reducible refine (HK.out _ HX1.out).mono ?_); rintro e w2 ⟨rfl, hb2⟩; have HX2 := Lib.hid ((HX1).out.trans (Below.mono hb2 (HX1).out.size)))))
    go_ret
    exact ⟨rfl, HX2.out⟩
  · rw [h1] at A1
    have HA1 := Lib.hid A1
    have B1 := fun V (hV : Below w.heap.size w V) => rightgs_any a l ka V (hF.mono hV) (fun g hg => (hI g hg).mono hV) h1
    cases h2 : rightGs l
    · rw [h2] at B1
      have HB1 := Lib.hid B1
      clear A1 B1 K h1 h2 hT hF hI
      go_enter Tryd.func5, Tryd.ntmps5
      go_wp2_with (first
        | (go_at_call 7; ((with_reducible refine (HA1.out _ HX.out).mono ?_); rintro e w1 ⟨rfl, hb1⟩; have HX1 := Lib.hid ((HX).out.trans (Below.mono hb1 (HX).out.size))))
        | (go_at_call 10; ((with_reducible refine (HB1.out _ HX1.out).mono ?_); rintro e w2 ⟨rfl, hb2⟩; have HX2 := Lib.hid ((HX1).out.trans (Below.mono hb2 (HX1).out.size))))
        | (go_at_call 9; ((with_reducible refine (HK.out _ HX2.out).mono ?_); rintro e w3 ⟨rfl, hb3⟩; have HX3 := Lib.hid ((HX2).out.trans (Below.mono hb3 (HX2).out.size)))))
      go_ret
      exact ⟨rfl, HX3.out⟩
    · rw [h2] at B1
      have HB1 := Lib.hid B1
      obtain ⟨hl20, hlg⟩ := (lightGs_iff l).1 h1
      have HMA := Lib.hid (fun (i : Nat) (g : Gp) (hg : l[i]? = some g) (q : Nat) (hq : q < 999999999) (V : World) (hV : Below w.heap.size w V) => mach_is g q hq V (hT.mono hV) ((hI g (List.mem_of_getElem? hg)).mono hV) (ok_of h2 hg).1 (ok_of h2 hg).2 (hlg g (List.mem_of_getElem? hg)).2)
      have HNU := Lib.hid (fun (i : Nat) (g : Gp) (hg : l[i]? = some g) (name : ByteArray) (V : World) => number_any g name V (by have := (ok_of h2 hg).2; omega))
      have HDF := Lib.hid (fun (i j : Nat) (g x : Gp) (hg : l[i]? = some g) (hx : l[j]? = some x) (hji : j < i) => names_differ h2 hg hx hji)
      have HF := Lib.hid hF
      obtain ⟨N, hN⟩ : ∃ N, l.length = N := ⟨_, rfl⟩
      have Hn := Lib.hid hN
      rw [hN] at HA1 HB1 hl20 ⊢
      obtain ⟨p, hp⟩ : ∃ p, n % 999999999 = p := ⟨_, rfl⟩
      obtain ⟨q, hq⟩ : ∃ q, k % 999999999 = q := ⟨_, rfl⟩
      have hp1 : p < 999999999 := by omega
      have hq1 : q < 999999999 := by omega
      have e1 : Int.tmod (n : Int) 999999999 = (p : Int) := by rw [Int.tmod_eq_emod_of_nonneg (by omega)]; omega
      have e2 : Int.tmod (k : Int) 999999999 = (q : Int) := by rw [Int.tmod_eq_emod_of_nonneg (by omega)]; omega
      have f1 : IntKind.i64.wrap (n : Int) = (n : Int) := wrap_in (by omega) (by omega)
      have f2 : IntKind.i64.wrap (k : Int) = (k : Int) := wrap_in (by omega) (by omega)
      have f3 : IntKind.i64.wrap (p : Int) = (p : Int) := wrap_in (by omega) (by omega)
      have f4 : IntKind.i64.wrap (q : Int) = (q : Int) := wrap_in (by omega) (by omega)
      have f5 : IntKind.i64.wrap (1 + (p : Int)) = 1 + (p : Int) := wrap_in (by omega) (by omega)
      have f6 : IntKind.i64.wrap (1 + (q : Int)) = 1 + (q : Int) := wrap_in (by omega) (by omega)
      clear A1 B1 K h1 h2 hT hF hI hN hl hlg hp hq
      go_enter Tryd.func5, Tryd.ntmps5
      go_wp2_with (first
        | (go_at_call 7; ((with_reducible refine (HA1.out _ HX.out).mono ?_); rintro e w1 ⟨rfl, hb1⟩; have HX1 := Lib.hid ((HX).out.trans (Below.mono hb1 (HX).out.size))))
        | (go_at_call 10; ((with_reducible refine (HB1.out _ HX1.out).mono ?_); rintro e w2 ⟨rfl, hb2⟩; have HX2 := Lib.hid ((HX1).out.trans (Below.mono hb2 (HX1).out.size)))))
      go_loopw [9, 10, 11, 12] (fun i _ _ _ wr => ∃ j : Nat, j ≤ N ∧ i = .int .i64 j ∧ Below w2.heap.size w2 wr) (fun i _ _ _ _ => N - (intOf i).toNat)
      case atStart => exact ⟨0, by omega, rfl, by (repeat' (first | with_reducible exact Below.refl _ _ | with_reducible assumption | with_reducible refine Below.drew ?_ | with_reducible refine below_drewN' ?_ _ | with_reducible refine Below.alloc ?_ ?_ _ | with_reducible refine Below.setCell ?_ ?_ _ | with_reducible refine below_step (by assumption) ?_ ?_ | omega | (simp; done) | (simp; omega)))⟩
      case round =>
        obtain ⟨j, hj, rfl, hB⟩ := hrel
        have HB := Lib.hid hB
        have hbz := hB.size
        have HXr := Lib.hid (HX2.out.trans (hB.mono HX2.out.size))
        by_cases hlt : j < N
        · obtain ⟨g, hg⟩ := mem_at (l := l) (k := j) (by rw [Hn.out]; exact hlt)
          obtain ⟨b1, o1, rfl, hb1, hc1⟩ := (HF.out.mono HXr.out) (by rw [Hn.out]; omega)
          have HRG := Lib.hid (row_range (hc1 j g hg))
          have HG := Lib.hid hg
          obtain ⟨c0, -⟩ := grow_cells (hc1 j g hg)
          have hbw1 : b1 < wr.heap.size := hb1
          have HMp := Lib.hid (HMA.out j g hg p hp1)
          have HMq := Lib.hid (HMA.out j g hg q hq1)
          have HNj := Lib.hid (HNU.out j g hg (nameB g.nm (p + 1)))
          clear hc1 hg
          go_wp2_with (first
            | ((with_reducible refine at_load (ty := 40) ?_); refine load_cells rfl 40 (.tmp 38) rfl b1 (o1 + j * 15) rfl [.string g.nm, .int .i64 g.mn, .int .i64 g.mx, .string g.like.nm, .string g.like.gp, .int .i64 g.like.r0, .int .i64 g.like.r1, .int .i64 g.like.r2, .int .i64 g.like.r3, .int .i64 g.like.r4, .slice g.like.la g.like.labs.length g.like.lk, .slice g.like.ta g.like.tnts.length g.like.tk, .bool g.like.rd, .int .i64 g.pr, .int .i64 g.rk] _ Tryd.underlying40 rfl (by kernel_rfl) (rangeAt_mono HRG.out hbw1 (by (repeat' (first | with_reducible exact Below.refl _ _ | with_reducible assumption | with_reducible refine Below.drew ?_ | with_reducible refine below_drewN' ?_ _ | with_reducible refine Below.alloc ?_ ?_ _ | with_reducible refine Below.setCell ?_ ?_ _ | with_reducible refine below_step (by assumption) ?_ ?_ | omega | (simp; done) | (simp; omega))))) ?_)
            | ((with_reducible refine at_load (ty := 40) ?_); refine load_cells rfl 40 (.tmp 44) rfl b1 (o1 + j * 15) rfl [.string g.nm, .int .i64 g.mn, .int .i64 g.mx, .string g.like.nm, .string g.like.gp, .int .i64 g.like.r0, .int .i64 g.like.r1, .int .i64 g.like.r2, .int .i64 g.like.r3, .int .i64 g.like.r4, .slice g.like.la g.like.labs.length g.like.lk, .slice g.like.ta g.like.tnts.length g.like.tk, .bool g.like.rd, .int .i64 g.pr, .int .i64 g.rk] _ Tryd.underlying40 rfl (by kernel_rfl) (rangeAt_mono HRG.out hbw1 (by (repeat' (first | with_reducible exact Below.refl _ _ | with_reducible assumption | with_reducible refine Below.drew ?_ | with_reducible refine below_drewN' ?_ _ | with_reducible refine Below.alloc ?_ ?_ _ | with_reducible refine Below.setCell ?_ ?_ _ | with_reducible refine below_step (by assumption) ?_ ?_ | omega | (simp; done) | (simp; omega))))) ?_)
            | ((with_reducible refine at_store (ty := 38) ?_); refine store_new rfl 38 (.tmp 10) (.tmp 41) rfl _ _ rfl rfl (by kernel_rfl) rfl (by rfl) rfl ?_)
            | ((with_reducible refine at_store (ty := 38) ?_); refine store_new rfl 38 (.tmp 11) (.tmp 47) rfl _ _ rfl rfl (by kernel_rfl) rfl (by rfl) rfl ?_)
            | (go_at_call 19; (with_reducible refine (HMp.out _ HXr.out).mono ?_); rintro e w3 ⟨⟨v, rfl, M1, rfl, hM1, hn1, hgp1, hr1, hl1⟩, hb3⟩; have HI1 := Lib.hid hM1; have Hn1 := Lib.hid hn1; have Hgp1 := Lib.hid hgp1; have Hr1 := Lib.hid hr1; have Hl1 := Lib.hid hl1; clear hM1 hn1 hgp1 hr1 hl1; obtain ⟨hc3, hf3⟩ := bcell hb3; have hz3 := hb3.size; have z3_0 : b1 < w3.heap.size := (by omega); have y3_0 : b1 ≤ w3.heap.size := (by omega); have HX3 := Lib.hid (HXr.out.trans (hb3.mono HXr.out.size)))
            | (go_at_call 19; (with_reducible refine (HMq.out _ (HX3.out.trans (Below.mono (by (repeat' (first | with_reducible exact Below.refl _ _ | with_reducible assumption | with_reducible refine Below.drew ?_ | with_reducible refine below_drewN' ?_ _ | with_reducible refine Below.alloc ?_ ?_ _ | with_reducible refine Below.setCell ?_ ?_ _ | with_reducible refine below_step (by assumption) ?_ ?_ | omega | (simp; done) | (simp; omega)))) HX3.out.size))).mono ?_); rintro e w4 ⟨⟨v, rfl, M2, rfl, hM2, hn2, hgp2, hr2, hl2⟩, hb4⟩; have HI2 := Lib.hid hM2; have Hn2 := Lib.hid hn2; clear hM2 hn2 hgp2 hr2 hl2; obtain ⟨hc4, hf4⟩ := bcell hb4; have hz4 := hb4.size; (try simp at hz4); have z4_0 : b1 < w4.heap.size := (by omega); have y4_0 : b1 ≤ w4.heap.size := (by omega); have z4_1 : w3.heap.size < w4.heap.size := (by omega); have y4_1 : w3.heap.size ≤ w4.heap.size := (by omega)))
          obtain ⟨W, hW⟩ : ∃ W, W = w4.alloc (.cells #[.string M2.nm, .string M2.gp, .int .i64 M2.r0, .int .i64 M2.r1, .int .i64 M2.r2, .int .i64 M2.r3, .int .i64 M2.r4, .slice M2.la M2.labs.length M2.lk, .slice M2.ta M2.tnts.length M2.tk, .bool M2.rd] 38) := ⟨_, rfl⟩
          rw [← hW]
          have hB4 := Lib.hid (show Below w4.heap.size w4 W by rw [hW]; (repeat' (first | with_reducible exact Below.refl _ _ | with_reducible assumption | with_reducible refine Below.drew ?_ | with_reducible refine below_drewN' ?_ _ | with_reducible refine Below.alloc ?_ ?_ _ | with_reducible refine Below.setCell ?_ ?_ _ | with_reducible refine below_step (by assumption) ?_ ?_ | omega | (simp; done) | (simp; omega))))
          have hB34 := Lib.hid (show Below (w3.heap.size + 1) (w3.alloc (.cells #[.string M1.nm, .string M1.gp, .int .i64 M1.r0, .int .i64 M1.r1, .int .i64 M1.r2, .int .i64 M1.r3, .int .i64 M1.r4, .slice M1.la M1.labs.length M1.lk, .slice M1.ta M1.tnts.length M1.tk, .bool M1.rd] 38)) W from by
            have h1 := hb4
            rw [World.size_alloc] at h1
            exact h1.trans (hB4.out.mono hz4))
          have HBW := Lib.hid (show Below wr.heap.size wr W from by
            have h1 : Below wr.heap.size w3 (w3.alloc (.cells #[.string M1.nm, .string M1.gp, .int .i64 M1.r0, .int .i64 M1.r1, .int .i64 M1.r2, .int .i64 M1.r3, .int .i64 M1.r4, .slice M1.la M1.labs.length M1.lk, .slice M1.ta M1.tnts.length M1.tk, .bool M1.rd] 38)) := Below.alloc (Below.refl _ _) hz3 _
            exact hb3.trans (h1.trans (hB34.out.mono (by omega))))
          have hWz : w4.heap.size < W.heap.size := by rw [hW]; simp
          have hWz3 : w3.heap.size < W.heap.size := by omega
          have hbW : b1 < W.heap.size := by omega
          have HRW := Lib.hid (rangeAt_mono HRG.out hbw1 HBW.out)
          have HR1 := Lib.hid (show W.rangeAt w3.heap.size 0 [.string M1.nm, .string M1.gp, .int .i64 M1.r0, .int .i64 M1.r1, .int .i64 M1.r2, .int .i64 M1.r3, .int .i64 M1.r4, .slice M1.la M1.labs.length M1.lk, .slice M1.ta M1.tnts.length M1.tk, .bool M1.rd] from rangeAt_mono (rangeAt_new w3 _ 38) (by simp) (by rw [World.size_alloc]; exact hB34.out))
          have HI1W := Lib.hid (show MacIn W M1 from (HI1.out.mono ((Below.refl _ w3).alloc (Nat.le_refl _) (.cells #[.string M1.nm, .string M1.gp, .int .i64 M1.r0, .int .i64 M1.r1, .int .i64 M1.r2, .int .i64 M1.r3, .int .i64 M1.r4, .slice M1.la M1.labs.length M1.lk, .slice M1.ta M1.tnts.length M1.tk, .bool M1.rd] 38))).mono (by rw [World.size_alloc]; exact hB34.out))
          have x0 : W.cell? ⟨w3.heap.size, 0, none⟩ = some (.string M1.nm) := by simpa using HR1.out 0 _ rfl
          have x1 : W.cell? ⟨w3.heap.size, 1, none⟩ = some (.string M1.gp) := by simpa using HR1.out 1 _ rfl
          have y0 : W.cell? ⟨w4.heap.size, 0, none⟩ = some (.string M2.nm) := by rw [hW]; simp [go_sem]
          have s0 : W.cell? ⟨b1, o1 + j * 15, none⟩ = some (.string g.nm) := by simpa using HRW.out 0 _ rfl
          have HXW := Lib.hid (HXr.out.trans (HBW.out.mono HXr.out.size))
          have HNW := Lib.hid (show ∀ V : World, Calls Tryd.prog 22 #[.agg #[.string (g).nm, .int .i64 (g).mn, .int .i64 (g).mx, .string (g).like.nm, .string (g).like.gp, .int .i64 (g).like.r0, .int .i64 (g).like.r1, .int .i64 (g).like.r2, .int .i64 (g).like.r3, .int .i64 (g).like.r4, .slice (g).like.la (g).like.labs.length (g).like.lk, .slice (g).like.ta (g).like.tnts.length (g).like.tk, .bool (g).like.rd, .int .i64 (g).pr, .int .i64 (g).rk], .string M1.nm] V fun e w' => e = .returned (.int .i64 (1 + (p : Int))) ∧ Below V.heap.size V w' from fun V => by
            have h := HNU.out j g HG.out M1.nm V
            rw [Hn1.out, numG_own g.nm (p + 1) (by omega) (by omega)] at h
            rw [Hn1.out, show (1 + (p : Int)) = ((p + 1 : Nat) : Int) by omega]
            exact h)
          have HRM := Lib.hid (show ∀ V : World, Below W.heap.size W V → Calls Tryd.prog 24 #[.agg #[.string (M1).nm, .string (M1).gp, .int .i64 (M1).r0, .int .i64 (M1).r1, .int .i64 (M1).r2, .int .i64 (M1).r3, .int .i64 (M1).r4, .slice (M1).la (M1).labs.length (M1).lk, .slice (M1).ta (M1).tnts.length (M1).tk, .bool (M1).rd]] V fun e w' => e = .returned (.bool true) ∧ Below V.heap.size V w' from fun V hV => by
            have h := rightm_any M1 V (HI1W.out.mono hV).here Hl1.out
            rw [Hr1.out] at h
            exact h)
          have k3 : (M1.gp.toList == g.nm.toList) = true := tnt_str Hgp1.out
          have hpq : ((M1.nm.toList == M2.nm.toList) = true ∧ ((1 + (p : Int)) == (1 + (q : Int))) = true) ∨ ((M1.nm.toList == M2.nm.toList) = false ∧ ((1 + (p : Int)) == (1 + (q : Int))) = false) := by
            by_cases e : p = q
            · left
              refine ⟨tnt_str (by rw [Hn1.out, Hn2.out, e]), by rw [e]; simp⟩
            · right
              refine ⟨tnt_strn fun h => e ?_, by rw [beq_eq_false_iff_ne]; omega⟩
              rw [Hn1.out, Hn2.out] at h
              have := (name_inj (by omega) (by omega) h).2
              omega
          clear hW hb3 hc3 hf3 hb4 hc4 hf4 hz4
          rcases hpq with ⟨k1, k2⟩ | ⟨k1, k2⟩
          all_goals
            have hcH := held_cell
            refine region_rel (by kernel_rfl) (by kernel_rfl) ?_
            repeat
              ((with_reducible refine relStep (fun K hK => ?_))
               (have HK := Lib.hid hK)
               clear hK
               (apply relInl
                · intro r n hf
                  have Hf := Lib.hid hf
                  clear hf
                  (first
                    | ((first | ((with_reducible refine at_rel (ty := 40) ?_); refine rel_load rfl b1 (o1 + j * 15) rfl [.string g.nm, .int .i64 g.mn, .int .i64 g.mx, .string g.like.nm, .string g.like.gp, .int .i64 g.like.r0, .int .i64 g.like.r1, .int .i64 g.like.r2, .int .i64 g.like.r3, .int .i64 g.like.r4, .slice g.like.la g.like.labs.length g.like.lk, .slice g.like.ta g.like.tnts.length g.like.tk, .bool g.like.rd, .int .i64 g.pr, .int .i64 g.rk] _ Tryd.underlying40 rfl (by kernel_rfl) (rangeAt_mono HRW.out hbW n.below) rfl) | ((with_reducible refine at_rel (ty := 38) ?_); refine rel_load rfl w3.heap.size 0 rfl [.string M1.nm, .string M1.gp, .int .i64 M1.r0, .int .i64 M1.r1, .int .i64 M1.r2, .int .i64 M1.r3, .int .i64 M1.r4, .slice M1.la M1.labs.length M1.lk, .slice M1.ta M1.tnts.length M1.tk, .bool M1.rd] _ Tryd.underlying38 rfl (by kernel_rfl) (rangeAt_mono HR1.out hWz3 n.below) rfl)))
                    | (unfold relAt
                       go_simp
                       (first | (refine relUpon_val ?_ (Below.refl _ _); exact rfl) | exact rfl | (refine relUpon_enter ?_; (first | (go_at_call 22; (with_reducible refine (HNW.out _).mono ?_); rintro e w5 ⟨rfl, hb⟩; exact ⟨⟨_, rfl, rfl⟩, hb⟩) | (go_at_call 24; (with_reducible refine (HRM.out _ n.below).mono ?_); rintro e w5 ⟨rfl, hb⟩; exact ⟨⟨_, rfl, rfl⟩, hb⟩))))))
                (simp only [Act.put, List.setIfInBounds_toArray, List.set_cons_zero, List.set_cons_succ])
                (with_reducible refine HK.out _ _ ?_)
                clear HK K))
            refine relNil ?_
            intro r5 n5 hx5
            clear hcH
            (try simp only [List.nil_append, List.cons_append, List.mem_cons, List.not_mem_nil, or_false, forall_eq_or_imp, forall_eq, false_implies, implies_true] at hx5)
            obtain ⟨w5, hb5⟩ := n5
            (try dsimp only)
            obtain ⟨hc5, hf5⟩ := bcell hb5
            have hz5 := hb5.size
            (try simp at hz5)
            have HX5 := Lib.hid (HXW.out.trans (hb5.mono HXW.out.size))
            have HRW5 := Lib.hid (show ∀ V, Below w5.heap.size w5 V → V.rangeAt w3.heap.size 0 [.string M1.nm, .string M1.gp, .int .i64 M1.r0, .int .i64 M1.r1, .int .i64 M1.r2, .int .i64 M1.r3, .int .i64 M1.r4, .slice M1.la M1.labs.length M1.lk, .slice M1.ta M1.tnts.length M1.tk, .bool M1.rd] from fun V hV => rangeAt_mono (rangeAt_mono HR1.out hWz3 hb5) (by omega) hV)
            clear x0 x1 y0 s0 hc5 hf5 k1 k2 k3
            obtain ⟨wo, hwo⟩ : ∃ V, V = wr := ⟨_, rfl⟩
            subst hwo
            go_wp2
            go_loopw [12] (fun v wr => ∃ j2 : Nat, j2 ≤ j ∧ v = .int .i64 j2 ∧ Below w5.heap.size w5 wr) (fun v _ => j - (intOf v).toNat)
            case atStart => exact ⟨0, by omega, rfl, by (repeat' (first | with_reducible exact Below.refl _ _ | with_reducible assumption | with_reducible refine Below.drew ?_ | with_reducible refine below_drewN' ?_ _ | with_reducible refine Below.alloc ?_ ?_ _ | with_reducible refine Below.setCell ?_ ?_ _ | with_reducible refine below_step (by assumption) ?_ ?_ | omega | (simp; done) | (simp; omega)))⟩
            case round =>
              obtain ⟨j2, hj2, rfl, hD⟩ := hrel
              have HD := Lib.hid hD
              have hdz := hD.size
              by_cases hlt2 : j2 < j
              · obtain ⟨x, hx⟩ := mem_at (l := l) (k := j2) (by rw [Hn.out]; omega)
                have HXq := Lib.hid (HX5.out.trans (hD.mono HX5.out.size))
                obtain ⟨b2, o2, e9, hb2, hc2⟩ := (HF.out.mono HXq.out) (by rw [Hn.out]; omega)
                obtain ⟨rfl, rfl⟩ : b1 = b2 ∧ o1 = o2 := by
                  simp only [Option.some.injEq, Addr.mk.injEq, and_true] at e9
                  exact e9
                have HRX := Lib.hid (row_range (hc2 j2 x hx))
                have HMx := Lib.hid (HMA.out j2 x hx q hq1)
                have k9 : ((nameB x.nm (q + 1)).toList == M1.nm.toList) = false := tnt_strn fun h => by
                  rw [Hn1.out] at h
                  exact HDF.out j j2 g x HG.out hx hlt2 (name_inj (by omega) (by omega) h).1.symm
                have x0 : wr.cell? ⟨w3.heap.size, 0, none⟩ = some (.string M1.nm) := by simpa using HRW5.out wr hD 0 _ rfl
                have hq3 : w3.heap.size < wr.heap.size := by omega
                have hj2N : j2 < N := by omega
                obtain ⟨X, hX⟩ : ∃ X, nameB x.nm (q + 1) = X := ⟨_, rfl⟩
                rw [hX] at k9
                have HXX := Lib.hid hX
                clear hc2 hx hX e9
                go_wp2
                have hcH := held_cell
                refine region_rel (by kernel_rfl) (by kernel_rfl) ?_
                repeat
                  ((with_reducible refine relStep (fun K hK => ?_))
                   (have HK := Lib.hid hK)
                   clear hK
                   (apply relInl
                    · intro r n hf
                      have Hf := Lib.hid hf
                      clear hf
                      (first
                        | (((with_reducible refine at_rel (ty := 40) ?_); refine rel_load rfl b1 (o1 + j2 * 15) rfl [.string x.nm, .int .i64 x.mn, .int .i64 x.mx, .string x.like.nm, .string x.like.gp, .int .i64 x.like.r0, .int .i64 x.like.r1, .int .i64 x.like.r2, .int .i64 x.like.r3, .int .i64 x.like.r4, .slice x.like.la x.like.labs.length x.like.lk, .slice x.like.ta x.like.tnts.length x.like.tk, .bool x.like.rd, .int .i64 x.pr, .int .i64 x.rk] _ Tryd.underlying40 rfl (by kernel_rfl) (rangeAt_mono HRX.out hb2 n.below) rfl))
                        | (unfold relAt
                           go_simp
                           (first | (refine relUpon_val ?_ (Below.refl _ _); exact rfl) | exact rfl | (refine relUpon_enter ?_; fail))))
                    (simp only [Act.put, List.setIfInBounds_toArray, List.set_cons_zero, List.set_cons_succ])
                    (with_reducible refine HK.out _ _ ?_)
                    clear HK K))
                (with_reducible refine relStep (fun K hK => ?_))
                (have HK := Lib.hid hK)
                clear hK
                refine relInr (fun v _ => ∃ M : Mac, v = .agg #[.string (M).nm, .string (M).gp, .int .i64 (M).r0, .int .i64 (M).r1, .int .i64 (M).r2, .int .i64 (M).r3, .int .i64 (M).r4, .slice (M).la (M).labs.length (M).lk, .slice (M).ta (M).tnts.length (M).tk, .bool (M).rd] ∧ M.nm = X) ((fun v u u' _ h => h)) (fun r n hf => ?_) ?_
                · have Hf := Lib.hid hf
                  clear hf HK K
                  unfold relAt
                  (skip)
                  go_simp
                  ((refine relUpon_enter ?_; go_at_call 19; (with_reducible refine (HMx.out _ (HXq.out.trans (Below.mono n.below HXq.out.size))).mono ?_); rintro e w7 ⟨⟨v, rfl, M, rfl, _, hnm, _⟩, hb⟩; exact ⟨⟨_, rfl, M, rfl, by rw [hnm]; exact HXX.out⟩, hb⟩))
                (simp only [Act.put, List.setIfInBounds_toArray, List.set_cons_zero, List.set_cons_succ])
                (with_reducible refine HK.out _ _ ?_)
                clear HK K
                ((with_reducible refine relStep (fun K hK => ?_))
                 (have HK := Lib.hid hK)
                 clear hK
                 (apply relInl
                  · intro r n hf
                    have Hf := Lib.hid hf
                    clear hf
                    ((obtain ⟨M, hv, hnm⟩ := given_at Hf.out 0 rfl (by dsimp only; decide +kernel); dsimp only at hv; have hfd : ∀ V : World, (Instr.field 38 (r 5) 0).run Tryd.prog V = .ok (.string X) V := (fun V => by rw [hv, ← hnm]; kernel_rfl); unfold relAt; go_simp; refine relUpon_val ?_ (Below.refl _ _); exact rfl)))
                 (simp only [Act.put, List.setIfInBounds_toArray, List.set_cons_zero, List.set_cons_succ])
                 (with_reducible refine HK.out _ _ ?_)
                 clear HK K)
                repeat
                  ((with_reducible refine relStep (fun K hK => ?_))
                   (have HK := Lib.hid hK)
                   clear hK
                   (apply relInl
                    · intro r n hf
                      have Hf := Lib.hid hf
                      clear hf
                      (first
                        | (fail)
                        | (unfold relAt
                           go_simp
                           (first | (refine relUpon_val ?_ (Below.refl _ _); exact rfl) | exact rfl | (refine relUpon_enter ?_; fail))))
                    (simp only [Act.put, List.setIfInBounds_toArray, List.set_cons_zero, List.set_cons_succ])
                    (with_reducible refine HK.out _ _ ?_)
                    clear HK K))
                refine relNil ?_
                intro r8 n8 hx8
                clear hcH
                (try simp only [List.nil_append, List.cons_append, List.mem_cons, List.not_mem_nil, or_false, forall_eq_or_imp, forall_eq, false_implies, implies_true] at hx8)
                obtain ⟨w8, hb8⟩ := n8
                (try dsimp only)
                obtain ⟨hc8, hf8⟩ := bcell hb8
                have hz8 := hb8.size
                (try simp at hz8)
                go_wp2
                go_roundw
                case rel => exact ⟨j2 + 1, by omega, by go_num, by (repeat' (first | with_reducible exact Below.refl _ _ | with_reducible assumption | with_reducible refine Below.drew ?_ | with_reducible refine below_drewN' ?_ _ | with_reducible refine Below.alloc ?_ ?_ _ | with_reducible refine Below.setCell ?_ ?_ _ | with_reducible refine below_step (by assumption) ?_ ?_ | omega | (simp; done) | (simp; omega)))⟩
                case measure => simp [intOf]; omega
              · obtain rfl : j2 = j := by omega
                go_wp2
                go_roundw
                case rel => exact ⟨j2 + 1, by omega, by go_num, HB.out.trans ((HBW.out.trans ((hb5.trans (hD.mono hb5.size)).mono (Nat.le_trans HBW.out.size (Nat.le_refl _)))).mono hbz)⟩
                case measure => simp [intOf]; omega
        · obtain rfl : j = N := by omega
          go_wp2_with (go_at_call 9; ((with_reducible refine (HK.out _ HXr.out).mono ?_); rintro e w3 ⟨rfl, hb3⟩; have HX3 := Lib.hid ((HXr).out.trans (Below.mono hb3 (HXr).out.size))))
          go_ret
          exact ⟨rfl, HX3.out⟩
set_option maxRecDepth 100000 in
          theorem lifted (os : Os) (started : os.Started) (H : Type) (enc : TypeId × Value → H) :
              ReturnsInHanded {} Tryd.checked os 5 .any (fun w args => (Rows.groupOnceSpec.pre enc Tryd.prog Tryd.f5 Rows.groupOnceRow.domain false w args ∧ laidMetH Tryd.prog Rows.groupOnceRow.laid w) ∧ sizedMet enc Tryd.prog Tryd.f5 (OpenSpec.ofChange Rows.groupOnceSpec) false w args)
                (Rows.groupOnceSpec.post enc Tryd.prog Tryd.f5 false true false false) := by
            refine returnsInHanded_of_change_and (C := Tryd.checked) (X := fun w _ => laidMetH Tryd.prog Rows.groupOnceRow.laid w) (fun _ _ _ hh h => h.of_heap hh) Tryd.own started (by kernel_rfl) Tryd.func5
              (ChangeSpec.witness_at (enc := enc) (C := Tryd.checked) (os := os) (X := fun w _ => laidMetH Tryd.prog Rows.groupOnceRow.laid w) false (laidWorld os) #[.slice none 0 0, .int .u32 0, .int .u32 0] 8 rfl (by kernel_rfl) (by kernel_rfl) (by kernel_rfl) (by kernel_rfl) (by kernel_rfl) (laidWorld_met os _)) ?_
            intro W base args ds gs before hval hW _ _ hL _
            have hW' := hW
            obtain ⟨p, q, hA, hV, rfl, hfz, hnd⟩ := hW
            rw [Tryd.params5] at hA hval
            obtain ⟨v0, v1, v2, d0, d1, d2, p0, p1, p2, rfl, rfl, rfl, h0, h1, h2⟩ := trodAll_three hA
            obtain ⟨a, l, ka, rfl, _, hF, hl, _, hI⟩ := open_grps (hval 0 22 v0 rfl rfl) h0
            obtain ⟨n, rfl, _, _, wn⟩ := open_int Tryd.underlying47 (hval 1 47 v1 rfl rfl) h1
            obtain ⟨k, rfl, _, _, wk⟩ := open_int Tryd.underlying47 (hval 2 47 v2 rfl rfl) h2
            have b1 : 0 ≤ n ∧ n ≤ 4294967295 := (by simpa [Lit.wf, IntKind.min, IntKind.max, IntKind.signed, IntKind.bits] using wn)
            have b2 : 0 ≤ k ∧ k ≤ 4294967295 := (by simpa [Lit.wf, IntKind.min, IntKind.max, IntKind.signed, IntKind.bits] using wk)
            obtain ⟨n, rfl⟩ := Int.eq_ofNat_of_zero_le b1.1
            obtain ⟨k, rfl⟩ := Int.eq_ofNat_of_zero_le b2.1
            refine (walk a ka l n k W (tab_of hL) hF hl hI (by omega) (by omega)).mono fun e W' ⟨he, hb⟩ => ?_
            exact ⟨_, he, law_post Tryd.laidOut hW' rfl (by kernel_rfl) (by kernel_rfl) Tryd.underlying4 rfl rfl rfl hb⟩
          
          theorem over : Rows.GroupOnceSaid :=
            OpenClaim.holds_of_wide 5 Tryd.f5 rfl rfl rfl rfl rfl rfl rfl ⟨rfl, rfl, rfl, rfl, rfl⟩ rfl rfl rfl rfl rfl (by kernel_rfl) Tryd.func5 (by kernel_rfl)
              (of_decide_eq_true (by kernel_rfl)) (by unfold Func.isWrapper; first | (rw [if_pos (by decide +kernel)]; kernel_rfl) | (rw [if_neg (by decide +kernel)]; exact ⟨rfl, rfl⟩))
              (fun os started H enc _ => lifted os started H enc)
          
          /-- The statement: the card. -/
          theorem proved : Rows.GroupOnceCardSaid :=
            Claim7.holds_tied_plain_at .later [] [.data, .data, .data] true Rows.groupOnceCard.stood.harness Rows.groupOnceCard.stood.looks
              over (fun _ h => by cases h) (by kernel_rfl) (fun _ h => by cases h) groupOnce_row_tie rfl ⟨rfl, rfl⟩ (by kernel_rfl) rfl
              (fun f fn hf hfn => by
                obtain rfl : f = 5 := Option.some.inj ((show Tryd.prog.funcNamed Rows.groupOnceRow.func = some 5 by kernel_rfl).symm.trans hf) |>.symm
                obtain rfl : fn = Tryd.f5 := (Option.some.inj (Tryd.func5.symm.trans hfn)).symm
                exact ⟨by kernel_rfl, fun j t ht => by
                  rw [Tryd.params5] at ht
                  rcases j with _ | _ | _ | j
                  · obtain rfl : t = 22 := by simpa using ht.symm
                    exact (show Tryd.prog.wantsStandIn 22 = false by kernel_rfl)
                  · obtain rfl : t = 47 := by simpa using ht.symm
                    exact (show Tryd.prog.wantsStandIn 47 = false by kernel_rfl)
                  · obtain rfl : t = 47 := by simpa using ht.symm
                    exact (show Tryd.prog.wantsStandIn 47 = false by kernel_rfl)
                  · simp at ht⟩)
              (by kernel_rfl)
end groupOnce
end Go.Proofs.YtgdankihfnnpaaaDoor
