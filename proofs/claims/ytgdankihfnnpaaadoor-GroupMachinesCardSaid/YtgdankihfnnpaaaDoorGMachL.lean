/-
  GroupMachines: the machine of any number, and the number of any name, are as the document says; what is told, and spoilt, is told again as it was.
-/
import Derived.Test.YtgdankihfnnpaaaDoorGLaw0
import Derived.Test.YtgdankihfnnpaaaDoorAgg2
import Derived.Deep.AppendLies
namespace Go.Proofs.YtgdankihfnnpaaaDoor
open Go.ChangeShapes Go.WideShapes Go.ChangeAt Go.RowKit
set_option linter.unusedVariables false
namespace groupMachines

theorem own_cell {w : World} {base g cap n K : Nat} {e : TypeId} {xs : List Value} (h : w.ownsRow base e K (.slice (some ⟨g, 0, none⟩) n cap) n xs) (j : Nat) (hj : j < n * K) : ∃ u, w.cell? ⟨g, j, none⟩ = some u := by
  have h1 := World.ownsRow.cellAt h j hj
  rw [List.getElem?_eq_getElem (by rw [h.1]; exact hj)] at h1
  exact ⟨_, h1⟩
theorem light_one (g : Gp) : lightGs [g] = lightG g := by
  unfold lightGs
  rw [show decide ([g].length ≤ 20) = true from rfl]
  simp

theorem light1_any (g : Gp) (b : Nat) (w : World) (hF : GpL w (some ⟨b, 0, none⟩) [g]) (hA : MacIn w g.like) :
    Calls Tryd.prog 7 #[.slice (some ⟨b, 0, none⟩) 1 1] w fun e w' => e = .returned (.bool (lightG g)) ∧ Below w.heap.size w w' := by
  have h := lightgs_any (some ⟨b, 0, none⟩) [g] 1 w hF (show 1 ≤ maxLen by decide) (fun x hx => by rw [List.mem_singleton.1 hx]; exact hA)
  rw [light_one] at h
  exact h

set_option maxRecDepth 100000 in
set_option maxHeartbeats 8000000 in
theorem walk_no (g : Gp) (n : Int) (name : ByteArray) (w : World) (hT : Tab10 w) (hA : MacIn w g.like) (h : lightG g = false ∨ (lightG g = true ∧ 400 < name.size)) :
    Calls Tryd.prog 4 #[.agg #[.string (g).nm, .int .i64 (g).mn, .int .i64 (g).mx, .string (g).like.nm, .string (g).like.gp, .int .i64 (g).like.r0, .int .i64 (g).like.r1, .int .i64 (g).like.r2, .int .i64 (g).like.r3, .int .i64 (g).like.r4, .slice (g).like.la (g).like.labs.length (g).like.lk, .slice (g).like.ta (g).like.tnts.length (g).like.tk, .bool (g).like.rd, .int .i64 (g).pr, .int .i64 (g).rk], .int .i64 n, .string name] w fun e w' => e = .returned (.bool true) ∧ Below w.heap.size w w' := by
  have HX := Lib.hid (Below.refl w.heap.size w)
  have K := fun V (hV : Below w.heap.size w V) => known_any V (hT.mono hV)
  have A1 := fun V (b : Nat) (hV : Below w.heap.size w V) (hF : GpL V (some ⟨b, 0, none⟩) [g]) => light1_any g b V hF (hA.mono hV)
  have HK := Lib.hid K
  have hG0 := Lib.hid (rangeAt_new w [.string g.nm, .int .i64 g.mn, .int .i64 g.mx, .string g.like.nm, .string g.like.gp, .int .i64 g.like.r0, .int .i64 g.like.r1, .int .i64 g.like.r2, .int .i64 g.like.r3, .int .i64 g.like.r4, .slice g.like.la g.like.labs.length g.like.lk, .slice g.like.ta g.like.tnts.length g.like.tk, .bool g.like.rd, .int .i64 g.pr, .int .i64 g.rk] 40)
  have hN2 : ∀ (V : World) (o : Obj), GpL ((V.alloc o).alloc (.cells #[.string g.nm, .int .i64 g.mn, .int .i64 g.mx, .string g.like.nm, .string g.like.gp, .int .i64 g.like.r0, .int .i64 g.like.r1, .int .i64 g.like.r2, .int .i64 g.like.r3, .int .i64 g.like.r4, .slice g.like.la g.like.labs.length g.like.lk, .slice g.like.ta g.like.tnts.length g.like.tk, .bool g.like.rd, .int .i64 g.pr, .int .i64 g.rk] 40)) (some ⟨V.heap.size + 1, 0, none⟩) [g] := fun V o => RowsAt.new2 grow_len V o [g] 40
  have HN2 := Lib.hid hN2
  clear hN2
  obtain ⟨b, hb⟩ : ∃ b, lightG g = b := ⟨_, rfl⟩
  rw [hb] at A1 h
  have HA1 := Lib.hid A1
  clear A1 K hb hT hA
  cases b
  · clear h
    go_enter Tryd.func4, Tryd.ntmps4
    go_wp2_with (first
      | ((with_reducible refine at_load (ty := 40) ?_); refine load_cells rfl 40 (.tmp 3) rfl w.heap.size 0 rfl [.string g.nm, .int .i64 g.mn, .int .i64 g.mx, .string g.like.nm, .string g.like.gp, .int .i64 g.like.r0, .int .i64 g.like.r1, .int .i64 g.like.r2, .int .i64 g.like.r3, .int .i64 g.like.r4, .slice g.like.la g.like.labs.length g.like.lk, .slice g.like.ta g.like.tnts.length g.like.tk, .bool g.like.rd, .int .i64 g.pr, .int .i64 g.rk] _ Tryd.underlying40 rfl (by kernel_rfl) (rangeAt_mono hG0.out (by simp) (by (repeat' (first | with_reducible exact Below.refl _ _ | with_reducible assumption | with_reducible refine Below.drew ?_ | with_reducible refine below_drewN' ?_ _ | with_reducible refine Below.alloc ?_ ?_ _ | with_reducible refine Below.setCell ?_ ?_ _ | with_reducible refine below_step (by assumption) ?_ ?_ | omega | (simp; done) | (simp; omega))))) ?_)
      | (go_at_call 7; (with_reducible refine (HA1.out _ (w.heap.size + 1) (by (repeat' (first | with_reducible exact Below.refl _ _ | with_reducible assumption | with_reducible refine Below.drew ?_ | with_reducible refine below_drewN' ?_ _ | with_reducible refine Below.alloc ?_ ?_ _ | with_reducible refine Below.setCell ?_ ?_ _ | with_reducible refine below_step (by assumption) ?_ ?_ | omega | (simp; done) | (simp; omega)))) (HN2.out _ _)).mono ?_); rintro e w1 ⟨rfl, hb1⟩; have hz1 := hb1.size; have HX1 := Lib.hid (show Below w.heap.size w w1 by (repeat' (first | with_reducible exact Below.refl _ _ | with_reducible assumption | with_reducible refine Below.drew ?_ | with_reducible refine below_drewN' ?_ _ | with_reducible refine Below.alloc ?_ ?_ _ | with_reducible refine Below.setCell ?_ ?_ _ | with_reducible refine below_step (by assumption) ?_ ?_ | omega | (simp; done) | (simp; omega)))))
      | (go_at_call 9; ((with_reducible refine (HK.out _ HX1.out).mono ?_); rintro e w2 ⟨rfl, hb2⟩; have HX2 := Lib.hid ((HX1).out.trans (Below.mono hb2 (HX1).out.size)))))
    go_ret
    exact ⟨rfl, HX2.out⟩
  · have k3 : decide ((400 : Int) < (name.size : Int)) = true := decide_eq_true (by
      rcases h with h | h
      · cases h
      · have := h.2
        omega)
    clear h
    go_enter Tryd.func4, Tryd.ntmps4
    go_wp2_with (first
      | ((with_reducible refine at_load (ty := 40) ?_); refine load_cells rfl 40 (.tmp 3) rfl w.heap.size 0 rfl [.string g.nm, .int .i64 g.mn, .int .i64 g.mx, .string g.like.nm, .string g.like.gp, .int .i64 g.like.r0, .int .i64 g.like.r1, .int .i64 g.like.r2, .int .i64 g.like.r3, .int .i64 g.like.r4, .slice g.like.la g.like.labs.length g.like.lk, .slice g.like.ta g.like.tnts.length g.like.tk, .bool g.like.rd, .int .i64 g.pr, .int .i64 g.rk] _ Tryd.underlying40 rfl (by kernel_rfl) (rangeAt_mono hG0.out (by simp) (by (repeat' (first | with_reducible exact Below.refl _ _ | with_reducible assumption | with_reducible refine Below.drew ?_ | with_reducible refine below_drewN' ?_ _ | with_reducible refine Below.alloc ?_ ?_ _ | with_reducible refine Below.setCell ?_ ?_ _ | with_reducible refine below_step (by assumption) ?_ ?_ | omega | (simp; done) | (simp; omega))))) ?_)
      | (go_at_call 7; (with_reducible refine (HA1.out _ (w.heap.size + 1) (by (repeat' (first | with_reducible exact Below.refl _ _ | with_reducible assumption | with_reducible refine Below.drew ?_ | with_reducible refine below_drewN' ?_ _ | with_reducible refine Below.alloc ?_ ?_ _ | with_reducible refine Below.setCell ?_ ?_ _ | with_reducible refine below_step (by assumption) ?_ ?_ | omega | (simp; done) | (simp; omega)))) (HN2.out _ _)).mono ?_); rintro e w1 ⟨rfl, hb1⟩; have hz1 := hb1.size; have HX1 := Lib.hid (show Below w.heap.size w w1 by (repeat' (first | with_reducible exact Below.refl _ _ | with_reducible assumption | with_reducible refine Below.drew ?_ | with_reducible refine below_drewN' ?_ _ | with_reducible refine Below.alloc ?_ ?_ _ | with_reducible refine Below.setCell ?_ ?_ _ | with_reducible refine below_step (by assumption) ?_ ?_ | omega | (simp; done) | (simp; omega)))))
      | (go_at_call 9; ((with_reducible refine (HK.out _ HX1.out).mono ?_); rintro e w2 ⟨rfl, hb2⟩; have HX2 := Lib.hid ((HX1).out.trans (Below.mono hb2 (HX1).out.size)))))
    go_ret
    exact ⟨rfl, HX2.out⟩

theorem at_rel {P : Program} {ops : Array Oper} {a : Act} {w : World} {R : Value → World → Prop} {d0 : Option Tmp} {ty : TypeId} {x : Operand} {t : TypeId} {p : String} {af : Array Edge} {g : Option (Nat × Bool)}
    (h : relAt P ops { dst := d0, op := .load ty x, type := t, pos := p, after := af, guard := g } a w R) : relAt P ops { dst := d0, op := .load ty x, type := t, pos := p, after := af, guard := g } a w R := h
theorem rangeAt_below {w w' : World} {b off B : Nat} {cs : List Value} (h : w.rangeAt b off cs) (hlt : b < B) (hb : Below B w w') : w'.rangeAt b off cs := fun j v hv => by
  rw [hb.cell (p := ⟨b, off + j, none⟩) hlt]
  exact h j v hv

set_option maxRecDepth 100000 in
set_option maxHeartbeats 8000000 in
theorem walk_yes (g : Gp) (n : Int) (name : ByteArray) (w : World) (hT : Tab10 w) (hA : MacIn w g.like) (h : lightG g = true) (hN : name.size ≤ 400) :
    Calls Tryd.prog 4 #[.agg #[.string (g).nm, .int .i64 (g).mn, .int .i64 (g).mx, .string (g).like.nm, .string (g).like.gp, .int .i64 (g).like.r0, .int .i64 (g).like.r1, .int .i64 (g).like.r2, .int .i64 (g).like.r3, .int .i64 (g).like.r4, .slice (g).like.la (g).like.labs.length (g).like.lk, .slice (g).like.ta (g).like.tnts.length (g).like.tk, .bool (g).like.rd, .int .i64 (g).pr, .int .i64 (g).rk], .int .i64 n, .string name] w fun e w' => e = .returned (.bool true) ∧ Below w.heap.size w w' := by
  have HX := Lib.hid (Below.refl w.heap.size w)
  have K := fun V (hV : Below w.heap.size w V) => known_any V (hT.mono hV)
  have A1 := fun V (b : Nat) (hV : Below w.heap.size w V) (hF : GpL V (some ⟨b, 0, none⟩) [g]) => light1_any g b V hF (hA.mono hV)
  rw [h] at A1
  have HKn := Lib.hid K
  have HA1 := Lib.hid A1
  have hG0 := Lib.hid (rangeAt_new w [.string g.nm, .int .i64 g.mn, .int .i64 g.mx, .string g.like.nm, .string g.like.gp, .int .i64 g.like.r0, .int .i64 g.like.r1, .int .i64 g.like.r2, .int .i64 g.like.r3, .int .i64 g.like.r4, .slice g.like.la g.like.labs.length g.like.lk, .slice g.like.ta g.like.tnts.length g.like.tk, .bool g.like.rd, .int .i64 g.pr, .int .i64 g.rk] 40)
  have hN2 : ∀ (V : World) (o : Obj), GpL ((V.alloc o).alloc (.cells #[.string g.nm, .int .i64 g.mn, .int .i64 g.mx, .string g.like.nm, .string g.like.gp, .int .i64 g.like.r0, .int .i64 g.like.r1, .int .i64 g.like.r2, .int .i64 g.like.r3, .int .i64 g.like.r4, .slice g.like.la g.like.labs.length g.like.lk, .slice g.like.ta g.like.tnts.length g.like.tk, .bool g.like.rd, .int .i64 g.pr, .int .i64 g.rk] 40)) (some ⟨V.heap.size + 1, 0, none⟩) [g] := fun V o => RowsAt.new2 grow_len V o [g] 40
  have HN2 := Lib.hid hN2
  unfold lightG at h
  rw [Bool.and_eq_true, decide_eq_true_eq] at h
  obtain ⟨hs, hL⟩ := h
  have hl : g.like.labs.length ≤ 40 ∧ g.like.tnts.length ≤ 40 := by
    have h := hL
    unfold lightM at h
    simp only [Bool.and_eq_true, decide_eq_true_eq] at h
    refine ⟨((lightL_iff _).1 h.1.2).1, ?_⟩
    have h2 := h.2
    unfold lightB at h2
    rw [Bool.and_eq_true, decide_eq_true_eq] at h2
    exact h2.1.2
  have HMA := Lib.hid (fun V (hV : Below w.heap.size w V) => machine_any g n V (hT.mono hV) (hA.mono hV) hs (by omega) (by omega))
  have HRM := Lib.hid (fun V => refmachine_any g n V hs)
  have HNU := Lib.hid (fun V => number_any g name V hs)
  have HRN := Lib.hid (fun V => refnumber_any16 g name V hs hN)
  have hML := grpM_len (g := g) (n := n) hl.1 hl.2
  have HMI := Lib.hid (fun V (hV : Below w.heap.size w V) => grpM_at (g := g) (n := n) (hA.mono hV).here)
  obtain ⟨M0, hM0⟩ : ∃ M, grpM g n = M := ⟨_, rfl⟩
  rw [hM0] at HRM HMI hML
  simp only [hM0] at HMA
  obtain ⟨f, hf⟩ : ∃ f, numG g.nm name = f := ⟨_, rfl⟩
  rw [hf] at HNU HRN
  have k3 : decide ((400 : Int) < (name.size : Int)) = false := decide_eq_false (by omega)
  obtain ⟨hl1, hl2⟩ := hML
  obtain ⟨L, hL9⟩ : ∃ L, M0.labs = L := ⟨_, rfl⟩
  obtain ⟨T, hT9⟩ : ∃ T, M0.tnts = T := ⟨_, rfl⟩
  have HL9 := Lib.hid hL9
  have HT9 := Lib.hid hT9
  rw [hL9] at hl1
  rw [hT9] at hl2
  rw [hL9, hT9] at HRM
  have HQ := Lib.hid (show ∀ v u base, OwnM M0 base v u → ∃ sl kl st kt, v = .agg #[.string M0.nm, .string M0.gp, .int .i64 M0.r0, .int .i64 M0.r1, .int .i64 M0.r2, .int .i64 M0.r3, .int .i64 M0.r4, .slice sl L.length kl, .slice st T.length kt, .bool M0.rd] ∧ OwnL kcs 2 base 45 L (.slice sl L.length kl) u ∧ OwnL tcs 3 base 83 T (.slice st T.length kt) u from fun v u base hO => by
    obtain ⟨vl, vt, rfl, o1, o2⟩ := hO
    rw [hL9] at o1
    rw [hT9] at o2
    obtain ⟨sl, kl, rfl, _⟩ := own_rows kcs_len o1 (by decide)
    obtain ⟨st, kt, rfl, _⟩ := own_rows tcs_len o2 (by decide)
    exact ⟨sl, kl, st, kt, rfl, o1, o2⟩)
  have HSM := Lib.hid (show ∀ (V : World) sl kl st kt, Below w.heap.size w V → LabL V sl L → TntsAt V st T → Calls Tryd.prog 20 #[.agg #[.string M0.nm, .string M0.gp, .int .i64 M0.r0, .int .i64 M0.r1, .int .i64 M0.r2, .int .i64 M0.r3, .int .i64 M0.r4, .slice sl L.length kl, .slice st T.length kt, .bool M0.rd], .agg #[.string M0.nm, .string M0.gp, .int .i64 M0.r0, .int .i64 M0.r1, .int .i64 M0.r2, .int .i64 M0.r3, .int .i64 M0.r4, .slice M0.la L.length M0.lk, .slice M0.ta T.length M0.tk, .bool M0.rd]] V fun e w' => e = .returned (.bool true) ∧ Below V.heap.size V w' from fun V sl kl st kt hV h1 h2 => by
    have h := samem_any ({ M0 with la := sl, lk := kl, labs := L, ta := st, tk := kt, tnts := T } : Mac) M0 V ⟨h1, h2, by show L.length ≤ maxLen; unfold maxLen; omega, by show T.length ≤ maxLen; unfold maxLen; omega⟩ (HMI.out V hV) ⟨rfl, rfl, rfl, rfl, rfl, rfl, rfl, hL9.symm, hT9.symm, rfl⟩
    rw [hL9, hT9] at h
    exact h)
  clear A1 K hT hA hs hL hl hN hM0 hf hL9 hT9 hN2
  go_enter Tryd.func4, Tryd.ntmps4
  go_wp2_with (first
    | ((with_reducible refine at_load (ty := 40) ?_); refine load_cells rfl 40 (.tmp 3) rfl w.heap.size 0 rfl [.string g.nm, .int .i64 g.mn, .int .i64 g.mx, .string g.like.nm, .string g.like.gp, .int .i64 g.like.r0, .int .i64 g.like.r1, .int .i64 g.like.r2, .int .i64 g.like.r3, .int .i64 g.like.r4, .slice g.like.la g.like.labs.length g.like.lk, .slice g.like.ta g.like.tnts.length g.like.tk, .bool g.like.rd, .int .i64 g.pr, .int .i64 g.rk] _ Tryd.underlying40 rfl (by kernel_rfl) (rangeAt_mono hG0.out (by simp) (by (repeat' (first | with_reducible exact Below.refl _ _ | with_reducible assumption | with_reducible refine Below.drew ?_ | with_reducible refine below_drewN' ?_ _ | with_reducible refine Below.alloc ?_ ?_ _ | with_reducible refine Below.setCell ?_ ?_ _ | with_reducible refine below_step (by assumption) ?_ ?_ | omega | (simp; done) | (simp; omega))))) ?_)
    | ((with_reducible refine at_store (ty := 38) ?_); refine store_new rfl 38 (.tmp 7) (.tmp 22) rfl _ _ rfl rfl (by kernel_rfl) rfl (by rfl) rfl ?_)
    | (go_at_call 7; (with_reducible refine (HA1.out _ (w.heap.size + 1) (by (repeat' (first | with_reducible exact Below.refl _ _ | with_reducible assumption | with_reducible refine Below.drew ?_ | with_reducible refine below_drewN' ?_ _ | with_reducible refine Below.alloc ?_ ?_ _ | with_reducible refine Below.setCell ?_ ?_ _ | with_reducible refine below_step (by assumption) ?_ ?_ | omega | (simp; done) | (simp; omega)))) (HN2.out _ _)).mono ?_); rintro e w1 ⟨rfl, hb1⟩; have hz1 := hb1.size; (try simp at hz1); have hz1' : w.heap.size < w1.heap.size := (by omega); have HX1 := Lib.hid (show Below w.heap.size w w1 by (repeat' (first | with_reducible exact Below.refl _ _ | with_reducible assumption | with_reducible refine Below.drew ?_ | with_reducible refine below_drewN' ?_ _ | with_reducible refine Below.alloc ?_ ?_ _ | with_reducible refine Below.setCell ?_ ?_ _ | with_reducible refine below_step (by assumption) ?_ ?_ | omega | (simp; done) | (simp; omega)))))
    | (go_at_call 19; (with_reducible refine (HMA.out _ HX1.out).mono ?_); rintro e w2 ⟨⟨v, rfl, hO⟩, hb2⟩; obtain ⟨sl, kl, st, kt, rfl, o1, o2⟩ := HQ.out _ _ _ hO; have HO1 := Lib.hid o1; have HO2 := Lib.hid o2; clear hO o1 o2; have hz2 := hb2.size; have HX2 := Lib.hid (HX1.out.trans (hb2.mono HX1.out.size))))
  obtain ⟨W, hW⟩ : ∃ W, W = w2.alloc (.cells #[.string M0.nm, .string M0.gp, .int .i64 M0.r0, .int .i64 M0.r1, .int .i64 M0.r2, .int .i64 M0.r3, .int .i64 M0.r4, .slice sl L.length kl, .slice st T.length kt, .bool M0.rd] 38) := ⟨_, rfl⟩
  rw [← hW]
  have HBW2 := Lib.hid (show Below w2.heap.size w2 W by rw [hW]; (repeat' (first | with_reducible exact Below.refl _ _ | with_reducible assumption | with_reducible refine Below.drew ?_ | with_reducible refine below_drewN' ?_ _ | with_reducible refine Below.alloc ?_ ?_ _ | with_reducible refine Below.setCell ?_ ?_ _ | with_reducible refine below_step (by assumption) ?_ ?_ | omega | (simp; done) | (simp; omega))))
  have HXW := Lib.hid (HX2.out.trans (HBW2.out.mono HX2.out.size))
  have hW2 : w2.heap.size < W.heap.size := by rw [hW]; simp
  have hW0 : w.heap.size < W.heap.size := by omega
  have HB1W := Lib.hid (hb2.trans (HBW2.out.mono hz2))
  have HR1 := Lib.hid (show W.rangeAt w2.heap.size 0 [.string M0.nm, .string M0.gp, .int .i64 M0.r0, .int .i64 M0.r1, .int .i64 M0.r2, .int .i64 M0.r3, .int .i64 M0.r4, .slice sl L.length kl, .slice st T.length kt, .bool M0.rd] by rw [hW]; exact rangeAt_new w2 _ 38)
  have HRG := Lib.hid (show W.rangeAt w.heap.size 0 [.string g.nm, .int .i64 g.mn, .int .i64 g.mx, .string g.like.nm, .string g.like.gp, .int .i64 g.like.r0, .int .i64 g.like.r1, .int .i64 g.like.r2, .int .i64 g.like.r3, .int .i64 g.like.r4, .slice g.like.la g.like.labs.length g.like.lk, .slice g.like.ta g.like.tnts.length g.like.tk, .bool g.like.rd, .int .i64 g.pr, .int .i64 g.rk] from rangeAt_below (rangeAt_mono hG0.out (by simp) (show Below (w.alloc (.cells #[.string g.nm, .int .i64 g.mn, .int .i64 g.mx, .string g.like.nm, .string g.like.gp, .int .i64 g.like.r0, .int .i64 g.like.r1, .int .i64 g.like.r2, .int .i64 g.like.r3, .int .i64 g.like.r4, .slice g.like.la g.like.labs.length g.like.lk, .slice g.like.ta g.like.tnts.length g.like.tk, .bool g.like.rd, .int .i64 g.pr, .int .i64 g.rk] 40)).heap.size (w.alloc (.cells #[.string g.nm, .int .i64 g.mn, .int .i64 g.mx, .string g.like.nm, .string g.like.gp, .int .i64 g.like.r0, .int .i64 g.like.r1, .int .i64 g.like.r2, .int .i64 g.like.r3, .int .i64 g.like.r4, .slice g.like.la g.like.labs.length g.like.lk, .slice g.like.ta g.like.tnts.length g.like.tk, .bool g.like.rd, .int .i64 g.pr, .int .i64 g.rk] 40)) w1 by (repeat' (first | with_reducible exact Below.refl _ _ | with_reducible assumption | with_reducible refine Below.drew ?_ | with_reducible refine below_drewN' ?_ _ | with_reducible refine Below.alloc ?_ ?_ _ | with_reducible refine Below.setCell ?_ ?_ _ | with_reducible refine below_step (by assumption) ?_ ?_ | omega | (simp; done) | (simp; omega))))) hz1' HB1W.out)
  have HO1W := Lib.hid (own_kept HO1.out HBW2.out)
  have HO2W := Lib.hid (own_kept HO2.out HBW2.out)
  have HIL := Lib.hid (OwnL.isL kcs_len (by decide) HO1W.out)
  have HIT := Lib.hid (OwnL.isL tcs_len (by decide) HO2W.out)
  have HLA := Lib.hid (show LabL W sl L from by
    obtain ⟨a9, k9, e9, _, r9⟩ := HIL.out
    cases e9
    exact r9)
  have HTA := Lib.hid (show TntsAt W st T from by
    obtain ⟨a9, k9, e9, _, r9⟩ := HIT.out
    cases e9
    exact r9)
  clear hW hb1 hb2
  have hcH := held_cell
  refine region_rel (by kernel_rfl) (by kernel_rfl) ?_
  repeat
    ((with_reducible refine relStep (fun K hK => ?_))
     (have HK := Lib.hid hK)
     clear hK
     (apply relInl
      · intro r n hf
        have Hf := Lib.hid hf
        clear hf
        (first
          | ((first | ((with_reducible refine at_rel (ty := 40) ?_); refine rel_load rfl w.heap.size 0 rfl [.string g.nm, .int .i64 g.mn, .int .i64 g.mx, .string g.like.nm, .string g.like.gp, .int .i64 g.like.r0, .int .i64 g.like.r1, .int .i64 g.like.r2, .int .i64 g.like.r3, .int .i64 g.like.r4, .slice g.like.la g.like.labs.length g.like.lk, .slice g.like.ta g.like.tnts.length g.like.tk, .bool g.like.rd, .int .i64 g.pr, .int .i64 g.rk] _ Tryd.underlying40 rfl (by kernel_rfl) (rangeAt_mono HRG.out hW0 n.below) rfl) | ((with_reducible refine at_rel (ty := 38) ?_); refine rel_load rfl w2.heap.size 0 rfl [.string M0.nm, .string M0.gp, .int .i64 M0.r0, .int .i64 M0.r1, .int .i64 M0.r2, .int .i64 M0.r3, .int .i64 M0.r4, .slice sl L.length kl, .slice st T.length kt, .bool M0.rd] _ Tryd.underlying38 rfl (by kernel_rfl) (rangeAt_mono HR1.out hW2 n.below) rfl)))
          | (unfold relAt
             go_simp
             (first | (refine relUpon_val ?_ (Below.refl _ _); exact rfl) | exact rfl | (refine relUpon_enter ?_; (first | (go_at_call 21; (with_reducible refine (HRM.out _).mono ?_); rintro e w5 ⟨rfl, hb⟩; exact ⟨⟨_, rfl, rfl⟩, hb⟩) | (go_at_call 20; (with_reducible refine (HSM.out _ sl kl st kt (HXW.out.trans (Below.mono n.below HXW.out.size)) (HLA.out.mono n.below) (HTA.out.mono n.below)).mono ?_); rintro e w5 ⟨rfl, hb⟩; exact ⟨⟨_, rfl, rfl⟩, hb⟩) | (go_at_call 22; (with_reducible refine (HNU.out _).mono ?_); rintro e w5 ⟨rfl, hb⟩; exact ⟨⟨_, rfl, rfl⟩, hb⟩) | (go_at_call 23; (with_reducible refine (HRN.out _).mono ?_); rintro e w5 ⟨rfl, hb⟩; exact ⟨⟨_, rfl, rfl⟩, hb⟩))))))
      (simp only [Act.put, List.setIfInBounds_toArray, List.set_cons_zero, List.set_cons_succ])
      (with_reducible refine HK.out _ _ ?_)
      clear HK K))
  refine relNil ?_
  intro r5 n5 hx5
  clear hcH
  (try simp only [List.nil_append, List.cons_append, List.mem_cons, List.not_mem_nil, or_false, forall_eq_or_imp, forall_eq, false_implies, implies_true] at hx5)
  obtain ⟨w5, hb5⟩ := n5
  (try dsimp only)
  obtain ⟨hc5, hf5⟩ := bcell hb5
  have hz5 := hb5.size
  (try simp at hz5)
  have HX5 := Lib.hid (HXW.out.trans (hb5.mono HXW.out.size))
  have HB15 := Lib.hid (HB1W.out.trans (hb5.mono (by omega : w1.heap.size ≤ W.heap.size)))
  have HRG5 := Lib.hid (rangeAt_mono HRG.out hW0 hb5)
  have HO5 := Lib.hid (own_kept HO1W.out hb5)
  have x3 : w5.cell? ⟨w2.heap.size, 7, none⟩ = some (.slice sl L.length kl) := by simpa using (rangeAt_mono HR1.out hW2 hb5) 7 _ rfl
  have hw25 : w2.heap.size < w5.heap.size := by omega
  have HGW := Lib.hid (show ∀ q, (Value.slice sl L.length kl).ownBlock = some q → w1.heap.size ≤ q ∧ q < w2.heap.size from fun q hq => HO1.out.lt q hq)
  clear hc5 hf5
  go_wp2
  go_loopw [9] (fun i wr => ∃ k : Nat, k ≤ L.length ∧ i = .int .i64 k ∧ (∃ us, wr.ownsRow w1.heap.size 45 2 (Value.slice sl L.length kl) L.length us) ∧ w5.grownBy wr ((Value.slice sl L.length kl)).ownBlock) (fun i _ => L.length - (intOf i).toNat)
  case atStart => exact ⟨0, Nat.zero_le _, rfl, ⟨_, HO5.out⟩, World.grownBy.refl w5 _⟩
  case round =>
    obtain ⟨k, hk, rfl, ⟨us, hus⟩, hgb⟩ := hrel
    have Hus := Lib.hid hus
    have Hgb := Lib.hid hgb
    clear hus hgb
    have y3 : wr.cell? ⟨w2.heap.size, 7, none⟩ = some (.slice sl L.length kl) := by
      rw [World.cell?_of_block (w := w5) (Hgb.out.block w2.heap.size hw25 (fun e => by have := HGW.out _ e.symm; omega))]
      exact x3
    have hgsz := Hgb.out.size
    by_cases hlt : k < L.length
    · skip
      obtain ⟨g, cap9, e9, hg9, hgl⟩ := World.ownsRow.form Hus.out (by omega)
      simp only [Value.slice.injEq, true_and] at e9
      obtain ⟨e8, e9⟩ := e9
      subst e8
      subst e9
      have hst := World.ownsRow.stored Hus.out (k * 2 + 1) (.string ⟨#[115, 112, 111, 105, 108, 116]⟩)
      obtain ⟨uc, hcell⟩ := own_cell Hus.out (k * 2 + 1) (by omega)
      have hfz := World.ownsRow.frozenAt Hus.out (k * 2 + 1)
      have Hst := Lib.hid hst
      clear hst
      go_wp2
      go_roundw
      case rel => exact ⟨k + 1, by omega, by go_num, ⟨_, Hst.out.1⟩, Hgb.out.trans Hst.out.2⟩
      case measure => simp [intOf]; omega
    · obtain rfl : k = L.length := by omega
      have HB6 := Lib.hid (show Below w1.heap.size w5 wr from Below.grown (Below.refl _ _) Hgb.out (by omega) fun q hq => (HGW.out q hq).1)
      have HX6 := Lib.hid (HX5.out.trans (HB6.out.mono (by omega)))
      have HRG6 := Lib.hid (rangeAt_below HRG5.out hz1' HB6.out)
      have hwr0 : w.heap.size < wr.heap.size := by omega
      clear Hus Hgb
      obtain ⟨V, hV⟩ : ∃ V, V = wr := ⟨_, rfl⟩
      subst hV
      go_wp2
      have hcH := held_cell
      refine region_rel (by kernel_rfl) (by kernel_rfl) ?_
      repeat
        ((with_reducible refine relStep (fun K hK => ?_))
         (have HK := Lib.hid hK)
         clear hK
         (apply relInl
          · intro r n hf
            have Hf := Lib.hid hf
            clear hf
            (first
              | (((with_reducible refine at_rel (ty := 40) ?_); refine rel_load rfl w.heap.size 0 rfl [.string g.nm, .int .i64 g.mn, .int .i64 g.mx, .string g.like.nm, .string g.like.gp, .int .i64 g.like.r0, .int .i64 g.like.r1, .int .i64 g.like.r2, .int .i64 g.like.r3, .int .i64 g.like.r4, .slice g.like.la g.like.labs.length g.like.lk, .slice g.like.ta g.like.tnts.length g.like.tk, .bool g.like.rd, .int .i64 g.pr, .int .i64 g.rk] _ Tryd.underlying40 rfl (by kernel_rfl) (rangeAt_mono HRG6.out hwr0 n.below) rfl))
              | (unfold relAt
                 go_simp
                 (first | (refine relUpon_val ?_ (Below.refl _ _); exact rfl) | exact rfl | (refine relUpon_enter ?_; fail))))
          (simp only [Act.put, List.setIfInBounds_toArray, List.set_cons_zero, List.set_cons_succ])
          (with_reducible refine HK.out _ _ ?_)
          clear HK K))
      (with_reducible refine relStep (fun K hK => ?_))
      (have HK := Lib.hid hK)
      clear hK
      refine relInr (OwnM M0 0) (OwnM.stays M0 0) (fun r n hf => ?_) ?_
      · have Hf := Lib.hid hf
        clear hf HK K
        unfold relAt
        (skip)
        go_simp
        ((refine relUpon_enter ?_; go_at_call 19; (with_reducible refine (HMA.out _ (HX6.out.trans (Below.mono n.below HX6.out.size))).mono ?_); rintro e w7 ⟨⟨v, rfl, hO⟩, hb⟩; exact ⟨⟨_, rfl, OwnM.mono hO (Nat.zero_le _)⟩, hb⟩))
      (simp only [Act.put, List.setIfInBounds_toArray, List.set_cons_zero, List.set_cons_succ])
      (with_reducible refine HK.out _ _ ?_)
      clear HK K
      repeat
        ((with_reducible refine relStep (fun K hK => ?_))
         (have HK := Lib.hid hK)
         clear hK
         (apply relInl
          · intro r n hf
            have Hf := Lib.hid hf
            clear hf
            (first
              | (((with_reducible refine at_rel (ty := 40) ?_); refine rel_load rfl w.heap.size 0 rfl [.string g.nm, .int .i64 g.mn, .int .i64 g.mx, .string g.like.nm, .string g.like.gp, .int .i64 g.like.r0, .int .i64 g.like.r1, .int .i64 g.like.r2, .int .i64 g.like.r3, .int .i64 g.like.r4, .slice g.like.la g.like.labs.length g.like.lk, .slice g.like.ta g.like.tnts.length g.like.tk, .bool g.like.rd, .int .i64 g.pr, .int .i64 g.rk] _ Tryd.underlying40 rfl (by kernel_rfl) (rangeAt_mono HRG6.out hwr0 n.below) rfl))
              | (unfold relAt
                 go_simp
                 (first | (refine relUpon_val ?_ (Below.refl _ _); exact rfl) | exact rfl | (refine relUpon_enter ?_; (go_at_call 21; (with_reducible refine (HRM.out _).mono ?_); rintro e w5 ⟨rfl, hb⟩; exact ⟨⟨_, rfl, rfl⟩, hb⟩)))))
          (simp only [Act.put, List.setIfInBounds_toArray, List.set_cons_zero, List.set_cons_succ])
          (with_reducible refine HK.out _ _ ?_)
          clear HK K))
      ((with_reducible refine relStep (fun K hK => ?_))
       (have HK := Lib.hid hK)
       clear hK
       (apply relInl
        · intro r n hf
          have Hf := Lib.hid hf
          clear hf
          ((obtain ⟨s8, k8, s9, k9, hv, p1, p2⟩ := HQ.out _ _ _ (given_at Hf.out 0 rfl (by dsimp only; decide +kernel)); dsimp only at hv; obtain ⟨a8, q8, e8, _, r8⟩ := OwnL.isL kcs_len (by decide) p1; cases e8; obtain ⟨a9, q9, e9, _, r9⟩ := OwnL.isL tcs_len (by decide) p2; cases e9; have Hv := Lib.hid hv; clear hv; unfold relAt; go_simp; refine relUpon_enter ?_; go_at_call 20; rw [Hv.out]; (with_reducible refine (HSM.out _ s8 k8 s9 k9 (HX6.out.trans (Below.mono n.below HX6.out.size)) r8 r9).mono ?_); rintro e w9 ⟨rfl, hb⟩; exact ⟨⟨_, rfl, rfl⟩, hb⟩)))
       (simp only [Act.put, List.setIfInBounds_toArray, List.set_cons_zero, List.set_cons_succ])
       (with_reducible refine HK.out _ _ ?_)
       clear HK K)
      repeat
        ((with_reducible refine relStep (fun K hK => ?_))
         (have HK := Lib.hid hK)
         clear hK
         (apply relInl
          · intro r n hf
            have Hf := Lib.hid hf
            clear hf
            (first
              | (fail)
              | (unfold relAt
                 go_simp
                 (first | (refine relUpon_val ?_ (Below.refl _ _); exact rfl) | exact rfl | (refine relUpon_enter ?_; fail))))
          (simp only [Act.put, List.setIfInBounds_toArray, List.set_cons_zero, List.set_cons_succ])
          (with_reducible refine HK.out _ _ ?_)
          clear HK K))
      ((with_reducible refine relStep (fun K hK => ?_))
       (have HK := Lib.hid hK)
       clear hK
       (apply relInl
        · intro r n hf
          have Hf := Lib.hid hf
          clear hf
          ((unfold relAt; go_simp; refine relUpon_enter ?_; go_at_call 9; (with_reducible refine (HKn.out _ (HX6.out.trans (Below.mono n.below HX6.out.size))).mono ?_); rintro e w5 ⟨rfl, hb⟩; exact ⟨⟨_, rfl, rfl⟩, hb⟩)))
       (simp only [Act.put, List.setIfInBounds_toArray, List.set_cons_zero, List.set_cons_succ])
       (with_reducible refine HK.out _ _ ?_)
       clear HK K)
      repeat
        ((with_reducible refine relStep (fun K hK => ?_))
         (have HK := Lib.hid hK)
         clear hK
         (apply relInl
          · intro r n hf
            have Hf := Lib.hid hf
            clear hf
            (first
              | (fail)
              | (unfold relAt
                 go_simp
                 (first | (refine relUpon_val ?_ (Below.refl _ _); exact rfl) | exact rfl | (refine relUpon_enter ?_; fail))))
          (simp only [Act.put, List.setIfInBounds_toArray, List.set_cons_zero, List.set_cons_succ])
          (with_reducible refine HK.out _ _ ?_)
          clear HK K))
      refine relNil ?_
      intro r8 n8 hx8
      clear hcH
      (try simp only [List.nil_append, List.cons_append, List.mem_cons, List.not_mem_nil, or_false, forall_eq_or_imp, forall_eq, false_implies, implies_true] at hx8)
      obtain ⟨w8, hb8⟩ := n8
      (try dsimp only)
      obtain ⟨hc8, hf8⟩ := bcell hb8
      have hz8 := hb8.size
      (try simp at hz8)
      go_wp2
      go_ret
      exact ⟨rfl, HX6.out.trans (hb8.mono HX6.out.size)⟩

theorem walk (g : Gp) (n : Int) (name : ByteArray) (w : World) (hT : Tab10 w) (hA : MacIn w g.like) :
    Calls Tryd.prog 4 #[.agg (grow g).toArray, .int .i64 n, .string name] w fun e w' => e = .returned (.bool true) ∧ Below w.heap.size w w' := by
  cases h : lightG g
  · exact walk_no g n name w hT hA (.inl h)
  · by_cases hN : name.size ≤ 400
    · exact walk_yes g n name w hT hA h hN
    · exact walk_no g n name w hT hA (.inr ⟨h, by omega⟩)

set_option maxRecDepth 100000 in
theorem lifted (os : Os) (started : os.Started) (H : Type) (enc : TypeId × Value → H) :
    ReturnsInHanded {} Tryd.checked os 4 .any (fun w args => (Rows.groupMachinesSpec.pre enc Tryd.prog Tryd.f4 Rows.groupMachinesRow.domain false w args ∧ laidMetH Tryd.prog Rows.groupMachinesRow.laid w) ∧ sizedMet enc Tryd.prog Tryd.f4 (OpenSpec.ofChange Rows.groupMachinesSpec) false w args)
      (Rows.groupMachinesSpec.post enc Tryd.prog Tryd.f4 false true false false) := by
  refine returnsInHanded_of_change_and (C := Tryd.checked) (X := fun w _ => laidMetH Tryd.prog Rows.groupMachinesRow.laid w) (fun _ _ _ hh h => h.of_heap hh) Tryd.own started (by kernel_rfl) Tryd.func4
    (ChangeSpec.witness_at (enc := enc) (C := Tryd.checked) (os := os) (X := fun w _ => laidMetH Tryd.prog Rows.groupMachinesRow.laid w) false (laidWorld os) #[.agg #[.string ⟨#[]⟩, .int .i64 0, .int .i64 0, .string ⟨#[]⟩, .string ⟨#[]⟩, .int .i64 0, .int .i64 0, .int .i64 0, .int .i64 0, .int .i64 0, .slice none 0 0, .slice none 0 0, .bool false, .int .i64 0, .int .i64 0], .int .i64 0, .string ⟨#[]⟩] 8 rfl (by kernel_rfl) (by kernel_rfl) (by kernel_rfl) (by kernel_rfl) (by kernel_rfl) (laidWorld_met os _)) ?_
  intro W base args ds gs before hval hW _ _ hL _
  have hW' := hW
  obtain ⟨p, q, hA, hV, rfl, hfz, hnd⟩ := hW
  rw [Tryd.params4] at hA hval
  obtain ⟨v0, v1, v2, d0, d1, d2, p0, p1, p2, rfl, rfl, rfl, h0, h1, h2⟩ := trodAll_three hA
  obtain ⟨g, rfl, hI⟩ := open_grp (hval 0 40 v0 rfl rfl) h0
  obtain ⟨n, rfl, _, _, w1⟩ := open_int Tryd.underlying3 (hval 1 3 v1 rfl rfl) h1
  obtain ⟨s, rfl, _, _, _⟩ := Go.ChangeMaps.open_string Tryd.underlying9 (hval 2 9 v2 rfl rfl) h2
  refine (walk g n s W (tab_of hL) hI).mono fun e W' ⟨he, hb⟩ => ?_
  exact ⟨_, he, law_post Tryd.laidOut hW' rfl (by kernel_rfl) (by kernel_rfl) Tryd.underlying4 rfl rfl rfl hb⟩

theorem over : Rows.GroupMachinesSaid :=
  OpenClaim.holds_of_wide 4 Tryd.f4 rfl rfl rfl rfl rfl rfl rfl ⟨rfl, rfl, rfl, rfl, rfl⟩ rfl rfl rfl rfl rfl (by kernel_rfl) Tryd.func4 (by kernel_rfl)
    (of_decide_eq_true (by kernel_rfl)) (by unfold Func.isWrapper; first | (rw [if_pos (by decide +kernel)]; kernel_rfl) | (rw [if_neg (by decide +kernel)]; exact ⟨rfl, rfl⟩))
    (fun os started H enc _ => lifted os started H enc)

/-- The statement: the card. -/
theorem proved : Rows.GroupMachinesCardSaid :=
  Claim7.holds_tied_plain_at .later [] [.data, .data, .data] true Rows.groupMachinesCard.stood.harness Rows.groupMachinesCard.stood.looks
    over (fun _ h => by cases h) (by kernel_rfl) (fun _ h => by cases h) groupMachines_row_tie rfl ⟨rfl, rfl⟩ (by kernel_rfl) rfl
    (fun f fn hf hfn => by
      obtain rfl : f = 4 := Option.some.inj ((show Tryd.prog.funcNamed Rows.groupMachinesRow.func = some 4 by kernel_rfl).symm.trans hf) |>.symm
      obtain rfl : fn = Tryd.f4 := (Option.some.inj (Tryd.func4.symm.trans hfn)).symm
      exact ⟨by kernel_rfl, fun j t ht => by
        rw [Tryd.params4] at ht
        rcases j with _ | _ | _ | j
        · obtain rfl : t = 40 := by simpa using ht.symm
          exact (show Tryd.prog.wantsStandIn 40 = false by kernel_rfl)
        · obtain rfl : t = 3 := by simpa using ht.symm
          exact (show Tryd.prog.wantsStandIn 3 = false by kernel_rfl)
        · obtain rfl : t = 9 := by simpa using ht.symm
          exact (show Tryd.prog.wantsStandIn 9 = false by kernel_rfl)
        · simp at ht⟩)
    (by kernel_rfl)
end groupMachines
end Go.Proofs.YtgdankihfnnpaaaDoor
