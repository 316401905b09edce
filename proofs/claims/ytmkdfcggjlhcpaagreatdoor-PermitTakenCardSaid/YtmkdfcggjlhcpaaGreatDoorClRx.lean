/-
  The program's provider: request.
-/
import Derived.Test.YtmkdfcggjlhcpaaGreatDoorGItox
import Derived.Test.YtmkdfcggjlhcpaaGreatDoorMAx
import Derived.Test.YtmkdfcggjlhcpaaGreatDoorTie
import Derived.Test.YtmkdfcggjlhcpaaGreatDoorCards
import Derived.ChangeSame
import Derived.ChangeVars
import Derived.JoinedOf
import Derived.LaidLaws
import Derived.LaidHandle
import Derived.Lib.LaidTab
import Derived.SevenTiedAt
import Derived.Test.YtmkdfcggjlhcpaaGreatDoorMIx
import Derived.Test.YtmkdfcggjlhcpaaGreatDoorClPx
import Derived.Test.YtmkdfcggjlhcpaaGreatDoorMCx
import Derived.Laws.IdiomStrings
namespace Go.Proofs.YtmkdfcggjlhcpaaGreatDoor
open Go.ChangeShapes Go.WideShapes Go.ChangeAt Go.RowKit
set_option linter.unusedVariables false
set_option linter.unusedSimpArgs false
def tab32 : List Int := [0, 1, 28, 2, 29, 14, 24, 3, 30, 22, 20, 15, 25, 17, 4, 8, 31, 27, 13, 23, 21, 19, 16, 7, 26, 12, 18, 6, 11, 5, 10, 9]
def tab64 : List Int := [0, 1, 56, 2, 57, 49, 28, 3, 61, 58, 42, 50, 38, 29, 17, 4, 62, 47, 59, 36, 45, 43, 51, 22, 53, 39, 33, 30, 24, 18, 12, 5, 63, 55, 48, 27, 60, 41, 37, 16, 46, 35, 44, 21, 52, 32, 23, 11, 54, 26, 40, 15, 34, 20, 31, 10, 25, 14, 19, 9, 13, 8, 7, 6]
theorem gT : Tryz.prog.globalNamed nm10 = some 0 := by kernel_rfl
theorem gTType : (Tryz.prog.globals[0]?).map (·.type) = some 164 := by kernel_rfl
theorem cellsU : Tryz.prog.cellsOf 157 = 1 := by kernel_rfl
theorem cellsT : Tryz.prog.cellsOf 164 = 20 := by kernel_rfl
set_option maxRecDepth 100000 in
theorem tab_of {W : World} (h : laidMetH Tryz.prog Rows.permitTakenRow.laid W) : Tab10 W := by
  have h' : laidMet Tryz.prog Rows.permitTakenRow.laid W := h
  obtain ⟨ps, ⟨g1, t1, cs1, fuel1, p1, q1, a1, b1, c1, d1, ⟨g2, t2, cs2, fuel2, p2, q2, a2, b2, c2, d2, ⟨g3, t3, cs3, fuel3, p3, q3, a3, b3, c3, d3, _, _⟩, _⟩, _⟩, _⟩ := h'
  obtain rfl := Option.some.inj (gT.symm.trans a3)
  obtain rfl := Option.some.inj (gTType.symm.trans b3)
  unfold Tab10 Lib.TabIs
  refine Eq.trans c3 ?_
  rw [← Lib.cells_of_tab Tryz.underlying164 Tryz.underlying157 cellsU cellsT d3]
def lay (cs : Array Value) : Obj → Obj
  | .cells _ t frozen => .cells cs t frozen
  | o => o
noncomputable def laidWorld (os : Os) : World :=
  let w0 := World.holding Tryz.prog os ⟨#[], #[], []⟩
  { w0 with heap := ((w0.heap.modify 0 (lay (Lib.pow10Tab.map fun z => Value.int .u64 z).toArray)).modify 1 (lay (tab32.map fun z => Value.int .u8 z).toArray)).modify 2 (lay (tab64.map fun z => Value.int .u8 z).toArray) }
theorem laidWorld_met (os : Os) (args : Array Value) : laidMetH Tryz.prog Rows.permitTakenRow.laid ((laidWorld os).forCall (fun _ _ => 0) ⟨#[], args, []⟩).memory := by
  have h : laidMet Tryz.prog Rows.permitTakenRow.laid ((laidWorld os).forCall (fun _ _ => 0) ⟨#[], args, []⟩).memory := laidMet_of_run' 8 (by kernel_rfl) (by kernel_rfl)
  exact h
end Go.Proofs.YtmkdfcggjlhcpaaGreatDoor
namespace Go.Proofs.YtmkdfcggjlhcpaaGreatDoor
open Go.RowKit
set_option linter.unusedVariables false
set_option linter.unusedSimpArgs false
def dash : ByteArray := ⟨#[45]⟩
def nameB (nm : ByteArray) (n : Nat) : ByteArray := (nm ++ dash) ++ dgB n
def zeroM : Mac := ⟨emp, emp, 0, 0, 0, 0, 0, none, 0, [], none, 0, [], false⟩
def grpM (g : Gp) (n : Int) : Mac := if 1 ≤ n ∧ n ≤ 999999999 then { g.like with nm := nameB g.nm n.toNat } else zeroM
theorem grpM_in {g : Gp} {n : Int} (h : 1 ≤ n ∧ n ≤ 999999999) : grpM g n = { g.like with nm := nameB g.nm n.toNat } := if_pos h
theorem grpM_out {g : Gp} {n : Int} (h : ¬ (1 ≤ n ∧ n ≤ 999999999)) : grpM g n = zeroM := if_neg h
theorem dash_cat (nm : ByteArray) (h : nm.size ≤ 300) (w : World) : (Op.stringOp .add nm ⟨#[45]⟩).run Tryz.prog w = .ok (.string (nm ++ dash)) w := cat_run nm dash (by have : dash.size = 1 := rfl; omega) w
theorem dg_small (n : Nat) (h : n ≤ 999999999) : (dgB n).size ≤ 21 := by
  rw [dg_size]
  have := itoaB_size (n : Int) (by omega) (by omega)
  rw [itoa_dg (by omega : (0 : Int) ≤ n), dg_size] at this
  simpa using this
theorem num_cat (nm : ByteArray) (n : Nat) (h : nm.size ≤ 300) (hn : n ≤ 999999999) (w : World) : (Op.stringOp .add (nm ++ dash) (dgB n)).run Tryz.prog w = .ok (.string (nameB nm n)) w := cat_run _ _ (by have : dash.size = 1 := rfl; have := dg_small n hn; rw [ByteArray.size_append]; omega) w
set_option maxRecDepth 100000 in
set_option maxHeartbeats 4000000 in
theorem machine_in (g : Gp) (n : Int) (h1 : 1 ≤ n) (h2 : n ≤ 999999999) (w : World) (hT : Tab10 w) (hA : MacIn w g.like) (hs : g.nm.size ≤ 300) (hl : g.like.labs.length ≤ 1000000) (ht : g.like.tnts.length ≤ 1000000) :
    Calls Tryz.prog 52 #[.agg #[.string (g).nm, .int .i64 (g).mn, .int .i64 (g).mx, .string (g).like.nm, .string (g).like.gp, .int .i64 (g).like.r0, .int .i64 (g).like.r1, .int .i64 (g).like.r2, .int .i64 (g).like.r3, .int .i64 (g).like.r4, .slice (g).like.la (g).like.labs.length (g).like.lk, .slice (g).like.ta (g).like.tnts.length (g).like.tk, .bool (g).like.rd, .int .i64 (g).pr, .int .i64 (g).rk], .int .i64 n] w (Gives w (OwnM (grpM g n) w.heap.size)) := by
  rw [grpM_in ⟨h1, h2⟩]
  have C := fun V (hV : Below w.heap.size w V) => clonem_any g.like V (hA.mono hV) hl ht
  have I := fun V (hV : Below w.heap.size w V) => itoa_any n (by omega) (by omega) V (hT.mono hV)
  have e : (⟨(Lib.itoa n).toArray⟩ : ByteArray) = dgB n.toNat := itoa_dg (by omega)
  rw [e] at I
  have hk1 := dash_cat g.nm hs
  have hk2 := num_cat g.nm n.toNat hs (by omega)
  have HC := Lib.hid C
  have HI := Lib.hid I
  clear C I e hT hA
  obtain ⟨nm, mn, mx, m, pr, rk⟩ := g
  simp only at HC hk1 hk2 hs hl ht ⊢
  obtain ⟨D, hD⟩ : ∃ D, dgB n.toNat = D := ⟨_, rfl⟩
  obtain ⟨Q, hQ⟩ : ∃ Q, nm ++ dash = Q := ⟨_, rfl⟩
  obtain ⟨R, hR⟩ : ∃ R, nameB nm n.toNat = R := ⟨_, rfl⟩
  rw [hD] at HI hk2
  rw [hQ] at hk1 hk2
  rw [hR] at hk2 ⊢
  clear hD hQ hR hs hl ht
  go_enter Tryz.func52, Tryz.ntmps52
  go_wp2_with (go_at_call 51; (with_reducible refine (HC.out _ (by (repeat' (first | with_reducible exact Below.refl _ _ | with_reducible assumption | with_reducible refine Below.drew ?_ | with_reducible refine below_drewN' ?_ _ | with_reducible refine Below.alloc ?_ ?_ _ | with_reducible refine Below.setCell ?_ ?_ _ | with_reducible refine below_step (by assumption) ?_ ?_ | omega | (simp; done) | (simp; omega))))).mono ?_); rintro e w1 ⟨⟨v, rfl, hv⟩, hb1⟩; obtain ⟨vl, vt, rfl, o1, o2⟩ := hv; obtain ⟨sl, kl, rfl, _⟩ := own_rows kcs_len o1 (by decide); obtain ⟨st, kt, rfl, _⟩ := own_rows tcs_len o2 (by decide); have HO1 := Lib.hid o1; have HO2 := Lib.hid o2; clear o1 o2; obtain ⟨hc1, hf1⟩ := bcell hb1; have hz1 := hb1.size; (try simp at hz1); have z1_0 : w.heap.size < w1.heap.size := (by omega); have y1_0 : w.heap.size ≤ w1.heap.size := (by omega); have z1_1 : w.heap.size + 1 < w1.heap.size := (by omega); have y1_1 : w.heap.size + 1 ≤ w1.heap.size := (by omega))
  obtain ⟨W, hW⟩ : ∃ W, W = (w1.alloc (.cells #[.string m.nm, .string m.gp, .int .i64 m.r0, .int .i64 m.r1, .int .i64 m.r2, .int .i64 m.r3, .int .i64 m.r4, .slice sl m.labs.length kl, .slice st m.tnts.length kt, .bool m.rd] 35)) := ⟨_, rfl⟩
  rw [← hW]
  have HBW := Lib.hid (show Below w.heap.size w W by rw [hW]; (repeat' (first | with_reducible exact Below.refl _ _ | with_reducible assumption | with_reducible refine Below.drew ?_ | with_reducible refine below_drewN' ?_ _ | with_reducible refine Below.alloc ?_ ?_ _ | with_reducible refine Below.setCell ?_ ?_ _ | with_reducible refine below_step (by assumption) ?_ ?_ | omega | (simp; done) | (simp; omega))))
  have hWz : w1.heap.size < W.heap.size := by rw [hW]; simp
  have hWz0 : w.heap.size < W.heap.size := by omega
  have hWz1 : w.heap.size + 1 < W.heap.size := by omega
  have s0 : W.cell? ⟨w.heap.size, 0, none⟩ = some (.string nm) := by rw [hW]; simp [go_sem, *]
  have y0 : W.cell? ⟨w1.heap.size, 0, none⟩ = some (.string m.nm) := by rw [hW]; simp [go_sem]
  have y1 : W.cell? ⟨w1.heap.size, 1, none⟩ = some (.string m.gp) := by rw [hW]; simp [go_sem]
  have y2 : W.cell? ⟨w1.heap.size, 2, none⟩ = some (.int .i64 m.r0) := by rw [hW]; simp [go_sem]
  have y3 : W.cell? ⟨w1.heap.size, 3, none⟩ = some (.int .i64 m.r1) := by rw [hW]; simp [go_sem]
  have y4 : W.cell? ⟨w1.heap.size, 4, none⟩ = some (.int .i64 m.r2) := by rw [hW]; simp [go_sem]
  have y5 : W.cell? ⟨w1.heap.size, 5, none⟩ = some (.int .i64 m.r3) := by rw [hW]; simp [go_sem]
  have y6 : W.cell? ⟨w1.heap.size, 6, none⟩ = some (.int .i64 m.r4) := by rw [hW]; simp [go_sem]
  have y7 : W.cell? ⟨w1.heap.size, 7, none⟩ = some (.slice sl m.labs.length kl) := by rw [hW]; simp [go_sem]
  have y8 : W.cell? ⟨w1.heap.size, 8, none⟩ = some (.slice st m.tnts.length kt) := by rw [hW]; simp [go_sem]
  have y9 : W.cell? ⟨w1.heap.size, 9, none⟩ = some (.bool m.rd) := by rw [hW]; simp [go_sem]
  have yf : ∀ j, W.frozen? ⟨w1.heap.size, j, none⟩ = false := by intro j; rw [hW]; simp [go_sem]
  have z0 : W.cell? ⟨w.heap.size + 1, 0, none⟩ = some (.string ⟨#[]⟩) := by rw [hW]; simp [go_sem, *]
  have z1 : W.cell? ⟨w.heap.size + 1, 1, none⟩ = some (.string ⟨#[]⟩) := by rw [hW]; simp [go_sem, *]
  have z2 : W.cell? ⟨w.heap.size + 1, 2, none⟩ = some (.int .i64 0) := by rw [hW]; simp [go_sem, *]
  have z3 : W.cell? ⟨w.heap.size + 1, 3, none⟩ = some (.int .i64 0) := by rw [hW]; simp [go_sem, *]
  have z4 : W.cell? ⟨w.heap.size + 1, 4, none⟩ = some (.int .i64 0) := by rw [hW]; simp [go_sem, *]
  have z5 : W.cell? ⟨w.heap.size + 1, 5, none⟩ = some (.int .i64 0) := by rw [hW]; simp [go_sem, *]
  have z6 : W.cell? ⟨w.heap.size + 1, 6, none⟩ = some (.int .i64 0) := by rw [hW]; simp [go_sem, *]
  have z7 : W.cell? ⟨w.heap.size + 1, 7, none⟩ = some (.slice none 0 0) := by rw [hW]; simp [go_sem, *]
  have z8 : W.cell? ⟨w.heap.size + 1, 8, none⟩ = some (.slice none 0 0) := by rw [hW]; simp [go_sem, *]
  have z9 : W.cell? ⟨w.heap.size + 1, 9, none⟩ = some (.bool false) := by rw [hW]; simp [go_sem, *]
  have zf : ∀ j, W.frozen? ⟨w.heap.size + 1, j, none⟩ = false := by intro j; rw [hW]; simp [go_sem, *]
  have HK := Lib.hid (show Keep (w.heap.size + 2) w1.heap.size w1 W by rw [hW]; (repeat' (first | with_reducible exact Keep.refl _ _ _ | with_reducible assumption | with_reducible refine Keep.drew ?_ | with_reducible refine Keep.drewN ?_ _ | with_reducible refine Keep.alloc ?_ ?_ _ | with_reducible refine Keep.setCell ?_ ?_ _ | with_reducible refine Keep.step (by assumption) ?_ ?_ | omega | (simp; done) | (simp; omega))))
  clear hW hc1 hf1 hb1
  have hcH := held_cell
  refine region_rel_tail 7 (by kernel_rfl) (by kernel_rfl) (by kernel_rfl) ?_
  dsimp only [List.take, List.drop]
  repeat
    ((with_reducible refine relStep (fun K hK => ?_))
     (have HK := Lib.hid hK)
     clear hK
     (apply relInl
      · intro r n hf
        have Hf := Lib.hid hf
        clear hf
        (first
          | (fail)
          | (unfold relAt
             go_simp
             (first | (refine relUpon_val ?_ (Below.refl _ _); exact rfl) | exact rfl | (refine relUpon_enter ?_; (go_at_call 76; (with_reducible refine (HI.out _ (HBW.out.trans ((n.below).mono (Nat.le_of_lt hWz0)))).mono ?_); rintro e w1 ⟨rfl, hb⟩; exact ⟨⟨_, rfl, rfl⟩, hb⟩)))))
      (simp only [Act.put, List.setIfInBounds_toArray, List.set_cons_zero, List.set_cons_succ])
      (with_reducible refine HK.out _ _ ?_)
      clear HK K))
  refine relNil ?_
  intro r5 n5 hx5
  clear hcH
  (try simp only [List.nil_append, List.cons_append, List.mem_cons, List.not_mem_nil, or_false, forall_eq_or_imp, forall_eq, false_implies, implies_true] at hx5)
  obtain ⟨w5, hb5⟩ := n5
  (try dsimp only)
  obtain ⟨hc5, hf5⟩ := bcell hb5
  have hz5 := hb5.size
  (try simp at hz5)
  have z5_0 : w.heap.size < w5.heap.size := (by omega); have y5_0 : w.heap.size ≤ w5.heap.size := (by omega); have z5_1 : w.heap.size + 1 < w5.heap.size := (by omega); have y5_1 : w.heap.size + 1 ≤ w5.heap.size := (by omega); have z5_2 : w1.heap.size < w5.heap.size := (by omega); have y5_2 : w1.heap.size ≤ w5.heap.size := (by omega)
  go_wp2
  refine bodyPost_ret (v := .agg #[.string R, .string m.gp, .int .i64 m.r0, .int .i64 m.r1, .int .i64 m.r2, .int .i64 m.r3, .int .i64 m.r4, .slice sl m.labs.length kl, .slice st m.tnts.length kt, .bool m.rd]) (by simp [results, Tryz.results52, go_sem, *]) rfl ?_
  have o1 := HO1.out
  have o2 := HO2.out
  have hkw := HK.out
  have hbw := HBW.out
  simp only [World.size_alloc, World.size_setCell] at o1 o2
  refine ⟨⟨_, rfl, _, _, rfl, OwnL.mono (own_keep (B := w.heap.size + 2) o1 ?_ (by omega)) (by omega), OwnL.mono (own_keep (B := w.heap.size + 2) o2 ?_ (by omega)) (by omega)⟩, by (repeat' (first | with_reducible exact Below.refl _ _ | with_reducible assumption | with_reducible refine Below.drew ?_ | with_reducible refine below_drewN' ?_ _ | with_reducible refine Below.alloc ?_ ?_ _ | with_reducible refine Below.setCell ?_ ?_ _ | with_reducible refine below_step (by assumption) ?_ ?_ | omega | (simp; done) | (simp; omega)))⟩
  · (repeat' (first | with_reducible exact Keep.refl _ _ _ | with_reducible assumption | with_reducible refine Keep.drew ?_ | with_reducible refine Keep.drewN ?_ _ | with_reducible refine Keep.alloc ?_ ?_ _ | with_reducible refine Keep.setCell ?_ ?_ _ | with_reducible refine Keep.step (by assumption) ?_ ?_ | omega | (simp; done) | (simp; omega)))
  · (repeat' (first | with_reducible exact Keep.refl _ _ _ | with_reducible assumption | with_reducible refine Keep.drew ?_ | with_reducible refine Keep.drewN ?_ _ | with_reducible refine Keep.alloc ?_ ?_ _ | with_reducible refine Keep.setCell ?_ ?_ _ | with_reducible refine Keep.step (by assumption) ?_ ?_ | omega | (simp; done) | (simp; omega)))
set_option maxRecDepth 100000 in
set_option maxHeartbeats 4000000 in
theorem machine_out (g : Gp) (n : Int) (h : ¬ (1 ≤ n ∧ n ≤ 999999999)) (w : World) :
    Calls Tryz.prog 52 #[.agg #[.string (g).nm, .int .i64 (g).mn, .int .i64 (g).mx, .string (g).like.nm, .string (g).like.gp, .int .i64 (g).like.r0, .int .i64 (g).like.r1, .int .i64 (g).like.r2, .int .i64 (g).like.r3, .int .i64 (g).like.r4, .slice (g).like.la (g).like.labs.length (g).like.lk, .slice (g).like.ta (g).like.tnts.length (g).like.tk, .bool (g).like.rd, .int .i64 (g).pr, .int .i64 (g).rk], .int .i64 n] w (Gives w (OwnM (grpM g n) w.heap.size)) := by
  rw [grpM_out h]
  have hZ := Lib.hid (show ∀ W : World, OwnM zeroM w.heap.size (.agg #[.string ⟨#[]⟩, .string ⟨#[]⟩, .int .i64 0, .int .i64 0, .int .i64 0, .int .i64 0, .int .i64 0, .slice none 0 0, .slice none 0 0, .bool false]) W from fun W => ⟨_, _, rfl, World.ownsRow_nil _ _ _ _, World.ownsRow_nil _ _ _ _⟩)
  by_cases h1 : n < 1
  · have k1 : decide (n < 1) = true := decide_eq_true h1
    clear h
    go_enter Tryz.func52, Tryz.ntmps52
    go_wp2
    refine bodyPost_ret (v := (.agg #[.string ⟨#[]⟩, .string ⟨#[]⟩, .int .i64 0, .int .i64 0, .int .i64 0, .int .i64 0, .int .i64 0, .slice none 0 0, .slice none 0 0, .bool false])) (by simp [results, Tryz.results52, go_sem, *]) rfl ⟨⟨_, rfl, hZ.out _⟩, by (repeat' (first | with_reducible exact Below.refl _ _ | with_reducible assumption | with_reducible refine Below.drew ?_ | with_reducible refine below_drewN' ?_ _ | with_reducible refine Below.alloc ?_ ?_ _ | with_reducible refine Below.setCell ?_ ?_ _ | with_reducible refine below_step (by assumption) ?_ ?_ | omega | (simp; done) | (simp; omega)))⟩
  · have k1 : decide (n < 1) = false := decide_eq_false h1
    have k2 : decide (999999999 < n) = true := decide_eq_true (by omega)
    clear h
    go_enter Tryz.func52, Tryz.ntmps52
    go_wp2
    refine bodyPost_ret (v := (.agg #[.string ⟨#[]⟩, .string ⟨#[]⟩, .int .i64 0, .int .i64 0, .int .i64 0, .int .i64 0, .int .i64 0, .slice none 0 0, .slice none 0 0, .bool false])) (by simp [results, Tryz.results52, go_sem, *]) rfl ⟨⟨_, rfl, hZ.out _⟩, by (repeat' (first | with_reducible exact Below.refl _ _ | with_reducible assumption | with_reducible refine Below.drew ?_ | with_reducible refine below_drewN' ?_ _ | with_reducible refine Below.alloc ?_ ?_ _ | with_reducible refine Below.setCell ?_ ?_ _ | with_reducible refine below_step (by assumption) ?_ ?_ | omega | (simp; done) | (simp; omega)))⟩
theorem machine_any (g : Gp) (n : Int) (w : World) (hT : Tab10 w) (hA : MacIn w g.like) (hs : g.nm.size ≤ 300) (hl : g.like.labs.length ≤ 1000000) (ht : g.like.tnts.length ≤ 1000000) :
    Calls Tryz.prog 52 #[.agg #[.string (g).nm, .int .i64 (g).mn, .int .i64 (g).mx, .string (g).like.nm, .string (g).like.gp, .int .i64 (g).like.r0, .int .i64 (g).like.r1, .int .i64 (g).like.r2, .int .i64 (g).like.r3, .int .i64 (g).like.r4, .slice (g).like.la (g).like.labs.length (g).like.lk, .slice (g).like.ta (g).like.tnts.length (g).like.tk, .bool (g).like.rd, .int .i64 (g).pr, .int .i64 (g).rk], .int .i64 n] w (Gives w (OwnM (grpM g n) w.heap.size)) := by
  by_cases h : 1 ≤ n ∧ n ≤ 999999999
  · exact machine_in g n h.1 h.2 w hT hA hs hl ht
  · exact machine_out g n h w
end Go.Proofs.YtmkdfcggjlhcpaaGreatDoor
namespace Go.Proofs.YtmkdfcggjlhcpaaGreatDoor
open Go.RowKit
set_option linter.unusedVariables false
set_option linter.unusedSimpArgs false
section
variable {s : CS} {m : Nat}
theorem CS.Ok.up (h : s.Ok m) {n : Nat} (hn : m ≤ n) : s.Ok n :=
  ⟨h.ln, h.g16, h.nd, h.gb, fun j g p hg hp => by
    obtain ⟨h1, h2, h3, h4⟩ := h.tb j g p hg hp
    exact ⟨h1, h2, h3, by omega⟩, h.ib, by have := h.lb; omega, h.db, by
    obtain ⟨h1, h2, h3, h4⟩ := h.nb
    exact ⟨h1, by omega, h3, by omega⟩⟩
theorem CS.Ok.pset (h : s.Ok m) {j : Nat} {y : Pl} (hy : ∀ g, s.G[j]? = some g → g.mn ≤ y.t ∧ y.t ≤ g.mx ∧ 0 ≤ y.la ∧ y.la ≤ 200 * (m : Int)) : CS.Ok { s with P := s.P.set j y } m :=
  ⟨by rw [List.length_set]; exact h.ln, h.g16, h.nd, h.gb, fun k g p hg hp => by
    dsimp only at hg hp
    by_cases e : j = k
    · subst e
      have hl : j < s.P.length := by
        have := (List.getElem?_eq_some_iff.1 hp).1
        rw [List.length_set] at this
        exact this
      rw [List.getElem?_set_self hl] at hp
      obtain rfl := Option.some.inj hp
      exact hy g hg
    · rw [List.getElem?_set_ne e] at hp
      exact h.tb k g p hg hp, h.ib, h.lb, h.db, h.nb⟩
theorem CS.Ok.iset (h : s.Ok m) {k : Nat} {y : Ins} (hy : (∃ j, fndK s.G y.gp = some j) ∧ 0 ≤ y.lf ∧ y.lf ≤ 1000 ∧ (y.st = 1 → 1 ≤ y.lf) ∧ 1 ≤ y.st ∧ y.st ≤ 4 ∧ y.nm.size ≤ 1000 ∧ (y.st = 2 ∨ y.st = 4 → y.lf = 0) ∧ y.si ≤ s.nw ∧ 0 ≤ y.si) : CS.Ok { s with L := s.L.set k y } m :=
  ⟨h.ln, h.g16, h.nd, h.gb, h.tb, fun x hx => by
    rcases List.mem_or_eq_of_mem_set hx with hx | rfl
    · exact h.ib x hx
    · exact hy, by rw [List.length_set]; exact h.lb, h.db, h.nb⟩
theorem CS.Ok.call (h : s.Ok m) : CS.Ok { s with ca := s.ca + 1 } (m + 1) := by
  have h' := h.up (Nat.le_succ m)
  obtain ⟨h1, h2, h3, h4⟩ := h.nb
  exact ⟨h'.ln, h'.g16, h'.nd, h'.gb, h'.tb, h'.ib, h'.lb, h'.db, ⟨h1, by dsimp only; omega, by dsimp only; omega, by dsimp only; omega⟩⟩
theorem CS.Ok.fail (h : s.Ok m) (nm : ByteArray) : (s.fail nm).1.Ok m := by
  unfold CS.fail
  cases hf : fndI s.L nm with
  | none => exact h
  | some k =>
    dsimp only
    cases hx : s.L[k]? with
    | none => exact h
    | some x =>
      dsimp only
      split
      · obtain ⟨h1, h2, h3, h4, h5, h6, h7, h8, h9, h10⟩ := h.ib x (List.mem_of_getElem? hx)
        exact h.iset ⟨h1, Int.le_refl _, by dsimp only; omega, fun e => by dsimp only at e; omega, by dsimp only; omega, by dsimp only; omega, h7, fun _ => rfl, h9, h10⟩
      · exact h
theorem CS.Ok.dec (h : s.Ok m) (nm : ByteArray) (n : Int) : (s.dec nm n).1.Ok (m + 1) := by
  have h' := h.up (Nat.le_succ m)
  unfold CS.dec
  cases hf : fndK s.G nm with
  | none => exact h'
  | some j =>
    dsimp only
    cases hg : s.G[j]? with
    | none => exact h'
    | some g =>
      cases hp : s.P[j]? with
      | none => exact h'
      | some p =>
        dsimp only
        split
        · exact h'
        · split
          · exact h'
          · obtain ⟨h1, h2, h3, h4⟩ := h.tb j g p hg hp
            exact (h.pset (y := ⟨p.t - n, p.la, p.br⟩) fun g2 hg2 => by
              rw [hg] at hg2
              obtain rfl := Option.some.inj hg2
              exact ⟨by dsimp only; omega, by dsimp only; omega, h3, h4⟩).call
theorem CS.Ok.del (h : s.Ok m) (nm : ByteArray) : (s.del nm).1.Ok (m + 1) := by
  have h' := h.up (Nat.le_succ m)
  unfold CS.del
  cases hf : fndI s.L nm with
  | none => exact h'
  | some k =>
    dsimp only
    cases hx : s.L[k]? with
    | none => exact h'
    | some x =>
      dsimp only
      cases hj : fndK s.G x.gp with
      | none => exact h'
      | some j =>
        dsimp only
        cases hg : s.G[j]? with
        | none => exact h'
        | some g =>
          cases hp : s.P[j]? with
          | none => exact h'
          | some p =>
            dsimp only
            split
            · exact h'
            · split
              · exact h'
              · obtain ⟨h1, h2, h3, h4⟩ := h.tb j g p hg hp
                obtain ⟨b0, b1, b2, b3, _⟩ := h.gb g (List.mem_of_getElem? hg)
                obtain ⟨i1, i2, i3, i4, i5, i6, i7, i8, i9, i10⟩ := h.ib x (List.mem_of_getElem? hx)
                exact ((h.iset (k := k) (y := { x with st := 3, lf := 1 }) ⟨i1, by dsimp only; omega, by dsimp only; omega, fun e => by dsimp only at e; omega, by dsimp only; omega, by dsimp only; omega, i7, fun e => by dsimp only at e; omega, i9, i10⟩).pset (j := j) (y := ⟨max g.mn (p.t - 1), p.la, p.br⟩) fun g2 hg2 => by
                  dsimp only at hg2
                  rw [hg] at hg2
                  obtain rfl := Option.some.inj hg2
                  exact ⟨by dsimp only; omega, by dsimp only; omega, h3, h4⟩).call
theorem CS.Ok.tick (h : s.Ok m) : s.tick.Ok (m + 1) := by
  have h' := h.up (Nat.le_succ m)
  obtain ⟨n1, n2, n3, n4⟩ := h.nb
  refine ⟨h'.ln, h'.g16, h'.nd, h'.gb, h'.tb, ?_, ?_, h'.db, ⟨by unfold CS.tick; dsimp only; omega, by unfold CS.tick; dsimp only; omega, n3, by unfold CS.tick; dsimp only; omega⟩⟩
  · intro y hy
    unfold CS.tick at hy
    dsimp only at hy
    obtain ⟨x, hx, e⟩ := List.mem_filterMap.1 hy
    obtain ⟨i1, i2, i3, i4, i5, i6, i7, i8, i9, i10⟩ := h.ib x hx
    have hw : s.tick.nw = s.nw + 1 := rfl
    have hG : s.tick.G = s.G := rfl
    rw [hw, hG]
    unfold tickI at e
    split at e
    · cases e
    · split at e
      · rename_i h3 h1
        have := i4 h1
        split at e
        · obtain rfl := Option.some.inj e
          refine ⟨i1, Int.le_refl _, by dsimp only; omega, fun e => ?_, ?_, ?_, i7, fun _ => rfl, by dsimp only; omega, i10⟩
          · dsimp only at e
            split at e <;> omega
          · dsimp only
            split <;> omega
          · dsimp only
            split <;> omega
        · obtain rfl := Option.some.inj e
          refine ⟨i1, by dsimp only; omega, by dsimp only; omega, fun e => by dsimp only; omega, i5, i6, i7, fun e => by dsimp only at e ⊢; omega, by dsimp only; omega, i10⟩
      · obtain rfl := Option.some.inj e
        exact ⟨i1, i2, i3, i4, i5, i6, i7, i8, by omega, i10⟩
  · have h1 : s.tick.L.length ≤ s.L.length := List.length_filterMap_le _ _
    have := h.lb
    omega
end
theorem fndK_nd : ∀ {l : List Gk} {j : Nat} {g : Gk}, (l.map Gk.nm).Nodup → l[j]? = some g → fndK l g.nm = some j
  | [], j, g, _, h => by simp at h
  | x :: l, 0, g, hn, h => by
    obtain rfl : x = g := by simpa using h
    unfold fndK
    rw [if_pos rfl]
  | x :: l, j + 1, g, hn, h => by
    rw [List.map_cons, List.nodup_cons] at hn
    have hg : l[j]? = some g := by simpa using h
    have hne : ¬ x.nm = g.nm := fun e => hn.1 (e ▸ List.mem_map.2 ⟨g, List.mem_of_getElem? hg, rfl⟩)
    unfold fndK
    rw [if_neg hne, fndK_nd hn.2 hg]
    rfl
theorem grpM_nm (g : Gp) (n : Int) : (grpM g n).nm = mnm g.nm n := by
  unfold grpM mnm
  split <;> rfl
theorem MO.mac {w : World} {base : Nat} {m : Mac} (h : MO w base m) (hl : m.labs.length ≤ maxLen) (ht : m.tnts.length ≤ maxLen) : MacIn w m := by
  have rl : LabL w m.la m.labs := by
    obtain ⟨a, k, e, hc⟩ := own_rows kcs_len h.l (by decide)
    injection e with e1 e2 e3
    exact fun h0 => by
      obtain ⟨g, h1, h2, h3, h4⟩ := hc h0
      exact ⟨g, 0, e1.trans h1, h3, h4⟩
  have rt : TntsAt w m.ta m.tnts := by
    obtain ⟨a, k, e, hc⟩ := own_rows tcs_len h.t (by decide)
    injection e with e1 e2 e3
    exact fun h0 => by
      obtain ⟨g, h1, h2, h3, h4⟩ := hc h0
      exact ⟨g, 0, e1.trans h1, h3, h4⟩
  exact ⟨⟨rl, rt, hl, ht⟩, own_nilok h.l, own_cap h.l, own_nilok h.t, own_cap h.t⟩
theorem mnm_size (nm : ByteArray) (n : Int) (h : nm.size ≤ 300) : (mnm nm n).size ≤ 1000 := by
  unfold mnm
  split
  · have h1 := dg_small n.toNat (by omega)
    rw [ByteArray.size_append, ByteArray.size_append]
    have h2 : (⟨#[45]⟩ : ByteArray).size = 1 := rfl
    omega
  · exact Nat.zero_le _
theorem mem_moreI {nm : ByteArray} {la : Int} {like x : Ins} {n : Nat} (h : x ∈ moreI nm la like n) : ∃ k : Nat, k < n ∧ x = { like with nm := mnm nm (la + 1 + (k : Int)), gp := nm } := by
  unfold moreI at h
  obtain ⟨k, hk, rfl⟩ := List.mem_map.1 h
  exact ⟨k, List.mem_range.1 hk, rfl⟩
theorem moreI_len (nm : ByteArray) (la : Int) (like : Ins) (n : Nat) : (moreI nm la like n).length = n := by
  unfold moreI
  rw [List.length_map, List.length_range]
theorem CS.Ok.inc {s : CS} {m : Nat} (h : s.Ok m) (nm : ByteArray) (n : Int) : (s.inc nm n).1.Ok (m + 1) := by
  have h' := h.up (Nat.le_succ m)
  unfold CS.inc
  cases hf : fndK s.G nm with
  | none => exact h'
  | some j =>
    dsimp only
    cases hg : s.G[j]? with
    | none => exact h'
    | some g =>
      cases hp : s.P[j]? with
      | none => exact h'
      | some p =>
        dsimp only
        split
        · exact h'
        · split
          · exact h'
          · split
            · exact h'
            · obtain ⟨g9, hg9, hnm⟩ := fndK_lt hf
              rw [hg] at hg9
              obtain rfl := Option.some.inj hg9
              obtain ⟨h1, h2, h3, h4⟩ := h.tb j g p hg hp
              obtain ⟨b0, b1, b2, b3, b4⟩ := h.gb g (List.mem_of_getElem? hg)
              obtain ⟨d1, d2⟩ := h.db
              obtain ⟨n1, n2, n3, n4⟩ := h.nb
              have hn : (n.toNat : Int) = n := by omega
              have h9 := h'.pset (j := j) (y := ⟨p.t + (n.toNat : Int), p.la + (n.toNat : Int), p.br⟩) fun g2 hg2 => by
                rw [hg] at hg2
                obtain rfl := Option.some.inj hg2
                exact ⟨by dsimp only; omega, by dsimp only; omega, by dsimp only; omega, by dsimp only; push_cast; omega⟩
              refine ⟨h9.ln, h9.g16, h9.nd, h9.gb, h9.tb, ?_, ?_, h9.db, ⟨n1, by dsimp only [CS.req]; omega, by dsimp only [CS.req]; omega, by dsimp only [CS.req]; omega⟩⟩
              · intro x hx
                rcases List.mem_append.1 hx with hx | hx
                · exact h.ib x hx
                · obtain ⟨k, hk, rfl⟩ := mem_moreI hx
                  refine ⟨⟨j, by dsimp only [CS.req]; rw [hnm]; exact hf⟩, by dsimp only; omega, by dsimp only; omega, fun _ => by dsimp only; omega, by dsimp only; omega, by dsimp only; omega, mnm_size _ _ b4, fun e => by dsimp only at e; omega, by dsimp only [CS.req]; omega, by dsimp only; omega⟩
              · have hl := h.lb
                show (s.L ++ moreI g.nm p.la ⟨emp, emp, 1, s.dl, s.nw⟩ n.toNat).length ≤ 3200 * (m + 1)
                rw [List.length_append, moreI_len]
                omega
end Go.Proofs.YtmkdfcggjlhcpaaGreatDoor
namespace Go.Proofs.YtmkdfcggjlhcpaaGreatDoor
open Go.RowKit
set_option linter.unusedVariables false
set_option linter.unusedSimpArgs false
def NewB (N : Nat) (lv lv' : Value) : Prop := ∀ q, lv'.ownBlock = some q → lv.ownBlock = some q ∨ N ≤ q
theorem NewB.refl {N : Nat} {lv : Value} : NewB N lv lv := fun q h => .inl h
def CS.part (s : CS) (j : Nat) (g : Gk) (p : Pl) (like : Ins) (n k : Nat) : CS := { s with P := s.P.set j ⟨p.t + n, p.la + k, p.br⟩, L := s.L ++ moreI g.nm p.la like k }
def likeK (g : Gk) (p : Pl) (like : Ins) : Nat → Ins
  | 0 => like
  | k + 1 => { like with nm := mnm g.nm (p.la + 1 + (k : Int)), gp := g.nm }
theorem likeK_next (g : Gk) (p : Pl) (like : Ins) (k : Nat) : { likeK g p like k with nm := mnm g.nm (p.la + 1 + (k : Int)), gp := g.nm } = likeK g p like (k + 1) := by
  cases k <;> rfl
theorem CT.newList {w w' : World} {base b : Nat} {G : List Gp} {s : CS} {gv pv lv lv' : Value} {S : List Nat} {L' : List Ins} (h : CT w base b G s gv pv lv) (ho : Only S w w') (hS : ∀ k ∈ S, TyAt w k 62) (hl : w'.ownsRow base 62 5 lv' L'.length (L'.flatMap irow)) :
    CT (w'.setCell ⟨b, 3, none⟩ lv') base b G { s with L := L' } gv pv lv' := by
  have N : ∀ {q : Nat} {t : TypeId}, TyAt w q t → t ≠ 62 → q ∉ S := fun hq ht hm => hq.ne (hS _ hm) ht rfl
  have hr := h.row.only ho (N (blk_ty h.row) (by decide))
  have tb := blk_ty hr
  have D : ∀ {q : Nat} {t : TypeId}, TyAt w' q t → t ≠ 75 → q ≠ b := fun hq ht => hq.ne tb ht
  have hg := own_same h.go fun g e => ho.block g (own_lt h.go e).2 (N (own_ty h.go e) (by decide))
  have hp := own_same h.po fun g e => ho.block g (own_lt h.po e).2 (N (own_ty h.po e) (by decide))
  refine ⟨hr.set 3 lv', own_same hg fun q e => Below.heap_setCell _ _ _ _ (D (own_ty hg e) (by decide)), own_same hp fun q e => Below.heap_setCell _ _ _ _ (D (own_ty hp e) (by decide)), own_same hl fun q e => Below.heap_setCell _ _ _ _ (D (own_ty hl e) (by decide)), fun x hx => ?_, h.gk, h.hb⟩
  have h1 := own_same (h.ms x hx).l fun g e => ho.block g (own_lt (h.ms x hx).l e).2 (N (own_ty (h.ms x hx).l e) (by decide))
  have h2 := own_same (h.ms x hx).t fun g e => ho.block g (own_lt (h.ms x hx).t e).2 (N (own_ty (h.ms x hx).t e) (by decide))
  exact ⟨own_same h1 fun q e => Below.heap_setCell _ _ _ _ (D (own_ty h1 e) (by decide)), own_same h2 fun q e => Below.heap_setCell _ _ _ _ (D (own_ty h2 e) (by decide))⟩
theorem CT.listTy {w : World} {base b : Nat} {G : List Gp} {s : CS} {gv pv lv : Value} (h : CT w base b G s gv pv lv) : ∀ k ∈ lv.ownBlock.toList, TyAt w k 62 := fun k hk => own_ty h.lo (by simpa using hk)
theorem mo_sizes {w : World} {base : Nat} {m : Mac} (h : MO w base m) (hl : m.labs.length ≤ 1000000) (ht : m.tnts.length ≤ 1000000) : MacIn w m := h.mac (by unfold maxLen; omega) (by unfold maxLen; omega)
theorem CT.poolAt {w : World} {base b q n k : Nat} {G : List Gp} {s : CS} {gv lv : Value} (h : CT w base b G s gv (.slice (some ⟨q, 0, none⟩) n k) lv) {i : Nat} {x : Pl} (hx : s.P[i]? = some x) : q < w.heap.size ∧ w.cell? ⟨q, i * 3, none⟩ = some (.int .i64 x.t) ∧ w.cell? ⟨q, i * 3 + 1, none⟩ = some (.int .i64 x.la) ∧ w.cell? ⟨q, i * 3 + 2, none⟩ = some (.bool x.br) := by
  obtain ⟨a, k', e, hR⟩ := h.pools
  obtain ⟨g, e4, _, h2, h3⟩ := hR (by have := lt_at hx; omega)
  subst e4
  injection e with e1 e2 e3
  injection e1 with e1
  injection e1 with e1
  subst e1
  exact ⟨h2, h3 i x hx⟩
theorem CT.groupAt {w : World} {base b q o n k : Nat} {G : List Gp} {s : CS} {pv lv : Value} (h : CT w base b G s (.slice (some ⟨q, o, none⟩) n k) pv lv) {i : Nat} {x : Gp} (hx : G[i]? = some x) : q < w.heap.size ∧ ∀ r, r < 15 → w.cell? ⟨q, o + i * 15 + r, none⟩ = (grow x)[r]? := by
  obtain ⟨a, k', e, hR⟩ := h.groups
  obtain ⟨g, off, e4, h2, h3⟩ := hR (by have := lt_at hx; omega)
  subst e4
  injection e with e1 e2 e3
  injection e1 with e1
  injection e1 with e1 e5
  subst e1
  subst e5
  exact ⟨h2, h3 i x hx⟩
theorem CT.blocks {w : World} {base b : Nat} {G : List Gp} {s : CS} {gv pv lv : Value} (h : CT w base b G s gv pv lv) : ∀ k ∈ blocksOf b pv lv, base ≤ k ∧ k < w.heap.size := fun k hk => by
  unfold blocksOf at hk
  rcases List.mem_cons.1 hk with rfl | hk
  · exact ⟨h.hb, h.row.lt⟩
  · rcases List.mem_append.1 hk with hk | hk
    · exact own_lt h.po (by simpa using hk)
    · exact own_lt h.lo (by simpa using hk)
theorem CT.setI {w : World} {base b : Nat} {G : List Gp} {s : CS} {gv pv lv : Value} (h : CT w base b G s gv pv lv) {X : Nat} (hX : TyAt w X 62) (hl : ∀ z, lv.ownBlock = some z → z ≠ X) (i : Nat) (v : Value) : CT (w.setCell ⟨X, i, none⟩ v) base b G s gv pv lv :=
  h.only (S := [X]) ((Only.refl [X] w).setCell (p := ⟨X, i, none⟩) (.inl (List.mem_singleton.2 rfl)) v) (fun e => (blk_ty h.row).ne hX (by decide) (List.mem_singleton.1 e)) (fun g e m => (own_ty h.go e).ne hX (by decide) (List.mem_singleton.1 m)) (fun g e m => (own_ty h.po e).ne hX (by decide) (List.mem_singleton.1 m)) (fun g e m => hl g e (List.mem_singleton.1 m))
    (fun x hx g e m => by
      rcases e with e | e
      · exact (own_ty (h.ms x hx).l e).ne hX (by decide) (List.mem_singleton.1 m)
      · exact (own_ty (h.ms x hx).t e).ne hX (by decide) (List.mem_singleton.1 m))
theorem Only.trans2 {S T : List Nat} {a w w' : World} (h : Only T a w) (k : Only S w w') (hS : ∀ z ∈ S, z ∈ T ∨ a.heap.size ≤ z) : Only T a w' :=
  ⟨k.os.trans h.os, k.tape.trans h.tape, k.output.trans h.output, Nat.le_trans h.size k.size, fun z hz hn => (k.block z (Nat.lt_of_lt_of_le hz h.size) fun hm => by
    rcases hS z hm with h1 | h1
    · exact hn h1
    · omega).trans (h.block z hz hn)⟩
def AggM (M : Mac) (v : Value) : Prop := ∃ vl vt, v = .agg #[.string M.nm, .string M.gp, .int .i64 M.r0, .int .i64 M.r1, .int .i64 M.r2, .int .i64 M.r3, .int .i64 M.r4, vl, vt, .bool M.rd]
theorem field_nm (M : Mac) (vl vt : Value) (w : World) : (Instr.field 35 (.agg #[.string M.nm, .string M.gp, .int .i64 M.r0, .int .i64 M.r1, .int .i64 M.r2, .int .i64 M.r3, .int .i64 M.r4, vl, vt, .bool M.rd]) 0).run Tryz.prog w = .ok (.string M.nm) w := by kernel_rfl
theorem part_zero (s : CS) (j : Nat) (g : Gk) (p : Pl) (like : Ins) (n : Nat) : s.part j g p like n 0 = { s with P := s.P.set j ⟨p.t + n, p.la, p.br⟩ } := by
  unfold CS.part moreI
  rw [show p.la + ((0 : Nat) : Int) = p.la from Int.add_zero _]
  simp
theorem part_pool {s : CS} {j : Nat} {g : Gk} {p : Pl} {like : Ins} {n k : Nat} (h : j < s.P.length) : (s.part j g p like n k).P[j]? = some ⟨p.t + n, p.la + k, p.br⟩ := by
  unfold CS.part
  rw [List.getElem?_set_self h]
theorem part_next (s : CS) (j : Nat) (g : Gk) (p : Pl) (like : Ins) (n k : Nat) : { (s.part j g p like n k) with P := (s.part j g p like n k).P.set j ⟨p.t + n, p.la + k + 1, p.br⟩, L := (s.part j g p like n k).L ++ [likeK g p like (k + 1)] } = s.part j g p like n (k + 1) := by
  unfold CS.part
  dsimp only
  rw [list_set_same, moreI_succ, ← List.append_assoc]
  have e : p.la + (k : Int) + 1 = p.la + ((k + 1 : Nat) : Int) := by omega
  rw [e]
  have e2 : likeK g p like (k + 1) = { like with nm := mnm g.nm (p.la + 1 + k), gp := g.nm } := rfl
  rw [e2]
set_option maxRecDepth 100000 in
set_option maxHeartbeats 8000000 in
theorem request_any (b : Nat) (G : List Gp) (s : CS) (gv pv lv : Value) (j : Nat) (g : Gp) (p : Pl) (like : Ins) (n m : Nat) (w0 w : World) (h : CT w w0.heap.size b G s gv pv lv) (hB0 : Below w0.heap.size w0 w) (hT : Tab10 w0)
    (hG : G[j]? = some g) (hp : s.P[j]? = some p) (hz : G.length ≤ 16) (hs : g.nm.size ≤ 300) (hl : g.like.labs.length ≤ 1000000) (ht : g.like.tnts.length ≤ 1000000) (hn : n ≤ 200) (h1 : 0 ≤ p.t ∧ p.t ≤ 1000) (h2 : 0 ≤ p.la ∧ p.la ≤ 100000000) (h3 : s.L.length ≤ 10000000) (hPl : s.P.length ≤ 16) :
    Calls Tryz.prog 28 #[.pointer (some ⟨b, 0, none⟩), .int .i64 j, .int .i64 n, .agg #[.string like.nm, .string like.gp, .int .i64 like.st, .int .i64 like.lf, .int .i64 like.si]] w fun e w' => e = .returned (.tuple #[]) ∧ ∃ lv', CT w' w0.heap.size b G (s.req j (gkOf g) p like n) gv pv lv' ∧ Only (blocksOf b pv lv) w w' ∧ NewB w.heap.size lv lv' := by
  have c2 := h.row.cell 2
  dsimp only [List.getElem?_cons_zero, List.getElem?_cons_succ] at c2
  obtain ⟨pa, pk, hpv, hR⟩ := h.pools
  have hjP : j < s.P.length := lt_at hp
  have hjG : j < G.length := lt_at hG
  obtain ⟨q, hpa, _, hq, hc⟩ := hR (by omega)
  obtain ⟨d0, d1, d2⟩ := hc j p hp
  obtain ⟨ga, gka, hgv, hGr⟩ := h.groups
  obtain ⟨gb, go, hga, hgb, _⟩ := hGr (by omega)
  have hbq : b ≠ q := (blk_ty h.row).ne (own_ty h.po (by rw [hpv, hpa]; rfl)) (by decide)
  subst hpa
  subst hpv
  subst hga
  subst hgv
  have hbl := h.row.lt
  have f0 := (h.po).frozenAt (j * 3)
  have Hh := Lib.hid h
  have hjI : (j : Int) < (s.P.length : Int) := by omega
  have hjI2 : (j : Int) < (G.length : Int) := by omega
  have hj0 : (0 : Int) ≤ (j : Int) := by omega
  obtain ⟨N, hN⟩ : ∃ N, s.P.length = N := ⟨_, rfl⟩
  have HN := Lib.hid hN
  have HjP := Lib.hid hjP
  have hSB := h.blocks
  have hqm : q ∈ blocksOf b (.slice (some ⟨q, 0, none⟩) s.P.length pk) lv := by unfold blocksOf; simp [Value.ownBlock]
  have hbm : b ∈ blocksOf b (.slice (some ⟨q, 0, none⟩) s.P.length pk) lv := by unfold blocksOf; simp
  have hlm : ∀ z, lv.ownBlock = some z → z ∈ blocksOf b (.slice (some ⟨q, 0, none⟩) s.P.length pk) lv := fun z hz => by unfold blocksOf; rw [hz]; simp
  obtain ⟨SB, hSBe⟩ : ∃ SB, SB = blocksOf b (.slice (some ⟨q, 0, none⟩) s.P.length pk) lv := ⟨_, rfl⟩
  rw [← hSBe] at hSB hqm hbm hlm ⊢
  have HSB := Lib.hid hSB
  have Hlm := Lib.hid hlm
  rw [hN] at c2 hjI hPl hjP
  have hw1 : IntKind.i64.wrap (p.t + (n : Int)) = p.t + (n : Int) := cwrap_in (by omega) (by omega)
  have HP := Lib.hid hp
  have HG := Lib.hid hG
  have HB0 := Lib.hid hB0
  have HT := Lib.hid hT
  obtain ⟨gn, hgn⟩ : ∃ gn, G.length = gn := ⟨_, rfl⟩
  have Hgn := Lib.hid hgn
  rw [hgn] at hjI2
  have HLn := Lib.hid h3
  clear h hR hc hp hG hN hB0 hT hGr hSB hlm hSBe hgn h3
  go_enter Tryz.func28, Tryz.ntmps28
  go_wp2
  obtain ⟨X, hX⟩ : ∃ X, X = w.heap.size := ⟨_, rfl⟩
  obtain ⟨W, hW⟩ : ∃ W, W = (w.setCell ⟨q, j * 3, none⟩ (.int .i64 (p.t + n))).alloc (.cells #[.string like.nm, .string like.gp, .int .i64 like.st, .int .i64 like.lf, .int .i64 like.si] 62) := ⟨_, rfl⟩
  (try rw [← hW])
  have HTW := Lib.hid (show CT W w0.heap.size b G (s.part j (gkOf g) p like n 0) (.slice (some ⟨gb, go, none⟩) G.length gka) (.slice (some ⟨q, 0, none⟩) s.P.length pk) lv from by
    rw [part_zero, hW]
    exact (Hh.out.pset (y := ⟨p.t + n, p.la, p.br⟩) (r := 0) rfl HP.out (by decide) rfl).below ((Below.refl _ _).alloc (Nat.le_refl _) _))
  have HOW := Lib.hid (show Only SB w W from by rw [hW]; exact ((Only.refl SB w).setCell (p := ⟨q, j * 3, none⟩) (.inl hqm) _).alloc _)
  have HXW := Lib.hid (show Blk W X 62 (irow (likeK (gkOf g) p like 0)) from by
    rw [hW, hX]
    have h9 := Blk.new (w.setCell ⟨q, j * 3, none⟩ (.int .i64 (p.t + n))) 62 (irow like)
    rw [World.size_setCell] at h9
    exact h9)
  (try rw [← hX])
  have HX := Lib.hid hX
  clear hW hX c2 d0 d1 d2 f0 hq hbl hgb
  go_loopw [24] (fun i wr => ∃ (k : Nat) (v : Value), k ≤ n ∧ i = .int .i64 k ∧ CT wr w0.heap.size b G (s.part j (gkOf g) p like n k) (.slice (some ⟨gb, go, none⟩) G.length gka) (.slice (some ⟨q, 0, none⟩) s.P.length pk) v ∧ Only SB w wr ∧ (∀ z, v.ownBlock = some z → lv.ownBlock = some z ∨ X < z) ∧ Blk wr X 62 (irow (likeK (gkOf g) p like k))) (fun i _ => n - (intOf i).toNat)
  case atStart => exact ⟨0, _, Nat.zero_le _, rfl, HTW.out, HOW.out, (fun z hz => .inl hz), HXW.out⟩
  case round =>
    clear HTW HOW HXW
    obtain ⟨k, v, hk, rfl, hT, hO, hV, hX⟩ := hrel
    have HTr := Lib.hid hT
    have HOr := Lib.hid hO
    have HVr := Lib.hid hV
    have HXr := Lib.hid hX
    by_cases hlt : k < n
    · obtain ⟨hq, d0, d1, d2⟩ := hT.poolAt (part_pool HjP.out)
      obtain ⟨hgb, hgc⟩ := hT.groupAt HG.out
      have hpo9 := hT.po
      rw [show (s.part j (gkOf g) p like n k).P.length = s.P.length from List.length_set] at hpo9
      have f1 := hpo9.frozenAt (j * 3 + 1)
      clear hpo9
      have b1 := hT.row.cell 1
      dsimp only [List.getElem?_cons_zero, List.getElem?_cons_succ] at b1
      obtain ⟨a0, a1, a2, a3, a4, a5, a6, a7, a8, a9, a10, a11, a12, a13, a14⟩ := grow_cells hgc
      have x1 := hX.cell 1
      have fx := hX.frozen 1
      have hXl := hX.lt
      have hbl := hT.row.lt
      have hqX : q ≠ X := (own_ty hT.po rfl).ne (blk_ty hX) (by decide)
      have hgX : gb ≠ X := (own_ty hT.go rfl).ne (blk_ty hX) (by decide)
      have hgq : gb ≠ q := (own_ty hT.go rfl).ne (own_ty hT.po rfl) (by decide)
      have hbX : b ≠ X := (blk_ty hT.row).ne (blk_ty hX) (by decide)
      have hw2 : IntKind.i64.wrap (p.la + (k : Int) + 1) = p.la + (k : Int) + 1 := cwrap_in (by omega) (by omega)
      have hgn' := Hgn.out
      rw [hgn'] at b1
      clear hT hO hV hX hgc d0 d2
      go_wp2
      obtain ⟨W1, hW1⟩ : ∃ W1, W1 = (wr.setCell ⟨q, j * 3 + 1, none⟩ (.int .i64 (p.la + k + 1))).setCell ⟨X, 1, none⟩ (.string g.nm) := ⟨_, rfl⟩
      rw [← hW1]
      have hvX : ∀ z, v.ownBlock = some z → z ≠ X := fun z hz e => by
        rcases HVr.out z hz with h9 | h9
        · have := (own_lt Hh.out.lo h9).2
          have := HX.out
          omega
        · omega
      obtain ⟨s1, hs1⟩ : ∃ s1, s1 = { (s.part j (gkOf g) p like n k) with P := (s.part j (gkOf g) p like n k).P.set j ⟨p.t + n, p.la + k + 1, p.br⟩ } := ⟨_, rfl⟩
      have hs1p : s1.P[j]? = some ⟨p.t + n, p.la + k + 1, p.br⟩ := by
        rw [hs1]
        dsimp only
        rw [List.getElem?_set_self (by show j < (s.P.set j _).length; rw [List.length_set]; exact HjP.out)]
      have hT1 : CT W1 w0.heap.size b G s1 (.slice (some ⟨gb, go, none⟩) G.length gka) (.slice (some ⟨q, 0, none⟩) s.P.length pk) v := by
        rw [hW1, hs1]
        exact (HTr.out.pset (y := ⟨p.t + n, p.la + k + 1, p.br⟩) (r := 1) rfl (part_pool HjP.out) (by decide) rfl).setI (blk_ty (HXr.out.other (p := ⟨q, j * 3 + 1, none⟩) (fun e => hqX e.symm) _)) hvX _ _
      have hX1 : Blk W1 X 62 (irow { likeK (gkOf g) p like k with gp := g.nm }) := by
        rw [hW1]
        exact (HXr.out.other (p := ⟨q, j * 3 + 1, none⟩) (fun e => hqX e.symm) _).set 1 _
      have hO1 : Only SB w W1 := by
        rw [hW1]
        exact (HOr.out.setCell (p := ⟨q, j * 3 + 1, none⟩) (.inl hqm) _).setCell (p := ⟨X, 1, none⟩) (.inr (by show _ ≤ X; have := HX.out; omega)) _
      have HT1 := Lib.hid hT1
      have HX1 := Lib.hid hX1
      have HO1 := Lib.hid hO1
      have Hs1 := Lib.hid hs1
      have HvX := Lib.hid hvX
      have hB1 : Below w0.heap.size w0 W1 := hO1.below HB0.out HB0.out.size (fun z hz => (HSB.out z hz).1)
      have HMm := Lib.hid (fun V (hV : Below W1.heap.size W1 V) => machine_any g (p.la + k + 1) V (HT.out.mono (hB1.trans (hV.mono hB1.size))) (mo_sizes ((HT1.out.below hV).ms g (List.mem_of_getElem? HG.out)) hl ht) hs hl ht)
      obtain ⟨M, hM⟩ : ∃ M, grpM g (p.la + k + 1) = M := ⟨_, rfl⟩
      rw [hM] at HMm
      have hnm : M.nm = mnm (gkOf g).nm (p.la + 1 + k) := by
        rw [← hM, grpM_nm]
        show mnm g.nm _ = mnm g.nm _
        congr 1
        omega
      have Hnm := Lib.hid hnm
      obtain ⟨_, e1, e2, _⟩ := hT1.poolAt hs1p
      obtain ⟨hgb1, hgc⟩ := hT1.groupAt HG.out
      obtain ⟨g0, g1, g2, g3, g4, g5, g6, g7, g8, g9, g10, g11, g12, g13, g14⟩ := grow_cells hgc
      have b1' := hT1.row.cell 1
      dsimp only [List.getElem?_cons_zero, List.getElem?_cons_succ] at b1'
      have x0' := hX1.cell 0
      have fx' := hX1.frozen 0
      have hX1l := hX1.lt
      have hb1l := hT1.row.lt
      have hq1l := (own_lt hT1.po rfl).2
      rw [hgn'] at b1'
      clear hW1 hs1 hs1p hT1 hX1 hO1 hB1 hM hnm hgc hvX a0 a1 a2 a3 a4 a5 a6 a7 a8 a9 a10 a11 a12 a13 a14 d1 f1 b1 x1 fx hXl hbl hq hgb hgn'
      have hcH := held_cell
      refine region_rel_tail 14 (by kernel_rfl) (by kernel_rfl) (by kernel_rfl) ?_
      dsimp only [List.take, List.drop]
      repeat
        ((with_reducible refine relStep (fun K hK => ?_))
         (have HK := Lib.hid hK)
         clear hK
         (apply relInl
          · intro r n hf
            have Hf := Lib.hid hf
            clear hf
            (first
              | (fail)
              | (unfold relAt
                 go_simp
                 (first | (refine relUpon_val ?_ (Below.refl _ _); exact rfl) | exact rfl | (refine relUpon_enter ?_; fail))))
          (simp only [Act.put, List.setIfInBounds_toArray, List.set_cons_zero, List.set_cons_succ])
          (with_reducible refine HK.out _ _ ?_)
          clear HK K))
      (with_reducible refine relStep (fun K hK => ?_))
      (have HK := Lib.hid hK)
      clear hK
      refine relInr ((fun v _ => AggM M v)) ((fun _ _ _ _ h => h)) (fun r n hf => ?_) ?_
      · have Hf := Lib.hid hf
        clear hf HK K
        unfold relAt
        (skip)
        go_simp
        ((refine relUpon_enter ?_; go_at_call 52; (with_reducible refine (HMm.out _ n.below).mono ?_); rintro e w9 ⟨⟨v, rfl, ⟨vl, vt, rfl, _⟩⟩, hb⟩; exact ⟨⟨_, rfl, ⟨vl, vt, rfl⟩⟩, hb⟩))
      (simp only [Act.put, List.setIfInBounds_toArray, List.set_cons_zero, List.set_cons_succ])
      (with_reducible refine HK.out _ _ ?_)
      clear HK K
      ((with_reducible refine relStep (fun K hK => ?_))
       (have HK := Lib.hid hK)
       clear hK
       (apply relInl
        · intro r n hf
          have Hf := Lib.hid hf
          clear hf
          ((obtain ⟨vl, vt, e9⟩ := given_at Hf.out 0 rfl (by dsimp only; decide +kernel); dsimp only at e9; unfold relAt; go_simp; rw [field_nm]; (refine relUpon_val ?_ (Below.refl _ _)); exact rfl)))
       (simp only [Act.put, List.setIfInBounds_toArray, List.set_cons_zero, List.set_cons_succ])
       (with_reducible refine HK.out _ _ ?_)
       clear HK K)
      repeat
        ((with_reducible refine relStep (fun K hK => ?_))
         (have HK := Lib.hid hK)
         clear hK
         (apply relInl
          · intro r n hf
            have Hf := Lib.hid hf
            clear hf
            (first
              | (fail)
              | (unfold relAt
                 go_simp
                 (first | (refine relUpon_val ?_ (Below.refl _ _); exact rfl) | exact rfl | (refine relUpon_enter ?_; fail))))
          (simp only [Act.put, List.setIfInBounds_toArray, List.set_cons_zero, List.set_cons_succ])
          (with_reducible refine HK.out _ _ ?_)
          clear HK K))
      refine relNil ?_
      intro r5 n5 hx5
      clear hcH
      (try simp only [List.nil_append, List.cons_append, List.mem_cons, List.not_mem_nil, or_false, forall_eq_or_imp, forall_eq, false_implies, implies_true] at hx5)
      obtain ⟨w5, hb5⟩ := n5
      (try dsimp only)
      obtain ⟨hc5, hf5⟩ := bcell hb5
      have hz5 := hb5.size
      (try simp at hz5)
      go_wp2
      obtain ⟨W2, hW2⟩ : ∃ W2, W2 = w5.setCell ⟨X, 0, none⟩ (.string M.nm) := ⟨_, rfl⟩
      rw [← hW2]
      obtain ⟨lk, hlk⟩ : ∃ lk, lk = likeK (gkOf g) p like (k + 1) := ⟨_, rfl⟩
      have Hlk := Lib.hid hlk
      have hT2 : CT W2 w0.heap.size b G s1 (.slice (some ⟨gb, go, none⟩) G.length gka) (.slice (some ⟨q, 0, none⟩) s.P.length pk) v := by
        rw [hW2]
        exact (HT1.out.below hb5).setI (blk_ty (HX1.out.below hb5)) HvX.out _ _
      have hX2 : Blk W2 X 62 (irow lk) := by
        rw [hW2, hlk, ← likeK_next, ← Hnm.out]
        exact (HX1.out.below hb5).set 0 _
      have hO2 : Only SB w W2 := by
        rw [hW2]
        exact (HO1.out.step (hb5.mono HO1.out.size)).setCell (p := ⟨X, 0, none⟩) (.inr (by show _ ≤ X; have := HX.out; omega)) _
      clear hW2 hlk
      obtain ⟨LL, hLL⟩ : ∃ LL, s1.L = LL := ⟨_, rfl⟩
      have HLL := Lib.hid hLL
      have hLb : LL.length ≤ 10000000 + 200 := by
        rw [← hLL, Hs1.out]
        show (s.L ++ moreI _ _ _ k).length ≤ _
        rw [List.length_append, moreI_len]
        have := HLn.out
        omega
      have HT2 := Lib.hid hT2
      have HO2 := Lib.hid hO2
      have b3 := hT2.row.cell 3
      dsimp only [List.getElem?_cons_zero, List.getElem?_cons_succ] at b3
      have fb3 := hT2.row.frozen 3
      have hb2l := hT2.row.lt
      have hX2l := hX2.lt
      have i0 := hX2.cell 0
      have i1 := hX2.cell 1
      have i2 := hX2.cell 2
      have i3 := hX2.cell 3
      have i4 := hX2.cell 4
      dsimp only [irow, List.getElem?_cons_zero, List.getElem?_cons_succ] at i0 i1 i2 i3 i4
      have HX2 := Lib.hid hX2
      obtain ⟨S, hS⟩ : ∃ S, S = v.ownBlock.toList := ⟨_, rfl⟩
      have HS := Lib.hid hS
      have hST : ∀ z ∈ S, TyAt W2 z 62 := fun z hz => hT2.listTy z (by rw [← hS]; exact hz)
      have HST := Lib.hid hST
      have hbS : b ∉ S := fun hm => (blk_ty hT2.row).ne (hST b hm) (by decide) rfl
      have hXS : X ∉ S := fun hm => HvX.out X (by rw [hS] at hm; simpa using hm) rfl
      have HSW := Lib.hid (show ∀ z ∈ S, z < W2.heap.size from fun z hz => (own_lt hT2.lo (by rw [hS] at hz; simpa using hz)).2)
      have hwW : w0.heap.size ≤ W2.heap.size := Nat.le_trans HB0.out.size hO2.size
      have hLo := hT2.lo
      rw [hLL] at hLo
      have HLo := Lib.hid hLo
      obtain ⟨i0, hi, hz0, hz1, hz2⟩ := info_parts Tryz.info62
      have Hi := Lib.hid hi
      have Hz0 := Lib.hid hz0
      have Hz1 := Lib.hid hz1
      have Hz2 := Lib.hid hz2
      clear hi hz0 hz1 hz2
      clear hT2 hX2 hO2 hS hST hLL hLo hb5 hc5 hf5 hz5 e1 e2 g0 g1 g2 g3 g4 g5 g6 g7 g8 g9 g10 g11 g12 g13 g14 b1' x0' fx' hX1l hb1l hq1l hgb1
      have hcH := heldS_cell (S := S)
      refine region_turn S 7 10 (by kernel_rfl) (by kernel_rfl) (by kernel_rfl) ?_
      dsimp only [List.take, List.drop]
      repeat
        ((with_reducible refine turnStep (fun K hK => ?_))
         (have HK := Lib.hid hK)
         clear hK
         (apply turnInl (by decide)
          · intro r n hf
            have Hf := Lib.hid hf
            clear hf
            (first
              | (fail)
              | (unfold relAt
                 go_simp
                 (first | (refine relUpon_val ?_ (Below.refl _ _); exact rfl) | exact rfl | (refine relUpon_enter ?_; fail))))
          (simp only [Act.put, List.setIfInBounds_toArray, List.set_cons_zero, List.set_cons_succ])
          (with_reducible refine HK.out _ _ ?_)
          clear HK K))
      (with_reducible refine turnStep (fun K hK => ?_))
      (have HK := Lib.hid hK)
      clear hK
      refine turnInr (by decide) (NewRow W2 62 [.string lk.nm, .string lk.gp, .int .i64 lk.st, .int .i64 lk.lf, .int .i64 lk.si] 1) (NewRow.stays HSW.out _ _ _) (fun r n hf => ?_) ?_
      · have Hf := Lib.hid hf
        clear hf HK K
        unfold relAt
        (skip)
        go_simp
        ((refine relUpon_val ?_ ?_; exact NewRow.mk n _ _ _; exact (Below.refl _ _).alloc (Nat.le_refl _) _))
      (simp only [Act.put, List.setIfInBounds_toArray, List.set_cons_zero, List.set_cons_succ])
      (with_reducible refine HK.out _ _ ?_)
      clear HK K
      (with_reducible refine turnStep (fun K hK => ?_))
      (have HK := Lib.hid hK)
      clear hK
      refine turnApp (by decide) (fun u w' => ∃ z cap, u = .slice (some ⟨z, 0, none⟩) (LL.length + 1) cap ∧ w'.ownsRow w0.heap.size 62 5 u (LL.length + 1) (LL.flatMap irow ++ [.string lk.nm, .string lk.gp, .int .i64 lk.st, .int .i64 lk.lf, .int .i64 lk.si]) ∧ (v.ownBlock = some z ∨ W2.heap.size ≤ z)) ((fun u w1 w' hb ⟨z, cap, e, h, h'⟩ => ⟨z, cap, e, own_kept h hb, h'⟩)) (fun r n hf => ?_) ?_
      · have Hf := Lib.hid hf
        clear hf HK K
        ((obtain ⟨Bx, e1, hB, hb⟩ := given_at Hf.out 0 rfl (by dsimp only; decide +kernel); refine turn_append rfl _ _ _ rfl w0.heap.size 62 i0 _ 5 56 Tryz.underlying47 Hi.out Hz0.out Hz1.out Hz2.out rfl (by decide) v LL.length (LL.flatMap irow) rfl (own_kept HLo.out n.below) ⟨Bx, 0, none⟩ 1 1 [.string lk.nm, .string lk.gp, .int .i64 lk.st, .int .i64 lk.lf, .int .i64 lk.si] e1 rfl (NewRow.news hb) (by simp [Value.oneCell']) (by decide) (by unfold maxLen; omega) (by omega) (by have := n.below.size; omega) (fun z hz => by rw [HS.out, hz]; simp) ?_; intro z cap w' k1 k2 k3; exact ⟨z, cap, rfl, k1, k3.imp_right (fun e => by rw [e]; exact n.below.size)⟩))
      (simp only [Act.put, List.setIfInBounds_toArray, List.set_cons_zero, List.set_cons_succ])
      (with_reducible refine HK.out _ _ ?_)
      clear HK K
      repeat
        ((with_reducible refine turnStep (fun K hK => ?_))
         (have HK := Lib.hid hK)
         clear hK
         (apply turnInl (by decide)
          · intro r n hf
            have Hf := Lib.hid hf
            clear hf
            (first
              | (fail)
              | (unfold relAt
                 go_simp
                 (first | (refine relUpon_val ?_ (Below.refl _ _); exact rfl) | exact rfl | (refine relUpon_enter ?_; fail))))
          (simp only [Act.put, List.setIfInBounds_toArray, List.set_cons_zero, List.set_cons_succ])
          (with_reducible refine HK.out _ _ ?_)
          clear HK K))
      refine turnNil ?_
      intro r6 n6 hx6
      clear hcH
      (try simp only [List.nil_append, List.cons_append, List.mem_cons, List.not_mem_nil, or_false, forall_eq_or_imp, forall_eq, false_implies, implies_true] at hx6)
      obtain ⟨w6, ho6⟩ := n6
      (try dsimp only)
      obtain ⟨-, z, cap, e1, hown, hzq⟩ := hx6
      rw [e1] at hown ⊢
      have f6 : w6.frozen? ⟨b, 3, none⟩ = false := (World.frozen?_of_block (ho6.block b hb2l hbS)).trans fb3
      have x6 : w6.cell? ⟨b, 3, none⟩ = some v := (World.cell?_of_block (ho6.block b hb2l hbS)).trans b3
      have hbl6 : b < w6.heap.size := Nat.lt_of_lt_of_le hb2l ho6.size
      have e9 : LL.flatMap irow ++ [.string lk.nm, .string lk.gp, .int .i64 lk.st, .int .i64 lk.lf, .int .i64 lk.si] = (LL ++ [lk]).flatMap irow := by
        rw [List.flatMap_append]
        rfl
      have hown2 : w6.ownsRow w0.heap.size 62 5 (.slice (some ⟨z, 0, none⟩) (LL.length + 1) cap) (LL ++ [lk]).length ((LL ++ [lk]).flatMap irow) := by
        rw [← e9, List.length_append]
        exact hown
      have HT6 := Lib.hid (HT2.out.newList ho6 HST.out hown2)
      have HO6 := Lib.hid ((HO2.out.trans2 ho6 fun y hy => by
        rw [HS.out] at hy
        rcases HVr.out y (by simpa using hy) with h9 | h9
        · exact .inl (Hlm.out y h9)
        · exact .inr (by have := HX.out; omega)).setCell (p := ⟨b, 3, none⟩) (.inl hbm) (.slice (some ⟨z, 0, none⟩) (LL.length + 1) cap))
      have HX6 := Lib.hid ((HX2.out.only ho6 hXS).other (p := ⟨b, 3, none⟩) (fun e => hbX e.symm) (.slice (some ⟨z, 0, none⟩) (LL.length + 1) cap))
      have HV6 := Lib.hid (show ∀ y, (Value.slice (some ⟨z, 0, none⟩) (LL.length + 1) cap).ownBlock = some y → lv.ownBlock = some y ∨ X < y from fun y hy => by
        obtain rfl : z = y := Option.some.inj hy
        rcases hzq with h9 | h9
        · exact HVr.out z h9
        · exact .inr (by omega))
      have hS6 : { s1 with L := LL ++ [lk] } = s.part j (gkOf g) p like n (k + 1) := by
        rw [← part_next, ← HLL.out, Hs1.out, Hlk.out]
      rw [hS6] at HT6
      rw [Hlk.out] at HX6
      clear ho6 hown hown2 hS6 e9
      go_wp2
      go_roundw
      case rel => exact ⟨k + 1, _, by omega, by go_num, HT6.out, HO6.out, HV6.out, HX6.out⟩
      case measure => simp [intOf]; omega
    · obtain rfl : k = n := by omega
      clear hT hO hV hX
      go_wp2
      go_end0
      exact ⟨rfl, v, HTr.out, HOr.out, fun z hz => (HVr.out z hz).imp_right fun h9 => by have := HX.out; omega⟩
end Go.Proofs.YtmkdfcggjlhcpaaGreatDoor
