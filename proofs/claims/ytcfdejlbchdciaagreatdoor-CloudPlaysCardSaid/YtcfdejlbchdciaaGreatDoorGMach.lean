/-
  The contracts of group.Machine and triremeref16.Machine.
-/
import Derived.Test.YtcfdejlbchdciaaGreatDoorMI
import Derived.Test.YtcfdejlbchdciaaGreatDoorGLaid
import Derived.Test.YtcfdejlbchdciaaGreatDoorGDig
namespace Go.Proofs.YtcfdejlbchdciaaGreatDoor
open Go.RowKit
set_option linter.unusedVariables false
set_option linter.unusedSimpArgs false

def dash : ByteArray := ⟨#[45]⟩
/-- The name of a machine. -/
def nameB (nm : ByteArray) (n : Nat) : ByteArray := (nm ++ dash) ++ dgB n
def zeroM : Mac := ⟨emp, emp, 0, 0, 0, 0, 0, none, 0, [], none, 0, [], false⟩
/-- The machine of that number. -/
def grpM (g : Gp) (n : Int) : Mac := if 1 ≤ n ∧ n ≤ 999999999 then { g.like with nm := nameB g.nm n.toNat } else zeroM
theorem grpM_in {g : Gp} {n : Int} (h : 1 ≤ n ∧ n ≤ 999999999) : grpM g n = { g.like with nm := nameB g.nm n.toNat } := if_pos h
theorem grpM_out {g : Gp} {n : Int} (h : ¬ (1 ≤ n ∧ n ≤ 999999999)) : grpM g n = zeroM := if_neg h
theorem dash_cat (nm : ByteArray) (h : nm.size ≤ 300) (w : World) : (Op.stringOp .add nm ⟨#[45]⟩).run Tryz.prog w = .ok (.string (nm ++ dash)) w := cat_run nm dash (by have : dash.size = 1 := rfl; omega) w
theorem dg_small (n : Nat) (h : n ≤ 999999999) : (dgB n).size ≤ 21 := by
  rw [dg_size]
  have := itoaB_size (n : Int) (by omega) (by omega)
  rw [itoa_dg (by omega : (0 : Int) ≤ n), dg_size] at this
  simpa using this
theorem num_cat (nm : ByteArray) (n : Nat) (h : nm.size ≤ 300) (hn : n ≤ 999999999) (w : World) : (Op.stringOp .add (nm ++ dash) (dgB n)).run Tryz.prog w = .ok (.string (nameB nm n)) w := cat_run _ _ (by have : dash.size = 1 := rfl; have := dg_small n hn; rw [ByteArray.size_append]; omega) w

set_option maxRecDepth 100000 in
set_option maxHeartbeats 4000000 in
theorem machine_in (g : Gp) (n : Int) (h1 : 1 ≤ n) (h2 : n ≤ 999999999) (w : World) (hT : Tab10 w) (hA : MacIn w g.like) (hs : g.nm.size ≤ 300) (hl : g.like.labs.length ≤ 1000000) (ht : g.like.tnts.length ≤ 1000000) :
    Calls Tryz.prog 48 #[.agg #[.string (g).nm, .int .i64 (g).mn, .int .i64 (g).mx, .string (g).like.nm, .string (g).like.gp, .int .i64 (g).like.r0, .int .i64 (g).like.r1, .int .i64 (g).like.r2, .int .i64 (g).like.r3, .int .i64 (g).like.r4, .slice (g).like.la (g).like.labs.length (g).like.lk, .slice (g).like.ta (g).like.tnts.length (g).like.tk, .bool (g).like.rd, .int .i64 (g).pr, .int .i64 (g).rk], .int .i64 n] w (Gives w (OwnM (grpM g n) w.heap.size)) := by
  rw [grpM_in ⟨h1, h2⟩]
  have C := fun V (hV : Below w.heap.size w V) => clonem_any g.like V (hA.mono hV) hl ht
  have I := fun V (hV : Below w.heap.size w V) => itoa_any n (by omega) (by omega) V (hT.mono hV)
  have e : (⟨(Lib.itoa n).toArray⟩ : ByteArray) = dgB n.toNat := itoa_dg (by omega)
  rw [e] at I
  have hk1 := dash_cat g.nm hs
  have hk2 := num_cat g.nm n.toNat hs (by omega)
  have HC := Lib.hid C
  have HI := Lib.hid I
  clear C I e hT hA
  obtain ⟨nm, mn, mx, m, pr, rk⟩ := g
  simp only at HC hk1 hk2 hs hl ht ⊢
  obtain ⟨D, hD⟩ : ∃ D, dgB n.toNat = D := ⟨_, rfl⟩
  obtain ⟨Q, hQ⟩ : ∃ Q, nm ++ dash = Q := ⟨_, rfl⟩
  obtain ⟨R, hR⟩ : ∃ R, nameB nm n.toNat = R := ⟨_, rfl⟩
  rw [hD] at HI hk2
  rw [hQ] at hk1 hk2
  rw [hR] at hk2 ⊢
  clear hD hQ hR hs hl ht
  go_enter Tryz.func48, Tryz.ntmps48
  go_wp2_with (go_at_call 47; (with_reducible refine (HC.out _ (by (repeat' (first | with_reducible exact Below.refl _ _ | with_reducible assumption | with_reducible refine Below.drew ?_ | with_reducible refine below_drewN' ?_ _ | with_reducible refine Below.alloc ?_ ?_ _ | with_reducible refine Below.setCell ?_ ?_ _ | with_reducible refine below_step (by assumption) ?_ ?_ | omega | (simp; done) | (simp; omega))))).mono ?_); rintro e w1 ⟨⟨v, rfl, hv⟩, hb1⟩; obtain ⟨vl, vt, rfl, o1, o2⟩ := hv; obtain ⟨sl, kl, rfl, _⟩ := own_rows kcs_len o1 (by decide); obtain ⟨st, kt, rfl, _⟩ := own_rows tcs_len o2 (by decide); have HO1 := Lib.hid o1; have HO2 := Lib.hid o2; clear o1 o2; obtain ⟨hc1, hf1⟩ := bcell hb1; have hz1 := hb1.size; (try simp at hz1); have z1_0 : w.heap.size < w1.heap.size := (by omega); have y1_0 : w.heap.size ≤ w1.heap.size := (by omega); have z1_1 : w.heap.size + 1 < w1.heap.size := (by omega); have y1_1 : w.heap.size + 1 ≤ w1.heap.size := (by omega))
  obtain ⟨W, hW⟩ : ∃ W, W = (w1.alloc (.cells #[.string m.nm, .string m.gp, .int .i64 m.r0, .int .i64 m.r1, .int .i64 m.r2, .int .i64 m.r3, .int .i64 m.r4, .slice sl m.labs.length kl, .slice st m.tnts.length kt, .bool m.rd] 48)) := ⟨_, rfl⟩
  rw [← hW]
  have HBW := Lib.hid (show Below w.heap.size w W by rw [hW]; (repeat' (first | with_reducible exact Below.refl _ _ | with_reducible assumption | with_reducible refine Below.drew ?_ | with_reducible refine below_drewN' ?_ _ | with_reducible refine Below.alloc ?_ ?_ _ | with_reducible refine Below.setCell ?_ ?_ _ | with_reducible refine below_step (by assumption) ?_ ?_ | omega | (simp; done) | (simp; omega))))
  have hWz : w1.heap.size < W.heap.size := by rw [hW]; simp
  have hWz0 : w.heap.size < W.heap.size := by omega
  have hWz1 : w.heap.size + 1 < W.heap.size := by omega
  have s0 : W.cell? ⟨w.heap.size, 0, none⟩ = some (.string nm) := by rw [hW]; simp [go_sem, *]
  have y0 : W.cell? ⟨w1.heap.size, 0, none⟩ = some (.string m.nm) := by rw [hW]; simp [go_sem]
  have y1 : W.cell? ⟨w1.heap.size, 1, none⟩ = some (.string m.gp) := by rw [hW]; simp [go_sem]
  have y2 : W.cell? ⟨w1.heap.size, 2, none⟩ = some (.int .i64 m.r0) := by rw [hW]; simp [go_sem]
  have y3 : W.cell? ⟨w1.heap.size, 3, none⟩ = some (.int .i64 m.r1) := by rw [hW]; simp [go_sem]
  have y4 : W.cell? ⟨w1.heap.size, 4, none⟩ = some (.int .i64 m.r2) := by rw [hW]; simp [go_sem]
  have y5 : W.cell? ⟨w1.heap.size, 5, none⟩ = some (.int .i64 m.r3) := by rw [hW]; simp [go_sem]
  have y6 : W.cell? ⟨w1.heap.size, 6, none⟩ = some (.int .i64 m.r4) := by rw [hW]; simp [go_sem]
  have y7 : W.cell? ⟨w1.heap.size, 7, none⟩ = some (.slice sl m.labs.length kl) := by rw [hW]; simp [go_sem]
  have y8 : W.cell? ⟨w1.heap.size, 8, none⟩ = some (.slice st m.tnts.length kt) := by rw [hW]; simp [go_sem]
  have y9 : W.cell? ⟨w1.heap.size, 9, none⟩ = some (.bool m.rd) := by rw [hW]; simp [go_sem]
  have yf : ∀ j, W.frozen? ⟨w1.heap.size, j, none⟩ = false := by intro j; rw [hW]; simp [go_sem]
  have z0 : W.cell? ⟨w.heap.size + 1, 0, none⟩ = some (.string ⟨#[]⟩) := by rw [hW]; simp [go_sem, *]
  have z1 : W.cell? ⟨w.heap.size + 1, 1, none⟩ = some (.string ⟨#[]⟩) := by rw [hW]; simp [go_sem, *]
  have z2 : W.cell? ⟨w.heap.size + 1, 2, none⟩ = some (.int .i64 0) := by rw [hW]; simp [go_sem, *]
  have z3 : W.cell? ⟨w.heap.size + 1, 3, none⟩ = some (.int .i64 0) := by rw [hW]; simp [go_sem, *]
  have z4 : W.cell? ⟨w.heap.size + 1, 4, none⟩ = some (.int .i64 0) := by rw [hW]; simp [go_sem, *]
  have z5 : W.cell? ⟨w.heap.size + 1, 5, none⟩ = some (.int .i64 0) := by rw [hW]; simp [go_sem, *]
  have z6 : W.cell? ⟨w.heap.size + 1, 6, none⟩ = some (.int .i64 0) := by rw [hW]; simp [go_sem, *]
  have z7 : W.cell? ⟨w.heap.size + 1, 7, none⟩ = some (.slice none 0 0) := by rw [hW]; simp [go_sem, *]
  have z8 : W.cell? ⟨w.heap.size + 1, 8, none⟩ = some (.slice none 0 0) := by rw [hW]; simp [go_sem, *]
  have z9 : W.cell? ⟨w.heap.size + 1, 9, none⟩ = some (.bool false) := by rw [hW]; simp [go_sem, *]
  have zf : ∀ j, W.frozen? ⟨w.heap.size + 1, j, none⟩ = false := by intro j; rw [hW]; simp [go_sem, *]
  have HK := Lib.hid (show Keep (w.heap.size + 2) w1.heap.size w1 W by rw [hW]; (repeat' (first | with_reducible exact Keep.refl _ _ _ | with_reducible assumption | with_reducible refine Keep.drew ?_ | with_reducible refine Keep.drewN ?_ _ | with_reducible refine Keep.alloc ?_ ?_ _ | with_reducible refine Keep.setCell ?_ ?_ _ | with_reducible refine Keep.step (by assumption) ?_ ?_ | omega | (simp; done) | (simp; omega))))
  clear hW hc1 hf1 hb1
  have hcH := held_cell
  refine region_rel_tail 7 (by kernel_rfl) (by kernel_rfl) (by kernel_rfl) ?_
  dsimp only [List.take, List.drop]
  repeat
    ((with_reducible refine relStep (fun K hK => ?_))
     (have HK := Lib.hid hK)
     clear hK
     (apply relInl
      · intro r n hf
        have Hf := Lib.hid hf
        clear hf
        (first
          | (fail)
          | (unfold relAt
             go_simp
             (first | (refine relUpon_val ?_ (Below.refl _ _); exact rfl) | exact rfl | (refine relUpon_enter ?_; (go_at_call 62; (with_reducible refine (HI.out _ (HBW.out.trans ((n.below).mono (Nat.le_of_lt hWz0)))).mono ?_); rintro e w1 ⟨rfl, hb⟩; exact ⟨⟨_, rfl, rfl⟩, hb⟩)))))
      (simp only [Act.put, List.setIfInBounds_toArray, List.set_cons_zero, List.set_cons_succ])
      (with_reducible refine HK.out _ _ ?_)
      clear HK K))
  refine relNil ?_
  intro r5 n5 hx5
  clear hcH
  (try simp only [List.nil_append, List.cons_append, List.mem_cons, List.not_mem_nil, or_false, forall_eq_or_imp, forall_eq, false_implies, implies_true] at hx5)
  obtain ⟨w5, hb5⟩ := n5
  (try dsimp only)
  obtain ⟨hc5, hf5⟩ := bcell hb5
  have hz5 := hb5.size
  (try simp at hz5)
  have z5_0 : w.heap.size < w5.heap.size := (by omega); have y5_0 : w.heap.size ≤ w5.heap.size := (by omega); have z5_1 : w.heap.size + 1 < w5.heap.size := (by omega); have y5_1 : w.heap.size + 1 ≤ w5.heap.size := (by omega); have z5_2 : w1.heap.size < w5.heap.size := (by omega); have y5_2 : w1.heap.size ≤ w5.heap.size := (by omega)
  go_wp2
  refine bodyPost_ret (v := .agg #[.string R, .string m.gp, .int .i64 m.r0, .int .i64 m.r1, .int .i64 m.r2, .int .i64 m.r3, .int .i64 m.r4, .slice sl m.labs.length kl, .slice st m.tnts.length kt, .bool m.rd]) (by simp [results, Tryz.results48, go_sem, *]) rfl ?_
  have o1 := HO1.out
  have o2 := HO2.out
  have hkw := HK.out
  have hbw := HBW.out
  simp only [World.size_alloc, World.size_setCell] at o1 o2
  refine ⟨⟨_, rfl, _, _, rfl, OwnL.mono (own_keep (B := w.heap.size + 2) o1 ?_ (by omega)) (by omega), OwnL.mono (own_keep (B := w.heap.size + 2) o2 ?_ (by omega)) (by omega)⟩, by (repeat' (first | with_reducible exact Below.refl _ _ | with_reducible assumption | with_reducible refine Below.drew ?_ | with_reducible refine below_drewN' ?_ _ | with_reducible refine Below.alloc ?_ ?_ _ | with_reducible refine Below.setCell ?_ ?_ _ | with_reducible refine below_step (by assumption) ?_ ?_ | omega | (simp; done) | (simp; omega)))⟩
  · (repeat' (first | with_reducible exact Keep.refl _ _ _ | with_reducible assumption | with_reducible refine Keep.drew ?_ | with_reducible refine Keep.drewN ?_ _ | with_reducible refine Keep.alloc ?_ ?_ _ | with_reducible refine Keep.setCell ?_ ?_ _ | with_reducible refine Keep.step (by assumption) ?_ ?_ | omega | (simp; done) | (simp; omega)))
  · (repeat' (first | with_reducible exact Keep.refl _ _ _ | with_reducible assumption | with_reducible refine Keep.drew ?_ | with_reducible refine Keep.drewN ?_ _ | with_reducible refine Keep.alloc ?_ ?_ _ | with_reducible refine Keep.setCell ?_ ?_ _ | with_reducible refine Keep.step (by assumption) ?_ ?_ | omega | (simp; done) | (simp; omega)))

set_option maxRecDepth 100000 in
set_option maxHeartbeats 4000000 in
theorem machine_out (g : Gp) (n : Int) (h : ¬ (1 ≤ n ∧ n ≤ 999999999)) (w : World) :
    Calls Tryz.prog 48 #[.agg #[.string (g).nm, .int .i64 (g).mn, .int .i64 (g).mx, .string (g).like.nm, .string (g).like.gp, .int .i64 (g).like.r0, .int .i64 (g).like.r1, .int .i64 (g).like.r2, .int .i64 (g).like.r3, .int .i64 (g).like.r4, .slice (g).like.la (g).like.labs.length (g).like.lk, .slice (g).like.ta (g).like.tnts.length (g).like.tk, .bool (g).like.rd, .int .i64 (g).pr, .int .i64 (g).rk], .int .i64 n] w (Gives w (OwnM (grpM g n) w.heap.size)) := by
  rw [grpM_out h]
  have hZ := Lib.hid (show ∀ W : World, OwnM zeroM w.heap.size (.agg #[.string ⟨#[]⟩, .string ⟨#[]⟩, .int .i64 0, .int .i64 0, .int .i64 0, .int .i64 0, .int .i64 0, .slice none 0 0, .slice none 0 0, .bool false]) W from fun W => ⟨_, _, rfl, World.ownsRow_nil _ _ _ _, World.ownsRow_nil _ _ _ _⟩)
  by_cases h1 : n < 1
  · have k1 : decide (n < 1) = true := decide_eq_true h1
    clear h
    go_enter Tryz.func48, Tryz.ntmps48
    go_wp2
    refine bodyPost_ret (v := (.agg #[.string ⟨#[]⟩, .string ⟨#[]⟩, .int .i64 0, .int .i64 0, .int .i64 0, .int .i64 0, .int .i64 0, .slice none 0 0, .slice none 0 0, .bool false])) (by simp [results, Tryz.results48, go_sem, *]) rfl ⟨⟨_, rfl, hZ.out _⟩, by (repeat' (first | with_reducible exact Below.refl _ _ | with_reducible assumption | with_reducible refine Below.drew ?_ | with_reducible refine below_drewN' ?_ _ | with_reducible refine Below.alloc ?_ ?_ _ | with_reducible refine Below.setCell ?_ ?_ _ | with_reducible refine below_step (by assumption) ?_ ?_ | omega | (simp; done) | (simp; omega)))⟩
  · have k1 : decide (n < 1) = false := decide_eq_false h1
    have k2 : decide (999999999 < n) = true := decide_eq_true (by omega)
    clear h
    go_enter Tryz.func48, Tryz.ntmps48
    go_wp2
    refine bodyPost_ret (v := (.agg #[.string ⟨#[]⟩, .string ⟨#[]⟩, .int .i64 0, .int .i64 0, .int .i64 0, .int .i64 0, .int .i64 0, .slice none 0 0, .slice none 0 0, .bool false])) (by simp [results, Tryz.results48, go_sem, *]) rfl ⟨⟨_, rfl, hZ.out _⟩, by (repeat' (first | with_reducible exact Below.refl _ _ | with_reducible assumption | with_reducible refine Below.drew ?_ | with_reducible refine below_drewN' ?_ _ | with_reducible refine Below.alloc ?_ ?_ _ | with_reducible refine Below.setCell ?_ ?_ _ | with_reducible refine below_step (by assumption) ?_ ?_ | omega | (simp; done) | (simp; omega)))⟩

theorem machine_any (g : Gp) (n : Int) (w : World) (hT : Tab10 w) (hA : MacIn w g.like) (hs : g.nm.size ≤ 300) (hl : g.like.labs.length ≤ 1000000) (ht : g.like.tnts.length ≤ 1000000) :
    Calls Tryz.prog 48 #[.agg #[.string (g).nm, .int .i64 (g).mn, .int .i64 (g).mx, .string (g).like.nm, .string (g).like.gp, .int .i64 (g).like.r0, .int .i64 (g).like.r1, .int .i64 (g).like.r2, .int .i64 (g).like.r3, .int .i64 (g).like.r4, .slice (g).like.la (g).like.labs.length (g).like.lk, .slice (g).like.ta (g).like.tnts.length (g).like.tk, .bool (g).like.rd, .int .i64 (g).pr, .int .i64 (g).rk], .int .i64 n] w (Gives w (OwnM (grpM g n) w.heap.size)) := by
  by_cases h : 1 ≤ n ∧ n ≤ 999999999
  · exact machine_in g n h.1 h.2 w hT hA hs hl ht
  · exact machine_out g n h w

set_option maxRecDepth 100000 in
set_option maxHeartbeats 4000000 in
theorem refmachine_in (g : Gp) (n : Int) (h1 : 1 ≤ n) (h2 : n ≤ 999999999) (w : World) (hs : g.nm.size ≤ 300) :
    Calls Tryz.prog 51 #[.agg #[.string (g).nm, .int .i64 (g).mn, .int .i64 (g).mx, .string (g).like.nm, .string (g).like.gp, .int .i64 (g).like.r0, .int .i64 (g).like.r1, .int .i64 (g).like.r2, .int .i64 (g).like.r3, .int .i64 (g).like.r4, .slice (g).like.la (g).like.labs.length (g).like.lk, .slice (g).like.ta (g).like.tnts.length (g).like.tk, .bool (g).like.rd, .int .i64 (g).pr, .int .i64 (g).rk], .int .i64 n] w fun e w' => e = .returned (.agg #[.string ((grpM g n)).nm, .string ((grpM g n)).gp, .int .i64 ((grpM g n)).r0, .int .i64 ((grpM g n)).r1, .int .i64 ((grpM g n)).r2, .int .i64 ((grpM g n)).r3, .int .i64 ((grpM g n)).r4, .slice ((grpM g n)).la ((grpM g n)).labs.length ((grpM g n)).lk, .slice ((grpM g n)).ta ((grpM g n)).tnts.length ((grpM g n)).tk, .bool ((grpM g n)).rd]) ∧ Below w.heap.size w w' := by
  rw [grpM_in ⟨h1, h2⟩]
  have I := fun V => digits_any n.toNat n (by omega) (by omega) (Nat.le_refl _) V
  have hk1 := dash_cat g.nm hs
  have hk2 := num_cat g.nm n.toNat hs (by omega)
  have HI := Lib.hid I
  clear I
  obtain ⟨nm, mn, mx, m, pr, rk⟩ := g
  simp only at HI hk1 hk2 hs ⊢
  obtain ⟨D, hD⟩ : ∃ D, dgB n.toNat = D := ⟨_, rfl⟩
  obtain ⟨Q, hQ⟩ : ∃ Q, nm ++ dash = Q := ⟨_, rfl⟩
  obtain ⟨R, hR⟩ : ∃ R, nameB nm n.toNat = R := ⟨_, rfl⟩
  rw [hD] at HI hk2
  rw [hQ] at hk1 hk2
  rw [hR] at hk2 ⊢
  clear hD hQ hR hs
  go_enter Tryz.func51, Tryz.ntmps51
  go_wp2
  have hcH := held_cell
  refine region_rel_tail 7 (by kernel_rfl) (by kernel_rfl) (by kernel_rfl) ?_
  dsimp only [List.take, List.drop]
  repeat
    ((with_reducible refine relStep (fun K hK => ?_))
     (have HK := Lib.hid hK)
     clear hK
     (apply relInl
      · intro r n hf
        have Hf := Lib.hid hf
        clear hf
        (first
          | (fail)
          | (unfold relAt
             go_simp
             (first | (refine relUpon_val ?_ (Below.refl _ _); exact rfl) | exact rfl | (refine relUpon_enter ?_; (go_at_call 66; (with_reducible refine (HI.out _).mono ?_); rintro e w1 ⟨rfl, hb⟩; exact ⟨⟨_, rfl, rfl⟩, hb⟩)))))
      (simp only [Act.put, List.setIfInBounds_toArray, List.set_cons_zero, List.set_cons_succ])
      (with_reducible refine HK.out _ _ ?_)
      clear HK K))
  refine relNil ?_
  intro r5 n5 hx5
  clear hcH
  (try simp only [List.nil_append, List.cons_append, List.mem_cons, List.not_mem_nil, or_false, forall_eq_or_imp, forall_eq, false_implies, implies_true] at hx5)
  obtain ⟨w5, hb5⟩ := n5
  (try dsimp only)
  obtain ⟨hc5, hf5⟩ := bcell hb5
  have hz5 := hb5.size
  (try simp at hz5)
  have z5_0 : w.heap.size < w5.heap.size := (by omega); have y5_0 : w.heap.size ≤ w5.heap.size := (by omega); have z5_1 : w.heap.size + 1 < w5.heap.size := (by omega); have y5_1 : w.heap.size + 1 ≤ w5.heap.size := (by omega); have z5_2 : w.heap.size + 2 < w5.heap.size := (by omega); have y5_2 : w.heap.size + 2 ≤ w5.heap.size := (by omega)
  go_wp2
  have z0 : w5.cell? ⟨w.heap.size + 1, 0, none⟩ = some (.string ⟨#[]⟩) := by simp [go_sem, *]
  have z1 : w5.cell? ⟨w.heap.size + 1, 1, none⟩ = some (.string ⟨#[]⟩) := by simp [go_sem, *]
  have z2 : w5.cell? ⟨w.heap.size + 1, 2, none⟩ = some (.int .i64 0) := by simp [go_sem, *]
  have z3 : w5.cell? ⟨w.heap.size + 1, 3, none⟩ = some (.int .i64 0) := by simp [go_sem, *]
  have z4 : w5.cell? ⟨w.heap.size + 1, 4, none⟩ = some (.int .i64 0) := by simp [go_sem, *]
  have z5 : w5.cell? ⟨w.heap.size + 1, 5, none⟩ = some (.int .i64 0) := by simp [go_sem, *]
  have z6 : w5.cell? ⟨w.heap.size + 1, 6, none⟩ = some (.int .i64 0) := by simp [go_sem, *]
  have z7 : w5.cell? ⟨w.heap.size + 1, 7, none⟩ = some (.slice none 0 0) := by simp [go_sem, *]
  have z8 : w5.cell? ⟨w.heap.size + 1, 8, none⟩ = some (.slice none 0 0) := by simp [go_sem, *]
  have z9 : w5.cell? ⟨w.heap.size + 1, 9, none⟩ = some (.bool false) := by simp [go_sem, *]
  refine bodyPost_ret (v := .agg #[.string R, .string m.gp, .int .i64 m.r0, .int .i64 m.r1, .int .i64 m.r2, .int .i64 m.r3, .int .i64 m.r4, .slice m.la m.labs.length m.lk, .slice m.ta m.tnts.length m.tk, .bool m.rd]) (by simp [results, Tryz.results51, go_sem, *]) rfl ⟨rfl, by (repeat' (first | with_reducible exact Below.refl _ _ | with_reducible assumption | with_reducible refine Below.drew ?_ | with_reducible refine below_drewN' ?_ _ | with_reducible refine Below.alloc ?_ ?_ _ | with_reducible refine Below.setCell ?_ ?_ _ | with_reducible refine below_step (by assumption) ?_ ?_ | omega | (simp; done) | (simp; omega)))⟩

set_option maxRecDepth 100000 in
set_option maxHeartbeats 4000000 in
theorem refmachine_out (g : Gp) (n : Int) (h : ¬ (1 ≤ n ∧ n ≤ 999999999)) (w : World) :
    Calls Tryz.prog 51 #[.agg #[.string (g).nm, .int .i64 (g).mn, .int .i64 (g).mx, .string (g).like.nm, .string (g).like.gp, .int .i64 (g).like.r0, .int .i64 (g).like.r1, .int .i64 (g).like.r2, .int .i64 (g).like.r3, .int .i64 (g).like.r4, .slice (g).like.la (g).like.labs.length (g).like.lk, .slice (g).like.ta (g).like.tnts.length (g).like.tk, .bool (g).like.rd, .int .i64 (g).pr, .int .i64 (g).rk], .int .i64 n] w fun e w' => e = .returned (.agg #[.string ((grpM g n)).nm, .string ((grpM g n)).gp, .int .i64 ((grpM g n)).r0, .int .i64 ((grpM g n)).r1, .int .i64 ((grpM g n)).r2, .int .i64 ((grpM g n)).r3, .int .i64 ((grpM g n)).r4, .slice ((grpM g n)).la ((grpM g n)).labs.length ((grpM g n)).lk, .slice ((grpM g n)).ta ((grpM g n)).tnts.length ((grpM g n)).tk, .bool ((grpM g n)).rd]) ∧ Below w.heap.size w w' := by
  rw [grpM_out h]
  by_cases h1 : n < 1
  · have k1 : decide (n < 1) = true := decide_eq_true h1
    clear h
    go_enter Tryz.func51, Tryz.ntmps51
    go_wp2
    refine bodyPost_ret (v := (.agg #[.string ⟨#[]⟩, .string ⟨#[]⟩, .int .i64 0, .int .i64 0, .int .i64 0, .int .i64 0, .int .i64 0, .slice none 0 0, .slice none 0 0, .bool false])) (by simp [results, Tryz.results51, go_sem, *]) rfl ⟨rfl, by (repeat' (first | with_reducible exact Below.refl _ _ | with_reducible assumption | with_reducible refine Below.drew ?_ | with_reducible refine below_drewN' ?_ _ | with_reducible refine Below.alloc ?_ ?_ _ | with_reducible refine Below.setCell ?_ ?_ _ | with_reducible refine below_step (by assumption) ?_ ?_ | omega | (simp; done) | (simp; omega)))⟩
  · have k1 : decide (n < 1) = false := decide_eq_false h1
    have k2 : decide (999999999 < n) = true := decide_eq_true (by omega)
    clear h
    go_enter Tryz.func51, Tryz.ntmps51
    go_wp2
    refine bodyPost_ret (v := (.agg #[.string ⟨#[]⟩, .string ⟨#[]⟩, .int .i64 0, .int .i64 0, .int .i64 0, .int .i64 0, .int .i64 0, .slice none 0 0, .slice none 0 0, .bool false])) (by simp [results, Tryz.results51, go_sem, *]) rfl ⟨rfl, by (repeat' (first | with_reducible exact Below.refl _ _ | with_reducible assumption | with_reducible refine Below.drew ?_ | with_reducible refine below_drewN' ?_ _ | with_reducible refine Below.alloc ?_ ?_ _ | with_reducible refine Below.setCell ?_ ?_ _ | with_reducible refine below_step (by assumption) ?_ ?_ | omega | (simp; done) | (simp; omega)))⟩
theorem refmachine_any (g : Gp) (n : Int) (w : World) (hs : g.nm.size ≤ 300) :
    Calls Tryz.prog 51 #[.agg #[.string (g).nm, .int .i64 (g).mn, .int .i64 (g).mx, .string (g).like.nm, .string (g).like.gp, .int .i64 (g).like.r0, .int .i64 (g).like.r1, .int .i64 (g).like.r2, .int .i64 (g).like.r3, .int .i64 (g).like.r4, .slice (g).like.la (g).like.labs.length (g).like.lk, .slice (g).like.ta (g).like.tnts.length (g).like.tk, .bool (g).like.rd, .int .i64 (g).pr, .int .i64 (g).rk], .int .i64 n] w fun e w' => e = .returned (.agg #[.string ((grpM g n)).nm, .string ((grpM g n)).gp, .int .i64 ((grpM g n)).r0, .int .i64 ((grpM g n)).r1, .int .i64 ((grpM g n)).r2, .int .i64 ((grpM g n)).r3, .int .i64 ((grpM g n)).r4, .slice ((grpM g n)).la ((grpM g n)).labs.length ((grpM g n)).lk, .slice ((grpM g n)).ta ((grpM g n)).tnts.length ((grpM g n)).tk, .bool ((grpM g n)).rd]) ∧ Below w.heap.size w w' := by
  by_cases h : 1 ≤ n ∧ n ≤ 999999999
  · exact refmachine_in g n h.1 h.2 w hs
  · exact refmachine_out g n h w
theorem grpM_at {g : Gp} {n : Int} {w : World} (h : MacAt w g.like) : MacAt w (grpM g n) := by
  unfold grpM
  split
  · exact ⟨h.labs, h.tnts, h.ll, h.tl⟩
  · exact ⟨RowsAt.nil, RowsAt.nil, Nat.zero_le _, Nat.zero_le _⟩
theorem grpM_len {g : Gp} {n : Int} {L T : Nat} (h1 : g.like.labs.length ≤ L) (h2 : g.like.tnts.length ≤ T) : (grpM g n).labs.length ≤ L ∧ (grpM g n).tnts.length ≤ T := by
  unfold grpM
  split
  · exact ⟨h1, h2⟩
  · exact ⟨Nat.zero_le _, Nat.zero_le _⟩
end Go.Proofs.YtcfdejlbchdciaaGreatDoor
