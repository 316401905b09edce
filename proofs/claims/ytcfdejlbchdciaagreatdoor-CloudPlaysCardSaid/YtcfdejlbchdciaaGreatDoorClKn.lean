/-
  What comes of fixed calls of a provider: known gives back true.
-/
import Derived.Test.YtcfdejlbchdciaaGreatDoorClX
import Derived.Test.YtcfdejlbchdciaaGreatDoorClW
import Derived.Test.YtcfdejlbchdciaaGreatDoorClKp
namespace Go.Proofs.YtcfdejlbchdciaaGreatDoor
open Go.RowKit
set_option linter.unusedVariables false
set_option linter.unusedSimpArgs false

/-- A provider of right groups stands beside what was there. -/
theorem cnew_prov (a : Option Addr) (l : List Gp) (ka : Nat) (d : Int) (w : World) (hF : GpL w a l) (hI : ∀ g ∈ l, MacIn w g.like) (hL : lightGs l = true) (hr : rightGs l = true) (hd : 1 ≤ d ∧ d ≤ 1000) (hT : Tab10 w) (hgl : GL l) :
    Calls Tryz.prog 6 #[.slice a l.length ka, .int .i64 d] w fun e w' => ∃ c, e = .returned (.tuple #[.pointer (some ⟨c, 0, none⟩), .int .i64 0]) ∧ Prov w c (CS.new (l.map gkOf) d) 1 [] w' := by
  refine (cnew_yes a l ka d w hF hI hL hr hd hT hgl).mono ?_
  rintro e w' ⟨⟨b, G, gv, pv, lv, rfl, h1, h2⟩, hb⟩
  exact ⟨b, rfl, ⟨⟨G, gv, pv, lv, h1, h2, fun _ h => by cases h⟩, hb, CS.Ok.new (rightGs_ok hr) hd⟩⟩
theorem kn_new (w : World) (b : Nat) (hT : Tab10 w) (hF : GpL w (some ⟨b, 0, none⟩) [cG]) :
    Calls Tryz.prog 6 #[.slice (some ⟨b, 0, none⟩) 1 1, .int .i64 2] w fun e w' => ∃ c, e = .returned (.tuple #[.pointer (some ⟨c, 0, none⟩), .int .i64 0]) ∧ Prov w c k0 1 [] w' := by
  have h := cnew_prov _ [cG] 1 2 w hF (cG_in w) cG_light cG_right (by decide) hT (fun g hg => by
    obtain rfl : g = cG := by simpa using hg
    exact ⟨by decide, by decide⟩)
  rw [k0_eq] at h
  exact h
section
variable {w0 w : World} {c m : Nat} {F : List Nat}
theorem kn_inc1 (h : Prov w0 c k0 m F w) (hm : m ≤ 100) (hT : Tab10 w0) : Calls Tryz.prog 13 #[.pointer (some ⟨c, 0, none⟩), .string ⟨#[103]⟩, .int .i64 2] w fun e w' => e = .returned (.int .i64 0) ∧ Prov w0 c k1 (m + 1) F w' ∧ Kept F w w' := by
  have h9 := pv_inc w0 c m k0 F w h hm hT sg 2 (by decide) (by decide)
  rw [k1_eq] at h9
  exact h9
theorem kn_inc2 (h : Prov w0 c k1 m F w) (hm : m ≤ 100) (hT : Tab10 w0) : Calls Tryz.prog 13 #[.pointer (some ⟨c, 0, none⟩), .string ⟨#[103]⟩, .int .i64 1] w fun e w' => e = .returned (.int .i64 21) ∧ Prov w0 c k1 (m + 1) F w' ∧ Kept F w w' := by
  have h9 := pv_inc w0 c m k1 F w h hm hT sg 1 (by decide) (by decide)
  rw [k1b_eq] at h9
  exact h9
theorem kn_tick1 (h : Prov w0 c k1 m F w) (hm : m ≤ 100) : Calls Tryz.prog 14 #[.pointer (some ⟨c, 0, none⟩)] w fun e w' => e = .returned (.tuple #[]) ∧ Prov w0 c k2 (m + 1) F w' ∧ Kept F w w' := by
  have h9 := pv_tick w0 c m k1 F w h hm
  rw [k2_eq] at h9
  exact h9
theorem kn_tick2 (h : Prov w0 c k2 m F w) (hm : m ≤ 100) : Calls Tryz.prog 14 #[.pointer (some ⟨c, 0, none⟩)] w fun e w' => e = .returned (.tuple #[]) ∧ Prov w0 c k3 (m + 1) F w' ∧ Kept F w w' := by
  have h9 := pv_tick w0 c m k2 F w h hm
  rw [k3_eq] at h9
  exact h9
theorem kn_tick3 (h : Prov w0 c k4 m F w) (hm : m ≤ 100) : Calls Tryz.prog 14 #[.pointer (some ⟨c, 0, none⟩)] w fun e w' => e = .returned (.tuple #[]) ∧ Prov w0 c k6 (m + 1) F w' ∧ Kept F w w' := by
  have h9 := pv_tick w0 c m k4 F w h hm
  rw [k6_eq] at h9
  exact h9
theorem kn_del1 (h : Prov w0 c k3 m F w) (hm : m ≤ 100) : Calls Tryz.prog 15 #[.pointer (some ⟨c, 0, none⟩), .string ⟨#[103, 45, 49]⟩] w fun e w' => e = .returned (.int .i64 0) ∧ Prov w0 c k4 (m + 1) F w' ∧ Kept F w w' := by
  have h9 := pv_del w0 c m k3 F w h hm sg1
  rw [k4_eq] at h9
  exact h9
theorem kn_del2 (h : Prov w0 c k4 m F w) (hm : m ≤ 100) : Calls Tryz.prog 15 #[.pointer (some ⟨c, 0, none⟩), .string ⟨#[103, 45, 49]⟩] w fun e w' => e = .returned (.int .i64 22) ∧ Prov w0 c k4 (m + 1) F w' ∧ Kept F w w' := by
  have h9 := pv_del w0 c m k4 F w h hm sg1
  rw [k5_eq] at h9
  exact h9
theorem kn_dec (h : Prov w0 c k6 m F w) (hm : m ≤ 100) : Calls Tryz.prog 19 #[.pointer (some ⟨c, 0, none⟩), .string ⟨#[103]⟩, .int .i64 1] w fun e w' => e = .returned (.int .i64 20) ∧ Prov w0 c k6 (m + 1) F w' ∧ Kept F w w' := by
  have h9 := pv_dec w0 c m k6 F w h hm sg 1 (by decide) (by decide)
  rw [k7_eq] at h9
  exact h9
theorem kn_inc3 (h : Prov w0 c k6 m F w) (hm : m ≤ 100) (hT : Tab10 w0) : Calls Tryz.prog 13 #[.pointer (some ⟨c, 0, none⟩), .string ⟨#[120]⟩, .int .i64 1] w fun e w' => e = .returned (.int .i64 16) ∧ Prov w0 c k6 (m + 1) F w' ∧ Kept F w w' := by
  have h9 := pv_inc w0 c m k6 F w h hm hT sx 1 (by decide) (by decide)
  rw [k8_eq] at h9
  exact h9
theorem kn_tgt (h : Prov w0 c k6 m F w) : Calls Tryz.prog 16 #[.pointer (some ⟨c, 0, none⟩), .string ⟨#[103]⟩] w fun e w' => e = .returned (.int .i64 2) ∧ Below w.heap.size w w' := by
  have h9 := pv_tgt w0 c m k6 F w h sg
  rw [k6_tgt] at h9
  exact h9
/-- The third of three instances lies there. -/
def Third (q : Nat) (x : Ins) (w : World) : Prop := ∀ r, r < 5 → w.cell? ⟨q, 10 + r, none⟩ = (irow x)[r]?
theorem Third.cells {q : Nat} {x : Ins} {w : World} (h : Third q x w) : w.cell? ⟨q, 10, none⟩ = some (.string x.nm) ∧ w.cell? ⟨q, 11, none⟩ = some (.string x.gp) ∧ w.cell? ⟨q, 12, none⟩ = some (.int .i64 x.st) ∧ w.cell? ⟨q, 13, none⟩ = some (.int .i64 x.lf) ∧ w.cell? ⟨q, 14, none⟩ = some (.int .i64 x.si) := ⟨h 0 (by decide), h 1 (by decide), h 2 (by decide), h 3 (by decide), h 4 (by decide)⟩
theorem kn_list {s : CS} {x y z : Ins} (hs : s.L = [x, y, z]) (h : Prov w0 c s m F w) (hm : m ≤ 100) : Calls Tryz.prog 10 #[.pointer (some ⟨c, 0, none⟩)] w fun e w' => ∃ q k, e = .returned (.slice (some ⟨q, 0, none⟩) 3 k) ∧ Prov w0 c s m (q :: F) w' ∧ Third q z w' ∧ q < w'.heap.size ∧ Below w.heap.size w w' := by
  refine (pv_insts w0 c m s F w h hm).mono ?_
  rintro e w' ⟨⟨v, rfl, hv⟩, hb⟩
  rw [hs] at hv
  obtain ⟨sp, cap, rfl, hc⟩ := own_rows irow_len hv (by decide)
  obtain ⟨q, rfl, h1, h2, h3⟩ := hc (by simp)
  exact ⟨q, cap, rfl, h.add hb (F' := [q]) (fun z hz => by obtain rfl : z = q := (by simpa using hz); exact ⟨h1, h2⟩), fun r hr => by have := h3 2 z rfl r hr; simpa using this, h2, hb⟩
theorem kn_two (h : Prov w0 c k6 m F w) (hm : m ≤ 100) : Calls Tryz.prog 10 #[.pointer (some ⟨c, 0, none⟩)] w fun e w' => ∃ a k, e = .returned (.slice a 2 k) ∧ Below w.heap.size w w' := by
  refine (pv_insts w0 c m k6 F w h hm).mono ?_
  rintro e w' ⟨⟨v, rfl, hv⟩, hb⟩
  obtain ⟨sp, cap, rfl, hc⟩ := own_rows irow_len hv (by decide)
  exact ⟨sp, cap, rfl, hb⟩
theorem Kept.third {w' : World} {q : Nat} {x : Ins} (h : Kept F w w') (hq : q ∈ F) (h3 : Third q x w) : Third q x w' := fun r hr => (World.cell?_of_block (h.2 q hq)).trans (h3 r hr)
end
set_option maxRecDepth 100000 in
set_option maxHeartbeats 8000000 in
theorem two_any (w : World) : Calls Tryz.prog 12 #[] w fun e w' => (∃ q, e = .returned (.slice (some ⟨q, 0, none⟩) 1 1) ∧ GpL w' (some ⟨q, 0, none⟩) [cG]) ∧ Below w.heap.size w w' := by
  go_enter Tryz.func12, Tryz.ntmps12
  go_wp2
  go_ret
  exact ⟨⟨_, rfl, RowsAt.new grow_len w [cG] 50⟩, by (repeat' (first | with_reducible exact Below.refl _ _ | with_reducible assumption | with_reducible refine Below.drew ?_ | with_reducible refine below_drewN' ?_ _ | with_reducible refine Below.alloc ?_ ?_ _ | with_reducible refine Below.setCell ?_ ?_ _ | with_reducible refine below_step (by assumption) ?_ ?_ | omega | (simp; done) | (simp; omega)))⟩
set_option maxRecDepth 100000 in
set_option maxHeartbeats 8000000 in
theorem known_any (w : World) (hT : Tab10 w) : Calls Tryz.prog 5 #[] w fun e w' => e = .returned (.bool true) ∧ Below w.heap.size w w' := by
  have HT := Lib.hid hT
  clear hT
  go_enter Tryz.func5, Tryz.ntmps5
  go_wp2_with (first
    | (go_at_call 12; (with_reducible refine (two_any _).mono ?_); rintro e w0 ⟨⟨q0, rfl, hq0⟩, hb0⟩; have HB0 := Lib.hid hb0; have HQ0 := Lib.hid hq0; clear hb0 hq0)
    | (go_at_call 6; (with_reducible refine (kn_new _ _ (HT.out.mono HB0.out) HQ0.out).mono ?_); rintro e w1 ⟨c, rfl, hP⟩; have HP1 := Lib.hid hP; clear hP))
  go_wp2_with (first
    | (go_at_call 13; (with_reducible refine (kn_inc1 HP1.out (by decide) (HT.out.mono HB0.out)).mono ?_); rintro e w2 ⟨rfl, hP, hK⟩; have HP2 := Lib.hid hP; clear hP hK)
    | (go_at_call 13; (with_reducible refine (kn_inc2 HP2.out (by decide) (HT.out.mono HB0.out)).mono ?_); rintro e w3 ⟨rfl, hP, hK⟩; have HP3 := Lib.hid hP; clear hP hK)
    | (go_at_call 14; (with_reducible refine (kn_tick1 HP3.out (by decide)).mono ?_); rintro e w4 ⟨rfl, hP, hK⟩; have HP4 := Lib.hid hP; clear hP hK)
    | (go_at_call 10; (with_reducible refine (kn_list (s := k2) rfl HP4.out (by decide)).mono ?_); rintro e w5 ⟨q5, kq5, rfl, hP, h3, hl, hb⟩; have HP5 := Lib.hid hP; have H35 := Lib.hid h3; clear hP h3 hl hb)
    | (go_at_call 14; (with_reducible refine (kn_tick2 HP5.out (by decide)).mono ?_); rintro e w6 ⟨rfl, hP, hK⟩; have HP6 := Lib.hid hP; have H36 := Lib.hid (hK.third (by simp) H35.out); clear hP hK)
    | (go_at_call 10; (with_reducible refine (kn_list (s := k3) rfl HP6.out (by decide)).mono ?_); rintro e w7 ⟨q7, kq7, rfl, hP, h3, hl, hb⟩; have HP7 := Lib.hid hP; have H37 := Lib.hid h3; have H57 := Lib.hid ((Kept.below HP6.out hb).third (by simp) H36.out); clear hP h3 hl hb; obtain ⟨a0, a1, a2, a3, a4⟩ := H57.out.cells; obtain ⟨b0, b1, b2, b3, b4⟩ := H37.out.cells))
  clear a0 a1 a2 a3 a4 b0 b1 b2 b3 b4
  go_wp2_with (first
    | (go_at_call 15; (with_reducible refine (kn_del1 HP7.out (by decide)).mono ?_); rintro e w8 ⟨rfl, hP, hK⟩; have HP8 := Lib.hid hP; clear hP hK)
    | (go_at_call 15; (with_reducible refine (kn_del2 HP8.out (by decide)).mono ?_); rintro e w9 ⟨rfl, hP, hK⟩; have HP9 := Lib.hid hP; clear hP hK)
    | (go_at_call 14; (with_reducible refine (kn_tick3 HP9.out (by decide)).mono ?_); rintro e w10 ⟨rfl, hP, hK⟩; have HP10 := Lib.hid hP; clear hP hK))
  (try dsimp only [List.append])
  go_wp2_with (first
    | (go_at_call 16; (with_reducible refine (kn_tgt HP10.out).mono ?_); rintro e w11 ⟨rfl, hb⟩; have HP11 := Lib.hid (HP10.out.below hb); clear hb)
    | (go_at_call 10; (with_reducible refine (kn_two HP11.out (by decide)).mono ?_); rintro e w12 ⟨a12, k12, rfl, hb⟩; have HP12 := Lib.hid (HP11.out.below hb); clear hb)
    | (go_at_call 17; (with_reducible refine (pv_now _ _ _ _ _ _ HP12.out).mono ?_); rintro e w13 ⟨rfl, rfl⟩; have HP13 := Lib.hid HP12.out)
    | (go_at_call 18; (with_reducible refine (pv_calls _ _ _ _ _ _ HP13.out).mono ?_); rintro e w14 ⟨rfl, rfl⟩; have HP14 := Lib.hid HP13.out)
    | (go_at_call 19; (with_reducible refine (kn_dec HP14.out (by decide)).mono ?_); rintro e w15 ⟨rfl, hP, hK⟩; have HP15 := Lib.hid hP; clear hP hK)
    | (go_at_call 13; (with_reducible refine (kn_inc3 HP15.out (by decide) (HT.out.mono HB0.out)).mono ?_); rintro e w16 ⟨rfl, hP, hK⟩; have HP16 := Lib.hid hP; clear hP hK))
  go_ret
  exact ⟨rfl, HB0.out.trans (HP16.out.bl.mono HB0.out.size)⟩
end Go.Proofs.YtcfdejlbchdciaaGreatDoor
