/-
  known gives back true: the walk.
-/
import Derived.Test.YtaehcnoendieaaaDoorTcX
import Derived.Test.YtaehcnoendieaaaDoorTcU
namespace Go.Proofs.YtaehcnoendieaaaDoor
open Go.RowKit
set_option linter.unusedVariables false
set_option linter.unusedSimpArgs false

theorem cap_le {w : World} {base n c K : Nat} {e : TypeId} {a : Option Addr} {xs : List Value} (h : w.ownsRow base e K (.slice a n c) n xs) : n ≤ c := by
  obtain ⟨_, ⟨e1, h0⟩ | ⟨g, cap, cur, e1, _, _, h2, _⟩⟩ := h
  · omega
  · injection e1 with _ _ e3
    omega
theorem ev_at {w : World} {b o : Nat} {l : List Ev} (h : EvL w (some ⟨b, o, none⟩) l) {i : Nat} {e : Ev} (hi : l[i]? = some e) : EvAt b (o + i * 4) e w ∧ b < w.heap.size := by
  obtain ⟨b', o', e', hb, hc⟩ := h (Nat.lt_of_le_of_lt (Nat.zero_le _) (List.getElem?_eq_some_iff.1 hi).1)
  injection e' with e'
  injection e' with e1 e2
  subst e1 e2
  exact ⟨ev_cells (hc i e hi), hb⟩
set_option maxRecDepth 100000 in
set_option maxHeartbeats 8000000 in
theorem known_any (w : World) (hT : Tab10 w) (hM : MaxAt w) :
    Calls Tryd.prog 7 #[] w fun e w' => e = .returned (.bool true) ∧ Below w.heap.size w w' := by
  have hP1 := fun (V : World) (hV : Below w.heap.size w V) => parseA_any s1 (by decide) V (hT.mono hV) (hM.mono hV)
  have hP2 := fun (V : World) (hV : Below w.heap.size w V) => parseA_any s2 (by decide) V (hT.mono hV) (hM.mono hV)
  rw [parse_s1] at hP1
  rw [parse_s2] at hP2
  have HP1 := Lib.hid hP1
  have HP2 := Lib.hid hP2
  have HT := Lib.hid hT
  have HC1 := Lib.hid (fun (V : World) (p : Option Addr) (c : Nat) (h : EvL V p K1) => (check_k1 ▸ check_any K1 p c V h (by decide) : Calls Tryd.prog 20 #[.slice p 5 c] V fun r w' => r = .returned (.int .i64 (-1)) ∧ Below V.heap.size V w'))
  have HC2 := Lib.hid (fun (V : World) (p : Option Addr) (c : Nat) (h : EvL V p [ev3, ev4, ev5]) => (check_k2 ▸ check_any [ev3, ev4, ev5] p c V h (by decide) : Calls Tryd.prog 20 #[.slice p 3 c] V fun r w' => r = .returned (.int .i64 0) ∧ Below V.heap.size V w'))
  have HCa := Lib.hid (fun (V : World) (p : Option Addr) (c : Nat) (h : EvL V p K1) => (calls_k1 ▸ calls_any K1 p c V h (by decide) : Calls Tryd.prog 18 #[.slice p 5 c] V fun r w' => r = .returned (.int .i64 ((2 : Nat) : Int)) ∧ Below V.heap.size V w'))
  have HAd := Lib.hid (fun (V : World) (p : Option Addr) (c : Nat) (h : EvL V p K1) => (added_k1 ▸ added_any nG K1 p c V h (by decide) (by decide) : Calls Tryd.prog 22 #[.slice p 5 c, .string ⟨#[103]⟩] V fun r w' => r = .returned (.int .i64 1) ∧ Below V.heap.size V w'))
  have HSh := Lib.hid (fun (V : World) (p : Option Addr) (c : Nat) (h : EvL V p [ev1]) (hV : Below w.heap.size w V) => (show_1 ▸ show_any [ev1] p c V h (by decide) (hT.mono hV) : Calls Tryd.prog 16 #[.slice p 1 c] V fun r w' => r = .returned (.string ⟨#[51, 58, 32, 117, 112, 32, 103, 32, 49, 10]⟩) ∧ Below V.heap.size V w'))
  have HR5 := Lib.hid (fun V : World => (kr ev5 (by simp [K1]) ▸ right_any ev5 V : Calls Tryd.prog 14 #[.agg #[.int .i64 6, .string ⟨#[117, 110, 104, 101, 97, 108, 116, 104, 121]⟩, .string ⟨#[]⟩, .int .i64 0]] V fun r w' => r = .returned (.bool true) ∧ Below V.heap.size V w'))
  have HR9 := Lib.hid (fun V : World => (right_k9 ▸ right_any ⟨0, ⟨#[117, 112]⟩, nG, 0⟩ V : Calls Tryd.prog 14 #[.agg #[.int .i64 0, .string ⟨#[117, 112]⟩, .string ⟨#[103]⟩, .int .i64 0]] V fun r w' => r = .returned (.bool false) ∧ Below V.heap.size V w'))
  have hg := guard_pv
  have hq := eql_pv 3 1 ⟨#[117, 112]⟩ ⟨#[103]⟩
  clear hP1 hP2 hT hM
  go_enter Tryd.func7, Tryd.ntmps7
  go_wp2_with (first
    | (go_at_call 8; (with_reducible refine (HP1.out _ (show Below w.heap.size w _ from by (repeat' (first | with_reducible exact Below.refl _ _ | with_reducible assumption | with_reducible refine Below.drew ?_ | with_reducible refine below_drewN' ?_ _ | with_reducible refine Below.alloc ?_ ?_ _ | with_reducible refine Below.setCell ?_ ?_ _ | with_reducible refine below_step (by assumption) ?_ ?_ | omega | (simp; done) | (simp; omega))))).mono ?_); rintro rr w1 ⟨⟨v, rfl, hv⟩, hb1⟩; obtain ⟨a, cp, rfl, -, hx⟩ := OwnL.isL ev_len (by decide) hv; obtain ⟨b, o, rfl, hbb, hcs⟩ := hx (by decide); have HX1 := Lib.hid (show EvL w1 (some ⟨b, o, none⟩) K1 from fun _ => ⟨b, o, rfl, hbb, hcs⟩); rw [show K1.length = 5 from rfl]; have hcap : 5 ≤ cp := cap_le hv; clear hv hx hcs hbb; have hB1 := hb1; have hz1 := hb1.size; dsimp only [errB])
    | (go_at_call 8; (with_reducible refine (HP2.out _ (show Below w.heap.size w _ from by (repeat' (first | with_reducible exact Below.refl _ _ | with_reducible assumption | with_reducible refine Below.drew ?_ | with_reducible refine below_drewN' ?_ _ | with_reducible refine Below.alloc ?_ ?_ _ | with_reducible refine Below.setCell ?_ ?_ _ | with_reducible refine below_step (by assumption) ?_ ?_ | omega | (simp; done) | (simp; omega))))).mono ?_); rintro rr w2 ⟨⟨v, rfl, -⟩, hb2⟩; have HX2 := Lib.hid (HX1.out.mono hb2); have HB2 := Lib.hid (hB1.trans (hb2.mono hz1)); have hbb2 : b < w2.heap.size := (ev_at HX2.out (i := 0) rfl).2; have y0 : w2.cell? ⟨b, o, none⟩ = some (.int .i64 3) := (ev_at HX2.out (i := 0) rfl).1.c0; have y1 : w2.cell? ⟨b, o + 1, none⟩ = some (.string ⟨#[117, 112]⟩) := (ev_at HX2.out (i := 0) rfl).1.c1; have y2 : w2.cell? ⟨b, o + 2, none⟩ = some (.string ⟨#[103]⟩) := (ev_at HX2.out (i := 0) rfl).1.c2; have y3 : w2.cell? ⟨b, o + 3, none⟩ = some (.int .i64 1) := (ev_at HX2.out (i := 0) rfl).1.c3; have y4 : w2.cell? ⟨b, o + 16, none⟩ = some (.int .i64 6) := (ev_at HX2.out (i := 4) rfl).1.c0; have y5 : w2.cell? ⟨b, o + 17, none⟩ = some (.string ⟨#[117, 110, 104, 101, 97, 108, 116, 104, 121]⟩) := (ev_at HX2.out (i := 4) rfl).1.c1; have y6 : w2.cell? ⟨b, o + 18, none⟩ = some (.string ⟨#[]⟩) := (ev_at HX2.out (i := 4) rfl).1.c2; have y7 : w2.cell? ⟨b, o + 19, none⟩ = some (.int .i64 0) := (ev_at HX2.out (i := 4) rfl).1.c3; dsimp only [errB])
    | (go_at_call 20; (with_reducible refine (HC1.out _ _ _ HX2.out).mono ?_); rintro rr w3 ⟨rfl, hb3⟩; obtain ⟨hc3, hf3⟩ := bcell hb3; have HX3 := Lib.hid (HX2.out.mono hb3); have HB3 := Lib.hid (HB2.out.trans (hb3.mono HB2.out.size)); have hbb3 : b < w3.heap.size := (ev_at HX3.out (i := 0) rfl).2; clear hb3)
    | (go_at_call 20; (with_reducible refine (HC2.out _ _ _ (HX3.out.dropped 2)).mono ?_); rintro rr w4 ⟨rfl, hb4⟩; obtain ⟨hc4, hf4⟩ := bcell hb4; have HX4 := Lib.hid (HX3.out.mono hb4); have HB4 := Lib.hid (HB3.out.trans (hb4.mono HB3.out.size)); have hbb4 : b < w4.heap.size := (ev_at HX4.out (i := 0) rfl).2; clear hb4)
    | (go_at_call 18; (with_reducible refine (HCa.out _ _ _ HX4.out).mono ?_); rintro rr w5 ⟨rfl, hb5⟩; obtain ⟨hc5, hf5⟩ := bcell hb5; have HX5 := Lib.hid (HX4.out.mono hb5); have HB5 := Lib.hid (HB4.out.trans (hb5.mono HB4.out.size)); have hbb5 : b < w5.heap.size := (ev_at HX5.out (i := 0) rfl).2; clear hb5)
    | (go_at_call 22; (with_reducible refine (HAd.out _ _ _ HX5.out).mono ?_); rintro rr w6 ⟨rfl, hb6⟩; obtain ⟨hc6, hf6⟩ := bcell hb6; have HX6 := Lib.hid (HX5.out.mono hb6); have HB6 := Lib.hid (HB5.out.trans (hb6.mono HB5.out.size)); have hbb6 : b < w6.heap.size := (ev_at HX6.out (i := 0) rfl).2; clear hb6)
    | (go_at_call 14; (with_reducible refine (HR5.out _).mono ?_); rintro rr w7 ⟨rfl, hb7⟩; obtain ⟨hc7, hf7⟩ := bcell hb7; have HX7 := Lib.hid (HX6.out.mono hb7); have HB7 := Lib.hid (HB6.out.trans (hb7.mono HB6.out.size)); have hbb7 : b < w7.heap.size := (ev_at HX7.out (i := 0) rfl).2; clear hb7)
    | (go_at_call 14; (with_reducible refine (HR9.out _).mono ?_); rintro rr w8 ⟨rfl, hb8⟩; obtain ⟨hc8, hf8⟩ := bcell hb8; have HX8 := Lib.hid (HX7.out.mono hb8); have HB8 := Lib.hid (HB7.out.trans (hb8.mono HB7.out.size)); have hbb8 : b < w8.heap.size := (ev_at HX8.out (i := 0) rfl).2; clear hb8)
    | (go_at_call 16; (with_reducible refine (HSh.out _ _ _ (HX8.out.taken 1) HB8.out).mono ?_); rintro rr w9 ⟨rfl, hb9⟩; obtain ⟨hc9, hf9⟩ := bcell hb9; have HX9 := Lib.hid (HX8.out.mono hb9); have HB9 := Lib.hid (HB8.out.trans (hb9.mono HB8.out.size)); have hbb9 : b < w9.heap.size := (ev_at HX9.out (i := 0) rfl).2; clear hb9))
  go_ret
  exact ⟨rfl, HB9.out⟩
end Go.Proofs.YtaehcnoendieaaaDoor
