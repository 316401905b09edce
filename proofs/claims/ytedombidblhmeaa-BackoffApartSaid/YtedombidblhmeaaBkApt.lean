/-
  BackoffApart: what fails of one group makes no difference for another one.
-/
import Derived.Test.YtedombidblhmeaaBkKn
import Derived.Test.YtedombidblhmeaaBkOp
import Derived.Deep.Cut
namespace Go.Proofs.Ytedombidblhmeaa
open Go.ChangeShapes Go.WideShapes Go.ChangeAt Go.RowKit
set_option linter.unusedVariables false
namespace backoffApart
abbrev gN : ByteArray := ⟨#[103]⟩
/-- The two tables, apart. -/
structure Two (w0 w : World) (b1 m1 b2 m2 n : Nat) (E1 E2 : ByteArray → Option En) (c1 c2 : Int) : Prop where
  t1 : TB w b1 m1 1 50 20 E1 c1 n
  t2 : TB w b2 m2 1 50 20 E2 c2 n
  bl : Below w0.heap.size w0 w
  h1 : w0.heap.size ≤ b1
  h2 : w0.heap.size ≤ m1
  h3 : w0.heap.size ≤ b2
  h4 : w0.heap.size ≤ m2
  ap : b2 ≠ b1 ∧ b2 ≠ m1 ∧ m2 ≠ b1 ∧ m2 ≠ m1
theorem Two.below {w0 w w' : World} {b1 m1 b2 m2 n : Nat} {E1 E2 : ByteArray → Option En} {c1 c2 : Int} (h : Two w0 w b1 m1 b2 m2 n E1 E2 c1 c2) (hb : Below w.heap.size w w') : Two w0 w' b1 m1 b2 m2 n E1 E2 c1 c2 :=
  ⟨h.t1.below hb, h.t2.below hb, h.bl.trans (hb.mono h.bl.size), h.h1, h.h2, h.h3, h.h4, h.ap⟩
theorem TB.more {w : World} {b m : Nat} {fi mo re : Int} {E : ByteArray → Option En} {cr : Int} {n k : Nat} (h : TB w b m fi mo re E cr n) (hk : n ≤ k) : TB w b m fi mo re E cr k :=
  ⟨h.row, h.mp.mono hk, h.ok, h.p1, h.p2, h.p3, h.p4, h.p5, h.c0, by have := h.c1; omega⟩
theorem two_fail1 {w0 w : World} {b1 m1 b2 m2 n : Nat} {E1 E2 : ByteArray → Option En} {c1 c2 : Int} (h : Two w0 w b1 m1 b2 m2 n E1 E2 c1 c2) (g : ByteArray) (now : Int) (hn : n ≤ 1000) (hg : g.size ≤ maxLen) :
    Calls Try.prog 9 #[.pointer (some ⟨b1, 0, none⟩), .string g, .int .i64 now] w fun e w' => e = .returned (.int .i64 (failV 1 50 20 (E1 g) now)) ∧ ∃ E' c', Two w0 w' b1 m1 b2 m2 (n + 2) E' E2 c' c2 ∧ E' g = failE 1 50 20 c1 (E1 g) now ∧ (∀ s, s ≠ g → E' s = E1 s) ∧ Only [b1, m1] w w' :=
  (fail_any b1 m1 1 50 20 E1 c1 n g now w h.t1 (by omega) hg).mono fun e w' ⟨he, ⟨E', c', hT, h1, h2⟩, hO⟩ =>
    ⟨he, E', c', ⟨hT, TB.more (h.t2.only hO (by have := h.ap; simp; omega) (by have := h.ap; simp; omega)) (by omega), hO.below h.bl h.bl.size (by have := h.h1; have := h.h2; simp; omega), h.h1, h.h2, h.h3, h.h4, h.ap⟩, h1, h2, hO⟩
theorem two_fail2 {w0 w : World} {b1 m1 b2 m2 n : Nat} {E1 E2 : ByteArray → Option En} {c1 c2 : Int} (h : Two w0 w b1 m1 b2 m2 n E1 E2 c1 c2) (g : ByteArray) (now : Int) (hn : n ≤ 1000) (hg : g.size ≤ maxLen) :
    Calls Try.prog 9 #[.pointer (some ⟨b2, 0, none⟩), .string g, .int .i64 now] w fun e w' => e = .returned (.int .i64 (failV 1 50 20 (E2 g) now)) ∧ ∃ E' c', Two w0 w' b1 m1 b2 m2 (n + 2) E1 E' c1 c' ∧ E' g = failE 1 50 20 c2 (E2 g) now ∧ (∀ s, s ≠ g → E' s = E2 s) ∧ Only [b2, m2] w w' :=
  (fail_any b2 m2 1 50 20 E2 c2 n g now w h.t2 (by omega) hg).mono fun e w' ⟨he, ⟨E', c', hT, h1, h2⟩, hO⟩ =>
    ⟨he, E', c', ⟨TB.more (h.t1.only hO (by have := h.ap; simp; omega) (by have := h.ap; simp; omega)) (by omega), hT, hO.below h.bl h.bl.size (by have := h.h3; have := h.h4; simp; omega), h.h1, h.h2, h.h3, h.h4, h.ap⟩, h1, h2, hO⟩

set_option maxRecDepth 100000 in
set_option maxHeartbeats 8000000 in
theorem walk (c : Option Addr) (kc : Nat) (xs : List Opn) (w : World) (hF : OpL w c xs) (hm : xs.length ≤ maxLen) :
    Calls Try.prog 5 #[.slice c xs.length kc] w fun e w' => e = .returned (.bool true) ∧ Below w.heap.size w w' := by
  have HF := Lib.hid hF
  obtain ⟨n, hn⟩ : ∃ n, xs.length = n := ⟨_, rfl⟩
  rw [hn] at hm ⊢
  have Hn := Lib.hid hn
  unfold maxLen at hm
  have HNew := Lib.hid (fun V => new_yes 1 50 20 (by omega) (by omega) (by omega) (by omega) (by omega) V)
  clear hF hn
  go_enter Try.func5, Try.ntmps5
  go_upto_region 2 with (go_at_call 7; (with_reducible refine (HNew.out _).mono ?_); rintro e w1 ⟨b1, m1, rfl, hT1, hb1, hm1, hB1⟩; have HT1 := Lib.hid hT1; have HB1 := Lib.hid hB1; have hz1 := hB1.size; clear hT1 hB1)
  go_wp2_with (go_at_call 7; (with_reducible refine (HNew.out _).mono ?_); rintro e w2 ⟨b2, m2, rfl, hT2, hb2, hm2, hB2⟩; have HTT := Lib.hid (show Two w w2 b1 m1 b2 m2 0 (fun _ => none) (fun _ => none) 0 0 from ⟨HT1.out.below hB2, hT2, HB1.out.trans (hB2.mono hz1), hb1, hm1, by omega, by omega, by have := HT1.out.row.lt; have := HT1.out.mp.lt; omega⟩); clear hT2 hB2)
  go_loopw [7] (fun i wr => ∃ (k : Nat) (E1 E2 : ByteArray → Option En) (c1 c2 : Int), k ≤ n ∧ k ≤ 40 ∧ i = .int .i64 k ∧ Two w wr b1 m1 b2 m2 (4 * k) E1 E2 c1 c2 ∧ SameE (E1 gN) (E2 gN)) (fun i _ => 41 - (intOf i).toNat)
  case atStart => exact ⟨0, _, _, _, _, by omega, by omega, rfl, HTT.out, rfl, rfl, by simp⟩
  case round =>
    obtain ⟨k, E1, E2, c1, c2, hk, hk4, rfl, hT, hS⟩ := hrel
    have HT := Lib.hid hT
    have HS := Lib.hid hS
    clear hT hS
    by_cases hlt : k < n
    · by_cases hl4 : k < 40
      · obtain ⟨x, hx⟩ := mem_at (l := xs) (k := k) (by rw [Hn.out]; exact hlt)
        obtain ⟨b, off, e1, hb, hc⟩ := HF.out (by rw [Hn.out]; omega)
        subst e1
        have hbz := HT.out.bl.size
        have hbw : b < wr.heap.size := by omega
        obtain ⟨d0, d1, d2⟩ := op_cells (hc k x hx)
        obtain ⟨hcB, hfB⟩ := bcell HT.out.bl
        clear hc hx
        by_cases h3 : x.gp.size ≤ 300
        · have k3 : decide ((300 : Int) < (x.gp.size : Int)) = false := decide_eq_false (by omega)
          have HTW := Lib.hid (show Two w (wr.alloc (.cells #[.int .i64 x.kd, .string x.gp, .int .i64 x.nw] 32)) b1 m1 b2 m2 (4 * k) E1 E2 c1 c2 from HT.out.below ((Below.refl _ _).alloc (Nat.le_refl _) _))
          have HXW := Lib.hid (Blk.new wr 32 [.int .i64 x.kd, .string x.gp, .int .i64 x.nw])
          have hlb1 := HT.out.t1.row.lt
          have hlm1 := HT.out.t1.mp.lt
          have hlb2 := HT.out.t2.row.lt
          have hlm2 := HT.out.t2.mp.lt
          have HF1 := Lib.hid (two_fail1 HTW.out x.gp x.nw (by omega) (by unfold maxLen; omega))
          obtain ⟨kd, gp, nw⟩ := x
          dsimp only at HXW HTW HF1 h3 k3 d0 d1 d2
          by_cases hg : gp = gN
          · subst hg
            have hsf := fun cr dr => same_fail 1 50 20 cr dr nw HS.out
            have hv := (hsf 0 0).1
            obtain ⟨v, hvv⟩ : ∃ v, failV 1 50 20 (E1 gN) nw = v := ⟨_, rfl⟩
            rw [hvv] at HF1 hv
            have Hv := Lib.hid hv
            have Hsf := Lib.hid (fun cr dr => (hsf cr dr).2)
            clear hsf hv hvv
            go_wp2_with (first
              | (go_at_call 9; (with_reducible refine HF1.out.mono ?_); rintro e w5 ⟨rfl, F1, q1, hT5, hF1, hF2, hO5⟩; have HX5 := Lib.hid (HXW.out.only hO5 (by simp; omega)); have s0 := HX5.out.cell 0; have s1 := HX5.out.cell 1; have s2 := HX5.out.cell 2; have hz5 := hO5.size; have HFa := Lib.hid hF1; have HG2 := Lib.hid (show Calls Try.prog 9 #[.pointer (some ⟨b2, 0, none⟩), .string gN, .int .i64 nw] w5 (fun e w' => e = .returned (.int .i64 v) ∧ ∃ E' c', Two w w' b1 m1 b2 m2 (4 * k + 2 + 2) F1 E' q1 c' ∧ E' gN = failE 1 50 20 c2 (E2 gN) nw ∧ (∀ s, s ≠ gN → E' s = E2 s) ∧ Only [b2, m2] w5 w') from by (have h := two_fail2 hT5 gN nw (by omega) (by decide)); rw [← Hv.out] at h; exact h); clear hT5 hF1 hF2)
              | (go_at_call 9; (with_reducible refine HG2.out.mono ?_); rintro e w6 ⟨rfl, F2, q2, hT6, hF1, hF2, hO6⟩; have HT6 := Lib.hid hT6; have HSm := Lib.hid (show SameE (F1 gN) (F2 gN) from by rw [HFa.out, hF1]; exact Hsf.out _ _); clear hT6 hF1 hF2; have HU1 := Lib.hid (until_any b1 m1 1 50 20 F1 _ _ gN w6 HT6.out.t1 (by decide)); have HU2 := Lib.hid (show Calls Try.prog 17 #[.pointer (some ⟨b2, 0, none⟩), .string gN] w6 (fun e w' => e = .returned (.int .i64 (untilE (F1 gN))) ∧ w' = w6) from by rw [HSm.out.1]; exact until_any b2 m2 1 50 20 F2 _ _ gN w6 HT6.out.t2 (by decide)); have HV1 := Lib.hid (length_any b1 m1 1 50 20 F1 _ _ gN w6 HT6.out.t1 (by decide)); have HV2 := Lib.hid (show Calls Try.prog 19 #[.pointer (some ⟨b2, 0, none⟩), .string gN] w6 (fun e w' => e = .returned (.int .i64 (lengthE (F1 gN))) ∧ w' = w6) from by rw [HSm.out.2.1]; exact length_any b2 m2 1 50 20 F2 _ _ gN w6 HT6.out.t2 (by decide)))
              | (go_at_call 17; (with_reducible refine HU1.out.mono ?_); rintro e w7 ⟨rfl, rfl⟩)
              | (go_at_call 17; (with_reducible refine HU2.out.mono ?_); rintro e w7 ⟨rfl, rfl⟩)
              | (go_at_call 19; (with_reducible refine HV1.out.mono ?_); rintro e w7 ⟨rfl, rfl⟩)
              | (go_at_call 19; (with_reducible refine HV2.out.mono ?_); rintro e w7 ⟨rfl, rfl⟩))
            go_roundw
            case rel => exact ⟨k + 1, F1, F2, _, _, by omega, by omega, by go_num, ⟨TB.more HT6.out.t1 (by omega), TB.more HT6.out.t2 (by omega), HT6.out.bl, HT6.out.h1, HT6.out.h2, HT6.out.h3, HT6.out.h4, HT6.out.ap⟩, HSm.out⟩
            case measure => simp [intOf]; omega
          · have hgt := str_ne hg
            have hgn : gN.toList = [103] := by rw [ByteArray.toList_eq]
            rw [hgn] at hgt
            clear hgn
            go_wp2_with (first
              | (go_at_call 9; (with_reducible refine HF1.out.mono ?_); rintro e w6 ⟨rfl, F1, q1, hT6, hF1, hF2, hO6⟩; have HT6 := Lib.hid hT6; have hO5 := hO6; have HX5 := Lib.hid (HXW.out.only hO6 (by simp; omega)); have s0 := HX5.out.cell 0; have s1 := HX5.out.cell 1; have s2 := HX5.out.cell 2; have hz5 := hO6.size; obtain ⟨F2, hF2e⟩ : ∃ F, F = E2 := ⟨_, rfl⟩; have HSm := Lib.hid (show SameE (F1 gN) (F2 gN) from by rw [hF2 gN (fun e => hg e.symm), hF2e]; exact HS.out); rw [← hF2e] at HT6; clear hT6 hF1 hF2 hF2e; have HU1 := Lib.hid (until_any b1 m1 1 50 20 F1 _ _ gN w6 HT6.out.t1 (by decide)); have HU2 := Lib.hid (show Calls Try.prog 17 #[.pointer (some ⟨b2, 0, none⟩), .string gN] w6 (fun e w' => e = .returned (.int .i64 (untilE (F1 gN))) ∧ w' = w6) from by rw [HSm.out.1]; exact until_any b2 m2 1 50 20 F2 _ _ gN w6 HT6.out.t2 (by decide)); have HV1 := Lib.hid (length_any b1 m1 1 50 20 F1 _ _ gN w6 HT6.out.t1 (by decide)); have HV2 := Lib.hid (show Calls Try.prog 19 #[.pointer (some ⟨b2, 0, none⟩), .string gN] w6 (fun e w' => e = .returned (.int .i64 (lengthE (F1 gN))) ∧ w' = w6) from by rw [HSm.out.2.1]; exact length_any b2 m2 1 50 20 F2 _ _ gN w6 HT6.out.t2 (by decide)))
              | (go_at_call 17; (with_reducible refine HU1.out.mono ?_); rintro e w7 ⟨rfl, rfl⟩)
              | (go_at_call 17; (with_reducible refine HU2.out.mono ?_); rintro e w7 ⟨rfl, rfl⟩)
              | (go_at_call 19; (with_reducible refine HV1.out.mono ?_); rintro e w7 ⟨rfl, rfl⟩)
              | (go_at_call 19; (with_reducible refine HV2.out.mono ?_); rintro e w7 ⟨rfl, rfl⟩))
            go_roundw
            case rel => exact ⟨k + 1, F1, F2, _, _, by omega, by omega, by go_num, ⟨TB.more HT6.out.t1 (by omega), TB.more HT6.out.t2 (by omega), HT6.out.bl, HT6.out.h1, HT6.out.h2, HT6.out.h3, HT6.out.h4, HT6.out.ap⟩, HSm.out⟩
            case measure => simp [intOf]; omega
        · have k3 : decide ((300 : Int) < (x.gp.size : Int)) = true := decide_eq_true (by omega)
          go_wp2
          go_roundw
          case rel => exact ⟨k + 1, E1, E2, c1, c2, by omega, by omega, by go_num, (have h := HT.out.below (show Below wr.heap.size wr _ by (repeat' (first | with_reducible exact Below.refl _ _ | with_reducible assumption | with_reducible refine Below.drew ?_ | with_reducible refine below_drewN' ?_ _ | with_reducible refine Below.alloc ?_ ?_ _ | with_reducible refine Below.setCell ?_ ?_ _ | with_reducible refine below_step (by assumption) ?_ ?_ | omega | (simp; done) | (simp; omega)))); ⟨TB.more h.t1 (by omega), TB.more h.t2 (by omega), h.bl, h.h1, h.h2, h.h3, h.h4, h.ap⟩), HS.out⟩
          case measure => simp [intOf]; omega
      · have HBr := Lib.hid HT.out.bl
        go_wp2_with (go_at_call 24; (with_reducible refine (known_any _).mono ?_); rintro e w4 ⟨rfl, hb4⟩; have HB4 := Lib.hid (HBr.out.trans (hb4.mono HBr.out.size)))
        go_ret
        exact ⟨rfl, HB4.out⟩
    · have HBr := Lib.hid HT.out.bl
      go_wp2_with (go_at_call 24; (with_reducible refine (known_any _).mono ?_); rintro e w4 ⟨rfl, hb4⟩; have HB4 := Lib.hid (HBr.out.trans (hb4.mono HBr.out.size)))
      go_ret
      exact ⟨rfl, HB4.out⟩

set_option maxRecDepth 100000 in
theorem lifted (os : Os) (started : os.Started) (H : Type) (enc : TypeId × Value → H) :
    ReturnsInHanded {} Try.checked os 5 .any (Rows.backoffApartSpec.pre6 enc Try.prog Try.f5 Rows.backoffApartRow.domain false) (Rows.backoffApartSpec.post enc Try.prog Try.f5 false true false false) := by
  refine returnsInHanded_of_change (C := Try.checked) Try.own started (by kernel_rfl) Try.func5
    (ChangeSpec.witness6 (enc := enc) (C := Try.checked) false ⟨#[], #[.slice none 0 0], []⟩ 8 (by kernel_rfl) (by kernel_rfl) (by kernel_rfl) (by kernel_rfl)) ?_
  intro W base args ds gs before hval hW _ _
  have hW' := hW
  obtain ⟨p, q, hA, hV, rfl, hfz, hnd⟩ := hW
  rw [Try.params5] at hA hval
  obtain ⟨v0, d0, rfl, rfl, h0⟩ := trodAll_one hA
  obtain ⟨c, xs, kc, rfl, _, hF, hm, _⟩ := open_ops (hval 0 23 v0 rfl rfl) h0
  refine (walk c kc xs W hF hm).mono fun e W' ⟨he, hb⟩ => ?_
  exact ⟨_, he, law_post Try.laidOut hW' rfl (by kernel_rfl) (by kernel_rfl) Try.underlying4 rfl rfl rfl hb⟩

theorem over : Rows.backoffApartRow.holds Try.pinned (OpenSpec.ofChange Rows.backoffApartSpec) :=
  OpenClaim.holds_of_wide 5 Try.f5 rfl rfl rfl rfl rfl rfl rfl ⟨rfl, rfl, rfl, rfl, rfl⟩ rfl rfl rfl rfl rfl (by kernel_rfl) Try.func5 (by kernel_rfl)
    (of_decide_eq_true (by kernel_rfl)) (by unfold Func.isWrapper; first | (rw [if_pos (by decide +kernel)]; kernel_rfl) | (rw [if_neg (by decide +kernel)]; exact ⟨rfl, rfl⟩))
    (fun os started H enc _ => lifted os started H enc)

/-- The statement. -/
theorem proved : Rows.BackoffApartSaid := over
end backoffApart
end Go.Proofs.Ytedombidblhmeaa
