/-
  BackoffDoubles: one failure behind the other, each when the group may be asked again, not as late as a reset: lengths double up to the most; in between nothing may be asked; behind the last one, and a reset, it begins anew.
-/
import Derived.Test.YtedombidblhmeaaBkKn
import Derived.Test.YtedombidblhmeaaFrame
namespace Go.Proofs.Ytedombidblhmeaa
open Go.ChangeShapes Go.WideShapes Go.ChangeAt Go.RowKit
set_option linter.unusedVariables false
namespace backoffDoubles
abbrev gN : ByteArray := ⟨#[103]⟩
/-- Behind k failures: when the next one comes, and how long it will be. -/
def At (a c : Int) (E : ByteArray → Option En) (k : Nat) (N W : Int) : Prop :=
  (k = 0 ∧ E gN = none ∧ N = 0 ∧ W = a) ∨ (0 < k ∧ ∃ y, E gN = some y ∧ y.u = N ∧ W = min (2 * y.l) c)
theorem fail_step (b m : Nat) (a c : Int) (E : ByteArray → Option En) (cr : Int) (n k : Nat) (N W : Int) (w : World) (h : TB w b m a c 10 E cr n) (hA : At a c E k N W) (hn : n ≤ 1000) (hN0 : 0 ≤ N) (hN1 : N ≤ 10000000) (hW0 : 0 ≤ W) (hc : c ≤ 200000) :
    Calls Try.prog 9 #[.pointer (some ⟨b, 0, none⟩), .string gN, .int .i64 N] w fun e w' => e = .returned (.int .i64 W) ∧ (∃ E' cr' y, TB w' b m a c 10 E' cr' (n + 2) ∧ E' gN = some y ∧ y.u = N + W ∧ y.l = W) ∧ Only [b, m] w w' := by
  rcases hA with ⟨_, hE, hN, hW⟩ | ⟨_, y, hE, hyu, hW⟩
  · refine (fail_none b m a c 10 E cr n gN N w h (by omega) (by decide) hN0 (by omega) hE).mono ?_
    rintro e w' ⟨rfl, hT, hO⟩
    exact ⟨by rw [hW], ⟨_, _, _, hT, updE_same _ _ _, by rw [hW]; rfl, by rw [hW]; rfl⟩, hO⟩
  · have hl : lenF a c 10 (some y) N = W := by
      exact (if_neg (by omega)).trans hW.symm
    refine (fail_some b m a c 10 E cr n gN N y w h (by omega) (by decide) hN0 (by omega) hE).mono ?_
    rintro e w' ⟨rfl, hT, hO⟩
    refine ⟨by rw [hl], ⟨_, _, _, hT, updE_same _ _ _, ?_, ?_⟩, hO⟩
    · show max y.u (N + lenF a c 10 (some y) N) = N + W
      rw [hl]
      omega
    · show lenF a c 10 (some y) N = W
      exact hl
theorem fail_last (b m : Nat) (a c : Int) (E : ByteArray → Option En) (cr : Int) (n k : Nat) (N W : Int) (w : World) (h : TB w b m a c 10 E cr n) (hA : At a c E k N W) (hk : 0 < k) (hn : n ≤ 1000) (hN0 : 0 ≤ N) (hN1 : N ≤ 10000000) :
    Calls Try.prog 9 #[.pointer (some ⟨b, 0, none⟩), .string gN, .int .i64 (N + 10)] w fun e w' => e = .returned (.int .i64 a) ∧ (∃ E' cr' y, TB w' b m a c 10 E' cr' (n + 2) ∧ E' gN = some y ∧ y.l = a) ∧ Only [b, m] w w' := by
  rcases hA with ⟨h0, _⟩ | ⟨_, y, hE, hyu, hW⟩
  · omega
  · have hl : lenF a c 10 (some y) (N + 10) = a := by
      exact if_pos (by omega)
    refine (fail_some b m a c 10 E cr n gN (N + 10) y w h (by omega) (by decide) (by omega) (by omega) hE).mono ?_
    rintro e w' ⟨rfl, hT, hO⟩
    exact ⟨by rw [hl], ⟨_, _, _, hT, updE_same _ _ _, hl⟩, hO⟩

set_option maxRecDepth 100000 in
set_option maxHeartbeats 8000000 in
theorem walk (x y z : Int) (hx0 : 0 ≤ x) (hx1 : x ≤ 65535) (hy0 : 0 ≤ y) (hy1 : y ≤ 65535) (hz0 : 0 ≤ z) (hz1 : z ≤ 255) (w : World) :
    Calls Try.prog 4 #[.int .u16 x, .int .u16 y, .int .u8 z] w fun e w' => e = .returned (.bool true) ∧ Below w.heap.size w w' := by
  have hwx : IntKind.i64.wrap x = x := wrap_in (by omega) (by omega)
  have hwy : IntKind.i64.wrap y = y := wrap_in (by omega) (by omega)
  have hwz : IntKind.i64.wrap z = z := wrap_in (by omega) (by omega)
  have HNew := Lib.hid (new_yes (1 + x) (1 + x + y) 10 (by omega) (by omega) (by omega) (by omega) (by omega) w)
  go_enter Try.func4, Try.ntmps4
  go_wp2_with (go_at_call 7; (with_reducible refine HNew.out.mono ?_); rintro e w1 ⟨b, m, rfl, hT1, hb1, hm1, hB1⟩; have HT1 := Lib.hid hT1; have HB1 := Lib.hid hB1; have hz1' := hB1.size; clear hT1 hB1)
  obtain ⟨a, ha⟩ : ∃ a, 1 + x = a := ⟨_, rfl⟩
  obtain ⟨c, hc⟩ : ∃ c, 1 + x + y = c := ⟨_, rfl⟩
  obtain ⟨q, hq⟩ : ∃ q, z.tmod 12 = q := ⟨_, rfl⟩
  have hq0 : 0 ≤ q ∧ q ≤ 11 := by
    rw [← hq, Int.tmod_eq_emod_of_nonneg hz0]
    omega
  rw [hc, ha] at HT1
  (try rw [hc]); (try rw [ha])
  have hab : 1 ≤ a ∧ a ≤ 65536 ∧ a ≤ c ∧ c ≤ 131071 := by omega
  obtain ⟨ha1, ha2, hac, hc2⟩ := hab
  obtain ⟨hq1, hq2⟩ := hq0
  clear ha hc hwx hwy HNew hx0 hx1 hy0 hy1
  go_loopw [11, 12, 13] (fun u v i wr => ∃ (k nn : Nat) (N Wt : Int) (E : ByteArray → Option En) (cr : Int), (k : Int) ≤ 1 + q ∧ i = .int .i64 k ∧ u = .int .i64 N ∧ v = .int .i64 Wt ∧ TB wr b m a c 10 E cr nn ∧ At a c E k N Wt ∧ nn ≤ 2 * k ∧ 0 ≤ N ∧ N ≤ 131072 * k ∧ a ≤ Wt ∧ Wt ≤ c ∧ Below w.heap.size w wr ∧ w.heap.size ≤ wr.heap.size) (fun _ _ i _ => 13 - (intOf i).toNat)
  case atStart => exact ⟨0, 0, 0, a, _, _, by omega, rfl, rfl, rfl, HT1.out, .inl ⟨rfl, rfl, rfl, rfl⟩, by omega, by omega, by omega, by omega, by omega, HB1.out, hz1'⟩
  case round =>
    obtain ⟨k, nn, N, Wt, E, cr, hk, rfl, rfl, rfl, hT, hA, hnn, hN0, hN1, hW0, hW1, hB, hBz⟩ := hrel
    have HT := Lib.hid hT
    have HA := Lib.hid hA
    have HB := Lib.hid hB
    clear hT hA hB
    by_cases hlt : (k : Int) < 1 + q
    · have HF := Lib.hid (fail_step b m a c E cr nn k N Wt wr HT.out HA.out (by omega) hN0 (by omega) (by omega) (by omega))
      by_cases hmm : c < 2 * Wt
      · have hmw : min (2 * Wt) c = c := by omega
        go_wp2_with (first
          | (go_at_call 9; (with_reducible refine HF.out.mono ?_); rintro e w2 ⟨rfl, ⟨E2, cr2, y2, hT2, hE2, hu2, hl2⟩, hO2⟩; have HT2 := Lib.hid hT2; have HE2 := Lib.hid (show E2 gN = some y2 ∧ y2.u = N + Wt ∧ y2.l = Wt from ⟨hE2, hu2, hl2⟩); have HU2 := Lib.hid (show Calls Try.prog 17 #[.pointer (some ⟨b, 0, none⟩), .string gN] w2 (fun e w' => e = .returned (.int .i64 (N + Wt)) ∧ w' = w2) from by (have h := until_any b m a c 10 E2 cr2 (nn + 2) gN w2 hT2 (by decide)); rw [hE2] at h; (have e1 : untilE (some y2) = N + Wt := hu2); rw [e1] at h; exact h); have HM1 := Lib.hid (show Calls Try.prog 15 #[.pointer (some ⟨b, 0, none⟩), .string gN, .int .i64 (N + Wt - 1)] w2 (fun e w' => e = .returned (.bool false) ∧ w' = w2) from by (have h := may_any b m a c 10 E2 cr2 (nn + 2) gN (N + Wt - 1) w2 hT2 (by decide)); rw [hE2] at h; (have e1 : mayE (some y2) (N + Wt - 1) = false := (by unfold mayE untilE; rw [show decide (y2.u ≤ N + Wt - 1) = false from decide_eq_false (by omega), Bool.and_false])); rw [e1] at h; exact h); have HM2 := Lib.hid (show Calls Try.prog 15 #[.pointer (some ⟨b, 0, none⟩), .string gN, .int .i64 (N + Wt)] w2 (fun e w' => e = .returned (.bool true) ∧ w' = w2) from by (have h := may_any b m a c 10 E2 cr2 (nn + 2) gN (N + Wt) w2 hT2 (by decide)); rw [hE2] at h; (have e1 : mayE (some y2) (N + Wt) = true := (by unfold mayE untilE timeB; rw [show decide (y2.u ≤ N + Wt) = true from decide_eq_true (by omega), show decide (0 ≤ N + Wt ∧ N + Wt ≤ 1099511627776) = true from decide_eq_true (by omega)]; rfl)); rw [e1] at h; exact h); have HB2 := Lib.hid (hO2.below HB.out hBz (by simp; omega)); have hz2 := hO2.size; clear hT2 hE2 hu2 hl2)
          | (go_at_call 17; (with_reducible refine HU2.out.mono ?_); rintro e w3 ⟨rfl, rfl⟩)
          | (go_at_call 15; (with_reducible refine HM1.out.mono ?_); rintro e w4 ⟨rfl, rfl⟩)
          | (go_at_call 15; (with_reducible refine HM2.out.mono ?_); rintro e w5 ⟨rfl, rfl⟩))
        go_roundw
        case rel => exact ⟨k + 1, nn + 2, N + Wt, c, E2, cr2, by omega, by go_num, rfl, rfl, HT2.out, .inr ⟨by omega, y2, HE2.out.1, HE2.out.2.1, by rw [HE2.out.2.2]; omega⟩, by omega, by omega, by omega, by omega, by omega, HB2.out, by omega⟩
        case measure => simp [intOf]; omega
      · have hmw : min (2 * Wt) c = 2 * Wt := by omega
        go_wp2_with (first
          | (go_at_call 9; (with_reducible refine HF.out.mono ?_); rintro e w2 ⟨rfl, ⟨E2, cr2, y2, hT2, hE2, hu2, hl2⟩, hO2⟩; have HT2 := Lib.hid hT2; have HE2 := Lib.hid (show E2 gN = some y2 ∧ y2.u = N + Wt ∧ y2.l = Wt from ⟨hE2, hu2, hl2⟩); have HU2 := Lib.hid (show Calls Try.prog 17 #[.pointer (some ⟨b, 0, none⟩), .string gN] w2 (fun e w' => e = .returned (.int .i64 (N + Wt)) ∧ w' = w2) from by (have h := until_any b m a c 10 E2 cr2 (nn + 2) gN w2 hT2 (by decide)); rw [hE2] at h; (have e1 : untilE (some y2) = N + Wt := hu2); rw [e1] at h; exact h); have HM1 := Lib.hid (show Calls Try.prog 15 #[.pointer (some ⟨b, 0, none⟩), .string gN, .int .i64 (N + Wt - 1)] w2 (fun e w' => e = .returned (.bool false) ∧ w' = w2) from by (have h := may_any b m a c 10 E2 cr2 (nn + 2) gN (N + Wt - 1) w2 hT2 (by decide)); rw [hE2] at h; (have e1 : mayE (some y2) (N + Wt - 1) = false := (by unfold mayE untilE; rw [show decide (y2.u ≤ N + Wt - 1) = false from decide_eq_false (by omega), Bool.and_false])); rw [e1] at h; exact h); have HM2 := Lib.hid (show Calls Try.prog 15 #[.pointer (some ⟨b, 0, none⟩), .string gN, .int .i64 (N + Wt)] w2 (fun e w' => e = .returned (.bool true) ∧ w' = w2) from by (have h := may_any b m a c 10 E2 cr2 (nn + 2) gN (N + Wt) w2 hT2 (by decide)); rw [hE2] at h; (have e1 : mayE (some y2) (N + Wt) = true := (by unfold mayE untilE timeB; rw [show decide (y2.u ≤ N + Wt) = true from decide_eq_true (by omega), show decide (0 ≤ N + Wt ∧ N + Wt ≤ 1099511627776) = true from decide_eq_true (by omega)]; rfl)); rw [e1] at h; exact h); have HB2 := Lib.hid (hO2.below HB.out hBz (by simp; omega)); have hz2 := hO2.size; clear hT2 hE2 hu2 hl2)
          | (go_at_call 17; (with_reducible refine HU2.out.mono ?_); rintro e w3 ⟨rfl, rfl⟩)
          | (go_at_call 15; (with_reducible refine HM1.out.mono ?_); rintro e w4 ⟨rfl, rfl⟩)
          | (go_at_call 15; (with_reducible refine HM2.out.mono ?_); rintro e w5 ⟨rfl, rfl⟩))
        go_roundw
        case rel => exact ⟨k + 1, nn + 2, N + Wt, 2 * Wt, E2, cr2, by omega, by go_num, rfl, rfl, HT2.out, .inr ⟨by omega, y2, HE2.out.1, HE2.out.2.1, by rw [HE2.out.2.2]; omega⟩, by omega, by omega, by omega, by omega, by omega, HB2.out, by omega⟩
        case measure => simp [intOf]; omega
    · have hkq : (k : Int) = 1 + q := by omega
      have HF := Lib.hid (fail_last b m a c E cr nn k N Wt wr HT.out HA.out (by omega) (by omega) hN0 (by omega))
      go_wp2_with (first
        | (go_at_call 9; (with_reducible refine HF.out.mono ?_); rintro e w2 ⟨rfl, ⟨E2, cr2, y2, hT2, hE2, hl2⟩, hO2⟩; have HT2 := Lib.hid hT2; have HU2 := Lib.hid (show Calls Try.prog 19 #[.pointer (some ⟨b, 0, none⟩), .string gN] w2 (fun e w' => e = .returned (.int .i64 a) ∧ w' = w2) from by (have h := length_any b m a c 10 E2 cr2 (nn + 2) gN w2 hT2 (by decide)); rw [hE2] at h; (have e1 : lengthE (some y2) = a := hl2); rw [e1] at h; exact h); have HB2 := Lib.hid (hO2.below HB.out hBz (by simp; omega)); clear hT2 hE2 hl2)
        | (go_at_call 19; (with_reducible refine HU2.out.mono ?_); rintro e w3 ⟨rfl, rfl⟩)
        | (go_at_call 24; (with_reducible refine (known_any _).mono ?_); rintro e w4 ⟨rfl, hb4⟩; have HB4 := Lib.hid (HB2.out.trans (hb4.mono HB2.out.size))))
      go_ret
      exact ⟨rfl, HB4.out⟩

set_option maxRecDepth 100000 in
theorem lifted (os : Os) (started : os.Started) (H : Type) (enc : TypeId × Value → H) :
    ReturnsInHanded {} Try.checked os 4 .any (Rows.backoffDoublesSpec.pre6 enc Try.prog Try.f4 Rows.backoffDoublesRow.domain false) (Rows.backoffDoublesSpec.post enc Try.prog Try.f4 false true false false) := by
  refine returnsInHanded_of_change (C := Try.checked) Try.own started (by kernel_rfl) Try.func4
    (ChangeSpec.witness6 (enc := enc) (C := Try.checked) false ⟨#[], #[.int .u16 0, .int .u16 0, .int .u8 0], []⟩ 8 (by kernel_rfl) (by kernel_rfl) (by kernel_rfl) (by kernel_rfl)) ?_
  intro W base args ds gs before hval hW _ _
  have hW' := hW
  obtain ⟨p, q, hA, hV, rfl, hfz, hnd⟩ := hW
  rw [Try.params4] at hA hval
  obtain ⟨v0, v1, v2, d0, d1, d2, p0, p1, p2, rfl, rfl, rfl, h0, h1, h2⟩ := trodAll_three hA
  obtain ⟨x, rfl, _, _, wx⟩ := open_int Try.underlying46 (hval 0 46 v0 rfl rfl) h0
  obtain ⟨y, rfl, _, _, wy⟩ := open_int Try.underlying46 (hval 1 46 v1 rfl rfl) h1
  obtain ⟨z, rfl, _, _, wz⟩ := open_int Try.underlying5 (hval 2 5 v2 rfl rfl) h2
  have hx : 0 ≤ x ∧ x ≤ 65535 := by simpa [Lit.wf, IntKind.min, IntKind.max, IntKind.signed, IntKind.bits] using wx
  have hy : 0 ≤ y ∧ y ≤ 65535 := by simpa [Lit.wf, IntKind.min, IntKind.max, IntKind.signed, IntKind.bits] using wy
  have hz : 0 ≤ z ∧ z ≤ 255 := by simpa [Lit.wf, IntKind.min, IntKind.max, IntKind.signed, IntKind.bits] using wz
  refine (walk x y z hx.1 hx.2 hy.1 hy.2 hz.1 hz.2 W).mono fun e W' ⟨he, hb⟩ => ?_
  exact ⟨_, he, law_post Try.laidOut hW' rfl (by kernel_rfl) (by kernel_rfl) Try.underlying4 rfl rfl rfl hb⟩

theorem over : Rows.backoffDoublesRow.holds Try.pinned (OpenSpec.ofChange Rows.backoffDoublesSpec) :=
  OpenClaim.holds_of_wide 4 Try.f4 rfl rfl rfl rfl rfl rfl rfl ⟨rfl, rfl, rfl, rfl, rfl⟩ rfl rfl rfl rfl rfl (by kernel_rfl) Try.func4 (by kernel_rfl)
    (of_decide_eq_true (by kernel_rfl)) (by unfold Func.isWrapper; first | (rw [if_pos (by decide +kernel)]; kernel_rfl) | (rw [if_neg (by decide +kernel)]; exact ⟨rfl, rfl⟩))
    (fun os started H enc _ => lifted os started H enc)

/-- The statement. -/
theorem proved : Rows.BackoffDoublesSaid := over
end backoffDoubles
end Go.Proofs.Ytedombidblhmeaa
