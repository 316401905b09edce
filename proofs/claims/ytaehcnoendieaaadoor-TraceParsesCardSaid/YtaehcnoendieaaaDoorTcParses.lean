/-
  TraceParses: the events of any lines are as the document says, or which line is none.
-/
import Derived.Test.YtaehcnoendieaaaDoorTcZ
import Derived.Test.YtaehcnoendieaaaDoorTcK
namespace Go.Proofs.YtaehcnoendieaaaDoor
open Go.ChangeShapes Go.WideShapes Go.ChangeAt Go.RowKit
set_option linter.unusedVariables false
set_option linter.unusedSimpArgs false
namespace traceParses

set_option maxRecDepth 100000 in
set_option maxHeartbeats 4000000 in
theorem walk (s : ByteArray) (w : World) (hs : s.size ≤ maxLen) (hT : Tab10 w) (hM : MaxAt w) :
    Calls Tryd.prog 3 #[.string s] w fun e w' => e = .returned (.bool true) ∧ Below w.heap.size w w' := by
  have HK := Lib.hid (fun (V : World) (hV : Below w.heap.size w V) => known_any V (hT.mono hV) (hM.mono hV))
  by_cases h2 : s.size ≤ 2000
  · have g0 : decide (2000 < (s.size : Int)) = false := decide_eq_false (by omega)
    have HP := Lib.hid (parseA_any s (by omega) w hT hM)
    have HQ := Lib.hid (fun V : World => rparse_any s (by omega) V)
    obtain ⟨R, hR⟩ : ∃ R, parseA s = R := ⟨_, rfl⟩
    have hlen : R.1.length ≤ 2000 := by rw [← hR]; exact Nat.le_trans (run_len _ _ _ _) (by simpa using h2)
    rw [hR] at HP HQ
    have Hl := Lib.hid hlen
    clear hT hM hs h2 hR hlen
    go_enter Tryd.func3, Tryd.ntmps3
    go_wp2_with (first
      | (go_at_call 8; (with_reducible refine HP.out.mono ?_); rintro rr w1 ⟨⟨v1, rfl, hv⟩, hb1⟩; obtain ⟨a1, k1, rfl, -, hx⟩ := OwnL.isL ev_len (by decide) hv; have HX1 := Lib.hid hx; have HB1 := Lib.hid hb1; clear hv hx hb1; dsimp only [errB])
      | (go_at_call 9; (with_reducible refine (HQ.out _).mono ?_); rintro rr w2 ⟨⟨v2, rfl, hv⟩, hb2⟩; obtain ⟨a2, k2, rfl, -, hx⟩ := OwnL.isL ev_len (by decide) hv; have HX2 := Lib.hid hx; have HY2 := Lib.hid (HX1.out.mono hb2); have HB2 := Lib.hid (HB1.out.trans (hb2.mono HB1.out.size)); clear hv hx hb2; dsimp only [errB])
      | (go_at_call 11; (with_reducible refine (taken_any R.1 _ _ _ HY2.out (by have := Hl.out; omega)).mono ?_); rintro rr w3 ⟨⟨v3, rfl, hv⟩, hb3⟩; obtain ⟨a3, k3, rfl, -, hx⟩ := OwnL.isL ev_len (by decide) hv; have HX3 := Lib.hid hx; have HY3 := Lib.hid (HX2.out.mono hb3); have HB3 := Lib.hid (HB2.out.trans (hb3.mono HB2.out.size)); clear hv hx hb3)
      | (go_at_call 10; (with_reducible refine (same_any _ _ _ _ _ R.1 _ HX3.out HY3.out rfl (by have := Hl.out; omega)).mono ?_); rintro rr w4 ⟨rfl, hb4⟩; have HB4 := Lib.hid (HB3.out.trans (hb4.mono HB3.out.size)); clear hb4)
      | (go_at_call 7; (with_reducible refine (HK.out _ HB4.out).mono ?_); rintro rr w5 ⟨rfl, hb5⟩; have HB5 := Lib.hid (HB4.out.trans (hb5.mono HB4.out.size)); clear hb5))
    go_ret
    exact ⟨rfl, HB5.out⟩
  · have g0 : decide (2000 < (s.size : Int)) = true := decide_eq_true (by omega)
    clear hT hM hs h2
    go_enter Tryd.func3, Tryd.ntmps3
    go_wp2_with (go_at_call 7; (with_reducible refine (HK.out _ (Below.refl _ _)).mono ?_); rintro rr w5 ⟨rfl, hb5⟩)
    go_ret
    exact ⟨rfl, hb5⟩

set_option maxRecDepth 100000 in
theorem lifted (os : Os) (started : os.Started) (H : Type) (enc : TypeId × Value → H) :
    ReturnsInHanded {} Tryd.checked os 3 .any (fun w args => (Rows.traceParsesSpec.pre enc Tryd.prog Tryd.f3 Rows.traceParsesRow.domain false w args ∧ laidMetH Tryd.prog Rows.traceParsesRow.laid w) ∧ sizedMet enc Tryd.prog Tryd.f3 (OpenSpec.ofChange Rows.traceParsesSpec) false w args)
      (Rows.traceParsesSpec.post enc Tryd.prog Tryd.f3 false true false false) := by
  refine handed_laid (C := Tryd.checked) (X := fun w _ => laidMetH Tryd.prog Rows.traceParsesRow.laid w) (fun _ _ _ hh h => h.of_heap hh) Tryd.own started (by kernel_rfl) Tryd.func3
    (ChangeSpec.witness_at (enc := enc) (C := Tryd.checked) (os := os) (X := fun w _ => laidMetH Tryd.prog Rows.traceParsesRow.laid w) false (laidWorld os) #[.string ⟨#[]⟩] 8 rfl (by kernel_rfl) (by kernel_rfl) (by kernel_rfl) (by kernel_rfl) (by kernel_rfl) (laidWorld_met os _)) ?_
  intro W base args ds gs before hsh hL hval hW
  have hW' := hW
  obtain ⟨p, q, hA, hV, rfl, hfz, hnd⟩ := hW
  rw [Tryd.params3] at hA hval
  obtain ⟨v0, d0, rfl, rfl, h0⟩ := trodAll_one hA
  obtain ⟨s, rfl, _, _, hs⟩ := Go.ChangeMaps.open_string Tryd.underlying9 (hval 0 9 v0 rfl rfl) h0
  refine (walk s W hs (tab_of hL) (max_of hsh)).mono fun e W' ⟨he, hb⟩ => ?_
  exact ⟨_, he, law_post Tryd.laidOut hW' rfl (by kernel_rfl) (by kernel_rfl) Tryd.underlying4 rfl rfl rfl hb⟩

theorem over : Rows.TraceParsesSaid :=
  OpenClaim.holds_of_wide 3 Tryd.f3 rfl rfl rfl rfl rfl rfl rfl ⟨rfl, rfl, rfl, rfl, rfl⟩ rfl rfl rfl rfl rfl (by kernel_rfl) Tryd.func3 (by kernel_rfl)
    (of_decide_eq_true (by kernel_rfl)) (by unfold Func.isWrapper; first | (rw [if_pos (by decide +kernel)]; kernel_rfl) | (rw [if_neg (by decide +kernel)]; exact ⟨rfl, rfl⟩))
    (fun os started H enc _ => lifted os started H enc)

/-- The statement: the card. -/
theorem proved : Rows.TraceParsesCardSaid :=
  Claim7.holds_tied_plain_at .later [] [.data, .data, .data, .data, .pinned] true Rows.traceParsesCard.stood.harness Rows.traceParsesCard.stood.looks
    over (fun _ h => by cases h) (by kernel_rfl) (fun _ h => by cases h) traceParses_row_tie rfl ⟨rfl, rfl⟩ (by kernel_rfl) rfl
    (fun f fn hf hfn => by
      obtain rfl : f = 3 := Option.some.inj ((show Tryd.prog.funcNamed Rows.traceParsesRow.func = some 3 by kernel_rfl).symm.trans hf) |>.symm
      obtain rfl : fn = Tryd.f3 := (Option.some.inj (Tryd.func3.symm.trans hfn)).symm
      exact ⟨by kernel_rfl, fun j t ht => by
        rw [Tryd.params3] at ht
        have h3 : t = 9 := by
          rcases j with _ | j
          · simpa using ht.symm
          · simp at ht
        subst h3
        exact (show Tryd.prog.wantsStandIn 9 = false by kernel_rfl)⟩)
    (by kernel_rfl)
end traceParses
end Go.Proofs.YtaehcnoendieaaaDoor
