/-
  QuantShows: any number is shown as the document says. For any number; no condition.
-/
import Derived.Test.YtpajpijkldjmfaaDoorQLaid
import Derived.Test.YtpajpijkldjmfaaDoorQRShow
namespace Go.Proofs.YtpajpijkldjmfaaDoor
open Go.ChangeShapes Go.WideShapes Go.ChangeAt Go.RowKit
set_option linter.unusedVariables false
namespace quantShows

set_option maxRecDepth 100000 in
set_option maxHeartbeats 4000000 in
theorem walk (n : Int) (w : World) (hT : Tab10 w) :
    Calls Tryd.prog 4 #[.int .i64 n] w fun e w' => e = .returned (.bool true) ∧ Below w.heap.size w w' := by
  have A1 := fun V h => show_any n V h
  have A2 := fun V => refshow_any n V
  have A3 := fun V h => showmilli_any n V h
  have A4 := fun V => refshowmilli_any n V
  obtain ⟨s, hs⟩ : ∃ s, showV n = s := ⟨_, rfl⟩
  obtain ⟨t, ht⟩ : ∃ t, showM n = t := ⟨_, rfl⟩
  simp only [hs, ht] at A1 A2 A3 A4
  have HA1 := Lib.hid A1
  have HA2 := Lib.hid A2
  have HA3 := Lib.hid A3
  have HA4 := Lib.hid A4
  have HX := Lib.hid (Below.refl w.heap.size w)
  have HT := Lib.hid hT
  clear A1 A2 A3 A4 hs ht hT
  go_enter Tryd.func4, Tryd.ntmps4
  go_wp2_with (first
    | (go_at_call 15; ((with_reducible refine (HA1.out _ (HT.out.mono HX.out)).mono ?_); rintro e w1 ⟨rfl, hb1⟩; have HX1 := Lib.hid ((HX).out.trans (Below.mono hb1 (HX).out.size))))
    | (go_at_call 16; ((with_reducible refine (HA2.out _).mono ?_); rintro e w2 ⟨rfl, hb2⟩; have HX2 := Lib.hid ((HX1).out.trans (Below.mono hb2 (HX1).out.size))))
    | (go_at_call 17; ((with_reducible refine (HA3.out _ (HT.out.mono HX2.out)).mono ?_); rintro e w3 ⟨rfl, hb3⟩; have HX3 := Lib.hid ((HX2).out.trans (Below.mono hb3 (HX2).out.size))))
    | (go_at_call 18; ((with_reducible refine (HA4.out _).mono ?_); rintro e w4 ⟨rfl, hb4⟩; have HX4 := Lib.hid ((HX3).out.trans (Below.mono hb4 (HX3).out.size))))
    | (go_at_call 8; ((with_reducible refine (known_any _ (HT.out.mono HX4.out)).mono ?_); rintro e w5 ⟨rfl, hb5⟩; have HX5 := Lib.hid ((HX4).out.trans (Below.mono hb5 (HX4).out.size)))))
  go_ret
  exact ⟨rfl, HX5.out⟩
set_option maxRecDepth 100000 in
  theorem lifted (os : Os) (started : os.Started) (H : Type) (enc : TypeId × Value → H) :
      ReturnsInHanded {} Tryd.checked os 4 .any (fun w args => (Rows.quantShowsSpec.pre enc Tryd.prog Tryd.f4 Rows.quantShowsRow.domain false w args ∧ laidMetH Tryd.prog Rows.quantShowsRow.laid w) ∧ sizedMet enc Tryd.prog Tryd.f4 (OpenSpec.ofChange Rows.quantShowsSpec) false w args)
        (Rows.quantShowsSpec.post enc Tryd.prog Tryd.f4 false true false false) := by
    refine returnsInHanded_of_change_and (C := Tryd.checked) (X := fun w _ => laidMetH Tryd.prog Rows.quantShowsRow.laid w) (fun _ _ _ hh h => h.of_heap hh) Tryd.own started (by kernel_rfl) Tryd.func4
      (ChangeSpec.witness_at (enc := enc) (C := Tryd.checked) (os := os) (X := fun w _ => laidMetH Tryd.prog Rows.quantShowsRow.laid w) false (laidWorld os) #[.int .i64 0] 8 rfl (by kernel_rfl) (by kernel_rfl) (by kernel_rfl) (by kernel_rfl) (by kernel_rfl) (laidWorld_met os _)) ?_
    intro W base args ds gs before hval hW _ _ hL _
    have hW' := hW
    obtain ⟨p, q, hA, hV, rfl, hfz, hnd⟩ := hW
    rw [Tryd.params4] at hA hval
    obtain ⟨v0, d0, rfl, rfl, h0⟩ := trodAll_one hA
    obtain ⟨n, rfl, _, _, wn⟩ := open_int Tryd.underlying3 (hval 0 3 v0 rfl rfl) h0
    refine (walk n W (tab_of hL)).mono fun e W' ⟨he, hb⟩ => ?_
    exact ⟨_, he, law_post Tryd.laidOut hW' rfl (by kernel_rfl) (by kernel_rfl) Tryd.underlying4 rfl rfl rfl hb⟩
  
  theorem over : Rows.QuantShowsSaid :=
    OpenClaim.holds_of_wide 4 Tryd.f4 rfl rfl rfl rfl rfl rfl rfl ⟨rfl, rfl, rfl, rfl, rfl⟩ rfl rfl rfl rfl rfl (by kernel_rfl) Tryd.func4 (by kernel_rfl)
      (of_decide_eq_true (by kernel_rfl)) (by unfold Func.isWrapper; first | (rw [if_pos (by decide +kernel)]; kernel_rfl) | (rw [if_neg (by decide +kernel)]; exact ⟨rfl, rfl⟩))
      (fun os started H enc _ => lifted os started H enc)
  
  /-- The statement: the card. -/
  theorem proved : Rows.QuantShowsCardSaid :=
    Claim7.holds_tied_plain_at .later [] [.data, .data, .data] true Rows.quantShowsCard.stood.harness true
      over (fun _ h => by cases h) (by kernel_rfl) (fun _ h => by cases h) quantShows_row_tie rfl ⟨rfl, rfl⟩ (by kernel_rfl) rfl
      (fun f fn hf hfn => by
        obtain rfl : f = 4 := Option.some.inj ((show Tryd.prog.funcNamed Rows.quantShowsRow.func = some 4 by kernel_rfl).symm.trans hf) |>.symm
        obtain rfl : fn = Tryd.f4 := (Option.some.inj (Tryd.func4.symm.trans hfn)).symm
        exact ⟨by kernel_rfl, fun j t ht => by
          rw [Tryd.params4] at ht
          have h3 : t = 3 := by
            rcases j with _ | j
            · simpa using ht.symm
            · simp at ht
          subst h3
          exact (show Tryd.prog.wantsStandIn 3 = false by kernel_rfl)⟩)
      (by kernel_rfl)
end quantShows
end Go.Proofs.YtpajpijkldjmfaaDoor
