/-
  QuantParses: the number, the amount, and the amount in thousandths, of any text are as the document says, or what is wrong. For any text; no condition.
-/
import Derived.Test.YtpajpijkldjmfaaDoorQLaid
import Derived.Test.YtpajpijkldjmfaaDoorQPar5
namespace Go.Proofs.YtpajpijkldjmfaaDoor
open Go.ChangeShapes Go.WideShapes Go.ChangeAt Go.RowKit
set_option linter.unusedVariables false
namespace quantParses

set_option maxRecDepth 100000 in
set_option maxHeartbeats 4000000 in
theorem refparse_any (s : ByteArray) (hs : s.size ≤ 310) (w : World) :
    Calls Tryd.prog 10 #[.string s] w fun e w' => e = .returned (.tuple #[.int .i64 (scV s 1).1, .int .i64 (scV s 1).2]) ∧ Below w.heap.size w w' := by
  have A := fun V => amount_any s hs 1 (.inl rfl) V
  have e : ((lastOf 1 : Nat) : Int) = 6 := rfl
  simp only [e] at A
  obtain ⟨⟨a1, a2⟩, h1⟩ : ∃ d, scV s 1 = d := ⟨_, rfl⟩
  simp only [h1] at A ⊢
  have HA := Lib.hid A
  clear A e h1
  go_enter Tryd.func10, Tryd.ntmps10
  go_wp2_with (go_at_call 21; (with_reducible refine (HA.out _).mono ?_); rintro e w1 ⟨rfl, hb1⟩; have hz1 := hb1.size)
  go_ret2
  exact ⟨rfl, by (repeat' (first | with_reducible exact Below.refl _ _ | with_reducible assumption | with_reducible refine Below.drew ?_ | with_reducible refine below_drewN' ?_ _ | with_reducible refine Below.alloc ?_ ?_ _ | with_reducible refine Below.setCell ?_ ?_ _ | with_reducible refine below_step (by assumption) ?_ ?_ | omega | (simp; done) | (simp; omega)))⟩
set_option maxRecDepth 100000 in
set_option maxHeartbeats 4000000 in
theorem refmilli_any (s : ByteArray) (hs : s.size ≤ 310) (w : World) :
    Calls Tryd.prog 12 #[.string s] w fun e w' => e = .returned (.tuple #[.int .i64 (scV s 1000).1, .int .i64 (scV s 1000).2]) ∧ Below w.heap.size w w' := by
  have A := fun V => amount_any s hs 1000 (.inr rfl) V
  have e : ((lastOf 1000 : Nat) : Int) = 3 := rfl
  simp only [e] at A
  obtain ⟨⟨a1, a2⟩, h1⟩ : ∃ d, scV s 1000 = d := ⟨_, rfl⟩
  simp only [h1] at A ⊢
  have HA := Lib.hid A
  clear A e h1
  go_enter Tryd.func12, Tryd.ntmps12
  go_wp2_with (go_at_call 21; (with_reducible refine (HA.out _).mono ?_); rintro e w1 ⟨rfl, hb1⟩; have hz1 := hb1.size)
  go_ret2
  exact ⟨rfl, by (repeat' (first | with_reducible exact Below.refl _ _ | with_reducible assumption | with_reducible refine Below.drew ?_ | with_reducible refine below_drewN' ?_ _ | with_reducible refine Below.alloc ?_ ?_ _ | with_reducible refine Below.setCell ?_ ?_ _ | with_reducible refine below_step (by assumption) ?_ ?_ | omega | (simp; done) | (simp; omega)))⟩

set_option maxRecDepth 100000 in
set_option maxHeartbeats 8000000 in
theorem walk (s : ByteArray) (w : World) (hT : Tab10 w) (hm : s.size ≤ maxLen) :
    Calls Tryd.prog 3 #[.string s] w fun e w' => e = .returned (.bool true) ∧ Below w.heap.size w w' := by
  by_cases h1 : 300 < s.size
  · have HT := Lib.hid hT
    clear hT
    go_enter Tryd.func3, Tryd.ntmps3
    go_wp2_with (go_at_call 8; (with_reducible refine (known_any _ HT.out).mono ?_); rintro e w1 ⟨rfl, hb1⟩; have hz1 := hb1.size)
    go_ret
    exact ⟨rfl, by (repeat' (first | with_reducible exact Below.refl _ _ | with_reducible assumption | with_reducible refine Below.drew ?_ | with_reducible refine below_drewN' ?_ _ | with_reducible refine Below.alloc ?_ ?_ _ | with_reducible refine Below.setCell ?_ ?_ _ | with_reducible refine below_step (by assumption) ?_ ?_ | omega | (simp; done) | (simp; omega)))⟩
  have A1 := fun V => parse_any s (by omega) V
  have A2 := fun V => refparse_any s (by omega) V
  have A3 := fun V => milli_any s (by omega) V
  have A4 := fun V => refmilli_any s (by omega) V
  have A5 := fun V => number_any s (by omega) V
  have A6 := fun V => RefQ.refnumber_any s (by omega) V
  obtain ⟨⟨a1, a2⟩, h1⟩ : ∃ d, numV s = d := ⟨_, rfl⟩
  obtain ⟨⟨b1, b2⟩, h2⟩ : ∃ d, scV s 1 = d := ⟨_, rfl⟩
  obtain ⟨⟨c1, c2⟩, h3⟩ : ∃ d, scV s 1000 = d := ⟨_, rfl⟩
  simp only [h1] at A5 A6
  simp only [h2] at A1 A2
  simp only [h3] at A3 A4
  have HA1 := Lib.hid A1
  have HA2 := Lib.hid A2
  have HA3 := Lib.hid A3
  have HA4 := Lib.hid A4
  have HA5 := Lib.hid A5
  have HA6 := Lib.hid A6
  have HX := Lib.hid (Below.refl w.heap.size w)
  have HT := Lib.hid hT
  clear A1 A2 A3 A4 A5 A6 h1 h2 h3 hT
  go_enter Tryd.func3, Tryd.ntmps3
  go_wp2_with (first
    | (go_at_call 9; ((with_reducible refine (HA1.out _).mono ?_); rintro e w1 ⟨rfl, hb1⟩; have HX1 := Lib.hid ((HX).out.trans (Below.mono hb1 (HX).out.size))))
    | (go_at_call 10; ((with_reducible refine (HA2.out _).mono ?_); rintro e w2 ⟨rfl, hb2⟩; have HX2 := Lib.hid ((HX1).out.trans (Below.mono hb2 (HX1).out.size))))
    | (go_at_call 11; ((with_reducible refine (HA3.out _).mono ?_); rintro e w3 ⟨rfl, hb3⟩; have HX3 := Lib.hid ((HX2).out.trans (Below.mono hb3 (HX2).out.size))))
    | (go_at_call 12; ((with_reducible refine (HA4.out _).mono ?_); rintro e w4 ⟨rfl, hb4⟩; have HX4 := Lib.hid ((HX3).out.trans (Below.mono hb4 (HX3).out.size))))
    | (go_at_call 13; ((with_reducible refine (HA5.out _).mono ?_); rintro e w5 ⟨rfl, hb5⟩; have HX5 := Lib.hid ((HX4).out.trans (Below.mono hb5 (HX4).out.size))))
    | (go_at_call 14; ((with_reducible refine (HA6.out _).mono ?_); rintro e w6 ⟨rfl, hb6⟩; have HX6 := Lib.hid ((HX5).out.trans (Below.mono hb6 (HX5).out.size))))
    | (go_at_call 8; ((with_reducible refine (known_any _ (HT.out.mono HX6.out)).mono ?_); rintro e w7 ⟨rfl, hb7⟩; have HX7 := Lib.hid ((HX6).out.trans (Below.mono hb7 (HX6).out.size)))))
  go_ret
  exact ⟨rfl, HX7.out⟩
set_option maxRecDepth 100000 in
  theorem lifted (os : Os) (started : os.Started) (H : Type) (enc : TypeId × Value → H) :
      ReturnsInHanded {} Tryd.checked os 3 .any (fun w args => (Rows.quantParsesSpec.pre enc Tryd.prog Tryd.f3 Rows.quantParsesRow.domain false w args ∧ laidMetH Tryd.prog Rows.quantParsesRow.laid w) ∧ sizedMet enc Tryd.prog Tryd.f3 (OpenSpec.ofChange Rows.quantParsesSpec) false w args)
        (Rows.quantParsesSpec.post enc Tryd.prog Tryd.f3 false true false false) := by
    refine returnsInHanded_of_change_and (C := Tryd.checked) (X := fun w _ => laidMetH Tryd.prog Rows.quantParsesRow.laid w) (fun _ _ _ hh h => h.of_heap hh) Tryd.own started (by kernel_rfl) Tryd.func3
      (ChangeSpec.witness_at (enc := enc) (C := Tryd.checked) (os := os) (X := fun w _ => laidMetH Tryd.prog Rows.quantParsesRow.laid w) false (laidWorld os) #[.string ⟨#[]⟩] 8 rfl (by kernel_rfl) (by kernel_rfl) (by kernel_rfl) (by kernel_rfl) (by kernel_rfl) (laidWorld_met os _)) ?_
    intro W base args ds gs before hval hW _ _ hL _
    have hW' := hW
    obtain ⟨p, q, hA, hV, rfl, hfz, hnd⟩ := hW
    rw [Tryd.params3] at hA hval
    obtain ⟨v0, d0, rfl, rfl, h0⟩ := trodAll_one hA
    obtain ⟨s, rfl, _, _, hsz⟩ := Go.ChangeMaps.open_string Tryd.underlying9 (hval 0 9 v0 rfl rfl) h0
    refine (walk s W (tab_of hL) hsz).mono fun e W' ⟨he, hb⟩ => ?_
    exact ⟨_, he, law_post Tryd.laidOut hW' rfl (by kernel_rfl) (by kernel_rfl) Tryd.underlying4 rfl rfl rfl hb⟩
  
  theorem over : Rows.QuantParsesSaid :=
    OpenClaim.holds_of_wide 3 Tryd.f3 rfl rfl rfl rfl rfl rfl rfl ⟨rfl, rfl, rfl, rfl, rfl⟩ rfl rfl rfl rfl rfl (by kernel_rfl) Tryd.func3 (by kernel_rfl)
      (of_decide_eq_true (by kernel_rfl)) (by unfold Func.isWrapper; first | (rw [if_pos (by decide +kernel)]; kernel_rfl) | (rw [if_neg (by decide +kernel)]; exact ⟨rfl, rfl⟩))
      (fun os started H enc _ => lifted os started H enc)
  
  /-- The statement: the card. -/
  theorem proved : Rows.QuantParsesCardSaid :=
    Claim7.holds_tied_plain_at .later [] [.data, .data, .data] true Rows.quantParsesCard.stood.harness true
      over (fun _ h => by cases h) (by kernel_rfl) (fun _ h => by cases h) quantParses_row_tie rfl ⟨rfl, rfl⟩ (by kernel_rfl) rfl
      (fun f fn hf hfn => by
        obtain rfl : f = 3 := Option.some.inj ((show Tryd.prog.funcNamed Rows.quantParsesRow.func = some 3 by kernel_rfl).symm.trans hf) |>.symm
        obtain rfl : fn = Tryd.f3 := (Option.some.inj (Tryd.func3.symm.trans hfn)).symm
        exact ⟨by kernel_rfl, fun j t ht => by
          rw [Tryd.params3] at ht
          have h3 : t = 9 := by
            rcases j with _ | j
            · simpa using ht.symm
            · simp at ht
          subst h3
          exact (show Tryd.prog.wantsStandIn 9 = false by kernel_rfl)⟩)
      (by kernel_rfl)
end quantParses
end Go.Proofs.YtpajpijkldjmfaaDoor
