/-
  The contracts of quant.scaled, Parse, Milli.
-/
import Derived.Test.YtpajpijkldjmfaaDoorQnt5
namespace Go.Proofs.YtpajpijkldjmfaaDoor
open Go.RowKit
set_option linter.unusedVariables false

theorem numP_bd (s : ByteArray) : (0 ≤ (numP s).1.1 ∧ (numP s).1.1 ≤ 1127025806749466624) ∧ (0 ≤ (numP s).1.2.1 ∧ (numP s).1.2.1 < 1000) ∧ (0 ≤ (numP s).1.2.2 ∧ (numP s).1.2.2 < 1000) := by
  have h1 := intF_bd s s.size 0 (0, 0) (by decide) (by decide)
  have e1 : intF s s.size 0 (0, 0) = intV s := rfl
  rw [e1] at h1
  unfold numP
  split
  · decide
  · unfold tailP
    split
    · exact ⟨h1.1, h1.2, Int.le_refl 0, by show (0 : Int) < 1000; decide⟩
    · split
      next hj =>
        refine ⟨h1.1, h1.2, ?_⟩
        obtain ⟨a, ha⟩ : ∃ a, (s.extract (intV s).2 s.size).extract 1 (s.extract (intV s).2 s.size).size = a := ⟨_, rfl⟩
        dsimp only
        rw [ha] at hj ⊢
        have h2 := intF_bd a a.size 0 (0, 0) (by decide) (by decide)
        have h3 := fun m hm h => intF_small a a.size m 0 (0, 0) 1 (by decide) (by decide) hm h
        have e2 : intF a a.size 0 (0, 0) = intV a := rfl
        rw [e2] at h2 h3
        have h4 := h3 1 (by decide)
        have h5 := h3 2 (by decide)
        have h6 := h3 3 (by decide)
        rcases (show (intV a).2 = 1 ∨ (intV a).2 = 2 ∨ (intV a).2 = 3 by omega) with h | h | h
        · have h7 := h4 (by omega)
          rw [h, show p10 (3 - 1) = 100 from rfl]
          omega
        · have h7 := h5 (by omega)
          rw [h, show p10 (3 - 2) = 10 from rfl]
          omega
        · have h7 := h6 (by omega)
          rw [h, show p10 (3 - 3) = 1 from rfl]
          omega
      next => decide
theorem uF_bd {r : ByteArray} {fr : Bool} {n : Int} (h : uF r = some (fr, n)) : (1 ≤ n ∧ n ≤ 1099511627776) ∧ (fr = true → n = 1000) := by
  unfold uF at h
  repeat' split at h
  all_goals
    first
      | (cases h; done)
      | (simp only [Option.some.injEq, Prod.mk.injEq] at h; obtain ⟨rfl, rfl⟩ := h; exact ⟨by decide, by simp⟩)
theorem ratV_bd {fr : Bool} {n scale : Int} (hn : 1 ≤ n ∧ n ≤ 1099511627776) (hf : fr = true → n = 1000) (hs : scale = 1 ∨ scale = 1000) : (1 ≤ (ratV fr n scale).1 ∧ (ratV fr n scale).1 ≤ 1099511627776000) ∧ (1 ≤ (ratV fr n scale).2 ∧ (ratV fr n scale).2 ≤ 1000) := by
  unfold ratV
  cases fr
  · rcases hs with rfl | rfl
    · simp only [if_neg Bool.false_ne_true]; omega
    · simp only [if_neg Bool.false_ne_true]; omega
  · obtain rfl := hf rfl
    rcases hs with rfl | rfl
    · decide
    · decide

/-- An amount so many times, or what is wrong. -/
def scV (s : ByteArray) (scale : Int) : Int × Int :=
  if (numP s).2.2 ≠ 0 then (0, (numP s).2.2) else match uF (numP s).2.1 with
    | none => (0, 9)
    | some (fr, n) => if exactB (numP s).1.2.1 (numP s).1.2.2 (ratV fr n scale).1 (ratV fr n scale).2 = true then valV (numP s).1.1 (numP s).1.2.2 (ratV fr n scale).1 (ratV fr n scale).2 else (0, 8)

set_option maxRecDepth 100000 in
set_option maxHeartbeats 8000000 in
theorem scaled_any (s : ByteArray) (hs : s.size ≤ 1000000000) (scale : Int) (hsc : scale = 1 ∨ scale = 1000) (w : World) :
    Calls Tryd.prog 20 #[.string s, .int .i64 scale] w fun e w' => e = .returned (.tuple #[.int .i64 (scV s scale).1, .int .i64 (scV s scale).2]) ∧ Below w.heap.size w w' := by
  have A := fun V => numsplit_any s hs V
  have hbd := numP_bd s
  unfold scV
  obtain ⟨⟨⟨x, l, p⟩, r, e⟩, hd⟩ : ∃ d, numP s = d := ⟨_, rfl⟩
  rw [hd] at hbd ⊢
  simp only [hd] at A
  dsimp only at hbd ⊢
  have HA := Lib.hid A
  clear A hd
  by_cases he : e = 0
  · have g0 : (e != 0) = false := by simpa using he
    rw [if_neg (fun h => h he)]
    have U := fun V => unitof_any r V
    cases hu : uF r with
    | none =>
      simp only [hu, uVal] at U
      have HU := Lib.hid U
      clear U hu he
      go_enter Tryd.func20, Tryd.ntmps20
      go_wp2_with (first | (go_at_call 27; (with_reducible refine (HA.out _).mono ?_); rintro e w1 ⟨rfl, hb1⟩; obtain ⟨hc1, hf1⟩ := bcell hb1; have hz1 := hb1.size) | (go_at_call 28; (with_reducible refine (HU.out _).mono ?_); rintro e w2 ⟨rfl, hb2⟩; obtain ⟨hc2, hf2⟩ := bcell hb2; have hz2 := hb2.size; (try simp at hz2); have z2_0 : w1.heap.size < w2.heap.size := (by omega); have y2_0 : w1.heap.size ≤ w2.heap.size := (by omega)))
      go_ret2
      exact ⟨rfl, by (repeat' (first | with_reducible exact Below.refl _ _ | with_reducible assumption | with_reducible refine Below.drew ?_ | with_reducible refine below_drewN' ?_ _ | with_reducible refine Below.alloc ?_ ?_ _ | with_reducible refine Below.setCell ?_ ?_ _ | with_reducible refine below_step (by assumption) ?_ ?_ | omega | (simp; done) | (simp; omega)))⟩
    | some q =>
      obtain ⟨fr, n⟩ := q
      obtain ⟨b1, b2⟩ := uF_bd hu
      obtain ⟨b3, b4⟩ := ratV_bd b1 b2 hsc
      have T := fun V => ratio_any fr n scale b1 (by omega) V
      dsimp only
      obtain ⟨⟨m, dv⟩, hr⟩ : ∃ d, ratV fr n scale = d := ⟨_, rfl⟩
      rw [hr] at b3 b4 ⊢
      simp only [hr] at T
      dsimp only at b3 b4 ⊢
      have E := fun V => exact_any x l p m dv hbd.2.1 hbd.2.2 b3 b4 V
      have Vl := fun V => value_any x l p m dv hbd.1 hbd.2.2 b3 b4 V
      cases hx : exactB l p m dv
      · simp only [hx] at E
        rw [if_neg (by decide)]
        cases fr
        all_goals
          simp only [hu, uVal] at U
          simp only [uVal] at T
          have HU := Lib.hid U
          have HT := Lib.hid T
          have HE := Lib.hid E
          clear U T E Vl hu he hr hx b1 b2 b3 b4 hbd
          go_enter Tryd.func20, Tryd.ntmps20
          go_wp2_with (first | (go_at_call 27; (with_reducible refine (HA.out _).mono ?_); rintro e w1 ⟨rfl, hb1⟩; obtain ⟨hc1, hf1⟩ := bcell hb1; have hz1 := hb1.size) | (go_at_call 28; (with_reducible refine (HU.out _).mono ?_); rintro e w2 ⟨rfl, hb2⟩; obtain ⟨hc2, hf2⟩ := bcell hb2; have hz2 := hb2.size; (try simp at hz2); have z2_0 : w1.heap.size < w2.heap.size := (by omega); have y2_0 : w1.heap.size ≤ w2.heap.size := (by omega)) | (go_at_call 29; (with_reducible refine (HT.out _).mono ?_); rintro e w3 ⟨rfl, hb3⟩; obtain ⟨hc3, hf3⟩ := bcell hb3; have hz3 := hb3.size; have z3_0 : w1.heap.size < w3.heap.size := (by omega); have y3_0 : w1.heap.size ≤ w3.heap.size := (by omega)) | (go_at_call 30; (with_reducible refine (HE.out _).mono ?_); rintro e w4 ⟨rfl, hb4⟩; obtain ⟨hc4, hf4⟩ := bcell hb4; have hz4 := hb4.size; have z4_0 : w1.heap.size < w4.heap.size := (by omega); have y4_0 : w1.heap.size ≤ w4.heap.size := (by omega)))
          go_ret2
          exact ⟨rfl, by (repeat' (first | with_reducible exact Below.refl _ _ | with_reducible assumption | with_reducible refine Below.drew ?_ | with_reducible refine below_drewN' ?_ _ | with_reducible refine Below.alloc ?_ ?_ _ | with_reducible refine Below.setCell ?_ ?_ _ | with_reducible refine below_step (by assumption) ?_ ?_ | omega | (simp; done) | (simp; omega)))⟩
      · simp only [hx] at E
        rw [if_pos rfl]
        obtain ⟨⟨v1, v2⟩, hv⟩ : ∃ d, valV x p m dv = d := ⟨_, rfl⟩
        rw [hv]
        simp only [hv] at Vl
        cases fr
        all_goals
          simp only [hu, uVal] at U
          simp only [uVal] at T
          have HU := Lib.hid U
          have HT := Lib.hid T
          have HE := Lib.hid E
          have HV := Lib.hid Vl
          clear U T E Vl hu he hr hx hv b1 b2 b3 b4 hbd
          go_enter Tryd.func20, Tryd.ntmps20
          go_wp2_with (first | (go_at_call 27; (with_reducible refine (HA.out _).mono ?_); rintro e w1 ⟨rfl, hb1⟩; obtain ⟨hc1, hf1⟩ := bcell hb1; have hz1 := hb1.size) | (go_at_call 28; (with_reducible refine (HU.out _).mono ?_); rintro e w2 ⟨rfl, hb2⟩; obtain ⟨hc2, hf2⟩ := bcell hb2; have hz2 := hb2.size; (try simp at hz2); have z2_0 : w1.heap.size < w2.heap.size := (by omega); have y2_0 : w1.heap.size ≤ w2.heap.size := (by omega)) | (go_at_call 29; (with_reducible refine (HT.out _).mono ?_); rintro e w3 ⟨rfl, hb3⟩; obtain ⟨hc3, hf3⟩ := bcell hb3; have hz3 := hb3.size; have z3_0 : w1.heap.size < w3.heap.size := (by omega); have y3_0 : w1.heap.size ≤ w3.heap.size := (by omega)) | (go_at_call 30; (with_reducible refine (HE.out _).mono ?_); rintro e w4 ⟨rfl, hb4⟩; obtain ⟨hc4, hf4⟩ := bcell hb4; have hz4 := hb4.size; have z4_0 : w1.heap.size < w4.heap.size := (by omega); have y4_0 : w1.heap.size ≤ w4.heap.size := (by omega)) | (go_at_call 31; (with_reducible refine (HV.out _).mono ?_); rintro e w5 ⟨rfl, hb5⟩; have hz5 := hb5.size))
          go_ret2
          exact ⟨rfl, by (repeat' (first | with_reducible exact Below.refl _ _ | with_reducible assumption | with_reducible refine Below.drew ?_ | with_reducible refine below_drewN' ?_ _ | with_reducible refine Below.alloc ?_ ?_ _ | with_reducible refine Below.setCell ?_ ?_ _ | with_reducible refine below_step (by assumption) ?_ ?_ | omega | (simp; done) | (simp; omega)))⟩
  · have g0 : (e != 0) = true := by simpa using he
    rw [if_pos he]
    clear he hbd
    go_enter Tryd.func20, Tryd.ntmps20
    go_wp2_with (go_at_call 27; (with_reducible refine (HA.out _).mono ?_); rintro e w1 ⟨rfl, hb1⟩; obtain ⟨hc1, hf1⟩ := bcell hb1; have hz1 := hb1.size)
    all_goals (go_ret2; exact ⟨rfl, by (repeat' (first | with_reducible exact Below.refl _ _ | with_reducible assumption | with_reducible refine Below.drew ?_ | with_reducible refine below_drewN' ?_ _ | with_reducible refine Below.alloc ?_ ?_ _ | with_reducible refine Below.setCell ?_ ?_ _ | with_reducible refine below_step (by assumption) ?_ ?_ | omega | (simp; done) | (simp; omega)))⟩)

set_option maxRecDepth 100000 in
theorem parse_any (s : ByteArray) (hs : s.size ≤ 1000000000) (w : World) :
    Calls Tryd.prog 9 #[.string s] w fun e w' => e = .returned (.tuple #[.int .i64 (scV s 1).1, .int .i64 (scV s 1).2]) ∧ Below w.heap.size w w' := by
  have A := fun V => scaled_any s hs 1 (.inl rfl) V
  obtain ⟨⟨v1, v2⟩, hv⟩ : ∃ d, scV s 1 = d := ⟨_, rfl⟩
  rw [hv]
  simp only [hv] at A
  have HA := Lib.hid A
  clear A hv
  go_enter Tryd.func9, Tryd.ntmps9
  go_wp2_with (go_at_call 20; (with_reducible refine (HA.out _).mono ?_); rintro e w1 ⟨rfl, hb1⟩; have hz1 := hb1.size)
  go_ret2
  exact ⟨rfl, by (repeat' (first | with_reducible exact Below.refl _ _ | with_reducible assumption | with_reducible refine Below.drew ?_ | with_reducible refine below_drewN' ?_ _ | with_reducible refine Below.alloc ?_ ?_ _ | with_reducible refine Below.setCell ?_ ?_ _ | with_reducible refine below_step (by assumption) ?_ ?_ | omega | (simp; done) | (simp; omega)))⟩
set_option maxRecDepth 100000 in
theorem milli_any (s : ByteArray) (hs : s.size ≤ 1000000000) (w : World) :
    Calls Tryd.prog 11 #[.string s] w fun e w' => e = .returned (.tuple #[.int .i64 (scV s 1000).1, .int .i64 (scV s 1000).2]) ∧ Below w.heap.size w w' := by
  have A := fun V => scaled_any s hs 1000 (.inr rfl) V
  obtain ⟨⟨v1, v2⟩, hv⟩ : ∃ d, scV s 1000 = d := ⟨_, rfl⟩
  rw [hv]
  simp only [hv] at A
  have HA := Lib.hid A
  clear A hv
  go_enter Tryd.func11, Tryd.ntmps11
  go_wp2_with (go_at_call 20; (with_reducible refine (HA.out _).mono ?_); rintro e w1 ⟨rfl, hb1⟩; have hz1 := hb1.size)
  go_ret2
  exact ⟨rfl, by (repeat' (first | with_reducible exact Below.refl _ _ | with_reducible assumption | with_reducible refine Below.drew ?_ | with_reducible refine below_drewN' ?_ _ | with_reducible refine Below.alloc ?_ ?_ _ | with_reducible refine Below.setCell ?_ ?_ _ | with_reducible refine below_step (by assumption) ?_ ?_ | omega | (simp; done) | (simp; omega)))⟩
end Go.Proofs.YtpajpijkldjmfaaDoor
