/-
  HealthTells: how many of any machines are not ready, which of any instances are late, and which are coming, and how many a group has, is as the document says.
-/
import Derived.Test.YtbomcghjifgfoaaDoorHKn
import Derived.Test.YtbomcghjifgfoaaDoorHOpn
import Derived.Test.YtbomcghjifgfoaaDoorLgtY
import Derived.Test.YtbomcghjifgfoaaDoorGLaid
namespace Go.Proofs.YtbomcghjifgfoaaDoor
open Go.ChangeShapes Go.WideShapes Go.ChangeAt Go.RowKit
set_option linter.unusedVariables false
namespace healthTells
/-- A slice of these instances. -/
def IsI (q : Nat) (X : List Ins) (v : Value) (w : World) : Prop := ∃ a k, v = .slice a q k ∧ InsL w a X
theorem IsI.stays (q : Nat) (X : List Ins) : Stays (IsI q X) := fun v w w' hb h => by
  obtain ⟨a, k, e, h⟩ := h
  exact ⟨a, k, e, h.mono hb⟩
theorem reflate_is (c : Option Addr) (kc q : Nat) (xs : List Ins) (now limit : Int) (h0 : 0 ≤ now) (h1 : now ≤ 1099511627776) (h2 : 0 ≤ limit) (h3 : limit ≤ 1099511627776) (w : World) (hF : InsL w c xs) (hm : xs.length ≤ 1000000) (hq : (xs.filter (lateI now limit)).length = q) :
    Calls Tryd.prog 13 #[.slice c xs.length kc, .int .i64 now, .int .i64 limit] w (Gives w (IsI q (xs.filter (lateI now limit)))) :=
  (reflatel_any c kc xs now limit h0 h1 h2 h3 w hF hm).mono fun e w' h => h.weak fun v w' h => by
    obtain ⟨a, k, e, _, hr⟩ := OwnL.isL irow_len (by decide) h
    rw [hq] at e
    exact ⟨a, k, e, hr⟩
theorem refcoming_is (c : Option Addr) (kc q : Nat) (xs : List Ins) (now limit : Int) (h0 : 0 ≤ now) (h1 : now ≤ 1099511627776) (h2 : 0 ≤ limit) (h3 : limit ≤ 1099511627776) (w : World) (hF : InsL w c xs) (hm : xs.length ≤ 1000000) (hq : (xs.filter (comingI now limit)).length = q) :
    Calls Tryd.prog 15 #[.slice c xs.length kc, .int .i64 now, .int .i64 limit] w (Gives w (IsI q (xs.filter (comingI now limit)))) :=
  (refcoming_any c kc xs now limit h0 h1 h2 h3 w hF hm).mono fun e w' h => h.weak fun v w' h => by
    obtain ⟨a, k, e, _, hr⟩ := OwnL.isL irow_len (by decide) h
    rw [hq] at e
    exact ⟨a, k, e, hr⟩

set_option maxRecDepth 100000 in
set_option maxHeartbeats 8000000 in
theorem walk_no (a c : Option Addr) (ka kc : Nat) (ms : List Mac) (xs : List Ins) (now limit : Int) (w : World) (hT : Tab10 w)
    (hF : MacL w a ms) (hl : ms.length ≤ maxLen) (hI : ∀ m ∈ ms, MacIn w m) (hG : InsL w c xs) (hm : xs.length ≤ maxLen)
    (hno : lightY ms = true → lightI xs = true → ¬ (0 ≤ now ∧ now ≤ 1099511627776 ∧ 0 ≤ limit ∧ limit ≤ 1099511627776)) :
    Calls Tryd.prog 3 #[.slice a ms.length ka, .slice c xs.length kc, .agg #[.int .i64 now, .int .i64 limit]] w fun e w' => e = .returned (.bool true) ∧ Below w.heap.size w w' := by
  have hBw : Below w.heap.size w (w.alloc (.cells #[.int .i64 now, .int .i64 limit] 24)) := (Below.refl _ w).alloc (Nat.le_refl _) _
  have HX := Lib.hid hBw
  have hsz : w.heap.size < (w.alloc (.cells #[.int .i64 now, .int .i64 limit] 24)).heap.size := by simp
  have K := fun V (hV : Below w.heap.size w V) => known_any V (hT.mono hV)
  have A1 := fun V (hV : Below w.heap.size w V) => lighty_any a ms ka V (hF.mono hV) hl (fun g hg => (hI g hg).mono hV)
  have A3 := fun V (hV : Below w.heap.size w V) => light29_any c kc xs V (hG.mono hV) hm
  have HK := Lib.hid K
  cases h2 : lightY ms
  · rw [h2] at A1
    have HA1 := Lib.hid A1
    clear A1 A3 K h2 hT hF hI hG hno hBw
    go_enter Tryd.func3, Tryd.ntmps3
    go_wp2_with (first
      | (go_at_call 6; ((with_reducible refine (HA1.out _ HX.out).mono ?_); rintro e w1 ⟨rfl, hb1⟩; have HX1 := Lib.hid ((HX).out.trans (Below.mono hb1 (HX).out.size))))
      | (go_at_call 8; ((with_reducible refine (HK.out _ HX1.out).mono ?_); rintro e w2 ⟨rfl, hb2⟩; have HX2 := Lib.hid ((HX1).out.trans (Below.mono hb2 (HX1).out.size)))))
    go_ret
    exact ⟨rfl, HX2.out⟩
  · rw [h2] at A1
    have HA1 := Lib.hid A1
    cases h3 : lightI xs
    · rw [h3] at A3
      have HA3 := Lib.hid A3
      clear A1 A3 K h2 h3 hT hF hI hG hno hBw
      go_enter Tryd.func3, Tryd.ntmps3
      go_wp2_with (first
        | (go_at_call 6; ((with_reducible refine (HA1.out _ HX.out).mono ?_); rintro e w1 ⟨rfl, hb1⟩; have HX1 := Lib.hid ((HX).out.trans (Below.mono hb1 (HX).out.size))))
        | (go_at_call 7; ((with_reducible refine (HA3.out _ HX1.out).mono ?_); rintro e w2 ⟨rfl, hb2⟩; have HX2 := Lib.hid ((HX1).out.trans (Below.mono hb2 (HX1).out.size))))
        | (go_at_call 8; ((with_reducible refine (HK.out _ HX2.out).mono ?_); rintro e w3 ⟨rfl, hb3⟩; have HX3 := Lib.hid ((HX2).out.trans (Below.mono hb3 (HX2).out.size)))))
      go_ret
      exact ⟨rfl, HX3.out⟩
    · rw [h3] at A3
      have HA3 := Lib.hid A3
      have hno := hno h2 h3
      clear A1 A3 K h2 h3 hT hF hI hG hBw
      by_cases q1 : now < 0
      · have k1 : decide (now < 0) = true := decide_eq_true q1
        clear hno
        go_enter Tryd.func3, Tryd.ntmps3
        go_wp2_with (first
          | (go_at_call 6; ((with_reducible refine (HA1.out _ HX.out).mono ?_); rintro e w1 ⟨rfl, hb1⟩; obtain ⟨hc1, hf1⟩ := bcell hb1; have HX1 := Lib.hid ((HX).out.trans (Below.mono hb1 (HX).out.size)); have hz1 := hb1.size; (try simp at hz1); have hs1 : w.heap.size < w1.heap.size := (by omega)))
          | (go_at_call 7; ((with_reducible refine (HA3.out _ HX1.out).mono ?_); rintro e w2 ⟨rfl, hb2⟩; obtain ⟨hc2, hf2⟩ := bcell hb2; have HX2 := Lib.hid ((HX1).out.trans (Below.mono hb2 (HX1).out.size))))
          | (go_at_call 8; ((with_reducible refine (HK.out _ HX2.out).mono ?_); rintro e w3 ⟨rfl, hb3⟩; have HX3 := Lib.hid ((HX2).out.trans (Below.mono hb3 (HX2).out.size)))))
        go_ret
        exact ⟨rfl, HX3.out⟩
      · have k1 : decide (now < 0) = false := decide_eq_false q1
        by_cases q2 : 1099511627776 < now
        · have k2 : decide (1099511627776 < now) = true := decide_eq_true q2
          clear hno
          go_enter Tryd.func3, Tryd.ntmps3
          go_wp2_with (first
            | (go_at_call 6; ((with_reducible refine (HA1.out _ HX.out).mono ?_); rintro e w1 ⟨rfl, hb1⟩; obtain ⟨hc1, hf1⟩ := bcell hb1; have HX1 := Lib.hid ((HX).out.trans (Below.mono hb1 (HX).out.size)); have hz1 := hb1.size; (try simp at hz1); have hs1 : w.heap.size < w1.heap.size := (by omega)))
            | (go_at_call 7; ((with_reducible refine (HA3.out _ HX1.out).mono ?_); rintro e w2 ⟨rfl, hb2⟩; obtain ⟨hc2, hf2⟩ := bcell hb2; have HX2 := Lib.hid ((HX1).out.trans (Below.mono hb2 (HX1).out.size))))
            | (go_at_call 8; ((with_reducible refine (HK.out _ HX2.out).mono ?_); rintro e w3 ⟨rfl, hb3⟩; have HX3 := Lib.hid ((HX2).out.trans (Below.mono hb3 (HX2).out.size)))))
          go_ret
          exact ⟨rfl, HX3.out⟩
        · have k2 : decide (1099511627776 < now) = false := decide_eq_false q2
          by_cases q3 : limit < 0
          · have k3 : decide (limit < 0) = true := decide_eq_true q3
            clear hno
            go_enter Tryd.func3, Tryd.ntmps3
            go_wp2_with (first
              | (go_at_call 6; ((with_reducible refine (HA1.out _ HX.out).mono ?_); rintro e w1 ⟨rfl, hb1⟩; obtain ⟨hc1, hf1⟩ := bcell hb1; have HX1 := Lib.hid ((HX).out.trans (Below.mono hb1 (HX).out.size)); have hz1 := hb1.size; (try simp at hz1); have hs1 : w.heap.size < w1.heap.size := (by omega)))
              | (go_at_call 7; ((with_reducible refine (HA3.out _ HX1.out).mono ?_); rintro e w2 ⟨rfl, hb2⟩; obtain ⟨hc2, hf2⟩ := bcell hb2; have HX2 := Lib.hid ((HX1).out.trans (Below.mono hb2 (HX1).out.size))))
              | (go_at_call 8; ((with_reducible refine (HK.out _ HX2.out).mono ?_); rintro e w3 ⟨rfl, hb3⟩; have HX3 := Lib.hid ((HX2).out.trans (Below.mono hb3 (HX2).out.size)))))
            go_ret
            exact ⟨rfl, HX3.out⟩
          · have k3 : decide (limit < 0) = false := decide_eq_false q3
            have k4 : decide (1099511627776 < limit) = true := decide_eq_true (by omega)
            clear hno
            go_enter Tryd.func3, Tryd.ntmps3
            go_wp2_with (first
              | (go_at_call 6; ((with_reducible refine (HA1.out _ HX.out).mono ?_); rintro e w1 ⟨rfl, hb1⟩; obtain ⟨hc1, hf1⟩ := bcell hb1; have HX1 := Lib.hid ((HX).out.trans (Below.mono hb1 (HX).out.size)); have hz1 := hb1.size; (try simp at hz1); have hs1 : w.heap.size < w1.heap.size := (by omega)))
              | (go_at_call 7; ((with_reducible refine (HA3.out _ HX1.out).mono ?_); rintro e w2 ⟨rfl, hb2⟩; obtain ⟨hc2, hf2⟩ := bcell hb2; have HX2 := Lib.hid ((HX1).out.trans (Below.mono hb2 (HX1).out.size))))
              | (go_at_call 8; ((with_reducible refine (HK.out _ HX2.out).mono ?_); rintro e w3 ⟨rfl, hb3⟩; have HX3 := Lib.hid ((HX2).out.trans (Below.mono hb3 (HX2).out.size)))))
            go_ret
            exact ⟨rfl, HX3.out⟩

set_option maxRecDepth 100000 in
set_option maxHeartbeats 8000000 in
theorem walk_yes (a c : Option Addr) (ka kc : Nat) (ms : List Mac) (xs : List Ins) (now limit : Int) (w : World) (hT : Tab10 w)
    (hF : MacL w a ms) (hl : ms.length ≤ maxLen) (hI : ∀ m ∈ ms, MacIn w m) (hG : InsL w c xs) (hm : xs.length ≤ maxLen)
    (h2 : lightY ms = true) (h3 : lightI xs = true) (h0 : 0 ≤ now) (h1 : now ≤ 1099511627776) (h4 : 0 ≤ limit) (h5 : limit ≤ 1099511627776) :
    Calls Tryd.prog 3 #[.slice a ms.length ka, .slice c xs.length kc, .agg #[.int .i64 now, .int .i64 limit]] w fun e w' => e = .returned (.bool true) ∧ Below w.heap.size w w' := by
  have hBw : Below w.heap.size w (w.alloc (.cells #[.int .i64 now, .int .i64 limit] 24)) := (Below.refl _ w).alloc (Nat.le_refl _) _
  have HX := Lib.hid hBw
  have K := fun V (hV : Below w.heap.size w V) => known_any V (hT.mono hV)
  have A1 := fun V (hV : Below w.heap.size w V) => lighty_any a ms ka V (hF.mono hV) hl (fun g hg => (hI g hg).mono hV)
  have A3 := fun V (hV : Below w.heap.size w V) => light29_any c kc xs V (hG.mono hV) hm
  rw [h2] at A1
  rw [h3] at A3
  have hm20 := ((lightY_iff ms).1 h2).1
  have hx60 := ((lightI_iff xs).1 h3).1
  obtain ⟨qa, hqa⟩ : ∃ q, (xs.filter (lateI now limit)).length = q := ⟨_, rfl⟩
  obtain ⟨qb, hqb⟩ : ∃ q, (xs.filter (comingI now limit)).length = q := ⟨_, rfl⟩
  have hla := List.length_filter_le (lateI now limit) xs
  have hlb := List.length_filter_le (comingI now limit) xs
  rw [hqa] at hla
  rw [hqb] at hlb
  have L1 := fun V (hV : Below w.heap.size w V) => late_is c kc qa xs now limit h0 h1 h4 h5 V (hG.mono hV) (by omega) hqa
  have L2 := fun V (hV : Below w.heap.size w V) => reflate_is c kc qa xs now limit h0 h1 h4 h5 V (hG.mono hV) (by omega) hqa
  have L3 := fun V (hV : Below w.heap.size w V) => coming_is c kc qb xs now limit h0 h1 h4 h5 V (hG.mono hV) (by omega) hqb
  have L4 := fun V (hV : Below w.heap.size w V) => refcoming_is c kc qb xs now limit h0 h1 h4 h5 V (hG.mono hV) (by omega) hqb
  have S1 := fun V (hV : Below w.heap.size w V) => share_any a ka ms V (hF.mono hV) (by omega)
  have S2 := fun V (hV : Below w.heap.size w V) => refshare_any a ka ms V (hF.mono hV) (by omega)
  have Z1 := fun name V (hV : Below w.heap.size w V) => size_any c kc xs name V (hG.mono hV) (by omega)
  have Z2 := fun name V (hV : Below w.heap.size w V) => refsize_any c kc xs name V (hG.mono hV) (by omega)
  obtain ⟨XA, hXA⟩ : ∃ X, xs.filter (lateI now limit) = X := ⟨_, rfl⟩
  obtain ⟨XB, hXB⟩ : ∃ X, xs.filter (comingI now limit) = X := ⟨_, rfl⟩
  rw [hXA] at L1 L2 hqa
  rw [hXB] at L3 L4 hqb
  obtain ⟨s, hsv⟩ : ∃ s, shareV ms = s := ⟨_, rfl⟩
  rw [hsv] at S1 S2
  have HG := Lib.hid hG
  have Hqa := Lib.hid hqa
  have Hqb := Lib.hid hqb
  obtain ⟨n, hn⟩ : ∃ n, ms.length = n := ⟨_, rfl⟩
  obtain ⟨n2, hn2⟩ : ∃ n, xs.length = n := ⟨_, rfl⟩
  rw [hn] at A1 S1 S2 hm20 ⊢
  rw [hn2] at A3 L1 L2 L3 L4 Z1 Z2 hx60 hla hlb ⊢
  have Hn2 := Lib.hid hn2
  have HKn := Lib.hid K
  have HA1 := Lib.hid A1
  have HA3 := Lib.hid A3
  have HL1 := Lib.hid L1
  have HL2 := Lib.hid L2
  have HL3 := Lib.hid L3
  have HL4 := Lib.hid L4
  have HS1 := Lib.hid S1
  have HS2 := Lib.hid S2
  have HZ1 := Lib.hid Z1
  have HZ2 := Lib.hid Z2
  have k1 : decide (now < 0) = false := decide_eq_false (by omega)
  have k2 : decide (1099511627776 < now) = false := decide_eq_false (by omega)
  have k3 : decide (limit < 0) = false := decide_eq_false (by omega)
  have k4 : decide (1099511627776 < limit) = false := decide_eq_false (by omega)
  have hsz : w.heap.size < (w.alloc (.cells #[.int .i64 now, .int .i64 limit] 24)).heap.size := by simp
  have x0 : (w.alloc (.cells #[.int .i64 now, .int .i64 limit] 24)).cell? ⟨w.heap.size, 0, none⟩ = some (.int .i64 now) := by simp [go_sem]
  have x1 : (w.alloc (.cells #[.int .i64 now, .int .i64 limit] 24)).cell? ⟨w.heap.size, 1, none⟩ = some (.int .i64 limit) := by simp [go_sem]
  have HX0 := Lib.hid (show (w.alloc (.cells #[.int .i64 now, .int .i64 limit] 24)).cell? ⟨w.heap.size, 0, none⟩ = some (.int .i64 now) ∧ (w.alloc (.cells #[.int .i64 now, .int .i64 limit] 24)).cell? ⟨w.heap.size, 1, none⟩ = some (.int .i64 limit) from ⟨x0, x1⟩)
  clear A1 A3 K h2 h3 hT hF hI hG L1 L2 L3 L4 S1 S2 Z1 Z2 hn hn2 hl hm hqa hqb hXA hXB hsv hBw x0 x1
  by_cases hn0 : n2 = 0
  · subst hn0
    have g0 : decide ((0 : Int) < ((0 : Nat) : Int)) = false := rfl
    go_enter Tryd.func3, Tryd.ntmps3
    go_wp2_with (first
      | (go_at_call 6; ((with_reducible refine (HA1.out _ HX.out).mono ?_); rintro e w1 ⟨rfl, hb1⟩; obtain ⟨hc1, hf1⟩ := bcell hb1; have HX1 := Lib.hid ((HX).out.trans (Below.mono hb1 (HX).out.size)); have hz1 := hb1.size; (try simp at hz1); have hs1 : w.heap.size < w1.heap.size := (by omega)))
      | (go_at_call 7; ((with_reducible refine (HA3.out _ HX1.out).mono ?_); rintro e w2 ⟨rfl, hb2⟩; obtain ⟨hc2, hf2⟩ := bcell hb2; have hz2 := hb2.size; have hs2 : w.heap.size < w2.heap.size := (by omega); have HX2 := Lib.hid ((HX1).out.trans (Below.mono hb2 (HX1).out.size)); skip)))
    have y0 : w2.cell? ⟨w.heap.size, 0, none⟩ = some (.int .i64 now) := by rw [hc2 _ _ hs1, hc1 _ _ hsz]; exact HX0.out.1
    have y1 : w2.cell? ⟨w.heap.size, 1, none⟩ = some (.int .i64 limit) := by rw [hc2 _ _ hs1, hc1 _ _ hsz]; exact HX0.out.2
    clear hc1 hf1 hc2 hf2 hz1 hz2 hb1 hb2
    have hcH := held_cell
    refine region_rel (by kernel_rfl) (by kernel_rfl) ?_
    (try dsimp only [List.append])
    repeat
      ((with_reducible refine relStep (fun K hK => ?_))
       (have HK := Lib.hid hK)
       clear hK
       (apply relInl
        · intro r n hf
          have Hf := Lib.hid hf
          clear hf
          (first
            | (fail)
            | (unfold relAt
               go_simp
               (first | (refine relUpon_val ?_ (Below.refl _ _); exact rfl) | exact rfl | (refine relUpon_enter ?_; (first | (go_at_call 9; (with_reducible refine (HS1.out _ (HX2.out.trans (Below.mono n.below HX2.out.size))).mono ?_); rintro e w9 ⟨rfl, hb⟩; exact ⟨⟨_, rfl, rfl⟩, hb⟩) | (go_at_call 10; (with_reducible refine (HS2.out _ (HX2.out.trans (Below.mono n.below HX2.out.size))).mono ?_); rintro e w9 ⟨rfl, hb⟩; exact ⟨⟨_, rfl, rfl⟩, hb⟩))))))
        (simp only [Act.put, List.setIfInBounds_toArray, List.set_cons_zero, List.set_cons_succ])
        (with_reducible refine HK.out _ _ ?_)
        clear HK K))
    (with_reducible refine relStep (fun K hK => ?_))
    (have HK := Lib.hid hK)
    clear hK
    refine relInr (IsI qa XA) (IsI.stays _ _) (fun r n hf => ?_) ?_
    · have Hf := Lib.hid hf
      clear hf HK K
      unfold relAt
      (skip)
      go_simp
      ((refine relUpon_enter ?_; go_at_call 12; (with_reducible refine (HL1.out _ (HX2.out.trans (Below.mono n.below HX2.out.size))).mono ?_); rintro e w9 ⟨⟨v, rfl, hv⟩, hb⟩; exact ⟨⟨_, rfl, hv⟩, hb⟩))
    (simp only [Act.put, List.setIfInBounds_toArray, List.set_cons_zero, List.set_cons_succ])
    (with_reducible refine HK.out _ _ ?_)
    clear HK K
    repeat
      ((with_reducible refine relStep (fun K hK => ?_))
       (have HK := Lib.hid hK)
       clear hK
       (apply relInl
        · intro r n hf
          have Hf := Lib.hid hf
          clear hf
          (first
            | (fail)
            | (unfold relAt
               go_simp
               (first | (refine relUpon_val ?_ (Below.refl _ _); exact rfl) | exact rfl | (refine relUpon_enter ?_; fail))))
        (simp only [Act.put, List.setIfInBounds_toArray, List.set_cons_zero, List.set_cons_succ])
        (with_reducible refine HK.out _ _ ?_)
        clear HK K))
    (with_reducible refine relStep (fun K hK => ?_))
    (have HK := Lib.hid hK)
    clear hK
    refine relInr (IsI qa XA) (IsI.stays _ _) (fun r n hf => ?_) ?_
    · have Hf := Lib.hid hf
      clear hf HK K
      unfold relAt
      (skip)
      go_simp
      ((refine relUpon_enter ?_; go_at_call 13; (with_reducible refine (HL2.out _ (HX2.out.trans (Below.mono n.below HX2.out.size))).mono ?_); rintro e w9 ⟨⟨v, rfl, hv⟩, hb⟩; exact ⟨⟨_, rfl, hv⟩, hb⟩))
    (simp only [Act.put, List.setIfInBounds_toArray, List.set_cons_zero, List.set_cons_succ])
    (with_reducible refine HK.out _ _ ?_)
    clear HK K
    ((with_reducible refine relStep (fun K hK => ?_))
     (have HK := Lib.hid hK)
     clear hK
     (apply relInl
      · intro r n hf
        have Hf := Lib.hid hf
        clear hf
        ((obtain ⟨a1, k1, e1, g1⟩ := given_at Hf.out 0 rfl (by dsimp only; decide +kernel); obtain ⟨a2, k2, e2, g2⟩ := given_at Hf.out 1 rfl (by dsimp only; decide +kernel); dsimp only at e1 e2; unfold relAt; go_simp; refine relUpon_enter ?_; go_at_call 11; (try rw [e1, e2]); (with_reducible refine (insts_same a1 a2 k1 k2 _ XA _ g1 g2 Hqa.out (by omega)).mono ?_); rintro e w9 ⟨rfl, hb⟩; exact ⟨⟨_, rfl, rfl⟩, hb⟩)))
     (simp only [Act.put, List.setIfInBounds_toArray, List.set_cons_zero, List.set_cons_succ])
     (with_reducible refine HK.out _ _ ?_)
     clear HK K)
    repeat
      ((with_reducible refine relStep (fun K hK => ?_))
       (have HK := Lib.hid hK)
       clear hK
       (apply relInl
        · intro r n hf
          have Hf := Lib.hid hf
          clear hf
          (first
            | (fail)
            | (unfold relAt
               go_simp
               (first | (refine relUpon_val ?_ (Below.refl _ _); exact rfl) | exact rfl | (refine relUpon_enter ?_; fail))))
        (simp only [Act.put, List.setIfInBounds_toArray, List.set_cons_zero, List.set_cons_succ])
        (with_reducible refine HK.out _ _ ?_)
        clear HK K))
    (with_reducible refine relStep (fun K hK => ?_))
    (have HK := Lib.hid hK)
    clear hK
    refine relInr (IsI qb XB) (IsI.stays _ _) (fun r n hf => ?_) ?_
    · have Hf := Lib.hid hf
      clear hf HK K
      unfold relAt
      (skip)
      go_simp
      ((refine relUpon_enter ?_; go_at_call 14; (with_reducible refine (HL3.out _ (HX2.out.trans (Below.mono n.below HX2.out.size))).mono ?_); rintro e w9 ⟨⟨v, rfl, hv⟩, hb⟩; exact ⟨⟨_, rfl, hv⟩, hb⟩))
    (simp only [Act.put, List.setIfInBounds_toArray, List.set_cons_zero, List.set_cons_succ])
    (with_reducible refine HK.out _ _ ?_)
    clear HK K
    repeat
      ((with_reducible refine relStep (fun K hK => ?_))
       (have HK := Lib.hid hK)
       clear hK
       (apply relInl
        · intro r n hf
          have Hf := Lib.hid hf
          clear hf
          (first
            | (fail)
            | (unfold relAt
               go_simp
               (first | (refine relUpon_val ?_ (Below.refl _ _); exact rfl) | exact rfl | (refine relUpon_enter ?_; fail))))
        (simp only [Act.put, List.setIfInBounds_toArray, List.set_cons_zero, List.set_cons_succ])
        (with_reducible refine HK.out _ _ ?_)
        clear HK K))
    (with_reducible refine relStep (fun K hK => ?_))
    (have HK := Lib.hid hK)
    clear hK
    refine relInr (IsI qb XB) (IsI.stays _ _) (fun r n hf => ?_) ?_
    · have Hf := Lib.hid hf
      clear hf HK K
      unfold relAt
      (skip)
      go_simp
      ((refine relUpon_enter ?_; go_at_call 15; (with_reducible refine (HL4.out _ (HX2.out.trans (Below.mono n.below HX2.out.size))).mono ?_); rintro e w9 ⟨⟨v, rfl, hv⟩, hb⟩; exact ⟨⟨_, rfl, hv⟩, hb⟩))
    (simp only [Act.put, List.setIfInBounds_toArray, List.set_cons_zero, List.set_cons_succ])
    (with_reducible refine HK.out _ _ ?_)
    clear HK K
    ((with_reducible refine relStep (fun K hK => ?_))
     (have HK := Lib.hid hK)
     clear hK
     (apply relInl
      · intro r n hf
        have Hf := Lib.hid hf
        clear hf
        ((obtain ⟨a1, k1, e1, g1⟩ := given_at Hf.out 2 rfl (by dsimp only; decide +kernel); obtain ⟨a2, k2, e2, g2⟩ := given_at Hf.out 3 rfl (by dsimp only; decide +kernel); dsimp only at e1 e2; unfold relAt; go_simp; refine relUpon_enter ?_; go_at_call 11; (try rw [e1, e2]); (with_reducible refine (insts_same a1 a2 k1 k2 _ XB _ g1 g2 Hqb.out (by omega)).mono ?_); rintro e w9 ⟨rfl, hb⟩; exact ⟨⟨_, rfl, rfl⟩, hb⟩)))
     (simp only [Act.put, List.setIfInBounds_toArray, List.set_cons_zero, List.set_cons_succ])
     (with_reducible refine HK.out _ _ ?_)
     clear HK K)
    repeat
      ((with_reducible refine relStep (fun K hK => ?_))
       (have HK := Lib.hid hK)
       clear hK
       (apply relInl
        · intro r n hf
          have Hf := Lib.hid hf
          clear hf
          (first
            | (fail)
            | (unfold relAt
               go_simp
               (first | (refine relUpon_val ?_ (Below.refl _ _); exact rfl) | exact rfl | (refine relUpon_enter ?_; (first | (go_at_call 16; (with_reducible refine (HZ1.out _ _ (HX2.out.trans (Below.mono n.below HX2.out.size))).mono ?_); rintro e w9 ⟨rfl, hb⟩; exact ⟨⟨_, rfl, rfl⟩, hb⟩) | (go_at_call 17; (with_reducible refine (HZ2.out _ _ (HX2.out.trans (Below.mono n.below HX2.out.size))).mono ?_); rintro e w9 ⟨rfl, hb⟩; exact ⟨⟨_, rfl, rfl⟩, hb⟩) | (go_at_call 8; (with_reducible refine (HKn.out _ (HX2.out.trans (Below.mono n.below HX2.out.size))).mono ?_); rintro e w9 ⟨rfl, hb⟩; exact ⟨⟨_, rfl, rfl⟩, hb⟩))))))
        (simp only [Act.put, List.setIfInBounds_toArray, List.set_cons_zero, List.set_cons_succ])
        (with_reducible refine HK.out _ _ ?_)
        clear HK K))
    refine relNil ?_
    intro r9 n9 hx9
    clear hcH
    (try simp only [List.nil_append, List.cons_append, List.mem_cons, List.not_mem_nil, or_false, forall_eq_or_imp, forall_eq, false_implies, implies_true] at hx9)
    obtain ⟨w9, hb9⟩ := n9
    (try dsimp only)
    obtain ⟨hc9, hf9⟩ := bcell hb9
    have hz9 := hb9.size
    (try simp at hz9)
    have HX9 := Lib.hid (HX2.out.trans (Below.mono hb9 HX2.out.size))
    go_wp2
    go_ret
    exact ⟨rfl, HX9.out⟩
  · have g0 : decide ((0 : Int) < (n2 : Int)) = true := decide_eq_true (by omega)
    obtain ⟨x, hx⟩ := mem_at (l := xs) (k := 0) (by rw [Hn2.out]; omega)
    obtain ⟨b, off, e1, hb, hc⟩ := HG.out (by rw [Hn2.out]; omega)
    subst e1
    have hq1 := (irow_cells (hc 0 x hx)).2.1
    simp only [Nat.zero_mul, Nat.add_zero] at hq1
    have Hq1 := Lib.hid hq1
    clear hq1
    clear hc hx
    go_enter Tryd.func3, Tryd.ntmps3
    go_wp2_with (first
      | (go_at_call 6; ((with_reducible refine (HA1.out _ HX.out).mono ?_); rintro e w1 ⟨rfl, hb1⟩; obtain ⟨hc1, hf1⟩ := bcell hb1; have HX1 := Lib.hid ((HX).out.trans (Below.mono hb1 (HX).out.size)); have hz1 := hb1.size; (try simp at hz1); have hs1 : w.heap.size < w1.heap.size := (by omega)))
      | (go_at_call 7; ((with_reducible refine (HA3.out _ HX1.out).mono ?_); rintro e w2 ⟨rfl, hb2⟩; obtain ⟨hc2, hf2⟩ := bcell hb2; have hz2 := hb2.size; have hs2 : w.heap.size < w2.heap.size := (by omega); have HX2 := Lib.hid ((HX1).out.trans (Below.mono hb2 (HX1).out.size)); have hq2 := (HX2.out.cell (p := ⟨b, off + 1, none⟩) hb).trans Hq1.out)))
    have y0 : w2.cell? ⟨w.heap.size, 0, none⟩ = some (.int .i64 now) := by rw [hc2 _ _ hs1, hc1 _ _ hsz]; exact HX0.out.1
    have y1 : w2.cell? ⟨w.heap.size, 1, none⟩ = some (.int .i64 limit) := by rw [hc2 _ _ hs1, hc1 _ _ hsz]; exact HX0.out.2
    clear hc1 hf1 hc2 hf2 hz1 hz2 hb1 hb2
    have hcH := held_cell
    refine region_rel (by kernel_rfl) (by kernel_rfl) ?_
    (try dsimp only [List.append])
    repeat
      ((with_reducible refine relStep (fun K hK => ?_))
       (have HK := Lib.hid hK)
       clear hK
       (apply relInl
        · intro r n hf
          have Hf := Lib.hid hf
          clear hf
          (first
            | (fail)
            | (unfold relAt
               go_simp
               (first | (refine relUpon_val ?_ (Below.refl _ _); exact rfl) | exact rfl | (refine relUpon_enter ?_; (first | (go_at_call 9; (with_reducible refine (HS1.out _ (HX2.out.trans (Below.mono n.below HX2.out.size))).mono ?_); rintro e w9 ⟨rfl, hb⟩; exact ⟨⟨_, rfl, rfl⟩, hb⟩) | (go_at_call 10; (with_reducible refine (HS2.out _ (HX2.out.trans (Below.mono n.below HX2.out.size))).mono ?_); rintro e w9 ⟨rfl, hb⟩; exact ⟨⟨_, rfl, rfl⟩, hb⟩))))))
        (simp only [Act.put, List.setIfInBounds_toArray, List.set_cons_zero, List.set_cons_succ])
        (with_reducible refine HK.out _ _ ?_)
        clear HK K))
    (with_reducible refine relStep (fun K hK => ?_))
    (have HK := Lib.hid hK)
    clear hK
    refine relInr (IsI qa XA) (IsI.stays _ _) (fun r n hf => ?_) ?_
    · have Hf := Lib.hid hf
      clear hf HK K
      unfold relAt
      (skip)
      go_simp
      ((refine relUpon_enter ?_; go_at_call 12; (with_reducible refine (HL1.out _ (HX2.out.trans (Below.mono n.below HX2.out.size))).mono ?_); rintro e w9 ⟨⟨v, rfl, hv⟩, hb⟩; exact ⟨⟨_, rfl, hv⟩, hb⟩))
    (simp only [Act.put, List.setIfInBounds_toArray, List.set_cons_zero, List.set_cons_succ])
    (with_reducible refine HK.out _ _ ?_)
    clear HK K
    repeat
      ((with_reducible refine relStep (fun K hK => ?_))
       (have HK := Lib.hid hK)
       clear hK
       (apply relInl
        · intro r n hf
          have Hf := Lib.hid hf
          clear hf
          (first
            | (fail)
            | (unfold relAt
               go_simp
               (first | (refine relUpon_val ?_ (Below.refl _ _); exact rfl) | exact rfl | (refine relUpon_enter ?_; fail))))
        (simp only [Act.put, List.setIfInBounds_toArray, List.set_cons_zero, List.set_cons_succ])
        (with_reducible refine HK.out _ _ ?_)
        clear HK K))
    (with_reducible refine relStep (fun K hK => ?_))
    (have HK := Lib.hid hK)
    clear hK
    refine relInr (IsI qa XA) (IsI.stays _ _) (fun r n hf => ?_) ?_
    · have Hf := Lib.hid hf
      clear hf HK K
      unfold relAt
      (skip)
      go_simp
      ((refine relUpon_enter ?_; go_at_call 13; (with_reducible refine (HL2.out _ (HX2.out.trans (Below.mono n.below HX2.out.size))).mono ?_); rintro e w9 ⟨⟨v, rfl, hv⟩, hb⟩; exact ⟨⟨_, rfl, hv⟩, hb⟩))
    (simp only [Act.put, List.setIfInBounds_toArray, List.set_cons_zero, List.set_cons_succ])
    (with_reducible refine HK.out _ _ ?_)
    clear HK K
    ((with_reducible refine relStep (fun K hK => ?_))
     (have HK := Lib.hid hK)
     clear hK
     (apply relInl
      · intro r n hf
        have Hf := Lib.hid hf
        clear hf
        ((obtain ⟨a1, k1, e1, g1⟩ := given_at Hf.out 0 rfl (by dsimp only; decide +kernel); obtain ⟨a2, k2, e2, g2⟩ := given_at Hf.out 1 rfl (by dsimp only; decide +kernel); dsimp only at e1 e2; unfold relAt; go_simp; refine relUpon_enter ?_; go_at_call 11; (try rw [e1, e2]); (with_reducible refine (insts_same a1 a2 k1 k2 _ XA _ g1 g2 Hqa.out (by omega)).mono ?_); rintro e w9 ⟨rfl, hb⟩; exact ⟨⟨_, rfl, rfl⟩, hb⟩)))
     (simp only [Act.put, List.setIfInBounds_toArray, List.set_cons_zero, List.set_cons_succ])
     (with_reducible refine HK.out _ _ ?_)
     clear HK K)
    repeat
      ((with_reducible refine relStep (fun K hK => ?_))
       (have HK := Lib.hid hK)
       clear hK
       (apply relInl
        · intro r n hf
          have Hf := Lib.hid hf
          clear hf
          (first
            | (fail)
            | (unfold relAt
               go_simp
               (first | (refine relUpon_val ?_ (Below.refl _ _); exact rfl) | exact rfl | (refine relUpon_enter ?_; fail))))
        (simp only [Act.put, List.setIfInBounds_toArray, List.set_cons_zero, List.set_cons_succ])
        (with_reducible refine HK.out _ _ ?_)
        clear HK K))
    (with_reducible refine relStep (fun K hK => ?_))
    (have HK := Lib.hid hK)
    clear hK
    refine relInr (IsI qb XB) (IsI.stays _ _) (fun r n hf => ?_) ?_
    · have Hf := Lib.hid hf
      clear hf HK K
      unfold relAt
      (skip)
      go_simp
      ((refine relUpon_enter ?_; go_at_call 14; (with_reducible refine (HL3.out _ (HX2.out.trans (Below.mono n.below HX2.out.size))).mono ?_); rintro e w9 ⟨⟨v, rfl, hv⟩, hb⟩; exact ⟨⟨_, rfl, hv⟩, hb⟩))
    (simp only [Act.put, List.setIfInBounds_toArray, List.set_cons_zero, List.set_cons_succ])
    (with_reducible refine HK.out _ _ ?_)
    clear HK K
    repeat
      ((with_reducible refine relStep (fun K hK => ?_))
       (have HK := Lib.hid hK)
       clear hK
       (apply relInl
        · intro r n hf
          have Hf := Lib.hid hf
          clear hf
          (first
            | (fail)
            | (unfold relAt
               go_simp
               (first | (refine relUpon_val ?_ (Below.refl _ _); exact rfl) | exact rfl | (refine relUpon_enter ?_; fail))))
        (simp only [Act.put, List.setIfInBounds_toArray, List.set_cons_zero, List.set_cons_succ])
        (with_reducible refine HK.out _ _ ?_)
        clear HK K))
    (with_reducible refine relStep (fun K hK => ?_))
    (have HK := Lib.hid hK)
    clear hK
    refine relInr (IsI qb XB) (IsI.stays _ _) (fun r n hf => ?_) ?_
    · have Hf := Lib.hid hf
      clear hf HK K
      unfold relAt
      (skip)
      go_simp
      ((refine relUpon_enter ?_; go_at_call 15; (with_reducible refine (HL4.out _ (HX2.out.trans (Below.mono n.below HX2.out.size))).mono ?_); rintro e w9 ⟨⟨v, rfl, hv⟩, hb⟩; exact ⟨⟨_, rfl, hv⟩, hb⟩))
    (simp only [Act.put, List.setIfInBounds_toArray, List.set_cons_zero, List.set_cons_succ])
    (with_reducible refine HK.out _ _ ?_)
    clear HK K
    ((with_reducible refine relStep (fun K hK => ?_))
     (have HK := Lib.hid hK)
     clear hK
     (apply relInl
      · intro r n hf
        have Hf := Lib.hid hf
        clear hf
        ((obtain ⟨a1, k1, e1, g1⟩ := given_at Hf.out 2 rfl (by dsimp only; decide +kernel); obtain ⟨a2, k2, e2, g2⟩ := given_at Hf.out 3 rfl (by dsimp only; decide +kernel); dsimp only at e1 e2; unfold relAt; go_simp; refine relUpon_enter ?_; go_at_call 11; (try rw [e1, e2]); (with_reducible refine (insts_same a1 a2 k1 k2 _ XB _ g1 g2 Hqb.out (by omega)).mono ?_); rintro e w9 ⟨rfl, hb⟩; exact ⟨⟨_, rfl, rfl⟩, hb⟩)))
     (simp only [Act.put, List.setIfInBounds_toArray, List.set_cons_zero, List.set_cons_succ])
     (with_reducible refine HK.out _ _ ?_)
     clear HK K)
    repeat
      ((with_reducible refine relStep (fun K hK => ?_))
       (have HK := Lib.hid hK)
       clear hK
       (apply relInl
        · intro r n hf
          have Hf := Lib.hid hf
          clear hf
          (first
            | (fail)
            | (unfold relAt
               go_simp
               (first | (refine relUpon_val ?_ (Below.refl _ _); exact rfl) | exact rfl | (refine relUpon_enter ?_; (first | (go_at_call 16; (with_reducible refine (HZ1.out _ _ (HX2.out.trans (Below.mono n.below HX2.out.size))).mono ?_); rintro e w9 ⟨rfl, hb⟩; exact ⟨⟨_, rfl, rfl⟩, hb⟩) | (go_at_call 17; (with_reducible refine (HZ2.out _ _ (HX2.out.trans (Below.mono n.below HX2.out.size))).mono ?_); rintro e w9 ⟨rfl, hb⟩; exact ⟨⟨_, rfl, rfl⟩, hb⟩) | (go_at_call 8; (with_reducible refine (HKn.out _ (HX2.out.trans (Below.mono n.below HX2.out.size))).mono ?_); rintro e w9 ⟨rfl, hb⟩; exact ⟨⟨_, rfl, rfl⟩, hb⟩))))))
        (simp only [Act.put, List.setIfInBounds_toArray, List.set_cons_zero, List.set_cons_succ])
        (with_reducible refine HK.out _ _ ?_)
        clear HK K))
    refine relNil ?_
    intro r9 n9 hx9
    clear hcH
    (try simp only [List.nil_append, List.cons_append, List.mem_cons, List.not_mem_nil, or_false, forall_eq_or_imp, forall_eq, false_implies, implies_true] at hx9)
    obtain ⟨w9, hb9⟩ := n9
    (try dsimp only)
    obtain ⟨hc9, hf9⟩ := bcell hb9
    have hz9 := hb9.size
    (try simp at hz9)
    have HX9 := Lib.hid (HX2.out.trans (Below.mono hb9 HX2.out.size))
    go_wp2
    go_ret
    exact ⟨rfl, HX9.out⟩

theorem walk (a c : Option Addr) (ka kc : Nat) (ms : List Mac) (xs : List Ins) (now limit : Int) (w : World) (hT : Tab10 w)
    (hF : MacL w a ms) (hl : ms.length ≤ maxLen) (hI : ∀ m ∈ ms, MacIn w m) (hG : InsL w c xs) (hm : xs.length ≤ maxLen) :
    Calls Tryd.prog 3 #[.slice a ms.length ka, .slice c xs.length kc, .agg #[.int .i64 now, .int .i64 limit]] w fun e w' => e = .returned (.bool true) ∧ Below w.heap.size w w' := by
  by_cases h : lightY ms = true ∧ lightI xs = true ∧ (0 ≤ now ∧ now ≤ 1099511627776 ∧ 0 ≤ limit ∧ limit ≤ 1099511627776)
  · exact walk_yes a c ka kc ms xs now limit w hT hF hl hI hG hm h.1 h.2.1 h.2.2.1 h.2.2.2.1 h.2.2.2.2.1 h.2.2.2.2.2
  · exact walk_no a c ka kc ms xs now limit w hT hF hl hI hG hm fun h1 h2 h3 => h ⟨h1, h2, h3⟩
theorem okWide_array {P : Program} {w : World} {r : Reach} {base : Nat} {t e : TypeId} {v : Value} {n : Nat} (ht : P.underlying t = some (.array n e)) (h : Value.okWide P w r base t v) : ∃ cs, v = .agg cs ∧ cs.size = P.cellsOf t := by
  simp only [Value.okWide, ht] at h
  obtain ⟨cs, h1, h2, _⟩ := h
  exact ⟨cs, h1, h2⟩
theorem cells2 : Tryd.prog.cellsOf 24 = 2 := by kernel_rfl
set_option maxRecDepth 100000 in
theorem open_two {H : Type} {enc : TypeId × Value → H} {W : World} {base : Nat} {v : Value} {d : DataW H} {p : List MemPlace}
    (hv : Value.okWide Tryd.prog W .any base 24 v) (h : DataW.Trod enc Tryd.prog W 0 (fun _ => true) true 24 v d p) : ∃ x y : Int, v = .agg #[.int .i64 x, .int .i64 y] := by
  obtain ⟨cs, rfl, hsz⟩ := okWide_array Tryd.underlying24 hv
  rw [cells2] at hsz
  obtain ⟨fuel, hf⟩ := h
  obtain ⟨l⟩ := cs
  match l, hsz with
  | [c0, c1], _ =>
    obtain ⟨xs, m, _, _, _, hlen, hg⟩ := DataW.trod_array Tryd.underlying24 hf
    match xs, hlen with
    | [y0, y1], _ =>
      have g0 := hg 0 (by decide)
      have g1 := hg 1 (by decide)
      obtain ⟨n0, q0, _⟩ := DataW.trod_int Tryd.underlying3 g0
      obtain ⟨n1, q1, _⟩ := DataW.trod_int Tryd.underlying3 g1
      simp [cells_int, Value.cells] at q0 q1
      exact ⟨n0, n1, by rw [q0, q1]⟩

set_option maxRecDepth 100000 in
theorem lifted (os : Os) (started : os.Started) (H : Type) (enc : TypeId × Value → H) :
    ReturnsInHanded {} Tryd.checked os 3 .any (fun w args => (Rows.healthTellsSpec.pre enc Tryd.prog Tryd.f3 Rows.healthTellsRow.domain false w args ∧ laidMetH Tryd.prog Rows.healthTellsRow.laid w) ∧ sizedMet enc Tryd.prog Tryd.f3 (OpenSpec.ofChange Rows.healthTellsSpec) false w args)
      (Rows.healthTellsSpec.post enc Tryd.prog Tryd.f3 false true false false) := by
  refine returnsInHanded_of_change_and (C := Tryd.checked) (X := fun w _ => laidMetH Tryd.prog Rows.healthTellsRow.laid w) (fun _ _ _ hh h => h.of_heap hh) Tryd.own started (by kernel_rfl) Tryd.func3
    (ChangeSpec.witness_at (enc := enc) (C := Tryd.checked) (os := os) (X := fun w _ => laidMetH Tryd.prog Rows.healthTellsRow.laid w) false (laidWorld os) #[.slice none 0 0, .slice none 0 0, .agg #[.int .i64 0, .int .i64 0]] 8 rfl (by kernel_rfl) (by kernel_rfl) (by kernel_rfl) (by kernel_rfl) (by kernel_rfl) (laidWorld_met os _)) ?_
  intro W base args ds gs before hval hW _ _ hL _
  have hW' := hW
  obtain ⟨p, q, hA, hV, rfl, hfz, hnd⟩ := hW
  rw [Tryd.params3] at hA hval
  obtain ⟨v0, v1, v2, d0, d1, d2, p0, p1, p2, rfl, rfl, rfl, h0, h1, h2⟩ := trodAll_three hA
  obtain ⟨a, l, ka, rfl, _, hF, hl, _, hI⟩ := open_macs (hval 0 22 v0 rfl rfl) h0
  obtain ⟨c, xs, kc, rfl, _, hG, hm, _⟩ := open_ins (hval 1 23 v1 rfl rfl) h1
  obtain ⟨x, y, rfl⟩ := open_two (hval 2 24 v2 rfl rfl) h2
  refine (walk a c ka kc l xs x y W (tab_of hL) hF hl hI hG hm).mono fun e W' ⟨he, hb⟩ => ?_
  exact ⟨_, he, law_post Tryd.laidOut hW' rfl (by kernel_rfl) (by kernel_rfl) Tryd.underlying4 rfl rfl rfl hb⟩

theorem over : Rows.HealthTellsSaid :=
  OpenClaim.holds_of_wide 3 Tryd.f3 rfl rfl rfl rfl rfl rfl rfl ⟨rfl, rfl, rfl, rfl, rfl⟩ rfl rfl rfl rfl rfl (by kernel_rfl) Tryd.func3 (by kernel_rfl)
    (of_decide_eq_true (by kernel_rfl)) (by unfold Func.isWrapper; first | (rw [if_pos (by decide +kernel)]; kernel_rfl) | (rw [if_neg (by decide +kernel)]; exact ⟨rfl, rfl⟩))
    (fun os started H enc _ => lifted os started H enc)

/-- The statement: the card. -/
theorem proved : Rows.HealthTellsCardSaid :=
  Claim7.holds_tied_plain_at .later [] [.data, .data, .data] true Rows.healthTellsCard.stood.harness Rows.healthTellsCard.stood.looks
    over (fun _ h => by cases h) (by kernel_rfl) (fun _ h => by cases h) healthTells_row_tie rfl ⟨rfl, rfl⟩ (by kernel_rfl) rfl
    (fun f fn hf hfn => by
      obtain rfl : f = 3 := Option.some.inj ((show Tryd.prog.funcNamed Rows.healthTellsRow.func = some 3 by kernel_rfl).symm.trans hf) |>.symm
      obtain rfl : fn = Tryd.f3 := (Option.some.inj (Tryd.func3.symm.trans hfn)).symm
      exact ⟨by kernel_rfl, fun j t ht => by
        rw [Tryd.params3] at ht
        rcases j with _ | _ | _ | j
        · obtain rfl : t = 22 := by simpa using ht.symm
          exact (show Tryd.prog.wantsStandIn 22 = false by kernel_rfl)
        · obtain rfl : t = 23 := by simpa using ht.symm
          exact (show Tryd.prog.wantsStandIn 23 = false by kernel_rfl)
        · obtain rfl : t = 24 := by simpa using ht.symm
          exact (show Tryd.prog.wantsStandIn 24 = false by kernel_rfl)
        · simp at ht⟩)
    (by kernel_rfl)
end healthTells
end Go.Proofs.YtbomcghjifgfoaaDoor
