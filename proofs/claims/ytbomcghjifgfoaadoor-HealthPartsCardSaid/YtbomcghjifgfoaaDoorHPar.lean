/-
  HealthParts: each instance that does not leave is either late or coming, and has its state; with a greater limit none more is late; the share is 0 to 1000, and 0 just if all are ready, or too few are not.
-/
import Derived.Test.YtbomcghjifgfoaaDoorHKn
import Derived.Test.YtbomcghjifgfoaaDoorHOpn
import Derived.Test.YtbomcghjifgfoaaDoorLgtY
import Derived.Test.YtbomcghjifgfoaaDoorGLaid
namespace Go.Proofs.YtbomcghjifgfoaaDoor
open Go.ChangeShapes Go.WideShapes Go.ChangeAt Go.RowKit
set_option linter.unusedVariables false
namespace healthParts
/-- Those that do not leave. -/
def stI (x : Ins) : Bool := decide (x.st = 1) || decide (x.st = 2) || decide (x.st = 4)
theorem parts_one (now limit : Int) (x : Ins) : (if lateI now limit x then 1 else 0) + (if comingI now limit x then 1 else 0) = (if stI x then 1 else 0 : Nat) := by
  unfold lateI comingI stI awB
  by_cases h1 : x.st = 1
  · have h4 : ¬ x.st = 4 := by omega
    cases odB now limit x <;> simp [h1]
  · by_cases h2 : x.st = 2
    · cases odB now limit x <;> simp [h2]
    · by_cases h4 : x.st = 4 <;> simp [h1, h2, h4]
theorem filt_cons_len {α : Type} (P : α → Bool) (x : α) (l : List α) : ((x :: l).filter P).length = (if P x then 1 else 0) + (l.filter P).length := by
  cases h : P x
  · rw [List.filter_cons_of_neg (by rw [h]; decide)]; simp
  · rw [List.filter_cons_of_pos h, List.length_cons]; simp; omega
theorem parts_len (now limit : Int) : ∀ l : List Ins, (l.filter (lateI now limit)).length + (l.filter (comingI now limit)).length = (l.filter stI).length
  | [] => rfl
  | x :: l => by
    have h := parts_len now limit l
    have h1 := parts_one now limit x
    rw [filt_cons_len, filt_cons_len, filt_cons_len]
    omega
theorem late_less (now limit : Int) : ∀ l : List Ins, (l.filter (lateI now (limit + 5))).length ≤ (l.filter (lateI now limit)).length
  | [] => Nat.le_refl _
  | x :: l => by
    have h := late_less now limit l
    rw [filt_cons_len, filt_cons_len]
    have h1 : lateI now (limit + 5) x = true → lateI now limit x = true := by
      unfold lateI odB
      simp only [Bool.or_eq_true, Bool.and_eq_true, decide_eq_true_eq]
      rintro (h | ⟨h, h2⟩)
      · exact .inl h
      · exact .inr ⟨h, by omega⟩
    cases ha : lateI now (limit + 5) x
    · simp; omega
    · rw [h1 ha]; simp; omega
theorem share_ok (ms : List Mac) (h : ms.length ≤ 20) : 0 ≤ shareV ms ∧ shareV ms ≤ 1000 ∧ (decide (0 < shareV ms) = decide (0 < ((ms.filter badG).length : Int))) := by
  have hb := bad_le ms
  have ha := List.length_filter_le inG ms
  unfold shareV
  by_cases h0 : (ms.filter inG).length = 0
  · rw [if_pos h0]
    have : (ms.filter badG).length = 0 := by omega
    rw [this]
    exact ⟨by omega, by omega, rfl⟩
  · rw [if_neg h0]
    generalize (ms.filter badG).length = x at hb ⊢
    generalize (ms.filter inG).length = y at hb ha h0 ⊢
    have hy : (0 : Int) < (y : Int) := by omega
    refine ⟨Int.ediv_nonneg (by omega) (by omega), ?_, ?_⟩
    · have h1 : (1000 * (x : Int)) / (y : Int) ≤ (1000 * (y : Int)) / (y : Int) := Int.ediv_le_ediv hy (by omega)
      rw [Int.mul_ediv_cancel _ (by omega)] at h1
      exact h1
    · by_cases hx : x = 0
      · subst hx
        simp
      · have h1 : (1 : Int) ≤ (1000 * (x : Int)) / (y : Int) := (Int.le_ediv_iff_mul_le hy).2 (by omega)
        rw [decide_eq_true (by omega : (0 : Int) < (1000 * (x : Int)) / (y : Int)), decide_eq_true (by omega : (0 : Int) < (x : Int))]
theorem stI_yes {x : Ins} (h : (x.st == 4) = true ∨ (x.st == 1) = true ∨ (x.st == 2) = true) : stI x = true := by
  unfold stI
  simp at h ⊢
  omega
theorem stI_no {x : Ins} (h4 : (x.st == 4) = false) (h1 : (x.st == 1) = false) (h2 : (x.st == 2) = false) : stI x = false := by
  unfold stI
  simp at h4 h1 h2 ⊢
  omega

set_option maxRecDepth 100000 in
set_option maxHeartbeats 8000000 in
theorem walk (a c : Option Addr) (ka kc : Nat) (ms : List Mac) (xs : List Ins) (now : Int) (h0 : 0 ≤ now) (h1 : now ≤ 65535) (w : World) (hT : Tab10 w)
    (hF : MacL w a ms) (hl : ms.length ≤ maxLen) (hI : ∀ m ∈ ms, MacIn w m) (hG : InsL w c xs) (hm : xs.length ≤ maxLen) :
    Calls Tryd.prog 5 #[.slice a ms.length ka, .slice c xs.length kc, .int .u16 now] w fun e w' => e = .returned (.bool true) ∧ Below w.heap.size w w' := by
  have HX := Lib.hid (Below.refl w.heap.size w)
  have K := fun V (hV : Below w.heap.size w V) => known_any V (hT.mono hV)
  have A1 := fun V (hV : Below w.heap.size w V) => lighty_any a ms ka V (hF.mono hV) hl (fun g hg => (hI g hg).mono hV)
  have A3 := fun V (hV : Below w.heap.size w V) => light29_any c kc xs V (hG.mono hV) hm
  have HK := Lib.hid K
  have hwr : IntKind.i64.wrap now = now := wrap_in (by omega) (by omega)
  cases h2 : lightY ms
  · rw [h2] at A1
    have HA1 := Lib.hid A1
    clear A1 A3 K h2 hT hF hI hG
    go_enter Tryd.func5, Tryd.ntmps5
    go_wp2_with (first
      | (go_at_call 6; ((with_reducible refine (HA1.out _ HX.out).mono ?_); rintro e w1 ⟨rfl, hb1⟩; have HX1 := Lib.hid ((HX).out.trans (Below.mono hb1 (HX).out.size))))
      | (go_at_call 8; ((with_reducible refine (HK.out _ HX1.out).mono ?_); rintro e w2 ⟨rfl, hb2⟩; have HX2 := Lib.hid ((HX1).out.trans (Below.mono hb2 (HX1).out.size)))))
    go_ret
    exact ⟨rfl, HX2.out⟩
  · rw [h2] at A1
    have HA1 := Lib.hid A1
    cases h3 : lightI xs
    · rw [h3] at A3
      have HA3 := Lib.hid A3
      clear A1 A3 K h2 h3 hT hF hI hG
      go_enter Tryd.func5, Tryd.ntmps5
      go_wp2_with (first
        | (go_at_call 6; ((with_reducible refine (HA1.out _ HX.out).mono ?_); rintro e w1 ⟨rfl, hb1⟩; have HX1 := Lib.hid ((HX).out.trans (Below.mono hb1 (HX).out.size))))
        | (go_at_call 7; ((with_reducible refine (HA3.out _ HX1.out).mono ?_); rintro e w2 ⟨rfl, hb2⟩; have HX2 := Lib.hid ((HX1).out.trans (Below.mono hb2 (HX1).out.size))))
        | (go_at_call 8; ((with_reducible refine (HK.out _ HX2.out).mono ?_); rintro e w3 ⟨rfl, hb3⟩; have HX3 := Lib.hid ((HX2).out.trans (Below.mono hb3 (HX2).out.size)))))
      go_ret
      exact ⟨rfl, HX3.out⟩
    · rw [h3] at A3
      have HA3 := Lib.hid A3
      have hm20 := ((lightY_iff ms).1 h2).1
      have hx60 := ((lightI_iff xs).1 h3).1
      obtain ⟨qa, hqa⟩ : ∃ q, (xs.filter (lateI now (ms.length : Int))).length = q := ⟨_, rfl⟩
      obtain ⟨qb, hqb⟩ : ∃ q, (xs.filter (comingI now (ms.length : Int))).length = q := ⟨_, rfl⟩
      obtain ⟨qc, hqc⟩ : ∃ q, (xs.filter (lateI now ((ms.length : Int) + 5))).length = q := ⟨_, rfl⟩
      have hp1 := parts_len now (ms.length : Int) xs
      have hp2 := late_less now (ms.length : Int) xs
      rw [hqa, hqb] at hp1
      rw [hqa, hqc] at hp2
      have hs := share_ok ms hm20
      have L1 := fun V (hV : Below w.heap.size w V) => late_is c kc qa xs now (ms.length : Int) h0 (by omega) (by omega) (by omega) V (hG.mono hV) (by omega) hqa
      have L2 := fun V (hV : Below w.heap.size w V) => coming_is c kc qb xs now (ms.length : Int) h0 (by omega) (by omega) (by omega) V (hG.mono hV) (by omega) hqb
      have L3 := fun V (hV : Below w.heap.size w V) => late_is c kc qc xs now ((ms.length : Int) + 5) h0 (by omega) (by omega) (by omega) V (hG.mono hV) (by omega) hqc
      have S1 := fun V (hV : Below w.heap.size w V) => share_any a ka ms V (hF.mono hV) (by omega)
      obtain ⟨s, hsv⟩ : ∃ s, shareV ms = s := ⟨_, rfl⟩
      rw [hsv] at S1 hs
      obtain ⟨hs0, hs1, hs2⟩ := hs
      have HF := Lib.hid hF
      have HG := Lib.hid hG
      have Hp1 := Lib.hid hp1
      have Hs2 := Lib.hid hs2
      obtain ⟨n, hn⟩ : ∃ n, ms.length = n := ⟨_, rfl⟩
      obtain ⟨n2, hn2⟩ : ∃ n, xs.length = n := ⟨_, rfl⟩
      rw [hn] at A1 L1 L2 L3 S1 HA1 hm20 ⊢
      rw [hn2] at A3 L1 L2 L3 HA3 hx60 ⊢
      have Hn := Lib.hid hn
      have Hn2 := Lib.hid hn2
      have HL1 := Lib.hid L1
      have HL2 := Lib.hid L2
      have HL3 := Lib.hid L3
      have HS1 := Lib.hid S1
      clear A1 A3 K h2 h3 hT hF hI hG L1 L2 L3 S1 hn hn2 hl hm hp1 hs2 hqa hqb hqc hsv
      go_enter Tryd.func5, Tryd.ntmps5
      go_wp2_with (first
        | (go_at_call 6; ((with_reducible refine (HA1.out _ HX.out).mono ?_); rintro e w1 ⟨rfl, hb1⟩; have HX1 := Lib.hid ((HX).out.trans (Below.mono hb1 (HX).out.size))))
        | (go_at_call 7; ((with_reducible refine (HA3.out _ HX1.out).mono ?_); rintro e w2 ⟨rfl, hb2⟩; have HX2 := Lib.hid ((HX1).out.trans (Below.mono hb2 (HX1).out.size))))
        | (go_at_call 12; (with_reducible refine (HL1.out _ HX2.out).mono ?_); rintro e w3 ⟨⟨v, rfl, a3, k3, rfl, -⟩, hb3⟩; have HX3 := Lib.hid (HX2.out.trans (Below.mono hb3 HX2.out.size)))
        | (go_at_call 14; (with_reducible refine (HL2.out _ HX3.out).mono ?_); rintro e w4 ⟨⟨v, rfl, a4, k4, rfl, -⟩, hb4⟩; have HX4 := Lib.hid (HX3.out.trans (Below.mono hb4 HX3.out.size)))
        | (go_at_call 12; (with_reducible refine (HL3.out _ HX4.out).mono ?_); rintro e w5 ⟨⟨v, rfl, a5, k5, rfl, -⟩, hb5⟩; have HX5 := Lib.hid (HX4.out.trans (Below.mono hb5 HX4.out.size))))
      have HG5 := Lib.hid (HG.out.mono HX5.out)
      clear hb3 hb4 hb5
      go_loopw [11, 12] (fun v i wr => ∃ k : Nat, k ≤ n2 ∧ i = .int .i64 k ∧ v = .int .i64 ((xs.take k).filter stI).length ∧ Below w5.heap.size w5 wr) (fun _ i _ => n2 - (intOf i).toNat)
      case atStart => exact ⟨0, Nat.zero_le _, rfl, rfl, by (repeat' (first | with_reducible exact Below.refl _ _ | with_reducible assumption | with_reducible refine Below.drew ?_ | with_reducible refine below_drewN' ?_ _ | with_reducible refine Below.alloc ?_ ?_ _ | with_reducible refine Below.setCell ?_ ?_ _ | with_reducible refine below_step (by assumption) ?_ ?_ | omega | (simp; done) | (simp; omega)))⟩
      case round =>
        obtain ⟨k, hk, rfl, rfl, hB⟩ := hrel
        obtain ⟨hcB, hfB⟩ := bcell hB
        have hbz := hB.size
        have HB := Lib.hid hB
        have hlk := filt_len stI xs k
        by_cases hlt : k < n2
        · obtain ⟨x, hx⟩ := mem_at (l := xs) (k := k) (by rw [Hn2.out]; exact hlt)
          obtain ⟨b, off, e1, hb, hc⟩ := HG5.out (by rw [Hn2.out]; omega)
          subst e1
          have hbw : b < wr.heap.size := by omega
          obtain ⟨c0, c1, c2, c3, c4⟩ := irow_cells (hc k x hx)
          have Hx := Lib.hid hx
          clear hc hx
          rcases st_cases x.st with ⟨s4, s1, s2⟩ | ⟨s4, s1, s2⟩ | ⟨s4, s1, s2⟩ | ⟨s4, s1, s2⟩
          · have Hs := Lib.hid (filt_yes Hx.out (P := stI) (stI_yes (.inl s4)))
            go_wp2
            go_roundw
            case rel => exact ⟨k + 1, by omega, by go_num, by rw [Hs.out]; simp, HB.out⟩
            case measure => simp [intOf]; omega
          · have Hs := Lib.hid (filt_yes Hx.out (P := stI) (stI_yes (.inr (.inl s1))))
            go_wp2
            go_roundw
            case rel => exact ⟨k + 1, by omega, by go_num, by rw [Hs.out]; simp, HB.out⟩
            case measure => simp [intOf]; omega
          · have Hs := Lib.hid (filt_yes Hx.out (P := stI) (stI_yes (.inr (.inr s2))))
            go_wp2
            go_roundw
            case rel => exact ⟨k + 1, by omega, by go_num, by rw [Hs.out]; simp, HB.out⟩
            case measure => simp [intOf]; omega
          · have Hs := Lib.hid (filt_no Hx.out (P := stI) (stI_no s4 s1 s2))
            go_wp2
            go_roundw
            case rel => exact ⟨k + 1, by omega, by go_num, by rw [Hs.out], HB.out⟩
            case measure => simp [intOf]; omega
        · obtain rfl : k = n2 := by omega
          obtain ⟨w6, h6⟩ : ∃ w6, w6 = wr := ⟨_, rfl⟩
          subst h6
          have HX6 := Lib.hid (HX5.out.trans (HB.out.mono HX5.out.size))
          have HF6 := Lib.hid (HF.out.mono HX6.out)
          have hct : qa + qb = ((xs.take k).filter stI).length := by rw [filt_all stI Hn2.out]; exact Hp1.out
          obtain ⟨ct, hctv⟩ : ∃ q, ((xs.take k).filter stI).length = q := ⟨_, rfl⟩
          rw [hctv] at hct hlk
          (try rw [hctv])
          clear hctv hB hcB hfB hbz
          go_wp2
          go_loopw [13, 14] (fun v i wr => ∃ k : Nat, k ≤ n ∧ i = .int .i64 k ∧ v = .int .i64 ((ms.take k).filter badG).length ∧ Below w6.heap.size w6 wr) (fun _ i _ => n - (intOf i).toNat)
          case atStart => exact ⟨0, Nat.zero_le _, rfl, rfl, by (repeat' (first | with_reducible exact Below.refl _ _ | with_reducible assumption | with_reducible refine Below.drew ?_ | with_reducible refine below_drewN' ?_ _ | with_reducible refine Below.alloc ?_ ?_ _ | with_reducible refine Below.setCell ?_ ?_ _ | with_reducible refine below_step (by assumption) ?_ ?_ | omega | (simp; done) | (simp; omega)))⟩
          case round =>
            obtain ⟨j, hj, rfl, rfl, hB⟩ := hrel
            obtain ⟨hcB, hfB⟩ := bcell hB
            have hbz := hB.size
            have HB2 := Lib.hid hB
            have hlj := filt_len badG ms j
            by_cases hlt : j < n
            · obtain ⟨x, hx⟩ := mem_at (l := ms) (k := j) (by rw [Hn.out]; exact hlt)
              obtain ⟨b, off, e1, hb, hc⟩ := HF6.out (by rw [Hn.out]; omega)
              subst e1
              have hbw : b < wr.heap.size := by omega
              obtain ⟨c0, c1, c2, c3, c4, c5, c6, c7, c8, c9⟩ := mrow10 (hc j x hx)
              have Hx := Lib.hid hx
              clear hc hx
              rcases share_cases x with ⟨h1, v1, v2⟩ | ⟨h1, h2, v1, v2⟩ | ⟨h1, h2, v1, v2⟩
              · have Hs := Lib.hid (filt_no Hx.out (P := badG) v2)
                obtain ⟨q1, q2, q3, q4⟩ := emp_lits h1
                clear v1 v2 h1
                go_wp2
                go_roundw
                case rel => exact ⟨j + 1, by omega, by go_num, by rw [Hs.out], HB2.out⟩
                case measure => simp [intOf]; omega
              · have Hs := Lib.hid (filt_no Hx.out (P := badG) v2)
                obtain ⟨q1, q2, q3, q4⟩ := emp_litn h1
                clear v1 v2 h1
                go_wp2
                go_roundw
                case rel => exact ⟨j + 1, by omega, by go_num, by rw [Hs.out], HB2.out⟩
                case measure => simp [intOf]; omega
              · have Hs := Lib.hid (filt_yes Hx.out (P := badG) v2)
                obtain ⟨q1, q2, q3, q4⟩ := emp_litn h1
                clear v1 v2 h1
                go_wp2
                go_roundw
                case rel => exact ⟨j + 1, by omega, by go_num, by rw [Hs.out]; simp, HB2.out⟩
                case measure => simp [intOf]; omega
            · obtain rfl : j = n := by omega
              have hbd : (ms.take j).filter badG = ms.filter badG := filt_all badG Hn.out
              rw [hbd] at hlj
              have hs3 := Hs2.out
              obtain ⟨bd, hbdv⟩ : ∃ q, (ms.filter badG).length = q := ⟨_, rfl⟩
              rw [hbdv] at hs3 hlj
              (try rw [hbd]); (try rw [hbdv])
              have HX7 := Lib.hid (HX6.out.trans (HB2.out.mono HX6.out.size))
              have hd1 : decide (0 ≤ s) = true := decide_eq_true hs0
              have hd2 : decide (s ≤ 1000) = true := decide_eq_true hs1
              have hd3 : ((qa : Int) + (qb : Int) == (ct : Int)) = true := by rw [beq_iff_eq]; omega
              have hd4 : decide ((qc : Int) ≤ (qa : Int)) = true := decide_eq_true (by omega)
              clear hbd hbdv hB hcB hfB hbz
              cases hs4 : decide (0 < s)
              · have hs5 : decide (0 < bd) = false := decide_eq_false (by have := of_decide_eq_false (hs3.symm.trans hs4); omega)
                clear hs3
                go_wp2_with (first
                  | (go_at_call 9; ((with_reducible refine (HS1.out _ HX7.out).mono ?_); rintro e w8 ⟨rfl, hb8⟩; have HX8 := Lib.hid ((HX7).out.trans (Below.mono hb8 (HX7).out.size))))
                  | (go_at_call 8; ((with_reducible refine (HK.out _ HX8.out).mono ?_); rintro e w9 ⟨rfl, hb9⟩; have HX9 := Lib.hid ((HX8).out.trans (Below.mono hb9 (HX8).out.size)))))
                go_ret
                exact ⟨rfl, HX9.out⟩
              · have hs5 : decide (0 < bd) = true := decide_eq_true (by have := of_decide_eq_true (hs3.symm.trans hs4); omega)
                clear hs3
                go_wp2_with (first
                  | (go_at_call 9; ((with_reducible refine (HS1.out _ HX7.out).mono ?_); rintro e w8 ⟨rfl, hb8⟩; have HX8 := Lib.hid ((HX7).out.trans (Below.mono hb8 (HX7).out.size))))
                  | (go_at_call 8; ((with_reducible refine (HK.out _ HX8.out).mono ?_); rintro e w9 ⟨rfl, hb9⟩; have HX9 := Lib.hid ((HX8).out.trans (Below.mono hb9 (HX8).out.size)))))
                go_ret
                exact ⟨rfl, HX9.out⟩

set_option maxRecDepth 100000 in
theorem lifted (os : Os) (started : os.Started) (H : Type) (enc : TypeId × Value → H) :
    ReturnsInHanded {} Tryd.checked os 5 .any (fun w args => (Rows.healthPartsSpec.pre enc Tryd.prog Tryd.f5 Rows.healthPartsRow.domain false w args ∧ laidMetH Tryd.prog Rows.healthPartsRow.laid w) ∧ sizedMet enc Tryd.prog Tryd.f5 (OpenSpec.ofChange Rows.healthPartsSpec) false w args)
      (Rows.healthPartsSpec.post enc Tryd.prog Tryd.f5 false true false false) := by
  refine returnsInHanded_of_change_and (C := Tryd.checked) (X := fun w _ => laidMetH Tryd.prog Rows.healthPartsRow.laid w) (fun _ _ _ hh h => h.of_heap hh) Tryd.own started (by kernel_rfl) Tryd.func5
    (ChangeSpec.witness_at (enc := enc) (C := Tryd.checked) (os := os) (X := fun w _ => laidMetH Tryd.prog Rows.healthPartsRow.laid w) false (laidWorld os) #[.slice none 0 0, .slice none 0 0, .int .u16 0] 8 rfl (by kernel_rfl) (by kernel_rfl) (by kernel_rfl) (by kernel_rfl) (by kernel_rfl) (laidWorld_met os _)) ?_
  intro W base args ds gs before hval hW _ _ hL _
  have hW' := hW
  obtain ⟨p, q, hA, hV, rfl, hfz, hnd⟩ := hW
  rw [Tryd.params5] at hA hval
  obtain ⟨v0, v1, v2, d0, d1, d2, p0, p1, p2, rfl, rfl, rfl, h0, h1, h2⟩ := trodAll_three hA
  obtain ⟨a, l, ka, rfl, _, hF, hl, _, hI⟩ := open_macs (hval 0 22 v0 rfl rfl) h0
  obtain ⟨c, xs, kc, rfl, _, hG, hm, _⟩ := open_ins (hval 1 23 v1 rfl rfl) h1
  obtain ⟨q, rfl, _, _, wn⟩ := open_int Tryd.underlying46 (hval 2 46 v2 rfl rfl) h2
  have hq : 0 ≤ q ∧ q ≤ 65535 := by simpa [Lit.wf, IntKind.min, IntKind.max, IntKind.signed, IntKind.bits] using wn
  refine (walk a c ka kc l xs q hq.1 hq.2 W (tab_of hL) hF hl hI hG hm).mono fun e W' ⟨he, hb⟩ => ?_
  exact ⟨_, he, law_post Tryd.laidOut hW' rfl (by kernel_rfl) (by kernel_rfl) Tryd.underlying4 rfl rfl rfl hb⟩

theorem over : Rows.HealthPartsSaid :=
  OpenClaim.holds_of_wide 5 Tryd.f5 rfl rfl rfl rfl rfl rfl rfl ⟨rfl, rfl, rfl, rfl, rfl⟩ rfl rfl rfl rfl rfl (by kernel_rfl) Tryd.func5 (by kernel_rfl)
    (of_decide_eq_true (by kernel_rfl)) (by unfold Func.isWrapper; first | (rw [if_pos (by decide +kernel)]; kernel_rfl) | (rw [if_neg (by decide +kernel)]; exact ⟨rfl, rfl⟩))
    (fun os started H enc _ => lifted os started H enc)

/-- The statement: the card. -/
theorem proved : Rows.HealthPartsCardSaid :=
  Claim7.holds_tied_plain_at .later [] [.data, .data, .data] true Rows.healthPartsCard.stood.harness Rows.healthPartsCard.stood.looks
    over (fun _ h => by cases h) (by kernel_rfl) (fun _ h => by cases h) healthParts_row_tie rfl ⟨rfl, rfl⟩ (by kernel_rfl) rfl
    (fun f fn hf hfn => by
      obtain rfl : f = 5 := Option.some.inj ((show Tryd.prog.funcNamed Rows.healthPartsRow.func = some 5 by kernel_rfl).symm.trans hf) |>.symm
      obtain rfl : fn = Tryd.f5 := (Option.some.inj (Tryd.func5.symm.trans hfn)).symm
      exact ⟨by kernel_rfl, fun j t ht => by
        rw [Tryd.params5] at ht
        rcases j with _ | _ | _ | j
        · obtain rfl : t = 22 := by simpa using ht.symm
          exact (show Tryd.prog.wantsStandIn 22 = false by kernel_rfl)
        · obtain rfl : t = 23 := by simpa using ht.symm
          exact (show Tryd.prog.wantsStandIn 23 = false by kernel_rfl)
        · obtain rfl : t = 46 := by simpa using ht.symm
          exact (show Tryd.prog.wantsStandIn 46 = false by kernel_rfl)
        · simp at ht⟩)
    (by kernel_rfl)
end healthParts
end Go.Proofs.YtbomcghjifgfoaaDoor
