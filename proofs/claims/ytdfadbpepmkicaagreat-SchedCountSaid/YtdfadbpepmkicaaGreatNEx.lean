/-
  Pods: light and right ones.
-/
import Derived.Test.YtdfadbpepmkicaaGreatMGx
import Derived.Test.YtdfadbpepmkicaaGreatLabNBx
import Derived.Test.YtdfadbpepmkicaaGreatMBx
import Derived.Laws.StructEq
import Derived.Deep.Cut
import Derived.BigQuiet
namespace Go.Proofs.YtdfadbpepmkicaaGreat
namespace Lb
open Go.ChangeShapes Go.WideShapes Go.ChangeAt Go.RowKit
open Go.RowKit
set_option linter.unusedSimpArgs false
set_option linter.unusedVariables false
set_option maxRecDepth 100000 in
set_option maxHeartbeats 8000000 in
theorem refrightterm_any (t : Trm) (w : World) (hT : TrmAt w t) (hk : t.key.size ≤ 1000000000) (hn : t.vals.length ≤ 1000000) (hs : ∀ v ∈ t.vals, v.size ≤ 1000000000) :
    Calls Tryz.prog 41 #[.agg #[.string t.key, .int .i64 t.op, .slice t.va t.vals.length t.vk]] w fun e w' => e = .returned (.bool (rtrm t)) ∧ Below w.heap.size w w' := by
  obtain ⟨key, op, va, vk, vals⟩ := t
  obtain ⟨hT, -⟩ := hT
  dsimp only at hT hk hn hs ⊢
  unfold rtrm
  dsimp only
  have HT := Lib.hid hT
  clear hT
  cases k1 : wordB key
  · have K1 := Lib.hid k1
    clear k1
    rw [Bool.false_and]
    go_enter Tryz.func41, Tryz.ntmps41
    go_wp2_with (go_at_call 37; (with_reducible refine (refword_any key hk _).mono ?_); rw [K1.out]; rintro e w1 ⟨rfl, hb1⟩; obtain ⟨hc1, hf1⟩ := bcell hb1; have hz1 := hb1.size; (try simp at hz1); have z1_0 : w.heap.size < w1.heap.size := (by omega); have y1_0 : w.heap.size ≤ w1.heap.size := (by omega); have HB1 := Lib.hid (show Below w.heap.size w w1 by (repeat' (first | with_reducible exact Below.refl _ _ | with_reducible assumption | with_reducible refine Below.drew ?_ | with_reducible refine below_drewN' ?_ _ | with_reducible refine Below.alloc ?_ ?_ _ | with_reducible refine Below.setCell ?_ ?_ _ | with_reducible refine below_step (by assumption) ?_ ?_ | omega | (simp; done) | (simp; omega)))))
    go_ret
    exact ⟨by rfl, by (repeat' (first | with_reducible exact Below.refl _ _ | with_reducible assumption | with_reducible refine Below.drew ?_ | with_reducible refine below_drewN' ?_ _ | with_reducible refine Below.alloc ?_ ?_ _ | with_reducible refine Below.setCell ?_ ?_ _ | with_reducible refine below_step (by assumption) ?_ ?_ | omega | (simp; done) | (simp; omega)))⟩
  · have K1 := Lib.hid k1
    clear k1
    rw [Bool.true_and]
    rcases op_cases op with ⟨e0, h⟩ | ⟨e0, h1, h⟩ | ⟨e0, h1, h2, h⟩ | ⟨e0, h1, h2, h3, h⟩ | ⟨e0, h1, h2, h3, h4, h⟩ | ⟨e0, h1, h2, h3, h4, h5, h⟩ | ⟨e0, h1, h2, h3, h4, h5, h⟩
    · subst e0
      rw [if_pos (by decide)]
      obtain ⟨n, hln⟩ : ∃ n, vals.length = n := ⟨_, rfl⟩
      rw [hln] at hn ⊢
      have Hln := Lib.hid hln
      clear hln
      go_enter Tryz.func41, Tryz.ntmps41
      go_wp2_with (go_at_call 37; (with_reducible refine (refword_any key hk _).mono ?_); rw [K1.out]; rintro e w1 ⟨rfl, hb1⟩; obtain ⟨hc1, hf1⟩ := bcell hb1; have hz1 := hb1.size; (try simp at hz1); have z1_0 : w.heap.size < w1.heap.size := (by omega); have y1_0 : w.heap.size ≤ w1.heap.size := (by omega); have HB1 := Lib.hid (show Below w.heap.size w w1 by (repeat' (first | with_reducible exact Below.refl _ _ | with_reducible assumption | with_reducible refine Below.drew ?_ | with_reducible refine below_drewN' ?_ _ | with_reducible refine Below.alloc ?_ ?_ _ | with_reducible refine Below.setCell ?_ ?_ _ | with_reducible refine below_step (by assumption) ?_ ?_ | omega | (simp; done) | (simp; omega)))))
      have x2 : w1.cell? ⟨w.heap.size, 2, none⟩ = some (.slice va n vk) := by simp [go_sem, *]
      have HT1 := Lib.hid (HT.out.mono HB1.out)
      clear hb1 hc1 hf1
      go_loopw [3] (fun i wr => ∃ k : Nat, k ≤ n ∧ i = .int .i64 k ∧ (vals.take k).all weB = true ∧ Below w1.heap.size w1 wr) (fun i _ => n - (intOf i).toNat)
      case atStart => exact ⟨0, Nat.zero_le _, rfl, rfl, by (repeat' (first | with_reducible exact Below.refl _ _ | with_reducible assumption | with_reducible refine Below.drew ?_ | with_reducible refine below_drewN' ?_ _ | with_reducible refine Below.alloc ?_ ?_ _ | with_reducible refine Below.setCell ?_ ?_ _ | with_reducible refine below_step (by assumption) ?_ ?_ | omega | (simp; done) | (simp; omega)))⟩
      case round =>
        obtain ⟨k, hk, rfl, hE, hB⟩ := hrel
        obtain ⟨hcB, hfB⟩ := bcell hB
        have hbz := hB.size
        have HE := Lib.hid hE
        have HB := Lib.hid hB
        clear hE
        have hww : w.heap.size < wr.heap.size := by omega
        by_cases hlt : k < n
        · obtain ⟨v, hx⟩ := mem_at (l := vals) (k := k) (by rw [Hln.out]; exact hlt)
          obtain ⟨b, off, rfl, hb, hc⟩ := HT1.out (by rw [Hln.out]; omega)
          have hbw : b < wr.heap.size := by omega
          have c0 := txt_cell (hc k v hx)
          rw [Nat.mul_one] at c0
          have Hx := Lib.hid hx
          have Hsv := Lib.hid (hs v (List.mem_of_getElem? hx))
          clear hc hx
          cases hv : weB v
          · have Hs := Lib.hid (all_bad (P := weB) Hx.out hv)
            have Kv := Lib.hid hv
            clear hv
            go_wp2_with (go_at_call 59; (with_reducible refine (maybe5_any v Hsv.out _).mono ?_); rw [Kv.out]; rintro e w2 ⟨rfl, hb2⟩; have hz2 := hb2.size)
            go_ret
            exact ⟨by rw [Hs.out, Bool.and_false, Bool.and_false]; rfl, HB1.out.trans ((HB.out.trans (by (repeat' (first | with_reducible exact Below.refl _ _ | with_reducible assumption | with_reducible refine Below.drew ?_ | with_reducible refine below_drewN' ?_ _ | with_reducible refine Below.alloc ?_ ?_ _ | with_reducible refine Below.setCell ?_ ?_ _ | with_reducible refine below_step (by assumption) ?_ ?_ | omega | (simp; done) | (simp; omega))))).mono HB1.out.size)⟩
          · have Hs := Lib.hid (all_take1 (P := weB) Hx.out hv HE.out)
            have Kv := Lib.hid hv
            clear hv
            go_wp2_with (go_at_call 59; (with_reducible refine (maybe5_any v Hsv.out _).mono ?_); rw [Kv.out]; rintro e w2 ⟨rfl, hb2⟩; have hz2 := hb2.size)
            go_roundw
            case rel => exact ⟨k + 1, by omega, by go_num, Hs.out, by (repeat' (first | with_reducible exact Below.refl _ _ | with_reducible assumption | with_reducible refine Below.drew ?_ | with_reducible refine below_drewN' ?_ _ | with_reducible refine Below.alloc ?_ ?_ _ | with_reducible refine Below.setCell ?_ ?_ _ | with_reducible refine below_step (by assumption) ?_ ?_ | omega | (simp; done) | (simp; omega)))⟩
            case measure => simp [intOf]; omega
        · have Hs := Lib.hid (all_done (P := weB) Hln.out (by rw [show n = k by omega]; exact HE.out))
          by_cases g1 : 1 ≤ n
          · by_cases g16 : n ≤ 16
            · have hh1 : decide (1 ≤ (n : Int)) = true := decide_eq_true (by omega)
              have hh2 : decide ((n : Int) ≤ 16) = true := decide_eq_true (by omega)
              have Hv := Lib.hid (show (decide (1 ≤ n) && (decide (n ≤ 16) && vals.all weB)) = true by rw [Hs.out, decide_eq_true g1, decide_eq_true g16]; rfl)
              clear g1 g16
              go_wp2
              go_ret
              exact ⟨by rw [Hv.out]; simp, HB1.out.trans (HB.out.mono HB1.out.size)⟩
            · have hh1 : decide (1 ≤ (n : Int)) = true := decide_eq_true (by omega)
              have hh2 : decide ((n : Int) ≤ 16) = false := decide_eq_false (by omega)
              have Hv := Lib.hid (show (decide (1 ≤ n) && (decide (n ≤ 16) && vals.all weB)) = false by rw [decide_eq_false g16]; simp)
              clear g1 g16
              go_wp2
              go_ret
              exact ⟨by rw [Hv.out]; simp, HB1.out.trans (HB.out.mono HB1.out.size)⟩
          · have hh1 : decide (1 ≤ (n : Int)) = false := decide_eq_false (by omega)
            have Hv := Lib.hid (show (decide (1 ≤ n) && (decide (n ≤ 16) && vals.all weB)) = false by rw [decide_eq_false g1]; rfl)
            clear g1
            go_wp2
            go_ret
            exact ⟨by rw [Hv.out]; simp, HB1.out.trans (HB.out.mono HB1.out.size)⟩
    · subst e0
      rw [if_pos (by decide)]
      obtain ⟨n, hln⟩ : ∃ n, vals.length = n := ⟨_, rfl⟩
      rw [hln] at hn ⊢
      have Hln := Lib.hid hln
      clear hln
      go_enter Tryz.func41, Tryz.ntmps41
      go_wp2_with (go_at_call 37; (with_reducible refine (refword_any key hk _).mono ?_); rw [K1.out]; rintro e w1 ⟨rfl, hb1⟩; obtain ⟨hc1, hf1⟩ := bcell hb1; have hz1 := hb1.size; (try simp at hz1); have z1_0 : w.heap.size < w1.heap.size := (by omega); have y1_0 : w.heap.size ≤ w1.heap.size := (by omega); have HB1 := Lib.hid (show Below w.heap.size w w1 by (repeat' (first | with_reducible exact Below.refl _ _ | with_reducible assumption | with_reducible refine Below.drew ?_ | with_reducible refine below_drewN' ?_ _ | with_reducible refine Below.alloc ?_ ?_ _ | with_reducible refine Below.setCell ?_ ?_ _ | with_reducible refine below_step (by assumption) ?_ ?_ | omega | (simp; done) | (simp; omega)))))
      have x2 : w1.cell? ⟨w.heap.size, 2, none⟩ = some (.slice va n vk) := by simp [go_sem, *]
      have HT1 := Lib.hid (HT.out.mono HB1.out)
      clear hb1 hc1 hf1
      go_loopw [3] (fun i wr => ∃ k : Nat, k ≤ n ∧ i = .int .i64 k ∧ (vals.take k).all weB = true ∧ Below w1.heap.size w1 wr) (fun i _ => n - (intOf i).toNat)
      case atStart => exact ⟨0, Nat.zero_le _, rfl, rfl, by (repeat' (first | with_reducible exact Below.refl _ _ | with_reducible assumption | with_reducible refine Below.drew ?_ | with_reducible refine below_drewN' ?_ _ | with_reducible refine Below.alloc ?_ ?_ _ | with_reducible refine Below.setCell ?_ ?_ _ | with_reducible refine below_step (by assumption) ?_ ?_ | omega | (simp; done) | (simp; omega)))⟩
      case round =>
        obtain ⟨k, hk, rfl, hE, hB⟩ := hrel
        obtain ⟨hcB, hfB⟩ := bcell hB
        have hbz := hB.size
        have HE := Lib.hid hE
        have HB := Lib.hid hB
        clear hE
        have hww : w.heap.size < wr.heap.size := by omega
        by_cases hlt : k < n
        · obtain ⟨v, hx⟩ := mem_at (l := vals) (k := k) (by rw [Hln.out]; exact hlt)
          obtain ⟨b, off, rfl, hb, hc⟩ := HT1.out (by rw [Hln.out]; omega)
          have hbw : b < wr.heap.size := by omega
          have c0 := txt_cell (hc k v hx)
          rw [Nat.mul_one] at c0
          have Hx := Lib.hid hx
          have Hsv := Lib.hid (hs v (List.mem_of_getElem? hx))
          clear hc hx
          cases hv : weB v
          · have Hs := Lib.hid (all_bad (P := weB) Hx.out hv)
            have Kv := Lib.hid hv
            clear hv
            go_wp2_with (go_at_call 59; (with_reducible refine (maybe5_any v Hsv.out _).mono ?_); rw [Kv.out]; rintro e w2 ⟨rfl, hb2⟩; have hz2 := hb2.size)
            go_ret
            exact ⟨by rw [Hs.out, Bool.and_false, Bool.and_false]; rfl, HB1.out.trans ((HB.out.trans (by (repeat' (first | with_reducible exact Below.refl _ _ | with_reducible assumption | with_reducible refine Below.drew ?_ | with_reducible refine below_drewN' ?_ _ | with_reducible refine Below.alloc ?_ ?_ _ | with_reducible refine Below.setCell ?_ ?_ _ | with_reducible refine below_step (by assumption) ?_ ?_ | omega | (simp; done) | (simp; omega))))).mono HB1.out.size)⟩
          · have Hs := Lib.hid (all_take1 (P := weB) Hx.out hv HE.out)
            have Kv := Lib.hid hv
            clear hv
            go_wp2_with (go_at_call 59; (with_reducible refine (maybe5_any v Hsv.out _).mono ?_); rw [Kv.out]; rintro e w2 ⟨rfl, hb2⟩; have hz2 := hb2.size)
            go_roundw
            case rel => exact ⟨k + 1, by omega, by go_num, Hs.out, by (repeat' (first | with_reducible exact Below.refl _ _ | with_reducible assumption | with_reducible refine Below.drew ?_ | with_reducible refine below_drewN' ?_ _ | with_reducible refine Below.alloc ?_ ?_ _ | with_reducible refine Below.setCell ?_ ?_ _ | with_reducible refine below_step (by assumption) ?_ ?_ | omega | (simp; done) | (simp; omega)))⟩
            case measure => simp [intOf]; omega
        · have Hs := Lib.hid (all_done (P := weB) Hln.out (by rw [show n = k by omega]; exact HE.out))
          by_cases g1 : 1 ≤ n
          · by_cases g16 : n ≤ 16
            · have hh1 : decide (1 ≤ (n : Int)) = true := decide_eq_true (by omega)
              have hh2 : decide ((n : Int) ≤ 16) = true := decide_eq_true (by omega)
              have Hv := Lib.hid (show (decide (1 ≤ n) && (decide (n ≤ 16) && vals.all weB)) = true by rw [Hs.out, decide_eq_true g1, decide_eq_true g16]; rfl)
              clear g1 g16
              go_wp2
              go_ret
              exact ⟨by rw [Hv.out]; simp, HB1.out.trans (HB.out.mono HB1.out.size)⟩
            · have hh1 : decide (1 ≤ (n : Int)) = true := decide_eq_true (by omega)
              have hh2 : decide ((n : Int) ≤ 16) = false := decide_eq_false (by omega)
              have Hv := Lib.hid (show (decide (1 ≤ n) && (decide (n ≤ 16) && vals.all weB)) = false by rw [decide_eq_false g16]; simp)
              clear g1 g16
              go_wp2
              go_ret
              exact ⟨by rw [Hv.out]; simp, HB1.out.trans (HB.out.mono HB1.out.size)⟩
          · have hh1 : decide (1 ≤ (n : Int)) = false := decide_eq_false (by omega)
            have Hv := Lib.hid (show (decide (1 ≤ n) && (decide (n ≤ 16) && vals.all weB)) = false by rw [decide_eq_false g1]; rfl)
            clear g1
            go_wp2
            go_ret
            exact ⟨by rw [Hv.out]; simp, HB1.out.trans (HB.out.mono HB1.out.size)⟩
    · subst e0
      rw [if_neg (by decide), if_pos (by decide)]
      by_cases g0 : vals.length = 0
      · have hh1 : ((vals.length : Int) == 0) = true := by rw [g0]; rfl
        rw [decide_eq_true g0]
        clear g0
        go_enter Tryz.func41, Tryz.ntmps41
        go_wp2_with (go_at_call 37; (with_reducible refine (refword_any key hk _).mono ?_); rw [K1.out]; rintro e w1 ⟨rfl, hb1⟩; obtain ⟨hc1, hf1⟩ := bcell hb1; have hz1 := hb1.size; (try simp at hz1); have z1_0 : w.heap.size < w1.heap.size := (by omega); have y1_0 : w.heap.size ≤ w1.heap.size := (by omega); have HB1 := Lib.hid (show Below w.heap.size w w1 by (repeat' (first | with_reducible exact Below.refl _ _ | with_reducible assumption | with_reducible refine Below.drew ?_ | with_reducible refine below_drewN' ?_ _ | with_reducible refine Below.alloc ?_ ?_ _ | with_reducible refine Below.setCell ?_ ?_ _ | with_reducible refine below_step (by assumption) ?_ ?_ | omega | (simp; done) | (simp; omega)))))
        go_ret
        exact ⟨by simp, by (repeat' (first | with_reducible exact Below.refl _ _ | with_reducible assumption | with_reducible refine Below.drew ?_ | with_reducible refine below_drewN' ?_ _ | with_reducible refine Below.alloc ?_ ?_ _ | with_reducible refine Below.setCell ?_ ?_ _ | with_reducible refine below_step (by assumption) ?_ ?_ | omega | (simp; done) | (simp; omega)))⟩
      · have hh1 : ((vals.length : Int) == 0) = false := by rw [beq_eq_false_iff_ne]; omega
        rw [decide_eq_false g0]
        clear g0
        go_enter Tryz.func41, Tryz.ntmps41
        go_wp2_with (go_at_call 37; (with_reducible refine (refword_any key hk _).mono ?_); rw [K1.out]; rintro e w1 ⟨rfl, hb1⟩; obtain ⟨hc1, hf1⟩ := bcell hb1; have hz1 := hb1.size; (try simp at hz1); have z1_0 : w.heap.size < w1.heap.size := (by omega); have y1_0 : w.heap.size ≤ w1.heap.size := (by omega); have HB1 := Lib.hid (show Below w.heap.size w w1 by (repeat' (first | with_reducible exact Below.refl _ _ | with_reducible assumption | with_reducible refine Below.drew ?_ | with_reducible refine below_drewN' ?_ _ | with_reducible refine Below.alloc ?_ ?_ _ | with_reducible refine Below.setCell ?_ ?_ _ | with_reducible refine below_step (by assumption) ?_ ?_ | omega | (simp; done) | (simp; omega)))))
        go_ret
        exact ⟨by simp, by (repeat' (first | with_reducible exact Below.refl _ _ | with_reducible assumption | with_reducible refine Below.drew ?_ | with_reducible refine below_drewN' ?_ _ | with_reducible refine Below.alloc ?_ ?_ _ | with_reducible refine Below.setCell ?_ ?_ _ | with_reducible refine below_step (by assumption) ?_ ?_ | omega | (simp; done) | (simp; omega)))⟩
    · subst e0
      rw [if_neg (by decide), if_pos (by decide)]
      by_cases g0 : vals.length = 0
      · have hh1 : ((vals.length : Int) == 0) = true := by rw [g0]; rfl
        rw [decide_eq_true g0]
        clear g0
        go_enter Tryz.func41, Tryz.ntmps41
        go_wp2_with (go_at_call 37; (with_reducible refine (refword_any key hk _).mono ?_); rw [K1.out]; rintro e w1 ⟨rfl, hb1⟩; obtain ⟨hc1, hf1⟩ := bcell hb1; have hz1 := hb1.size; (try simp at hz1); have z1_0 : w.heap.size < w1.heap.size := (by omega); have y1_0 : w.heap.size ≤ w1.heap.size := (by omega); have HB1 := Lib.hid (show Below w.heap.size w w1 by (repeat' (first | with_reducible exact Below.refl _ _ | with_reducible assumption | with_reducible refine Below.drew ?_ | with_reducible refine below_drewN' ?_ _ | with_reducible refine Below.alloc ?_ ?_ _ | with_reducible refine Below.setCell ?_ ?_ _ | with_reducible refine below_step (by assumption) ?_ ?_ | omega | (simp; done) | (simp; omega)))))
        go_ret
        exact ⟨by simp, by (repeat' (first | with_reducible exact Below.refl _ _ | with_reducible assumption | with_reducible refine Below.drew ?_ | with_reducible refine below_drewN' ?_ _ | with_reducible refine Below.alloc ?_ ?_ _ | with_reducible refine Below.setCell ?_ ?_ _ | with_reducible refine below_step (by assumption) ?_ ?_ | omega | (simp; done) | (simp; omega)))⟩
      · have hh1 : ((vals.length : Int) == 0) = false := by rw [beq_eq_false_iff_ne]; omega
        rw [decide_eq_false g0]
        clear g0
        go_enter Tryz.func41, Tryz.ntmps41
        go_wp2_with (go_at_call 37; (with_reducible refine (refword_any key hk _).mono ?_); rw [K1.out]; rintro e w1 ⟨rfl, hb1⟩; obtain ⟨hc1, hf1⟩ := bcell hb1; have hz1 := hb1.size; (try simp at hz1); have z1_0 : w.heap.size < w1.heap.size := (by omega); have y1_0 : w.heap.size ≤ w1.heap.size := (by omega); have HB1 := Lib.hid (show Below w.heap.size w w1 by (repeat' (first | with_reducible exact Below.refl _ _ | with_reducible assumption | with_reducible refine Below.drew ?_ | with_reducible refine below_drewN' ?_ _ | with_reducible refine Below.alloc ?_ ?_ _ | with_reducible refine Below.setCell ?_ ?_ _ | with_reducible refine below_step (by assumption) ?_ ?_ | omega | (simp; done) | (simp; omega)))))
        go_ret
        exact ⟨by simp, by (repeat' (first | with_reducible exact Below.refl _ _ | with_reducible assumption | with_reducible refine Below.drew ?_ | with_reducible refine below_drewN' ?_ _ | with_reducible refine Below.alloc ?_ ?_ _ | with_reducible refine Below.setCell ?_ ?_ _ | with_reducible refine below_step (by assumption) ?_ ?_ | omega | (simp; done) | (simp; omega)))⟩
    · subst e0
      rw [if_neg (by decide), if_neg (by decide), if_pos (by decide)]
      by_cases hone : vals.length = 1
      · obtain ⟨v0, hv0⟩ : ∃ v0, vals = [v0] := by
          match vals, hone with
          | [v0], _ => exact ⟨v0, rfl⟩
        subst hv0
        obtain ⟨b, off, rfl, hb, hc⟩ := HT.out (by simp)
        have c0 := txt_cell (hc 0 v0 rfl)
        simp only [Nat.zero_mul, Nat.add_zero] at c0
        have N := fun V => refnumber_any v0 (hs v0 List.mem_cons_self) V
        have ev : ([v0] : List ByteArray)[0]?.getD emp = v0 := rfl
        rw [ev, decide_eq_true hone, Bool.true_and]
        obtain ⟨⟨x, e⟩, hx⟩ : ∃ d, numV v0 = d := ⟨_, rfl⟩
        rw [hx] at N ⊢
        dsimp only at N ⊢
        have HN := Lib.hid N
        clear N hc hx ev
        by_cases he : e = 0
        · have ge : (e == 0) = true := by simpa using he
          rw [decide_eq_true he]
          clear he
          go_enter Tryz.func41, Tryz.ntmps41
          go_wp2_with (first | ((go_at_call 37; (with_reducible refine (refword_any key hk _).mono ?_); rw [K1.out]; rintro e w1 ⟨rfl, hb1⟩; obtain ⟨hc1, hf1⟩ := bcell hb1; have hz1 := hb1.size; (try simp at hz1); have z1_0 : w.heap.size < w1.heap.size := (by omega); have y1_0 : w.heap.size ≤ w1.heap.size := (by omega); have HB1 := Lib.hid (show Below w.heap.size w w1 by (repeat' (first | with_reducible exact Below.refl _ _ | with_reducible assumption | with_reducible refine Below.drew ?_ | with_reducible refine below_drewN' ?_ _ | with_reducible refine Below.alloc ?_ ?_ _ | with_reducible refine Below.setCell ?_ ?_ _ | with_reducible refine below_step (by assumption) ?_ ?_ | omega | (simp; done) | (simp; omega))))); have hbv : b < w1.heap.size := (by omega)) | (go_at_call 60; (with_reducible refine (HN.out _).mono ?_); rintro e w2 ⟨rfl, hb2⟩; have hz2 := hb2.size))
          go_ret
          exact ⟨by simp, by (repeat' (first | with_reducible exact Below.refl _ _ | with_reducible assumption | with_reducible refine Below.drew ?_ | with_reducible refine below_drewN' ?_ _ | with_reducible refine Below.alloc ?_ ?_ _ | with_reducible refine Below.setCell ?_ ?_ _ | with_reducible refine below_step (by assumption) ?_ ?_ | omega | (simp; done) | (simp; omega)))⟩
        · have ge : (e == 0) = false := by simpa using he
          rw [decide_eq_false he]
          clear he
          go_enter Tryz.func41, Tryz.ntmps41
          go_wp2_with (first | ((go_at_call 37; (with_reducible refine (refword_any key hk _).mono ?_); rw [K1.out]; rintro e w1 ⟨rfl, hb1⟩; obtain ⟨hc1, hf1⟩ := bcell hb1; have hz1 := hb1.size; (try simp at hz1); have z1_0 : w.heap.size < w1.heap.size := (by omega); have y1_0 : w.heap.size ≤ w1.heap.size := (by omega); have HB1 := Lib.hid (show Below w.heap.size w w1 by (repeat' (first | with_reducible exact Below.refl _ _ | with_reducible assumption | with_reducible refine Below.drew ?_ | with_reducible refine below_drewN' ?_ _ | with_reducible refine Below.alloc ?_ ?_ _ | with_reducible refine Below.setCell ?_ ?_ _ | with_reducible refine below_step (by assumption) ?_ ?_ | omega | (simp; done) | (simp; omega))))); have hbv : b < w1.heap.size := (by omega)) | (go_at_call 60; (with_reducible refine (HN.out _).mono ?_); rintro e w2 ⟨rfl, hb2⟩; have hz2 := hb2.size))
          go_ret
          exact ⟨by simp, by (repeat' (first | with_reducible exact Below.refl _ _ | with_reducible assumption | with_reducible refine Below.drew ?_ | with_reducible refine below_drewN' ?_ _ | with_reducible refine Below.alloc ?_ ?_ _ | with_reducible refine Below.setCell ?_ ?_ _ | with_reducible refine below_step (by assumption) ?_ ?_ | omega | (simp; done) | (simp; omega)))⟩
      · have hh1 : ((vals.length : Int) != 1) = true := by rw [bne_iff_ne]; omega
        rw [decide_eq_false hone]
        clear hone
        go_enter Tryz.func41, Tryz.ntmps41
        go_wp2_with (go_at_call 37; (with_reducible refine (refword_any key hk _).mono ?_); rw [K1.out]; rintro e w1 ⟨rfl, hb1⟩; obtain ⟨hc1, hf1⟩ := bcell hb1; have hz1 := hb1.size; (try simp at hz1); have z1_0 : w.heap.size < w1.heap.size := (by omega); have y1_0 : w.heap.size ≤ w1.heap.size := (by omega); have HB1 := Lib.hid (show Below w.heap.size w w1 by (repeat' (first | with_reducible exact Below.refl _ _ | with_reducible assumption | with_reducible refine Below.drew ?_ | with_reducible refine below_drewN' ?_ _ | with_reducible refine Below.alloc ?_ ?_ _ | with_reducible refine Below.setCell ?_ ?_ _ | with_reducible refine below_step (by assumption) ?_ ?_ | omega | (simp; done) | (simp; omega)))))
        go_ret
        exact ⟨by simp, by (repeat' (first | with_reducible exact Below.refl _ _ | with_reducible assumption | with_reducible refine Below.drew ?_ | with_reducible refine below_drewN' ?_ _ | with_reducible refine Below.alloc ?_ ?_ _ | with_reducible refine Below.setCell ?_ ?_ _ | with_reducible refine below_step (by assumption) ?_ ?_ | omega | (simp; done) | (simp; omega)))⟩
    · subst e0
      rw [if_neg (by decide), if_neg (by decide), if_pos (by decide)]
      by_cases hone : vals.length = 1
      · obtain ⟨v0, hv0⟩ : ∃ v0, vals = [v0] := by
          match vals, hone with
          | [v0], _ => exact ⟨v0, rfl⟩
        subst hv0
        obtain ⟨b, off, rfl, hb, hc⟩ := HT.out (by simp)
        have c0 := txt_cell (hc 0 v0 rfl)
        simp only [Nat.zero_mul, Nat.add_zero] at c0
        have N := fun V => refnumber_any v0 (hs v0 List.mem_cons_self) V
        have ev : ([v0] : List ByteArray)[0]?.getD emp = v0 := rfl
        rw [ev, decide_eq_true hone, Bool.true_and]
        obtain ⟨⟨x, e⟩, hx⟩ : ∃ d, numV v0 = d := ⟨_, rfl⟩
        rw [hx] at N ⊢
        dsimp only at N ⊢
        have HN := Lib.hid N
        clear N hc hx ev
        by_cases he : e = 0
        · have ge : (e == 0) = true := by simpa using he
          rw [decide_eq_true he]
          clear he
          go_enter Tryz.func41, Tryz.ntmps41
          go_wp2_with (first | ((go_at_call 37; (with_reducible refine (refword_any key hk _).mono ?_); rw [K1.out]; rintro e w1 ⟨rfl, hb1⟩; obtain ⟨hc1, hf1⟩ := bcell hb1; have hz1 := hb1.size; (try simp at hz1); have z1_0 : w.heap.size < w1.heap.size := (by omega); have y1_0 : w.heap.size ≤ w1.heap.size := (by omega); have HB1 := Lib.hid (show Below w.heap.size w w1 by (repeat' (first | with_reducible exact Below.refl _ _ | with_reducible assumption | with_reducible refine Below.drew ?_ | with_reducible refine below_drewN' ?_ _ | with_reducible refine Below.alloc ?_ ?_ _ | with_reducible refine Below.setCell ?_ ?_ _ | with_reducible refine below_step (by assumption) ?_ ?_ | omega | (simp; done) | (simp; omega))))); have hbv : b < w1.heap.size := (by omega)) | (go_at_call 60; (with_reducible refine (HN.out _).mono ?_); rintro e w2 ⟨rfl, hb2⟩; have hz2 := hb2.size))
          go_ret
          exact ⟨by simp, by (repeat' (first | with_reducible exact Below.refl _ _ | with_reducible assumption | with_reducible refine Below.drew ?_ | with_reducible refine below_drewN' ?_ _ | with_reducible refine Below.alloc ?_ ?_ _ | with_reducible refine Below.setCell ?_ ?_ _ | with_reducible refine below_step (by assumption) ?_ ?_ | omega | (simp; done) | (simp; omega)))⟩
        · have ge : (e == 0) = false := by simpa using he
          rw [decide_eq_false he]
          clear he
          go_enter Tryz.func41, Tryz.ntmps41
          go_wp2_with (first | ((go_at_call 37; (with_reducible refine (refword_any key hk _).mono ?_); rw [K1.out]; rintro e w1 ⟨rfl, hb1⟩; obtain ⟨hc1, hf1⟩ := bcell hb1; have hz1 := hb1.size; (try simp at hz1); have z1_0 : w.heap.size < w1.heap.size := (by omega); have y1_0 : w.heap.size ≤ w1.heap.size := (by omega); have HB1 := Lib.hid (show Below w.heap.size w w1 by (repeat' (first | with_reducible exact Below.refl _ _ | with_reducible assumption | with_reducible refine Below.drew ?_ | with_reducible refine below_drewN' ?_ _ | with_reducible refine Below.alloc ?_ ?_ _ | with_reducible refine Below.setCell ?_ ?_ _ | with_reducible refine below_step (by assumption) ?_ ?_ | omega | (simp; done) | (simp; omega))))); have hbv : b < w1.heap.size := (by omega)) | (go_at_call 60; (with_reducible refine (HN.out _).mono ?_); rintro e w2 ⟨rfl, hb2⟩; have hz2 := hb2.size))
          go_ret
          exact ⟨by simp, by (repeat' (first | with_reducible exact Below.refl _ _ | with_reducible assumption | with_reducible refine Below.drew ?_ | with_reducible refine below_drewN' ?_ _ | with_reducible refine Below.alloc ?_ ?_ _ | with_reducible refine Below.setCell ?_ ?_ _ | with_reducible refine below_step (by assumption) ?_ ?_ | omega | (simp; done) | (simp; omega)))⟩
      · have hh1 : ((vals.length : Int) != 1) = true := by rw [bne_iff_ne]; omega
        rw [decide_eq_false hone]
        clear hone
        go_enter Tryz.func41, Tryz.ntmps41
        go_wp2_with (go_at_call 37; (with_reducible refine (refword_any key hk _).mono ?_); rw [K1.out]; rintro e w1 ⟨rfl, hb1⟩; obtain ⟨hc1, hf1⟩ := bcell hb1; have hz1 := hb1.size; (try simp at hz1); have z1_0 : w.heap.size < w1.heap.size := (by omega); have y1_0 : w.heap.size ≤ w1.heap.size := (by omega); have HB1 := Lib.hid (show Below w.heap.size w w1 by (repeat' (first | with_reducible exact Below.refl _ _ | with_reducible assumption | with_reducible refine Below.drew ?_ | with_reducible refine below_drewN' ?_ _ | with_reducible refine Below.alloc ?_ ?_ _ | with_reducible refine Below.setCell ?_ ?_ _ | with_reducible refine below_step (by assumption) ?_ ?_ | omega | (simp; done) | (simp; omega)))))
        go_ret
        exact ⟨by simp, by (repeat' (first | with_reducible exact Below.refl _ _ | with_reducible assumption | with_reducible refine Below.drew ?_ | with_reducible refine below_drewN' ?_ _ | with_reducible refine Below.alloc ?_ ?_ _ | with_reducible refine Below.setCell ?_ ?_ _ | with_reducible refine below_step (by assumption) ?_ ?_ | omega | (simp; done) | (simp; omega)))⟩
    · obtain ⟨e1, e2, e3, e4, e5, e6⟩ := e0
      rw [if_neg (by omega), if_neg (by omega), if_neg (by omega)]
      go_enter Tryz.func41, Tryz.ntmps41
      go_wp2_with (go_at_call 37; (with_reducible refine (refword_any key hk _).mono ?_); rw [K1.out]; rintro e w1 ⟨rfl, hb1⟩; obtain ⟨hc1, hf1⟩ := bcell hb1; have hz1 := hb1.size; (try simp at hz1); have z1_0 : w.heap.size < w1.heap.size := (by omega); have y1_0 : w.heap.size ≤ w1.heap.size := (by omega); have HB1 := Lib.hid (show Below w.heap.size w w1 by (repeat' (first | with_reducible exact Below.refl _ _ | with_reducible assumption | with_reducible refine Below.drew ?_ | with_reducible refine below_drewN' ?_ _ | with_reducible refine Below.alloc ?_ ?_ _ | with_reducible refine Below.setCell ?_ ?_ _ | with_reducible refine below_step (by assumption) ?_ ?_ | omega | (simp; done) | (simp; omega)))))
      go_ret
      exact ⟨by rfl, by (repeat' (first | with_reducible exact Below.refl _ _ | with_reducible assumption | with_reducible refine Below.drew ?_ | with_reducible refine below_drewN' ?_ _ | with_reducible refine Below.alloc ?_ ?_ _ | with_reducible refine Below.setCell ?_ ?_ _ | with_reducible refine below_step (by assumption) ?_ ?_ | omega | (simp; done) | (simp; omega)))⟩
def shortS (v : ByteArray) : Bool := decide (v.size ≤ 300)
def lightTm (t : Trm) : Bool := decide (t.vals.length ≤ 40 ∧ t.key.size ≤ 300) && t.vals.all shortS
theorem lightTm_ok {t : Trm} (h : lightTm t = true) : t.vals.length ≤ 40 ∧ t.key.size ≤ 300 ∧ ∀ v ∈ t.vals, v.size ≤ 300 := by
  unfold lightTm at h
  rw [Bool.and_eq_true, decide_eq_true_eq, List.all_eq_true] at h
  exact ⟨h.1.1, h.1.2, fun v hv => of_decide_eq_true (h.2 v hv)⟩
set_option maxRecDepth 100000 in
set_option maxHeartbeats 8000000 in
theorem lightterm_any (t : Trm) (w : World) (hT : TrmAt w t) :
    Calls Tryz.prog 36 #[.agg #[.string t.key, .int .i64 t.op, .slice t.va t.vals.length t.vk]] w fun e w' => e = .returned (.bool (lightTm t)) ∧ Below w.heap.size w w' := by
  obtain ⟨key, op, va, vk, vals⟩ := t
  obtain ⟨hT, hmx⟩ := hT
  dsimp only at hT hmx ⊢
  unfold maxLen at hmx
  unfold lightTm
  dsimp only
  obtain ⟨n, hln⟩ : ∃ n, vals.length = n := ⟨_, rfl⟩
  rw [hln] at hmx ⊢
  have Hln := Lib.hid hln
  have HT := Lib.hid hT
  clear hT hln
  by_cases h40 : n ≤ 40
  · by_cases hk3 : key.size ≤ 300
    · rw [decide_eq_true (⟨h40, hk3⟩ : n ≤ 40 ∧ key.size ≤ 300), Bool.true_and]
      go_enter Tryz.func36, Tryz.ntmps36
      go_wp2
      obtain ⟨W, hW⟩ : ∃ W, W = w.alloc (.cells #[.string key, .int .i64 op, .slice va n vk] 69) := ⟨_, rfl⟩
      have HW := Lib.hid (show Below w.heap.size w W by rw [hW]; (repeat' (first | with_reducible exact Below.refl _ _ | with_reducible assumption | with_reducible refine Below.drew ?_ | with_reducible refine below_drewN' ?_ _ | with_reducible refine Below.alloc ?_ ?_ _ | with_reducible refine Below.setCell ?_ ?_ _ | with_reducible refine below_step (by assumption) ?_ ?_ | omega | (simp; done) | (simp; omega))))
      have hWz : w.heap.size < W.heap.size := by rw [hW]; simp
      have x2 : W.cell? ⟨w.heap.size, 2, none⟩ = some (.slice va n vk) := by rw [hW]; simp [go_sem]
      have HTW := Lib.hid (HT.out.mono HW.out)
      rw [← hW]
      clear hW
      go_loopw [3] (fun i wr => ∃ k : Nat, k ≤ n ∧ i = .int .i64 k ∧ (vals.take k).all shortS = true ∧ Below W.heap.size W wr) (fun i _ => n - (intOf i).toNat)
      case atStart => exact ⟨0, Nat.zero_le _, rfl, rfl, by (repeat' (first | with_reducible exact Below.refl _ _ | with_reducible assumption | with_reducible refine Below.drew ?_ | with_reducible refine below_drewN' ?_ _ | with_reducible refine Below.alloc ?_ ?_ _ | with_reducible refine Below.setCell ?_ ?_ _ | with_reducible refine below_step (by assumption) ?_ ?_ | omega | (simp; done) | (simp; omega)))⟩
      case round =>
        obtain ⟨k, hk, rfl, hE, hB⟩ := hrel
        obtain ⟨hcB, hfB⟩ := bcell hB
        have hbz := hB.size
        have HE := Lib.hid hE
        have HB := Lib.hid hB
        clear hE
        have hww : w.heap.size < wr.heap.size := by omega
        by_cases hlt : k < n
        · obtain ⟨v, hx⟩ := mem_at (l := vals) (k := k) (by rw [Hln.out]; exact hlt)
          obtain ⟨b, off, rfl, hb, hc⟩ := HTW.out (by rw [Hln.out]; omega)
          have hbw : b < wr.heap.size := by omega
          have c0 := txt_cell (hc k v hx)
          rw [Nat.mul_one] at c0
          have Hx := Lib.hid hx
          clear hc hx
          by_cases hv : v.size ≤ 300
          · have Hs := Lib.hid (all_take1 (P := shortS) Hx.out (decide_eq_true hv) HE.out)
            go_wp2
            go_roundw
            case rel => exact ⟨k + 1, by omega, by go_num, Hs.out, by (repeat' (first | with_reducible exact Below.refl _ _ | with_reducible assumption | with_reducible refine Below.drew ?_ | with_reducible refine below_drewN' ?_ _ | with_reducible refine Below.alloc ?_ ?_ _ | with_reducible refine Below.setCell ?_ ?_ _ | with_reducible refine below_step (by assumption) ?_ ?_ | omega | (simp; done) | (simp; omega)))⟩
            case measure => simp [intOf]; omega
          · have Hs := Lib.hid (all_bad (P := shortS) Hx.out (decide_eq_false hv))
            have hv2 : 300 < v.size := by omega
            clear hv
            go_wp2
            go_ret
            exact ⟨by rw [Hs.out]; rfl, HW.out.trans (HB.out.mono (Nat.le_of_lt hWz))⟩
        · have Hs := Lib.hid (all_done (P := shortS) Hln.out (by rw [show n = k by omega]; exact HE.out))
          go_wp2
          go_ret
          exact ⟨by rw [Hs.out]; rfl, HW.out.trans (HB.out.mono (Nat.le_of_lt hWz))⟩
    · rw [decide_eq_false (fun h => hk3 h.2), Bool.false_and]
      have hk4 : 300 < key.size := by omega
      clear hk3
      go_enter Tryz.func36, Tryz.ntmps36
      go_wp2
      go_ret
      exact ⟨rfl, by (repeat' (first | with_reducible exact Below.refl _ _ | with_reducible assumption | with_reducible refine Below.drew ?_ | with_reducible refine below_drewN' ?_ _ | with_reducible refine Below.alloc ?_ ?_ _ | with_reducible refine Below.setCell ?_ ?_ _ | with_reducible refine below_step (by assumption) ?_ ?_ | omega | (simp; done) | (simp; omega)))⟩
  · rw [decide_eq_false (fun h => h40 h.1), Bool.false_and]
    have h41 : 40 < n := by omega
    clear h40
    go_enter Tryz.func36, Tryz.ntmps36
    go_wp2
    go_ret
    exact ⟨rfl, by (repeat' (first | with_reducible exact Below.refl _ _ | with_reducible assumption | with_reducible refine Below.drew ?_ | with_reducible refine below_drewN' ?_ _ | with_reducible refine Below.alloc ?_ ?_ _ | with_reducible refine Below.setCell ?_ ?_ _ | with_reducible refine below_step (by assumption) ?_ ?_ | omega | (simp; done) | (simp; omega)))⟩
theorem Tryz.cells69 : Tryz.prog.cellsOf 69 = 3 := by kernel_rfl
theorem Tryz.cells46 : Tryz.prog.cellsOf 46 = 1 := by kernel_rfl
set_option maxRecDepth 100000 in
theorem txt_open {H : Type} {enc : TypeId × Value → H} {W : World} {fuel : Nat} {cs : List Value} {y : DataW H × List MemPlace} (hl : cs.length = 1)
    (h : DataW.trod enc Tryz.prog W 0 (fun _ => true) true fuel 9 cs = some y) : ∃ s : ByteArray, cs = scs s := by
  obtain ⟨s0, q0, _⟩ := DataW.trod_string Tryz.underlying9 h
  exact ⟨s0, q0⟩
set_option maxRecDepth 100000 in
theorem trm_open {H : Type} {enc : TypeId × Value → H} {W : World} {fuel : Nat} {cs : List Value} {y : DataW H × List MemPlace} (hl : cs.length = 3)
    (h : DataW.trod enc Tryz.prog W 0 (fun _ => true) true fuel 69 cs = some y) : ∃ t : Trm, cs = trcs t ∧ TrmAt W t := by
  obtain ⟨zs, _, _, _, _, hlen3, hk⟩ := DataW.trod_struct Tryz.underlying69 h
  match cs, hl with
  | [c0, c1, c2], _ =>
    match zs, hlen3 with
    | [z0, z1, z2], _ =>
      have k0 := hk 0 _ rfl
      have k1 := hk 1 _ rfl
      have k2 := hk 2 _ rfl
      obtain ⟨m0, r0, _⟩ := DataW.trod_string Tryz.underlying9 k0
      obtain ⟨i1, r1, _⟩ := DataW.trod_int Tryz.underlying3 k1
      obtain ⟨a2, l2, k2', r2⟩ := Go.Joins.slice_form Tryz.underlying46 k2
      rw [r2] at k2
      obtain ⟨L, hL1, hL2, hL3⟩ := open_nested (K := 1) (enc := scs) Tryz.underlying46 Tryz.cells9 (by decide) (fun cs fuel y hl h => txt_open hl h) k2
      simp [cells_int, Tryz.cells9, Tryz.cells46] at r0 r1 r2
      subst hL1
      exact ⟨⟨m0, i1, a2, k2', L⟩, by rw [r0, r1, r2]; rfl, ⟨hL2, hL3⟩⟩
end Lb
end Go.Proofs.YtdfadbpepmkicaaGreat
namespace Go.Proofs.YtdfadbpepmkicaaGreat
open Go.RowKit
open Go.ChangeShapes Go.WideShapes Go.ChangeAt Go.RowKit
set_option linter.unusedVariables false
set_option linter.unusedSimpArgs false
def formO (t : Tol) : Bool := !((t.any && !decide (t.val = emp)) || (decide (t.key = emp) && !t.any))
def okO (t : Tol) : Bool := weB t.key && weB t.val && reB t.eff && formO t
def rightO (l : List Tol) : Bool := l.all okO && decide (l.length ≤ 16)
theorem okO_bad {l : List Tol} {k : Nat} {t : Tol} (h : l[k]? = some t) (ho : okO t = false) : rightO l = false := by
  unfold rightO
  have : l.all okO = false := by
    rw [Bool.eq_false_iff]
    intro he
    have := List.all_eq_true.1 he t (List.mem_of_getElem? h)
    rw [ho] at this
    cases this
  rw [this]; rfl
def CellsO (x : Tol) (b : Nat) (w : World) : Prop := b < w.heap.size ∧ w.cell? ⟨b, 0, none⟩ = some (.string x.key) ∧ w.cell? ⟨b, 1, none⟩ = some (.string x.val) ∧ w.cell? ⟨b, 2, none⟩ = some (.bool x.any) ∧ w.cell? ⟨b, 3, none⟩ = some (.int .i64 x.eff)
theorem CellsO.mono {x : Tol} {b : Nat} {w w' : World} (h : CellsO x b w) (hb : Below w.heap.size w w') : CellsO x b w' := by
  obtain ⟨h0, h1, h2, h3, h4⟩ := h
  have := hb.size
  exact ⟨by omega, by rw [hb.cell (p := ⟨b, 0, none⟩) h0]; exact h1, by rw [hb.cell (p := ⟨b, 1, none⟩) h0]; exact h2, by rw [hb.cell (p := ⟨b, 2, none⟩) h0]; exact h3, by rw [hb.cell (p := ⟨b, 3, none⟩) h0]; exact h4⟩
theorem CellsO.new (x : Tol) (w : World) (t : TypeId) : CellsO x w.heap.size (w.alloc (.cells #[.string x.key, .string x.val, .bool x.any, .int .i64 x.eff] t)) := ⟨by simp, by simp [go_sem], by simp [go_sem], by simp [go_sem], by simp [go_sem]⟩
theorem okO_ref (t : Tol) : okO t = (weB t.key && weB t.val && (decide (t.eff = 0) || effB t.eff) && formO t) := by
  unfold okO reB effB
  have : decide (t.eff = 0 ∨ t.eff = 1 ∨ t.eff = 2 ∨ t.eff = 3) = (decide (t.eff = 0) || decide (1 ≤ t.eff ∧ t.eff ≤ 3)) := by
    rw [← Bool.decide_or]
    exact decide_eq_decide.2 (by omega)
  rw [this]
theorem okQ_cases (t : Tol) : (weB t.key = false ∧ okO t = false) ∨ (weB t.key = true ∧ weB t.val = false ∧ okO t = false) ∨ (weB t.key = true ∧ weB t.val = true ∧ (t.eff != 0) = true ∧ effB t.eff = false ∧ okO t = false) ∨
    (weB t.key = true ∧ weB t.val = true ∧ (t.eff != 0) = true ∧ effB t.eff = true ∧ formO t = false ∧ okO t = false) ∨ (weB t.key = true ∧ weB t.val = true ∧ (t.eff != 0) = true ∧ effB t.eff = true ∧ formO t = true ∧ okO t = true) ∨
    (weB t.key = true ∧ weB t.val = true ∧ (t.eff != 0) = false ∧ formO t = false ∧ okO t = false) ∨ (weB t.key = true ∧ weB t.val = true ∧ (t.eff != 0) = false ∧ formO t = true ∧ okO t = true) := by
  rw [okO_ref]
  cases weB t.key <;> cases weB t.val <;> cases formO t <;> cases h : effB t.eff <;> by_cases h0 : t.eff = 0 <;> simp [h0]
theorem formO_cases (t : Tol) (h : formO t = false) : (t.any = true ∧ ¬ t.val = emp) ∨ (t.any = false ∧ t.key = emp) := by
  unfold formO at h
  cases ha : t.any <;> simp [ha] at h ⊢ <;> exact h
theorem formO_true (t : Tol) (h : formO t = true) : (t.any = true ∧ t.val = emp) ∨ (t.any = false ∧ ¬ t.key = emp) := by
  unfold formO at h
  cases ha : t.any <;> simp [ha] at h ⊢ <;> exact h
set_option maxRecDepth 100000 in
set_option maxHeartbeats 4000000 in
theorem refrightbears_any (a : Option Addr) (ka : Nat) (l : List Tol) (w : World) (hD : TolsAt w a l) (hsz : ∀ x ∈ l, x.key.size ≤ 1000000000 ∧ x.val.size ≤ 1000000000) (hn : l.length ≤ 1000000) :
    Calls Tryz.prog 43 #[.slice a l.length ka] w fun e w' => e = .returned (.bool (rightO l)) ∧ Below w.heap.size w w' := by
  have HD := Lib.hid hD
  have Hsz := Lib.hid hsz
  clear hD hsz
  have Hbad := Lib.hid (fun k t h ho => okO_bad (l := l) (k := k) (t := t) h ho)
  by_cases h16 : 16 < l.length
  · have hr : rightO l = false := by unfold rightO; rw [decide_eq_false (by omega), Bool.and_false]
    rw [hr]
    clear hr Hbad
    go_enter Tryz.func43, Tryz.ntmps43
    go_wp2
    go_ret
    exact ⟨rfl, by (repeat' (first | with_reducible exact Below.refl _ _ | with_reducible assumption | with_reducible refine Below.drew ?_ | with_reducible refine below_drewN' ?_ _ | with_reducible refine Below.alloc ?_ ?_ _ | with_reducible refine Below.setCell ?_ ?_ _ | with_reducible refine below_step (by assumption) ?_ ?_ | omega | (simp; done) | (simp; omega)))⟩
  · have Hend := Lib.hid (show l.all okO = true → rightO l = true from fun h => by unfold rightO; rw [h, decide_eq_true (by omega)]; rfl)
    obtain ⟨n, hln⟩ : ∃ n, l.length = n := ⟨_, rfl⟩
    rw [hln] at hn h16 ⊢
    have Hln := Lib.hid hln
    clear hln
    have h16' : n ≤ 16 := by omega
    go_enter Tryz.func43, Tryz.ntmps43
    go_wp2
    go_loopw [3] (fun i wr => ∃ k : Nat, k ≤ n ∧ i = .int .i64 k ∧ (l.take k).all okO = true ∧ Below w.heap.size w wr) (fun i _ => n - (intOf i).toNat)
    case atStart => exact ⟨0, by omega, rfl, rfl, by (repeat' (first | with_reducible exact Below.refl _ _ | with_reducible assumption | with_reducible refine Below.drew ?_ | with_reducible refine below_drewN' ?_ _ | with_reducible refine Below.alloc ?_ ?_ _ | with_reducible refine Below.setCell ?_ ?_ _ | with_reducible refine below_step (by assumption) ?_ ?_ | omega | (simp; done) | (simp; omega)))⟩
    case round =>
      obtain ⟨k, hk, rfl, hE, hB⟩ := hrel
      obtain ⟨hcB, hfB⟩ := bcell hB
      have hbz := hB.size
      have HE := Lib.hid hE
      clear hE
      by_cases hlt : k < n
      · obtain ⟨x, hx⟩ := mem_at (l := l) (k := k) (by rw [Hln.out]; exact hlt)
        obtain ⟨b, off, rfl, hb, hc⟩ := HD.out (by rw [Hln.out]; omega)
        have hbw : b < wr.heap.size := by omega
        obtain ⟨c0, c1, c2, c3⟩ := tol_cells (hc k x hx)
        obtain ⟨hs1, hs2⟩ := Hsz.out x (List.mem_of_getElem? hx)
        have Hx := Lib.hid hx
        clear hc hx
        rcases okQ_cases x with ⟨k1, hv⟩ | ⟨k1, k2, hv⟩ | ⟨k1, k2, e0, k3, hv⟩ | ⟨k1, k2, e0, k3, k4, hv⟩ | ⟨k1, k2, e0, k3, k4, hv⟩ | ⟨k1, k2, e0, k4, hv⟩ | ⟨k1, k2, e0, k4, hv⟩
        · skip
          have Hs := Lib.hid (Hbad.out k x Hx.out hv)
          have K1 := Lib.hid k1
          first | (have K2 := Lib.hid k2) | skip
          first | (have K3 := Lib.hid k3) | skip
          clear hv k1
          first | clear k2 | skip
          first | clear k3 | skip
          go_wp2_with (first | (go_at_call 62; (with_reducible refine (refmaybe_any x.key hs1 _).mono ?_); rintro e w5 ⟨rfl, hb5⟩; rw [K1.out]; have hX5 : CellsO x wr.heap.size w5 := CellsO.mono (by first | exact CellsO.new x wr 85 | (have h9 := CellsO.new x wr 85; rw [ha] at h9; exact h9)) hb5; have HX5 := Lib.hid hX5; obtain ⟨x50, x51, x52, x53, x54⟩ := hX5; obtain ⟨hc5, hf5⟩ := bcell hb5; have hz5 := hb5.size; (try simp at hz5)) | (go_at_call 62; (with_reducible refine (refmaybe_any x.val hs2 _).mono ?_); rintro e w6 ⟨rfl, hb6⟩; rw [K2.out]; have hX6 := HX5.out.mono hb6; have HX6 := Lib.hid hX6; obtain ⟨x60, x61, x62, x63, x64⟩ := hX6; obtain ⟨hc6, hf6⟩ := bcell hb6; have hz6 := hb6.size; (try simp at hz6)) | (go_at_call 63; (with_reducible refine (refeffect_any _ _).mono ?_); rintro e w7 ⟨rfl, hb7⟩; rw [K3.out]; have hX7 := HX6.out.mono hb7; have HX7 := Lib.hid hX7; obtain ⟨x70, x71, x72, x73, x74⟩ := hX7; obtain ⟨hc7, hf7⟩ := bcell hb7; have hz7 := hb7.size; (try simp at hz7)))
          go_ret
          exact ⟨by rw [Hs.out]; rfl, by (repeat' (first | with_reducible exact Below.refl _ _ | with_reducible assumption | with_reducible refine Below.drew ?_ | with_reducible refine below_drewN' ?_ _ | with_reducible refine Below.alloc ?_ ?_ _ | with_reducible refine Below.setCell ?_ ?_ _ | with_reducible refine below_step (by assumption) ?_ ?_ | omega | (simp; done) | (simp; omega)))⟩
        · skip
          have Hs := Lib.hid (Hbad.out k x Hx.out hv)
          have K1 := Lib.hid k1
          first | (have K2 := Lib.hid k2) | skip
          first | (have K3 := Lib.hid k3) | skip
          clear hv k1
          first | clear k2 | skip
          first | clear k3 | skip
          go_wp2_with (first | (go_at_call 62; (with_reducible refine (refmaybe_any x.key hs1 _).mono ?_); rintro e w5 ⟨rfl, hb5⟩; rw [K1.out]; have hX5 : CellsO x wr.heap.size w5 := CellsO.mono (by first | exact CellsO.new x wr 85 | (have h9 := CellsO.new x wr 85; rw [ha] at h9; exact h9)) hb5; have HX5 := Lib.hid hX5; obtain ⟨x50, x51, x52, x53, x54⟩ := hX5; obtain ⟨hc5, hf5⟩ := bcell hb5; have hz5 := hb5.size; (try simp at hz5)) | (go_at_call 62; (with_reducible refine (refmaybe_any x.val hs2 _).mono ?_); rintro e w6 ⟨rfl, hb6⟩; rw [K2.out]; have hX6 := HX5.out.mono hb6; have HX6 := Lib.hid hX6; obtain ⟨x60, x61, x62, x63, x64⟩ := hX6; obtain ⟨hc6, hf6⟩ := bcell hb6; have hz6 := hb6.size; (try simp at hz6)) | (go_at_call 63; (with_reducible refine (refeffect_any _ _).mono ?_); rintro e w7 ⟨rfl, hb7⟩; rw [K3.out]; have hX7 := HX6.out.mono hb7; have HX7 := Lib.hid hX7; obtain ⟨x70, x71, x72, x73, x74⟩ := hX7; obtain ⟨hc7, hf7⟩ := bcell hb7; have hz7 := hb7.size; (try simp at hz7)))
          go_ret
          exact ⟨by rw [Hs.out]; rfl, by (repeat' (first | with_reducible exact Below.refl _ _ | with_reducible assumption | with_reducible refine Below.drew ?_ | with_reducible refine below_drewN' ?_ _ | with_reducible refine Below.alloc ?_ ?_ _ | with_reducible refine Below.setCell ?_ ?_ _ | with_reducible refine below_step (by assumption) ?_ ?_ | omega | (simp; done) | (simp; omega)))⟩
        · skip
          have Hs := Lib.hid (Hbad.out k x Hx.out hv)
          have K1 := Lib.hid k1
          first | (have K2 := Lib.hid k2) | skip
          first | (have K3 := Lib.hid k3) | skip
          clear hv k1
          first | clear k2 | skip
          first | clear k3 | skip
          go_wp2_with (first | (go_at_call 62; (with_reducible refine (refmaybe_any x.key hs1 _).mono ?_); rintro e w5 ⟨rfl, hb5⟩; rw [K1.out]; have hX5 : CellsO x wr.heap.size w5 := CellsO.mono (by first | exact CellsO.new x wr 85 | (have h9 := CellsO.new x wr 85; rw [ha] at h9; exact h9)) hb5; have HX5 := Lib.hid hX5; obtain ⟨x50, x51, x52, x53, x54⟩ := hX5; obtain ⟨hc5, hf5⟩ := bcell hb5; have hz5 := hb5.size; (try simp at hz5)) | (go_at_call 62; (with_reducible refine (refmaybe_any x.val hs2 _).mono ?_); rintro e w6 ⟨rfl, hb6⟩; rw [K2.out]; have hX6 := HX5.out.mono hb6; have HX6 := Lib.hid hX6; obtain ⟨x60, x61, x62, x63, x64⟩ := hX6; obtain ⟨hc6, hf6⟩ := bcell hb6; have hz6 := hb6.size; (try simp at hz6)) | (go_at_call 63; (with_reducible refine (refeffect_any _ _).mono ?_); rintro e w7 ⟨rfl, hb7⟩; rw [K3.out]; have hX7 := HX6.out.mono hb7; have HX7 := Lib.hid hX7; obtain ⟨x70, x71, x72, x73, x74⟩ := hX7; obtain ⟨hc7, hf7⟩ := bcell hb7; have hz7 := hb7.size; (try simp at hz7)))
          go_ret
          exact ⟨by rw [Hs.out]; rfl, by (repeat' (first | with_reducible exact Below.refl _ _ | with_reducible assumption | with_reducible refine Below.drew ?_ | with_reducible refine below_drewN' ?_ _ | with_reducible refine Below.alloc ?_ ?_ _ | with_reducible refine Below.setCell ?_ ?_ _ | with_reducible refine below_step (by assumption) ?_ ?_ | omega | (simp; done) | (simp; omega)))⟩
        · rcases formO_cases x k4 with ⟨ha, e2⟩ | ⟨ha, e2⟩
          all_goals
            clear k4
            first | (have e3 := emp_lits e2) | (have e3 := emp_litn e2)
            obtain ⟨q1, q2, q3, q4⟩ := e3
            clear e2
            have Hs := Lib.hid (Hbad.out k x Hx.out hv)
            have K1 := Lib.hid k1
            first | (have K2 := Lib.hid k2) | skip
            first | (have K3 := Lib.hid k3) | skip
            clear hv k1
            first | clear k2 | skip
            first | clear k3 | skip
            go_wp2_with (first | (go_at_call 62; (with_reducible refine (refmaybe_any x.key hs1 _).mono ?_); rintro e w5 ⟨rfl, hb5⟩; rw [K1.out]; have hX5 : CellsO x wr.heap.size w5 := CellsO.mono (by first | exact CellsO.new x wr 85 | (have h9 := CellsO.new x wr 85; rw [ha] at h9; exact h9)) hb5; have HX5 := Lib.hid hX5; obtain ⟨x50, x51, x52, x53, x54⟩ := hX5; obtain ⟨hc5, hf5⟩ := bcell hb5; have hz5 := hb5.size; (try simp at hz5)) | (go_at_call 62; (with_reducible refine (refmaybe_any x.val hs2 _).mono ?_); rintro e w6 ⟨rfl, hb6⟩; rw [K2.out]; have hX6 := HX5.out.mono hb6; have HX6 := Lib.hid hX6; obtain ⟨x60, x61, x62, x63, x64⟩ := hX6; obtain ⟨hc6, hf6⟩ := bcell hb6; have hz6 := hb6.size; (try simp at hz6)) | (go_at_call 63; (with_reducible refine (refeffect_any _ _).mono ?_); rintro e w7 ⟨rfl, hb7⟩; rw [K3.out]; have hX7 := HX6.out.mono hb7; have HX7 := Lib.hid hX7; obtain ⟨x70, x71, x72, x73, x74⟩ := hX7; obtain ⟨hc7, hf7⟩ := bcell hb7; have hz7 := hb7.size; (try simp at hz7)))
            go_ret
            exact ⟨by rw [Hs.out]; rfl, by (repeat' (first | with_reducible exact Below.refl _ _ | with_reducible assumption | with_reducible refine Below.drew ?_ | with_reducible refine below_drewN' ?_ _ | with_reducible refine Below.alloc ?_ ?_ _ | with_reducible refine Below.setCell ?_ ?_ _ | with_reducible refine below_step (by assumption) ?_ ?_ | omega | (simp; done) | (simp; omega)))⟩
        · rcases formO_true x k4 with ⟨ha, e2⟩ | ⟨ha, e2⟩
          all_goals
            clear k4
            first | (have e3 := emp_lits e2) | (have e3 := emp_litn e2)
            obtain ⟨q1, q2, q3, q4⟩ := e3
            clear e2
            have Hs := Lib.hid (show (l.take (k + 1)).all okO = true by rw [take_at Hx.out, List.all_append, HE.out]; simp [hv])
            have K1 := Lib.hid k1
            first | (have K2 := Lib.hid k2) | skip
            first | (have K3 := Lib.hid k3) | skip
            clear hv k1
            first | clear k2 | skip
            first | clear k3 | skip
            go_wp2_with (first | (go_at_call 62; (with_reducible refine (refmaybe_any x.key hs1 _).mono ?_); rintro e w5 ⟨rfl, hb5⟩; rw [K1.out]; have hX5 : CellsO x wr.heap.size w5 := CellsO.mono (by first | exact CellsO.new x wr 85 | (have h9 := CellsO.new x wr 85; rw [ha] at h9; exact h9)) hb5; have HX5 := Lib.hid hX5; obtain ⟨x50, x51, x52, x53, x54⟩ := hX5; obtain ⟨hc5, hf5⟩ := bcell hb5; have hz5 := hb5.size; (try simp at hz5)) | (go_at_call 62; (with_reducible refine (refmaybe_any x.val hs2 _).mono ?_); rintro e w6 ⟨rfl, hb6⟩; rw [K2.out]; have hX6 := HX5.out.mono hb6; have HX6 := Lib.hid hX6; obtain ⟨x60, x61, x62, x63, x64⟩ := hX6; obtain ⟨hc6, hf6⟩ := bcell hb6; have hz6 := hb6.size; (try simp at hz6)) | (go_at_call 63; (with_reducible refine (refeffect_any _ _).mono ?_); rintro e w7 ⟨rfl, hb7⟩; rw [K3.out]; have hX7 := HX6.out.mono hb7; have HX7 := Lib.hid hX7; obtain ⟨x70, x71, x72, x73, x74⟩ := hX7; obtain ⟨hc7, hf7⟩ := bcell hb7; have hz7 := hb7.size; (try simp at hz7)))
            all_goals
              go_roundw
              case rel => exact ⟨k + 1, by omega, by go_num, Hs.out, by (repeat' (first | with_reducible exact Below.refl _ _ | with_reducible assumption | with_reducible refine Below.drew ?_ | with_reducible refine below_drewN' ?_ _ | with_reducible refine Below.alloc ?_ ?_ _ | with_reducible refine Below.setCell ?_ ?_ _ | with_reducible refine below_step (by assumption) ?_ ?_ | omega | (simp; done) | (simp; omega)))⟩
              case measure => simp [intOf]; omega
        · rcases formO_cases x k4 with ⟨ha, e2⟩ | ⟨ha, e2⟩
          all_goals
            clear k4
            first | (have e3 := emp_lits e2) | (have e3 := emp_litn e2)
            obtain ⟨q1, q2, q3, q4⟩ := e3
            clear e2
            have Hs := Lib.hid (Hbad.out k x Hx.out hv)
            have K1 := Lib.hid k1
            first | (have K2 := Lib.hid k2) | skip
            first | (have K3 := Lib.hid k3) | skip
            clear hv k1
            first | clear k2 | skip
            first | clear k3 | skip
            go_wp2_with (first | (go_at_call 62; (with_reducible refine (refmaybe_any x.key hs1 _).mono ?_); rintro e w5 ⟨rfl, hb5⟩; rw [K1.out]; have hX5 : CellsO x wr.heap.size w5 := CellsO.mono (by first | exact CellsO.new x wr 85 | (have h9 := CellsO.new x wr 85; rw [ha] at h9; exact h9)) hb5; have HX5 := Lib.hid hX5; obtain ⟨x50, x51, x52, x53, x54⟩ := hX5; obtain ⟨hc5, hf5⟩ := bcell hb5; have hz5 := hb5.size; (try simp at hz5)) | (go_at_call 62; (with_reducible refine (refmaybe_any x.val hs2 _).mono ?_); rintro e w6 ⟨rfl, hb6⟩; rw [K2.out]; have hX6 := HX5.out.mono hb6; have HX6 := Lib.hid hX6; obtain ⟨x60, x61, x62, x63, x64⟩ := hX6; obtain ⟨hc6, hf6⟩ := bcell hb6; have hz6 := hb6.size; (try simp at hz6)) | (go_at_call 63; (with_reducible refine (refeffect_any _ _).mono ?_); rintro e w7 ⟨rfl, hb7⟩; rw [K3.out]; have hX7 := HX6.out.mono hb7; have HX7 := Lib.hid hX7; obtain ⟨x70, x71, x72, x73, x74⟩ := hX7; obtain ⟨hc7, hf7⟩ := bcell hb7; have hz7 := hb7.size; (try simp at hz7)))
            go_ret
            exact ⟨by rw [Hs.out]; rfl, by (repeat' (first | with_reducible exact Below.refl _ _ | with_reducible assumption | with_reducible refine Below.drew ?_ | with_reducible refine below_drewN' ?_ _ | with_reducible refine Below.alloc ?_ ?_ _ | with_reducible refine Below.setCell ?_ ?_ _ | with_reducible refine below_step (by assumption) ?_ ?_ | omega | (simp; done) | (simp; omega)))⟩
        · rcases formO_true x k4 with ⟨ha, e2⟩ | ⟨ha, e2⟩
          all_goals
            clear k4
            first | (have e3 := emp_lits e2) | (have e3 := emp_litn e2)
            obtain ⟨q1, q2, q3, q4⟩ := e3
            clear e2
            have Hs := Lib.hid (show (l.take (k + 1)).all okO = true by rw [take_at Hx.out, List.all_append, HE.out]; simp [hv])
            have K1 := Lib.hid k1
            first | (have K2 := Lib.hid k2) | skip
            first | (have K3 := Lib.hid k3) | skip
            clear hv k1
            first | clear k2 | skip
            first | clear k3 | skip
            go_wp2_with (first | (go_at_call 62; (with_reducible refine (refmaybe_any x.key hs1 _).mono ?_); rintro e w5 ⟨rfl, hb5⟩; rw [K1.out]; have hX5 : CellsO x wr.heap.size w5 := CellsO.mono (by first | exact CellsO.new x wr 85 | (have h9 := CellsO.new x wr 85; rw [ha] at h9; exact h9)) hb5; have HX5 := Lib.hid hX5; obtain ⟨x50, x51, x52, x53, x54⟩ := hX5; obtain ⟨hc5, hf5⟩ := bcell hb5; have hz5 := hb5.size; (try simp at hz5)) | (go_at_call 62; (with_reducible refine (refmaybe_any x.val hs2 _).mono ?_); rintro e w6 ⟨rfl, hb6⟩; rw [K2.out]; have hX6 := HX5.out.mono hb6; have HX6 := Lib.hid hX6; obtain ⟨x60, x61, x62, x63, x64⟩ := hX6; obtain ⟨hc6, hf6⟩ := bcell hb6; have hz6 := hb6.size; (try simp at hz6)) | (go_at_call 63; (with_reducible refine (refeffect_any _ _).mono ?_); rintro e w7 ⟨rfl, hb7⟩; rw [K3.out]; have hX7 := HX6.out.mono hb7; have HX7 := Lib.hid hX7; obtain ⟨x70, x71, x72, x73, x74⟩ := hX7; obtain ⟨hc7, hf7⟩ := bcell hb7; have hz7 := hb7.size; (try simp at hz7)))
            all_goals
              go_roundw
              case rel => exact ⟨k + 1, by omega, by go_num, Hs.out, by (repeat' (first | with_reducible exact Below.refl _ _ | with_reducible assumption | with_reducible refine Below.drew ?_ | with_reducible refine below_drewN' ?_ _ | with_reducible refine Below.alloc ?_ ?_ _ | with_reducible refine Below.setCell ?_ ?_ _ | with_reducible refine below_step (by assumption) ?_ ?_ | omega | (simp; done) | (simp; omega)))⟩
              case measure => simp [intOf]; omega
      · obtain rfl : k = n := by omega
        have Hs := Lib.hid (Hend.out (by rw [← List.take_of_length_le (Nat.le_of_eq Hln.out)]; exact HE.out))
        go_wp2
        go_ret
        exact ⟨by rw [Hs.out]; rfl, by (repeat' (first | with_reducible exact Below.refl _ _ | with_reducible assumption | with_reducible refine Below.drew ?_ | with_reducible refine below_drewN' ?_ _ | with_reducible refine Below.alloc ?_ ?_ _ | with_reducible refine Below.setCell ?_ ?_ _ | with_reducible refine below_step (by assumption) ?_ ?_ | omega | (simp; done) | (simp; omega)))⟩
def pcs (n : Int) : List Value := [.int .i64 n]
theorem pcs_len (n : Int) : (pcs n).length = 1 := rfl
abbrev PrtL := RowsAt pcs 1
structure Pd where
  nm : ByteArray
  n0 : Int
  n1 : Int
  n2 : Int
  n3 : Int
  n4 : Int
  la : Option Addr
  lk : Nat
  labs : List Lab
  sa : Option Addr
  sk : Nat
  sels : List Lab
  ta : Option Addr
  tk : Nat
  trms : List Lb.Trm
  ba : Option Addr
  bk : Nat
  bers : List Tol
  pa : Option Addr
  pk : Nat
  prts : List Int
  aa : Option Addr
  ak : Nat
  aprs : List Lab
  wd : Bool
  da : Option Addr
  dk : Nat
  spds : List Lab
  sw : Int
  rk : Int
  ow : ByteArray
  dm : Bool
  pn : Bool
  lc : Bool
def prow (p : Pd) : List Value := [.string p.nm, .int .i64 p.n0, .int .i64 p.n1, .int .i64 p.n2, .int .i64 p.n3, .int .i64 p.n4, .slice p.la p.labs.length p.lk, .slice p.sa p.sels.length p.sk, .slice p.ta p.trms.length p.tk, .slice p.ba p.bers.length p.bk, .slice p.pa p.prts.length p.pk, .slice p.aa p.aprs.length p.ak, .bool p.wd, .slice p.da p.spds.length p.dk, .int .i64 p.sw, .int .i64 p.rk, .string p.ow, .bool p.dm, .bool p.pn, .bool p.lc]
theorem prow_len (p : Pd) : (prow p).length = 20 := rfl
structure PodAt (w : World) (p : Pd) : Prop where
  labs : LabL w p.la p.labs
  sels : LabL w p.sa p.sels
  trms : Lb.TrmL w p.ta p.trms
  trmA : ∀ t ∈ p.trms, Lb.TrmAt w t
  bers : TolsAt w p.ba p.bers
  prts : PrtL w p.pa p.prts
  aprs : LabL w p.aa p.aprs
  spds : LabL w p.da p.spds
  ll : p.labs.length ≤ maxLen
  sl : p.sels.length ≤ maxLen
  tl : p.trms.length ≤ maxLen
  bl : p.bers.length ≤ maxLen
  pl : p.prts.length ≤ maxLen
  al : p.aprs.length ≤ maxLen
  dl : p.spds.length ≤ maxLen
theorem PodAt.mono {w w' : World} {p : Pd} (h : PodAt w p) (hb : Below w.heap.size w w') : PodAt w' p :=
  ⟨h.labs.mono hb, h.sels.mono hb, h.trms.mono hb, fun t ht => (h.trmA t ht).mono hb, h.bers.mono hb, h.prts.mono hb, h.aprs.mono hb, h.spds.mono hb, h.ll, h.sl, h.tl, h.bl, h.pl, h.al, h.dl⟩
structure PodIn (w : World) (p : Pd) : Prop where
  here : PodAt w p
  ln : NilOk p.la p.labs.length p.lk ∧ p.labs.length ≤ p.lk
  sn : NilOk p.sa p.sels.length p.sk ∧ p.sels.length ≤ p.sk
  tn : NilOk p.ta p.trms.length p.tk ∧ p.trms.length ≤ p.tk
  bn : NilOk p.ba p.bers.length p.bk ∧ p.bers.length ≤ p.bk
  pn : NilOk p.pa p.prts.length p.pk ∧ p.prts.length ≤ p.pk
  an : NilOk p.aa p.aprs.length p.ak ∧ p.aprs.length ≤ p.ak
  dn : NilOk p.da p.spds.length p.dk ∧ p.spds.length ≤ p.dk
theorem PodIn.mono {w w' : World} {p : Pd} (h : PodIn w p) (hb : Below w.heap.size w w') : PodIn w' p := ⟨h.here.mono hb, h.ln, h.sn, h.tn, h.bn, h.pn, h.an, h.dn⟩
theorem Tryz.cells40 : Tryz.prog.cellsOf 40 = 20 := by kernel_rfl
theorem Tryz.cells42 : Tryz.prog.cellsOf 42 = 21 := by kernel_rfl
theorem Tryz.cells85 : Tryz.prog.cellsOf 85 = 4 := by kernel_rfl
theorem Tryz.cells37 : Tryz.prog.cellsOf 37 = 1 := by kernel_rfl
theorem Tryz.cells38 : Tryz.prog.cellsOf 38 = 1 := by kernel_rfl
theorem Tryz.cells30 : Tryz.prog.cellsOf 30 = 1 := by kernel_rfl
set_option maxRecDepth 100000 in
theorem tol_open {H : Type} {enc : TypeId × Value → H} {W : World} {fuel : Nat} {cs : List Value} {y : DataW H × List MemPlace} (hl : cs.length = 4)
    (h : DataW.trod enc Tryz.prog W 0 (fun _ => true) true fuel 85 cs = some y) : ∃ x : Tol, cs = ocs x := by
  obtain ⟨xs, n, _, hx, _, hlen, hg⟩ := DataW.trod_struct Tryz.underlying85 h
  match cs, hl with
  | [c0, c1, c2, c3], _ =>
    match xs, hlen with
    | [y0, y1, y2, y3], _ =>
      have g0 := hg 0 _ rfl
      have g1 := hg 1 _ rfl
      have g2 := hg 2 _ rfl
      have g3 := hg 3 _ rfl
      obtain ⟨s0, q0, _⟩ := DataW.trod_string Tryz.underlying9 g0
      obtain ⟨s1, q1, _⟩ := DataW.trod_string Tryz.underlying9 g1
      obtain ⟨b2, q2, _⟩ := DataW.trod_bool Tryz.underlying4 g2
      obtain ⟨n3, q3, _⟩ := DataW.trod_int Tryz.underlying3 g3
      simp [cells_int, Tryz.cells9, Tryz.cells4] at q0 q1 q2 q3
      exact ⟨⟨s0, s1, b2, n3⟩, by rw [q0, q1, q2, q3]; rfl⟩
theorem prt_open {H : Type} {enc : TypeId × Value → H} {W : World} {fuel : Nat} {cs : List Value} {y : DataW H × List MemPlace} (hl : cs.length = 1)
    (h : DataW.trod enc Tryz.prog W 0 (fun _ => true) true fuel 3 cs = some y) : ∃ n : Int, cs = pcs n := by
  obtain ⟨n0, q0, _⟩ := DataW.trod_int Tryz.underlying3 h
  exact ⟨n0, q0⟩
theorem open_nested_in {α : Type} {enc : α → List Value} {K : Nat} {In : World → α → Prop} {H : Type} {ec : TypeId × Value → H} {P : Program} {W : World} {t e : TypeId} {fuel : Nat} {a : Option Addr} {len cap : Nat} {y : DataW H × List MemPlace}
    (ht : P.underlying t = some (.slice e)) (hE : P.cellsOf e = K) (hE0 : 0 < K)
    (hdec : ∀ (cs : List Value) (fuel : Nat) (y : DataW H × List MemPlace), cs.length = K → DataW.trod ec P W 0 (fun _ => true) true fuel e cs = some y → ∃ x, cs = enc x ∧ In W x)
    (h : DataW.trod ec P W 0 (fun _ => true) true fuel t [.slice a len cap] = some y) :
    ∃ l : List α, l.length = len ∧ RowsAt enc K W a l ∧ len ≤ maxLen ∧ ∀ x ∈ l, In W x := by
  obtain ⟨l, h1, h2, h3⟩ := open_nested (α := {x : α // In W x}) (enc := fun x => enc x.1) ht hE hE0 (fun cs fuel y hl hy => by
    obtain ⟨x, e, hx⟩ := hdec cs fuel y hl hy
    exact ⟨⟨x, hx⟩, e⟩) h
  refine ⟨l.map Subtype.val, by rw [List.length_map]; exact h1, rows_val h2, h3, fun x hx => ?_⟩
  obtain ⟨y, _, rfl⟩ := List.mem_map.1 hx
  exact y.2
set_option maxRecDepth 100000 in
set_option maxHeartbeats 4000000 in
theorem pod_open {H : Type} {enc : TypeId × Value → H} {W : World} {fuel : Nat} {cs : List Value} {y : DataW H × List MemPlace} (hl : cs.length = 20)
    (h : DataW.trod enc Tryz.prog W 0 (fun _ => true) true fuel 40 cs = some y) : ∃ p : Pd, cs = prow p ∧ PodIn W p := by
  obtain ⟨zs, _, _, _, _, hlen3, hk⟩ := DataW.trod_struct Tryz.underlying40 h
  match cs, hl with
  | [c0, c1, c2, c3, c4, c5, c6, c7, c8, c9, c10, c11, c12, c13, c14, c15, c16, c17, c18, c19], _ =>
    match zs, hlen3 with
    | [z0, z1, z2, z3, z4, z5, z6, z7, z8, z9, z10, z11, z12, z13, z14, z15], _ =>
      have k0 := hk 0 _ rfl
      have k1 := hk 1 _ rfl
      have k2 := hk 2 _ rfl
      have k3 := hk 3 _ rfl
      have k4 := hk 4 _ rfl
      have k5 := hk 5 _ rfl
      have k6 := hk 6 _ rfl
      have k7 := hk 7 _ rfl
      have k8 := hk 8 _ rfl
      have k9 := hk 9 _ rfl
      have k10 := hk 10 _ rfl
      have k11 := hk 11 _ rfl
      have k12 := hk 12 _ rfl
      have k13 := hk 13 _ rfl
      have k14 := hk 14 _ rfl
      have k15 := hk 15 _ rfl
      obtain ⟨m0, r0, _⟩ := DataW.trod_string Tryz.underlying9 k0
      obtain ⟨a2, l2, k2', r2⟩ := Go.Joins.slice_form Tryz.underlying36 k2
      obtain ⟨a3, l3, k3', r3⟩ := Go.Joins.slice_form Tryz.underlying36 k3
      obtain ⟨a4, l4, k4', r4⟩ := Go.Joins.slice_form Tryz.underlying37 k4
      obtain ⟨a5, l5, k5', r5⟩ := Go.Joins.slice_form Tryz.underlying38 k5
      obtain ⟨a6, l6, k6', r6⟩ := Go.Joins.slice_form Tryz.underlying30 k6
      obtain ⟨a7, l7, k7', r7⟩ := Go.Joins.slice_form Tryz.underlying36 k7
      obtain ⟨m8, r8, _⟩ := DataW.trod_bool Tryz.underlying4 k8
      obtain ⟨a9, l9, k9', r9⟩ := Go.Joins.slice_form Tryz.underlying36 k9
      obtain ⟨m10, r10, _⟩ := DataW.trod_int Tryz.underlying3 k10
      obtain ⟨m11, r11, _⟩ := DataW.trod_int Tryz.underlying3 k11
      obtain ⟨m12, r12, _⟩ := DataW.trod_string Tryz.underlying9 k12
      obtain ⟨m13, r13, _⟩ := DataW.trod_bool Tryz.underlying4 k13
      obtain ⟨m14, r14, _⟩ := DataW.trod_bool Tryz.underlying4 k14
      obtain ⟨m15, r15, _⟩ := DataW.trod_bool Tryz.underlying4 k15
      rw [r2] at k2
      rw [r3] at k3
      rw [r4] at k4
      rw [r5] at k5
      rw [r6] at k6
      rw [r7] at k7
      rw [r9] at k9
      obtain ⟨L2, e2, x2, y2⟩ := open_nested (K := 2) (enc := kcs) Tryz.underlying36 Tryz.cells83 (by decide) (fun cs fuel y hl h => lab_open hl h) k2
      obtain ⟨L3, e3, x3, y3⟩ := open_nested (K := 2) (enc := kcs) Tryz.underlying36 Tryz.cells83 (by decide) (fun cs fuel y hl h => lab_open hl h) k3
      obtain ⟨L4, e4, x4, y4, v4⟩ := open_nested_in (K := 3) (enc := Lb.trcs) (In := Lb.TrmAt) Tryz.underlying37 Lb.Tryz.cells69 (by decide) (fun cs fuel y hl h => Lb.trm_open hl h) k4
      obtain ⟨L5, e5, x5, y5⟩ := open_nested (K := 4) (enc := ocs) Tryz.underlying38 Tryz.cells85 (by decide) (fun cs fuel y hl h => tol_open hl h) k5
      obtain ⟨L6, e6, x6, y6⟩ := open_nested (K := 1) (enc := pcs) Tryz.underlying30 cells_int (by decide) (fun cs fuel y hl h => prt_open hl h) k6
      obtain ⟨L7, e7, x7, y7⟩ := open_nested (K := 2) (enc := kcs) Tryz.underlying36 Tryz.cells83 (by decide) (fun cs fuel y hl h => lab_open hl h) k7
      obtain ⟨L9, e9, x9, y9⟩ := open_nested (K := 2) (enc := kcs) Tryz.underlying36 Tryz.cells83 (by decide) (fun cs fuel y hl h => lab_open hl h) k9
      have g2 := nested_cap Tryz.underlying36 k2
      have g3 := nested_cap Tryz.underlying36 k3
      have g4 := nested_cap Tryz.underlying37 k4
      have g5 := nested_cap Tryz.underlying38 k5
      have g6 := nested_cap Tryz.underlying30 k6
      have g7 := nested_cap Tryz.underlying36 k7
      have g9 := nested_cap Tryz.underlying36 k9
      obtain ⟨us, _, _, _, _, hlen5, hv⟩ := DataW.trod_struct Tryz.underlying35 k1
      match us, hlen5 with
      | [u0, u1, u2, u3, u4], _ =>
        have v0 := hv 0 _ rfl
        have v1 := hv 1 _ rfl
        have v2 := hv 2 _ rfl
        have v3 := hv 3 _ rfl
        have v4' := hv 4 _ rfl
        obtain ⟨i0, p0, _⟩ := DataW.trod_int Tryz.underlying3 v0
        obtain ⟨i1, p1, _⟩ := DataW.trod_int Tryz.underlying3 v1
        obtain ⟨i2, p2, _⟩ := DataW.trod_int Tryz.underlying3 v2
        obtain ⟨i3, p3, _⟩ := DataW.trod_int Tryz.underlying3 v3
        obtain ⟨i4, p4, _⟩ := DataW.trod_int Tryz.underlying3 v4'
        simp [cells_int, Tryz.cells9, Tryz.cells4, Tryz.cells36, Tryz.cells37, Tryz.cells38, Tryz.cells30, Tryz.cells35] at r0 r2 r3 r4 r5 r6 r7 r8 r9 r10 r11 r12 r13 r14 r15 p0 p1 p2 p3 p4
        subst e2
        subst e3
        subst e4
        subst e5
        subst e6
        subst e7
        subst e9
        exact ⟨⟨m0, i0, i1, i2, i3, i4, a2, k2', L2, a3, k3', L3, a4, k4', L4, a5, k5', L5, a6, k6', L6, a7, k7', L7, m8, a9, k9', L9, m10, m11, m12, m13, m14, m15⟩, by rw [r0, r2, r3, r4, r5, r6, r7, r8, r9, r10, r11, r12, r13, r14, r15, p0, p1, p2, p3, p4]; rfl, ⟨⟨x2, x3, x4, v4, x5, x6, x7, x9, y2, y3, y4, y5, y6, y7, y9⟩, g2, g3, g4, g5, g6, g7, g9⟩⟩
structure Bd where
  p : Pd
  on : ByteArray
def brow (b : Bd) : List Value := prow b.p ++ [.string b.on]
theorem brow_len (b : Bd) : (brow b).length = 21 := rfl
abbrev BndL := RowsAt brow 21
def BndIn (w : World) (b : Bd) : Prop := PodIn w b.p
set_option maxRecDepth 100000 in
theorem bnd_open {H : Type} {enc : TypeId × Value → H} {W : World} {fuel : Nat} {cs : List Value} {y : DataW H × List MemPlace} (hl : cs.length = 21)
    (h : DataW.trod enc Tryz.prog W 0 (fun _ => true) true fuel 42 cs = some y) : ∃ b : Bd, cs = brow b ∧ BndIn W b := by
  obtain ⟨zs, _, _, _, _, hlen3, hk⟩ := DataW.trod_struct Tryz.underlying42 h
  match cs, hl with
  | [c0, c1, c2, c3, c4, c5, c6, c7, c8, c9, c10, c11, c12, c13, c14, c15, c16, c17, c18, c19, c20], _ =>
    match zs, hlen3 with
    | [z0, z1], _ =>
      have k0 := hk 0 _ rfl
      have k1 := hk 1 _ rfl
      obtain ⟨s1, q1, _⟩ := DataW.trod_string Tryz.underlying9 k1
      simp [Tryz.cells40, Tryz.cells9] at k0 q1
      obtain ⟨p, hp, hA⟩ := pod_open rfl k0
      have e : [c0, c1, c2, c3, c4, c5, c6, c7, c8, c9, c10, c11, c12, c13, c14, c15, c16, c17, c18, c19] = prow p := hp
      refine ⟨⟨p, s1⟩, ?_, hA⟩
      show [c0, c1, c2, c3, c4, c5, c6, c7, c8, c9, c10, c11, c12, c13, c14, c15, c16, c17, c18, c19] ++ [c20] = _
      rw [e, q1]
      rfl
set_option maxRecDepth 100000 in
theorem open_bnds {H : Type} {enc : TypeId × Value → H} {W : World} {base : Nat} {v : Value} {d : DataW H} {p : List MemPlace}
    (hv : Value.okWide Tryz.prog W .any base 23 v) (h : DataW.Trod enc Tryz.prog W 0 (fun _ => true) true 23 v d p) :
    ∃ (a : Option Addr) (l : List Bd) (k : Nat), v = .slice a l.length k ∧ NilOk a l.length k ∧ BndL W a l ∧ l.length ≤ maxLen ∧ l.length ≤ k ∧ ∀ x ∈ l, BndIn W x :=
  open_list_in Tryz.underlying23 Tryz.cells42 (by decide) (fun cs fuel y hl hy => bnd_open hl hy) hv h
end Go.Proofs.YtdfadbpepmkicaaGreat
namespace Go.Proofs.YtdfadbpepmkicaaGreat
namespace Tn
open Go.RowKit
set_option linter.unusedVariables false
set_option linter.unusedSimpArgs false
theorem toList_inj (a b : ByteArray) : a.toList = b.toList ↔ a = b := by
  rw [ByteArray.toList_eq, ByteArray.toList_eq]
  exact ⟨fun h => ByteArray.ext (Array.toList_inj.mp h), fun h => by rw [h]⟩
theorem strB_list (a b : ByteArray) : (a.toList == b.toList) = strB a b := by
  unfold strB
  by_cases h : a = b
  · subst h; simp
  · rw [decide_eq_false h, beq_eq_false_iff_ne]; exact fun e => h ((toList_inj _ _).1 e)
theorem guard_taint (op : BinOp) (x y : Operand) (xs ys : Array Value) (w : World) : (eqGuard op 87 x y (.agg xs) (.agg ys)).run Tryz.prog w = .ok () w := run_eqGuard_agg w op _ x y xs ys (by kernel_rfl)
theorem eql_taint0 (x y : Tnt) (w : World) : (Op.equalIn 10000 87 (.agg #[.string x.key, .string x.val, .int .i64 x.eff]) (.agg #[.string y.key, .string y.val, .int .i64 y.eff])).run Tryz.prog w = .ok (tntB x y) w := by
  have hus := Tryz.underlying9
  have has := Tryz.isAgg9
  have hzs := Tryz.sizeOf9
  have hui := Tryz.underlying3
  have hai := Tryz.isAgg3
  have hzi := Tryz.sizeOf3
  have hS : Tryz.prog.underlying 87 = some (.struct (Tryz.prog.fieldsOf 87)) := by kernel_rfl
  have hp : Tryz.prog.stoodInHeld 87 = false := by kernel_rfl
  rw [show (10000 : Nat) = 9999 + 1 from rfl, run_equalIn_agg w 9999 87 _ _ hS hp]
  simp only [Program.fieldsOf, Tryz.underlying87]
  go_simp
  obtain ⟨x1, x2, x3⟩ := x
  obtain ⟨y1, y2, y3⟩ := y
  unfold tntB
  by_cases h1 : x1 = y1 <;> by_cases h2 : x2 = y2 <;> by_cases h3 : x3 = y3 <;> simp [h1, h2, h3, toList_inj]
theorem eql_taint (x y : Tnt) (w : World) : (binOp .eql 87 (.agg #[.string x.key, .string x.val, .int .i64 x.eff]) (.agg #[.string y.key, .string y.val, .int .i64 y.eff])).run Tryz.prog w = .ok (.bool (tntB x y)) w := by
  rw [run_eql_struct, eql_taint0]; rfl
def bearsB (t : Tol) (x : Tnt) : Bool := decide ((t.eff = 0 ∨ t.eff = x.eff) ∧ (t.key = emp ∨ t.key = x.key) ∧ (t.any = true ∨ t.val = x.val))
theorem emp_no {s : ByteArray} (h : ¬ s = emp) : ((s.toList = []) = False) ∧ (!s.toList.isEmpty) = true ∧ s.toList.isEmpty = false := by
  have h' : s.toList ≠ [] := fun e => h ((toList_inj _ _).1 (e.trans emp_list.symm))
  refine ⟨eq_iff_iff.2 ⟨h', False.elim⟩, ?_, ?_⟩ <;> cases hx : s.toList <;> first | exact absurd hx h' | rfl
theorem bears_like (t : Tol) (x : Tnt) : tntB ⟨if t.key = emp then x.key else t.key, if t.any = true then x.val else t.val, if t.eff = 0 then x.eff else t.eff⟩ x = bearsB t x := by
  obtain ⟨k, v, a, e⟩ := t
  obtain ⟨k', v', e'⟩ := x
  unfold tntB bearsB
  by_cases h1 : k = emp <;> by_cases h2 : a = true <;> by_cases h3 : e = 0 <;> simp [h1, h2, h3, eq_comm, and_comm, and_left_comm, Bool.and_assoc]
set_option maxRecDepth 100000 in
set_option maxHeartbeats 1000000 in
theorem bears_any (t : Tol) (x : Tnt) (w : World) :
    Calls Tryz.prog 134 #[.agg #[.string t.key, .string t.val, .bool t.any, .int .i64 t.eff], .agg #[.string x.key, .string x.val, .int .i64 x.eff]] w fun e w' => e = .returned (.bool (bearsB t x)) ∧ Below w.heap.size w w' := by
  have hq := fun w => eql_taint ⟨if t.key = emp then x.key else t.key, if t.any = true then x.val else t.val, if t.eff = 0 then x.eff else t.eff⟩ x w
  simp only [bears_like] at hq
  have hg := guard_taint
  obtain ⟨tk, tv, ta, te⟩ := t
  obtain ⟨xk, xv, xe⟩ := x
  simp only at hq
  obtain ⟨r, hr⟩ : ∃ r, bearsB ⟨tk, tv, ta, te⟩ ⟨xk, xv, xe⟩ = r := ⟨_, rfl⟩
  rw [hr]
  simp only [hr] at hq
  clear hr
  by_cases h1 : tk = emp <;> by_cases h3 : te = 0 <;> cases ta
  all_goals
    first | (have hh := emp_yes h1; simp only [if_pos h1] at hq; obtain ⟨h2, h4, h6⟩ := hh) | (have hh := emp_no h1; simp only [if_neg h1] at hq; obtain ⟨h2, h4, h6⟩ := hh)
    first | (simp only [if_pos h3] at hq; have h5 : (te == 0) = true := (by simp [h3])) | (simp only [if_neg h3] at hq; have h5 : (te == 0) = false := (by simp [h3]))
    simp only [if_true, Bool.false_eq_true, if_false] at hq
    clear h1 h3
    go_enter Tryz.func134, Tryz.ntmps134
    go_wp2
    go_ret
    exact ⟨rfl, by (repeat' (first | with_reducible exact Below.refl _ _ | with_reducible assumption | with_reducible refine Below.drew ?_ | with_reducible refine below_drewN' ?_ _ | with_reducible refine Below.alloc ?_ ?_ _ | with_reducible refine Below.setCell ?_ ?_ _ | with_reducible refine below_step (by assumption) ?_ ?_ | omega | (simp; done) | (simp; omega)))⟩
def borneB (l : List Tol) (x : Tnt) : Bool := l.any fun t => bearsB t x
theorem borneB_take {l : List Tol} {k : Nat} {t : Tol} {x : Tnt} (h : l[k]? = some t) : borneB (l.take (k + 1)) x = (borneB (l.take k) x || bearsB t x) := by
  unfold borneB
  rw [take_at h, List.any_append]
  simp
theorem borneB_yes {l : List Tol} {k : Nat} {t : Tol} {x : Tnt} (h : l[k]? = some t) (hb : bearsB t x = true) : borneB l x = true := by
  unfold borneB
  rw [List.any_eq_true]
  exact ⟨t, List.mem_of_getElem? h, hb⟩
set_option maxRecDepth 100000 in
set_option maxHeartbeats 2000000 in
theorem borne_any (a : Option Addr) (ka : Nat) (l : List Tol) (x : Tnt) (w : World) (hD : TolsAt w a l) (hn : l.length ≤ 1000000) :
    Calls Tryz.prog 128 #[.slice a l.length ka, .agg #[.string (x).key, .string (x).val, .int .i64 (x).eff]] w fun e w' => e = .returned (.bool (borneB l x)) ∧ Below w.heap.size w w' := by
  have HD := Lib.hid hD
  clear hD
  obtain ⟨n, hln⟩ : ∃ n, l.length = n := ⟨_, rfl⟩
  rw [hln] at hn ⊢
  have Hln := Lib.hid hln
  clear hln
  go_enter Tryz.func128, Tryz.ntmps128
  go_wp2
  go_loopw [9] (fun i wr => ∃ k : Nat, k ≤ n ∧ i = .int .i64 k ∧ borneB (l.take k) x = false ∧ Below (w.heap.size + 1) (w.alloc (.cells #[.string x.key, .string x.val, .int .i64 x.eff] 87)) wr) (fun i _ => n - (intOf i).toNat)
  case atStart => exact ⟨0, by omega, rfl, rfl, by (repeat' (first | with_reducible exact Below.refl _ _ | with_reducible assumption | with_reducible refine Below.drew ?_ | with_reducible refine below_drewN' ?_ _ | with_reducible refine Below.alloc ?_ ?_ _ | with_reducible refine Below.setCell ?_ ?_ _ | with_reducible refine below_step (by assumption) ?_ ?_ | omega | (simp; done) | (simp; omega)))⟩
  case round =>
    obtain ⟨k, hk, rfl, hE, hB⟩ := hrel
    have hB' : Below (w.alloc (.cells #[.string x.key, .string x.val, .int .i64 x.eff] 87)).heap.size (w.alloc (.cells #[.string x.key, .string x.val, .int .i64 x.eff] 87)) wr := by simpa using hB
    obtain ⟨hcB, hfB⟩ := bcell hB'
    have hzB := hB.size
    (try simp at hzB)
    have hz0 : w.heap.size < wr.heap.size := by omega
    have HE := Lib.hid hE
    have hBw : Below w.heap.size w wr := by have := hB'.mono (B' := w.heap.size) (by simp); exact ((Below.refl _ w).alloc (Nat.le_refl _) _).trans this
    clear hE
    by_cases hlt : k < n
    · obtain ⟨t, ht⟩ := mem_at (l := l) (k := k) (by rw [Hln.out]; exact hlt)
      have Ht := Lib.hid ht
      clear ht
      obtain ⟨b, off, rfl, hb, hc⟩ := HD.out (by rw [Hln.out]; omega)
      have hbw : b < wr.heap.size := by omega
      have hbw1 : b < w.heap.size + 1 := by omega
      obtain ⟨c0, c1, c2, c3⟩ := tol_cells (hc k t Ht.out)
      clear hc
      cases hv : bearsB t x
      · have Hs := Lib.hid (show borneB (l.take (k + 1)) x = false by rw [borneB_take Ht.out, HE.out, hv]; rfl)
        have Hv := Lib.hid hv
        clear hv
        go_wp2_with (go_at_call 134; (with_reducible refine (bears_any t x _).mono ?_); rintro e w5 ⟨rfl, hb5⟩; rw [Hv.out]; obtain ⟨hc5, hf5⟩ := bcell hb5; have hz5 := hb5.size; (try simp at hz5))
        go_roundw
        case rel => exact ⟨k + 1, by omega, by go_num, Hs.out, by (repeat' (first | with_reducible exact Below.refl _ _ | with_reducible assumption | with_reducible refine Below.drew ?_ | with_reducible refine below_drewN' ?_ _ | with_reducible refine Below.alloc ?_ ?_ _ | with_reducible refine Below.setCell ?_ ?_ _ | with_reducible refine below_step (by assumption) ?_ ?_ | omega | (simp; done) | (simp; omega)))⟩
        case measure => simp [intOf]; omega
      · have Hs := Lib.hid (borneB_yes Ht.out hv)
        have Hv := Lib.hid hv
        clear hv
        go_wp2_with (go_at_call 134; (with_reducible refine (bears_any t x _).mono ?_); rintro e w5 ⟨rfl, hb5⟩; rw [Hv.out]; obtain ⟨hc5, hf5⟩ := bcell hb5; have hz5 := hb5.size; (try simp at hz5))
        go_ret
        exact ⟨by rw [Hs.out]; rfl, by (repeat' (first | with_reducible exact Below.refl _ _ | with_reducible assumption | with_reducible refine Below.drew ?_ | with_reducible refine below_drewN' ?_ _ | with_reducible refine Below.alloc ?_ ?_ _ | with_reducible refine Below.setCell ?_ ?_ _ | with_reducible refine below_step (by assumption) ?_ ?_ | omega | (simp; done) | (simp; omega)))⟩
    · obtain rfl : k = n := by omega
      have Hs := Lib.hid (show borneB l x = false by rw [← HE.out, ← Hln.out, List.take_length])
      go_wp2
      go_ret
      exact ⟨by rw [Hs.out]; rfl, by (repeat' (first | with_reducible exact Below.refl _ _ | with_reducible assumption | with_reducible refine Below.drew ?_ | with_reducible refine below_drewN' ?_ _ | with_reducible refine Below.alloc ?_ ?_ _ | with_reducible refine Below.setCell ?_ ?_ _ | with_reducible refine below_step (by assumption) ?_ ?_ | omega | (simp; done) | (simp; omega)))⟩
def leftB (l : List Tol) (eff : Int) (x : Tnt) : Bool := (decide (eff = 0) || decide (x.eff = eff)) && !borneB l x
def unborneL (l : List Tol) (xs : List Tnt) (eff : Int) : List Tnt := xs.filter (leftB l eff)
theorem filt_yes {α : Type} {P : α → Bool} {xs : List α} {k : Nat} {x : α} (h : xs[k]? = some x) (hp : P x = true) : (xs.take (k + 1)).filter P = (xs.take k).filter P ++ [x] := by
  rw [take_at h, List.filter_append]; simp [hp]
theorem filt_no {α : Type} {P : α → Bool} {xs : List α} {k : Nat} {x : α} (h : xs[k]? = some x) (hp : P x = false) : (xs.take (k + 1)).filter P = (xs.take k).filter P := by
  rw [take_at h, List.filter_append]; simp [hp]
set_option maxRecDepth 100000 in
set_option maxHeartbeats 4000000 in
theorem unborne_any (a c : Option Addr) (ka kc : Nat) (l : List Tol) (xs : List Tnt) (eff : Int) (w : World) (hD : TolsAt w a l) (hn : l.length ≤ 1000000) (hF : TntsAt w c xs) (hm : xs.length ≤ 1000000) :
    Calls Tryz.prog 119 #[.slice a l.length ka, .slice c xs.length kc, .int .i64 eff] w (Gives w (OwnL tcs 3 w.heap.size 87 (unborneL l xs eff))) := by
  have HD := Lib.hid hD
  have HF := Lib.hid hF
  clear hD hF
  obtain ⟨i0, hi, hz0, hz1, hz2⟩ := info_parts Tryz.info87
  have Hi := Lib.hid hi
  have Hz0 := Lib.hid hz0
  have Hz1 := Lib.hid hz1
  have Hz2 := Lib.hid hz2
  clear hi hz0 hz1 hz2
  obtain ⟨n, hln⟩ : ∃ n, xs.length = n := ⟨_, rfl⟩
  rw [hln] at hm ⊢
  have Hln := Lib.hid hln
  clear hln
  go_enter Tryz.func119, Tryz.ntmps119
  go_wp2
  go_loopw [7, 12] (fun v i wr => ∃ k : Nat, k ≤ n ∧ i = .int .i64 k ∧ wr.ownsRow w.heap.size 87 3 v ((xs.take k).filter (leftB l eff)).length (((xs.take k).filter (leftB l eff)).flatMap tcs) ∧ Below w.heap.size w wr) (fun _ i _ => n - (intOf i).toNat)
  case atStart => exact ⟨0, by omega, rfl, World.ownsRow_nil _ _ _ _, by (repeat' (first | with_reducible exact Below.refl _ _ | with_reducible assumption | with_reducible refine Below.drew ?_ | with_reducible refine below_drewN' ?_ _ | with_reducible refine Below.alloc ?_ ?_ _ | with_reducible refine Below.setCell ?_ ?_ _ | with_reducible refine below_step (by assumption) ?_ ?_ | omega | (simp; done) | (simp; omega)))⟩
  case round =>
    obtain ⟨k, hk, rfl, hown, hB⟩ := hrel
    obtain ⟨hcB, hfB⟩ := bcell hB
    have hbz := hB.size
    have Hown := Lib.hid hown
    have HB := Lib.hid hB
    clear hown
    by_cases hlt : k < n
    · obtain ⟨x, hx⟩ := mem_at (l := xs) (k := k) (by rw [Hln.out]; exact hlt)
      have Hx := Lib.hid hx
      obtain ⟨b, off, rfl, hb, hc⟩ := HF.out (by rw [Hln.out]; omega)
      have hbw : b < wr.heap.size := by omega
      obtain ⟨c0, c1, c2⟩ := tnt_cells (hc k x hx)
      clear hc hx
      have HDr := Lib.hid (HD.out.mono hB)
      by_cases he : eff = 0 ∨ x.eff = eff
      · cases hv : borneB l x
        · have Hs := Lib.hid (filt_yes Hx.out (P := leftB l eff) (show leftB l eff x = true by unfold leftB; rw [hv]; rcases he with h | h <;> simp [h]))
          have Hv := Lib.hid hv
          have hL := filt_len (leftB l eff) xs k
          have hc3 : ((xs.take k).filter (leftB l eff)).length + 1 ≤ maxLen := by unfold maxLen; omega
          have hc4 : (((xs.take k).filter (leftB l eff)).length + 1) * 40 ≤ 140737488355328 := by omega
          have Hrow := Lib.hid (show ((xs.take k).filter (leftB l eff)).flatMap tcs ++ tcs x = ((xs.take (k + 1)).filter (leftB l eff)).flatMap tcs by rw [Hs.out]; simp)
          have Hlen := Lib.hid (show ((xs.take k).filter (leftB l eff)).length + 1 = ((xs.take (k + 1)).filter (leftB l eff)).length by rw [Hs.out]; simp)
          clear hL hv
          by_cases h0 : eff = 0
          all_goals
            first | (have k1 : (eff == 0) = true := by rw [h0]; rfl) | (have k1 : (eff == 0) = false := by simpa using h0)
            first | (have k2 : (x.eff == eff) = true := by rcases he with h | h <;> first | exact absurd h h0 | (rw [h]; simp)) | skip
            clear h0 he
            go_wp2_with (first | (go_at_call 128; (with_reducible refine (borne_any a ka l x _ (HDr.out.mono (by (repeat' (first | with_reducible exact Below.refl _ _ | with_reducible assumption | with_reducible refine Below.drew ?_ | with_reducible refine below_drewN' ?_ _ | with_reducible refine Below.alloc ?_ ?_ _ | with_reducible refine Below.setCell ?_ ?_ _ | with_reducible refine below_step (by assumption) ?_ ?_ | omega | (simp; done) | (simp; omega))))) hn).mono ?_); rintro e w5 ⟨rfl, hb5⟩; rw [Hv.out]; obtain ⟨hc5, hf5⟩ := bcell hb5; have hz5 := hb5.size; (try simp at hz5); have HOx := Lib.hid (own_kept (Hown.out.alloc _) hb5); have HBx := Lib.hid (show Below w.heap.size w w5 by (repeat' (first | with_reducible exact Below.refl _ _ | with_reducible assumption | with_reducible refine Below.drew ?_ | with_reducible refine below_drewN' ?_ _ | with_reducible refine Below.alloc ?_ ?_ _ | with_reducible refine Below.setCell ?_ ?_ _ | with_reducible refine below_step (by assumption) ?_ ?_ | omega | (simp; done) | (simp; omega)))); have hbx : w.heap.size ≤ w5.heap.size := by omega) | (at_builtin; refine wpList_append_own _ rfl (.tmp 30) (.tmp 32) 55 rfl w.heap.size 87 i0 _ 3 40 Tryz.underlying55 Hi.out Hz0.out Hz1.out Hz2.out rfl (by decide) _ ((xs.take k).filter (leftB l eff)).length (((xs.take k).filter (leftB l eff)).flatMap tcs) rfl (HOx.out.alloc _) ⟨w5.heap.size, 0, none⟩ 1 1 (tcs x) rfl rfl (news_at _ _ _) (by first | exact tcs_one _ | exact ocs_one _) hc3 hc4 (le_alloc hbx _) ?_; intro v1 w1 hown1 hgrow1 _; rw [Hrow.out, Hlen.out] at hown1; have hB1 := own_below (HOx.out.alloc _) (HBx.out.alloc hbx _) (le_alloc hbx _) hgrow1; have HO1 := Lib.hid hown1; clear hown1 hgrow1))
            go_roundw
            case rel => exact ⟨k + 1, by omega, by go_num, HO1.out, hB1⟩
            case measure => simp [intOf]; omega
        · have Hs := Lib.hid (filt_no Hx.out (P := leftB l eff) (show leftB l eff x = false by unfold leftB; rw [hv]; simp))
          have Hv := Lib.hid hv
          clear hv
          by_cases h0 : eff = 0
          all_goals
            first | (have k1 : (eff == 0) = true := by rw [h0]; rfl) | (have k1 : (eff == 0) = false := by simpa using h0)
            first | (have k2 : (x.eff == eff) = true := by rcases he with h | h <;> first | exact absurd h h0 | (rw [h]; simp)) | skip
            clear h0 he
            go_wp2_with (go_at_call 128; (with_reducible refine (borne_any a ka l x _ (HDr.out.mono (by (repeat' (first | with_reducible exact Below.refl _ _ | with_reducible assumption | with_reducible refine Below.drew ?_ | with_reducible refine below_drewN' ?_ _ | with_reducible refine Below.alloc ?_ ?_ _ | with_reducible refine Below.setCell ?_ ?_ _ | with_reducible refine below_step (by assumption) ?_ ?_ | omega | (simp; done) | (simp; omega))))) hn).mono ?_); rintro e w5 ⟨rfl, hb5⟩; rw [Hv.out]; obtain ⟨hc5, hf5⟩ := bcell hb5; have hz5 := hb5.size; (try simp at hz5); have HOx := Lib.hid (own_kept (Hown.out.alloc _) hb5))
            go_roundw
            case rel => exact ⟨k + 1, by omega, by go_num, by rw [Hs.out]; exact HOx.out, by (repeat' (first | with_reducible exact Below.refl _ _ | with_reducible assumption | with_reducible refine Below.drew ?_ | with_reducible refine below_drewN' ?_ _ | with_reducible refine Below.alloc ?_ ?_ _ | with_reducible refine Below.setCell ?_ ?_ _ | with_reducible refine below_step (by assumption) ?_ ?_ | omega | (simp; done) | (simp; omega)))⟩
            case measure => simp [intOf]; omega
      · have Hs := Lib.hid (filt_no Hx.out (P := leftB l eff) (show leftB l eff x = false by unfold leftB; rw [decide_eq_false (fun h => he (.inl h)), decide_eq_false (fun h => he (.inr h))]; rfl))
        have k1 : (eff == 0) = false := by simpa using fun h => he (.inl h)
        have k2 : (x.eff == eff) = false := by simpa using fun h => he (.inr h)
        clear he
        go_wp2
        go_roundw
        case rel => exact ⟨k + 1, by omega, by go_num, by rw [Hs.out]; exact Hown.out.alloc _, by (repeat' (first | with_reducible exact Below.refl _ _ | with_reducible assumption | with_reducible refine Below.drew ?_ | with_reducible refine below_drewN' ?_ _ | with_reducible refine Below.alloc ?_ ?_ _ | with_reducible refine Below.setCell ?_ ?_ _ | with_reducible refine below_step (by assumption) ?_ ?_ | omega | (simp; done) | (simp; omega)))⟩
        case measure => simp [intOf]; omega
    · obtain rfl : k = n := by omega
      have HP := Lib.hid (show ∀ v, wr.ownsRow w.heap.size 87 3 v ((xs.take k).filter (leftB l eff)).length (((xs.take k).filter (leftB l eff)).flatMap tcs) → Gives w (OwnL tcs 3 w.heap.size 87 (unborneL l xs eff)) (.returned v) wr from fun v h => Gives.ownL (filt_all _ Hln.out).symm h HB.out)
      go_wp2
      refine bodyPost_ret (by simp [results, Tryz.results119, go_sem]) rfl (HP.out _ Hown.out)
set_option maxRecDepth 100000 in
set_option maxHeartbeats 4000000 in
theorem prefers_any (a c : Option Addr) (ka kc : Nat) (l : List Tol) (xs : List Tnt) (w : World) (hD : TolsAt w a l) (hn : l.length ≤ 1000000) (hF : TntsAt w c xs) (hm : xs.length ≤ 1000000) :
    Calls Tryz.prog 101 #[.slice a l.length ka, .slice c xs.length kc] w fun e w' => e = .returned (.int .i64 (unborneL l xs 2).length) ∧ Below w.heap.size w w' := by
  go_enter Tryz.func101, Tryz.ntmps101
  go_wp2_with (go_at_call 119; (with_reducible refine (unborne_any a c ka kc l xs 2 _ hD hn hF hm).mono ?_); rintro e w5 ⟨⟨v, rfl, hv⟩, hb5⟩; obtain ⟨q, kq, rfl, _, _⟩ := hv.isL tcs_len (by decide))
  go_ret
  exact ⟨rfl, by (repeat' (first | with_reducible exact Below.refl _ _ | with_reducible assumption | with_reducible refine Below.drew ?_ | with_reducible refine below_drewN' ?_ _ | with_reducible refine Below.alloc ?_ ?_ _ | with_reducible refine Below.setCell ?_ ?_ _ | with_reducible refine below_step (by assumption) ?_ ?_ | omega | (simp; done) | (simp; omega)))⟩
def allowsB (l : List Tol) (xs : List Tnt) : Bool := decide ((unborneL l xs 1).length = 0) && decide ((unborneL l xs 3).length = 0)
set_option maxRecDepth 100000 in
set_option maxHeartbeats 4000000 in
theorem allows_any (a c : Option Addr) (ka kc : Nat) (l : List Tol) (xs : List Tnt) (w : World) (hD : TolsAt w a l) (hn : l.length ≤ 1000000) (hF : TntsAt w c xs) (hm : xs.length ≤ 1000000) :
    Calls Tryz.prog 137 #[.slice a l.length ka, .slice c xs.length kc] w fun e w' => e = .returned (.bool (allowsB l xs)) ∧ Below w.heap.size w w' := by
  unfold allowsB
  obtain ⟨n1, h1⟩ : ∃ n, (unborneL l xs 1).length = n := ⟨_, rfl⟩
  obtain ⟨n3, h3⟩ : ∃ n, (unborneL l xs 3).length = n := ⟨_, rfl⟩
  rw [h1, h3]
  have H1 := Lib.hid h1
  have H3 := Lib.hid h3
  clear h1 h3
  by_cases e1 : n1 = 0
  · by_cases e3 : n3 = 0
    all_goals
      first | subst e1 | skip
      first | subst e3 | skip
      first | (have k3 : (((n3 : Nat) : Int) == 0) = false := by simpa using e3) | skip
      go_enter Tryz.func137, Tryz.ntmps137
      go_wp2_with (first | (go_at_call 119; (with_reducible refine (unborne_any a c ka kc l xs 1 _ hD hn hF hm).mono ?_); rintro e w5 ⟨⟨v, rfl, hv⟩, hb5⟩; obtain ⟨q, kq, rfl, _, _⟩ := hv.isL tcs_len (by decide); rw [H1.out]; clear hv; have hz5 := hb5.size) | (go_at_call 119; (with_reducible refine (unborne_any a c ka kc l xs 3 _ (hD.mono (by (repeat' (first | with_reducible exact Below.refl _ _ | with_reducible assumption | with_reducible refine Below.drew ?_ | with_reducible refine below_drewN' ?_ _ | with_reducible refine Below.alloc ?_ ?_ _ | with_reducible refine Below.setCell ?_ ?_ _ | with_reducible refine below_step (by assumption) ?_ ?_ | omega | (simp; done) | (simp; omega))))) hn (hF.mono (by (repeat' (first | with_reducible exact Below.refl _ _ | with_reducible assumption | with_reducible refine Below.drew ?_ | with_reducible refine below_drewN' ?_ _ | with_reducible refine Below.alloc ?_ ?_ _ | with_reducible refine Below.setCell ?_ ?_ _ | with_reducible refine below_step (by assumption) ?_ ?_ | omega | (simp; done) | (simp; omega))))) hm).mono ?_); rintro e w6 ⟨⟨v, rfl, hv⟩, hb6⟩; obtain ⟨q, kq, rfl, _, _⟩ := hv.isL tcs_len (by decide); rw [H3.out]; clear hv))
      go_ret
      exact ⟨by simp [*], by (repeat' (first | with_reducible exact Below.refl _ _ | with_reducible assumption | with_reducible refine Below.drew ?_ | with_reducible refine below_drewN' ?_ _ | with_reducible refine Below.alloc ?_ ?_ _ | with_reducible refine Below.setCell ?_ ?_ _ | with_reducible refine below_step (by assumption) ?_ ?_ | omega | (simp; done) | (simp; omega)))⟩
  · have k1 : (((n1 : Nat) : Int) == 0) = false := by simpa using e1
    go_enter Tryz.func137, Tryz.ntmps137
    go_wp2_with (go_at_call 119; (with_reducible refine (unborne_any a c ka kc l xs 1 _ hD hn hF hm).mono ?_); rintro e w5 ⟨⟨v, rfl, hv⟩, hb5⟩; obtain ⟨q, kq, rfl, _, _⟩ := hv.isL tcs_len (by decide); rw [H1.out]; clear hv)
    go_ret
    exact ⟨by simp [e1], by (repeat' (first | with_reducible exact Below.refl _ _ | with_reducible assumption | with_reducible refine Below.drew ?_ | with_reducible refine below_drewN' ?_ _ | with_reducible refine Below.alloc ?_ ?_ _ | with_reducible refine Below.setCell ?_ ?_ _ | with_reducible refine below_step (by assumption) ?_ ?_ | omega | (simp; done) | (simp; omega)))⟩
end Tn
end Go.Proofs.YtdfadbpepmkicaaGreat
namespace Go.Proofs.YtdfadbpepmkicaaGreat
open Go.RowKit
set_option linter.unusedVariables false
set_option linter.unusedSimpArgs false
structure Box (X : Nat) (L : List Value) (V : World) : Prop where
  lt : X < V.heap.size
  cell : ∀ i, V.cell? ⟨X, i, none⟩ = L[i]?
theorem Box.mono {X : Nat} {L : List Value} {V V' : World} (h : Box X L V) (hb : Below V.heap.size V V') : Box X L V' :=
  ⟨Nat.lt_of_lt_of_le h.lt hb.size, fun i => by rw [hb.cell (p := ⟨X, i, none⟩) h.lt]; exact h.cell i⟩
theorem Box.new (w : World) (L : List Value) (t : TypeId) : Box w.heap.size L (w.alloc (.cells L.toArray t)) :=
  ⟨by simp, fun i => by rw [World.cell?_alloc_at _ _ _ _ rfl]; simp⟩
theorem Box.range {X : Nat} {L : List Value} {V : World} (h : Box X L V) : V.rangeAt X 0 L := fun j v hv => by
  rw [Nat.zero_add, h.cell j, hv]
def lightP (p : Pd) : Bool := decide (p.nm.size ≤ 300) && decide (p.ow.size ≤ 300) && decide (p.trms.length ≤ 30) && decide (p.prts.length ≤ 30) && lightL p.labs && lightL p.sels && lightL p.aprs && lightL p.spds && lightB p.bers [] && p.trms.all Lb.lightTm
theorem light1 (c : Option Addr) (kc : Nat) (xs : List Tol) (w : World) (hF : TolsAt w c xs) (hm : xs.length ≤ maxLen) :
    Calls Tryz.prog 35 #[.slice c xs.length kc, .slice none 0 0] w fun e w' => e = .returned (.bool (lightB xs [])) ∧ Below w.heap.size w w' := light_any c none kc 0 xs [] w hF hm RowsAt.nil (Nat.zero_le _)
set_option maxRecDepth 100000 in
set_option maxHeartbeats 4000000 in
theorem lightp_any (p : Pd) (w : World) (hA : PodAt w p) :
    Calls Tryz.prog 16 #[.agg (prow p).toArray] w fun e w' => e = .returned (.bool (lightP p)) ∧ Below w.heap.size w w' := by
  obtain ⟨nm, n0, n1, n2, n3, n4, la, lk, L, sa, sk, S, ta, tk, T, ba, bk, B, pa, pk, P, aa, ak, A, wd, da, dk, D, sw, rk, ow, dm, pn, lc⟩ := p
  obtain ⟨W, hW⟩ : ∃ W, W = w.alloc (.cells #[.string nm, .int .i64 n0, .int .i64 n1, .int .i64 n2, .int .i64 n3, .int .i64 n4, .slice la L.length lk, .slice sa S.length sk, .slice ta T.length tk, .slice ba B.length bk, .slice pa P.length pk, .slice aa A.length ak, .bool wd, .slice da D.length dk, .int .i64 sw, .int .i64 rk, .string ow, .bool dm, .bool pn, .bool lc] 40) := ⟨_, rfl⟩
  have HW := Lib.hid (show Below w.heap.size w W by rw [hW]; exact (Below.refl _ w).alloc (Nat.le_refl _) _)
  have HA := Lib.hid (hA.mono HW.out)
  have HX := Lib.hid (show Box w.heap.size [.string nm, .int .i64 n0, .int .i64 n1, .int .i64 n2, .int .i64 n3, .int .i64 n4, .slice la L.length lk, .slice sa S.length sk, .slice ta T.length tk, .slice ba B.length bk, .slice pa P.length pk, .slice aa A.length ak, .bool wd, .slice da D.length dk, .int .i64 sw, .int .i64 rk, .string ow, .bool dm, .bool pn, .bool lc] W by rw [hW]; exact Box.new w [.string nm, .int .i64 n0, .int .i64 n1, .int .i64 n2, .int .i64 n3, .int .i64 n4, .slice la L.length lk, .slice sa S.length sk, .slice ta T.length tk, .slice ba B.length bk, .slice pa P.length pk, .slice aa A.length ak, .bool wd, .slice da D.length dk, .int .i64 sw, .int .i64 rk, .string ow, .bool dm, .bool pn, .bool lc] 40)
  have hv : lightP ⟨nm, n0, n1, n2, n3, n4, la, lk, L, sa, sk, S, ta, tk, T, ba, bk, B, pa, pk, P, aa, ak, A, wd, da, dk, D, sw, rk, ow, dm, pn, lc⟩ = (decide (nm.size ≤ 300) && decide (ow.size ≤ 300) && decide (T.length ≤ 30) && decide (P.length ≤ 30) && lightL L && lightL S && lightL A && lightL D && lightB B [] && T.all Lb.lightTm) := rfl
  show Calls Tryz.prog 16 #[.agg #[.string nm, .int .i64 n0, .int .i64 n1, .int .i64 n2, .int .i64 n3, .int .i64 n4, .slice la L.length lk, .slice sa S.length sk, .slice ta T.length tk, .slice ba B.length bk, .slice pa P.length pk, .slice aa A.length ak, .bool wd, .slice da D.length dk, .int .i64 sw, .int .i64 rk, .string ow, .bool dm, .bool pn, .bool lc]] w _
  rw [hv]
  obtain ⟨m0, hm0⟩ : ∃ b, lightL L = b := ⟨_, rfl⟩
  obtain ⟨m1, hm1⟩ : ∃ b, lightL S = b := ⟨_, rfl⟩
  obtain ⟨m2, hm2⟩ : ∃ b, lightL A = b := ⟨_, rfl⟩
  obtain ⟨m3, hm3⟩ : ∃ b, lightL D = b := ⟨_, rfl⟩
  obtain ⟨m4, hm4⟩ : ∃ b, lightB B [] = b := ⟨_, rfl⟩
  rw [hm0, hm1, hm2, hm3, hm4]
  have H0 := Lib.hid (fun V (h : LabL V la L) => lightl_any la lk L V h hA.ll)
  have H1 := Lib.hid (fun V (h : LabL V sa S) => lightl_any sa sk S V h hA.sl)
  have H2 := Lib.hid (fun V (h : LabL V aa A) => lightl_any aa ak A V h hA.al)
  have H3 := Lib.hid (fun V (h : LabL V da D) => lightl_any da dk D V h hA.dl)
  have H4 := Lib.hid (fun V (h : TolsAt V ba B) => light1 ba bk B V h hA.bl)
  rw [hm0] at H0
  rw [hm1] at H1
  rw [hm2] at H2
  rw [hm3] at H3
  rw [hm4] at H4
  obtain ⟨R, hR⟩ : ∃ R, (decide (nm.size ≤ 300) && decide (ow.size ≤ 300) && decide (T.length ≤ 30) && decide (P.length ≤ 30) && m0 && m1 && m2 && m3 && m4 && T.all Lb.lightTm) = R := ⟨_, rfl⟩
  rw [hR]
  have HNo := Lib.hid (show ¬ (nm.size ≤ 300 ∧ ow.size ≤ 300 ∧ T.length ≤ 30 ∧ P.length ≤ 30 ∧ m0 = true ∧ m1 = true ∧ m2 = true ∧ m3 = true ∧ m4 = true) → R = false from fun hn => by
    rw [← hR, Bool.eq_false_iff]
    intro hh
    simp only [Bool.and_eq_true, decide_eq_true_eq] at hh
    exact hn ⟨hh.1.1.1.1.1.1.1.1.1, hh.1.1.1.1.1.1.1.1.2, hh.1.1.1.1.1.1.1.2, hh.1.1.1.1.1.1.2, hh.1.1.1.1.1.2, hh.1.1.1.1.2, hh.1.1.1.2, hh.1.1.2, hh.1.2⟩)
  have HYes := Lib.hid (show nm.size ≤ 300 → ow.size ≤ 300 → T.length ≤ 30 → P.length ≤ 30 → m0 = true → m1 = true → m2 = true → m3 = true → m4 = true → R = T.all Lb.lightTm from fun h1 h2 h3 h4 h5 h6 h7 h8 h9 => by
    rw [← hR, decide_eq_true h1, decide_eq_true h2, decide_eq_true h3, decide_eq_true h4, h5, h6, h7, h8, h9]
    rfl)
  clear hv hA hm0 hm1 hm2 hm3 hm4 hR
  go_enter Tryz.func16, Tryz.ntmps16
  go_upto_region 1 with (fail)
  rw [← hW]
  clear hW
  have hx := HX.out.cell
  have hlt := HX.out.lt
  go_wp2_with (first
    | (go_at_call 34; (with_reducible refine (H0.out _ HA.out.labs).mono ?_); rintro e w1 ⟨rfl, hb⟩; have HX1 := Lib.hid (HX.out.mono hb); have hx1 := HX1.out.cell; have hlt1 := HX1.out.lt; have HA1 := Lib.hid (HA.out.mono hb); have HW1 := Lib.hid (HW.out.trans (hb.mono HW.out.size)); clear hb)
    | (go_at_call 34; (with_reducible refine (H1.out _ HA1.out.sels).mono ?_); rintro e w2 ⟨rfl, hb⟩; have HX2 := Lib.hid (HX1.out.mono hb); have hx2 := HX2.out.cell; have hlt2 := HX2.out.lt; have HA2 := Lib.hid (HA1.out.mono hb); have HW2 := Lib.hid (HW1.out.trans (hb.mono HW1.out.size)); clear hb)
    | (go_at_call 34; (with_reducible refine (H2.out _ HA2.out.aprs).mono ?_); rintro e w3 ⟨rfl, hb⟩; have HX3 := Lib.hid (HX2.out.mono hb); have hx3 := HX3.out.cell; have hlt3 := HX3.out.lt; have HA3 := Lib.hid (HA2.out.mono hb); have HW3 := Lib.hid (HW2.out.trans (hb.mono HW2.out.size)); clear hb)
    | (go_at_call 34; (with_reducible refine (H3.out _ HA3.out.spds).mono ?_); rintro e w4 ⟨rfl, hb⟩; have HX4 := Lib.hid (HX3.out.mono hb); have hx4 := HX4.out.cell; have hlt4 := HX4.out.lt; have HA4 := Lib.hid (HA3.out.mono hb); have HW4 := Lib.hid (HW3.out.trans (hb.mono HW3.out.size)); clear hb)
    | (go_at_call 35; (with_reducible refine (H4.out _ HA4.out.bers).mono ?_); rintro e w5 ⟨rfl, hb⟩; have HX5 := Lib.hid (HX4.out.mono hb); have hx5 := HX5.out.cell; have hlt5 := HX5.out.lt; have HA5 := Lib.hid (HA4.out.mono hb); have HW5 := Lib.hid (HW4.out.trans (hb.mono HW4.out.size)); clear hb))
  any_goals
    (obtain rfl : R = false := HNo.out (by
        rintro ⟨a1, a2, a3, a4, a5, a6, a7, a8, a9⟩
        clear hx HNo HYes
        first
          | contradiction
          | omega
          | (simp only [a9, Bool.not_true, Bool.false_eq_true, or_false] at *; omega))
     go_ret
     exact ⟨rfl, by (first | exact HW5.out | exact HW4.out | exact HW3.out | exact HW2.out | exact HW1.out | exact HW.out)⟩
     done)
  rename_i hn1 hn2 hn3 hn4 e0 e1 e2 e3 hlast K9 a9
  have e4 : m4 = true := by have h9 := hlast.2; cases m4 with | false => cases h9 | true => rfl
  have hT30 : T.length ≤ 30 := by omega
  have HRq := Lib.hid (HYes.out (by omega) (by omega) (by omega) (by omega) e0 e1 e2 e3 e4)
  have HT := Lib.hid (fun (t : Lb.Trm) (ht : t ∈ T) (V : World) (hV : Below w5.heap.size w5 V) => Lb.lightterm_any t V ((HA5.out.trmA t ht).mono hV))
  have HTL := Lib.hid HA5.out.trms
  have hz5 := HW5.out.size
  obtain ⟨n, hn⟩ : ∃ n, T.length = n := ⟨_, rfl⟩
  have HN := Lib.hid hn
  have hn30 : n ≤ 30 := by omega
  clear hn1 hn2 hn3 hn4 e0 e1 e2 e3 e4 hlast hx hx1 hx2 hx3 hx4 hx5 hlt hlt1 hlt2 hlt3 hlt4 HX HX1 HX2 HX3 HX4 HA HA1 HA2 HA3 HA4 HA5 HW HW1 HW2 HW3 HW4 H0 H1 H2 H3 H4 HNo HYes
  go_loopw [3] (fun vi wr => ∃ k : Nat, k ≤ n ∧ vi = .int .i64 k ∧ (T.take k).all Lb.lightTm = true ∧ Below w5.heap.size w5 wr) (fun vi _ => n - (intOf vi).toNat)
  case atStart => exact ⟨0, Nat.zero_le _, rfl, rfl, Below.refl _ _⟩
  case round =>
    obtain ⟨k, hk, rfl, hE, hB⟩ := hrel
    have HE := Lib.hid hE
    have HB := Lib.hid hB
    have hbz := hB.size
    have HXr := Lib.hid (HX5.out.mono hB)
    have hxr := HXr.out.cell
    have hltr := HXr.out.lt
    have HB9 := Lib.hid (HW5.out.trans (hB.mono hz5))
    rw [hn] at hxr
    by_cases hlt : k < n
    · obtain ⟨t, ht⟩ := mem_at (l := T) (k := k) (by rw [hn]; exact hlt)
      obtain ⟨b, o, rfl, hb, hc⟩ := (HTL.out.mono hB) (by rw [hn]; omega)
      have c0 : wr.cell? ⟨b, o + k * 3, none⟩ = some (.string t.key) := hc k t ht 0 (by decide)
      have c1 : wr.cell? ⟨b, o + k * 3 + 1, none⟩ = some (.int .i64 t.op) := hc k t ht 1 (by decide)
      have c2 : wr.cell? ⟨b, o + k * 3 + 2, none⟩ = some (.slice t.va t.vals.length t.vk) := hc k t ht 2 (by decide)
      have Ht := Lib.hid ht
      have HTt := Lib.hid (HT.out t (List.mem_of_getElem? ht))
      obtain ⟨z, hz⟩ : ∃ z, Lb.lightTm t = z := ⟨_, rfl⟩
      have HZ := Lib.hid hz
      rw [hz] at HTt
      clear hE hB hc ht hz hn
      cases z with
      | false =>
        obtain rfl : R = false := by rw [HRq.out]; exact all_bad (P := Lb.lightTm) Ht.out HZ.out
        go_wp2_with (go_at_call 36; (with_reducible refine (HTt.out _ HB.out).mono ?_); rintro e w6 ⟨rfl, hb6⟩; have HB6 := Lib.hid (HB9.out.trans (hb6.mono HB9.out.size)); clear hb6)
        go_ret
        exact ⟨rfl, HB6.out⟩
      | true =>
        have HE2 := Lib.hid (all_take1 (P := Lb.lightTm) Ht.out HZ.out HE.out)
        go_wp2_with (go_at_call 36; (with_reducible refine (HTt.out _ HB.out).mono ?_); rintro e w6 ⟨rfl, hb6⟩; have HB6 := Lib.hid (HB.out.trans (hb6.mono hbz)); clear hb6)
        go_roundw
        case rel => exact ⟨k + 1, by omega, by go_num, HE2.out, HB6.out⟩
        case measure => simp [intOf]; omega
    · obtain rfl : k = n := by omega
      obtain rfl : R = true := by rw [HRq.out]; exact all_done (P := Lb.lightTm) HN.out HE.out
      clear hE hB hn
      go_wp2
      go_ret
      exact ⟨rfl, HB9.out⟩
def prtsTo : Int → List Int → Bool
  | _, [] => true
  | last, n :: l => !(decide (n ≤ last) || decide (65535 < n)) && prtsTo n l
def prtsB (l : List Int) : Bool := prtsTo 0 l && decide (l.length ≤ 16)
theorem prtsTo_at {l : List Int} {k : Nat} {x last : Int} (h : l[k]? = some x) : prtsTo last (l.drop k) = (!(decide (x ≤ last) || decide (65535 < x)) && prtsTo x (l.drop (k + 1))) := by
  obtain ⟨h1, h2⟩ := List.getElem?_eq_some_iff.1 h
  rw [List.drop_eq_getElem_cons h1, h2]
  rfl
def trmsB (l : List Lb.Trm) : Bool := l.all Lb.rtrm && decide (l.length ≤ 16)
def skewB (n : Nat) (s : Int) : Bool := if n = 0 then decide (s = 0) else inB s 1 100
def rightP (p : Pd) : Bool := wordB p.nm && weB p.ow && rtB p.n0 p.n1 p.n2 p.n3 p.n4 && decide (p.n3 = 1) && labsB p.labs && labsB p.sels && labsB p.aprs && labsB p.spds && trmsB p.trms && rightO p.bers && prtsB p.prts && (!p.wd || decide (0 < p.aprs.length)) && skewB p.spds.length p.sw && inB p.rk 0 1000
structure LtP (p : Pd) : Prop where
  nm : p.nm.size ≤ 300
  ow : p.ow.size ≤ 300
  tl : p.trms.length ≤ 30
  pl : p.prts.length ≤ 30
  l0 : lightL p.labs = true
  l1 : lightL p.sels = true
  l2 : lightL p.aprs = true
  l3 : lightL p.spds = true
  bl : lightB p.bers [] = true
  tt : ∀ t ∈ p.trms, Lb.lightTm t = true
theorem lightP_iff {p : Pd} (h : lightP p = true) : LtP p := by
  unfold lightP at h
  simp only [Bool.and_eq_true, decide_eq_true_eq] at h
  exact ⟨h.1.1.1.1.1.1.1.1.1, h.1.1.1.1.1.1.1.1.2, h.1.1.1.1.1.1.1.2, h.1.1.1.1.1.1.2, h.1.1.1.1.1.2, h.1.1.1.1.2, h.1.1.1.2, h.1.1.2, h.1.2, List.all_eq_true.1 h.2⟩
theorem lab_sz {l : List Lab} (h : lightL l = true) : ∀ x ∈ l, x.key.size ≤ 1000000000 ∧ x.val.size ≤ 1000000000 := fun x hx => by
  have := ((lightL_iff l).1 h).2 x hx
  omega
theorem ber_sz {l : List Tol} (h : lightB l [] = true) : l.length ≤ 1000000 ∧ ∀ x ∈ l, x.key.size ≤ 1000000000 ∧ x.val.size ≤ 1000000000 := by
  unfold lightB at h
  rw [Bool.and_eq_true, Bool.and_eq_true, decide_eq_true_eq] at h
  refine ⟨by omega, fun x hx => ?_⟩
  have := List.all_eq_true.1 h.2.1 x hx
  unfold shortO at this
  rw [decide_eq_true_eq] at this
  omega
end Go.Proofs.YtdfadbpepmkicaaGreat
