/-
  The contracts of triremeref05.Meets, All.
-/
import Derived.Test.YthbpnfpalcgfeaaGreatLab14
namespace Go.Proofs.YthbpnfpalcgfeaaGreat
namespace Lb
open Go.RowKit
set_option linter.unusedVariables false
set_option linter.unusedSimpArgs false

set_option maxRecDepth 100000 in
set_option maxHeartbeats 8000000 in
theorem refmeets_any (c : Option Addr) (kc : Nat) (l : List Lab) (t : Trm) (w : World) (hF : LabL w c l) (hT : TrmAt w t) (hm : l.length ≤ 1000) (hn : t.vals.length ≤ 1000000) (hv : ∀ x ∈ l, x.val.size ≤ 1000000000) (hs : ∀ v ∈ t.vals, v.size ≤ 1000000000) (hr : rtrm t = true) :
    Calls Tryz.prog 103 #[.slice c l.length kc, .agg #[.string t.key, .int .i64 t.op, .slice t.va t.vals.length t.vk]] w fun e w' => e = .returned (.bool (meetP l t)) ∧ Below w.heap.size w w' := by
  have Hnum := Lib.hid (fun ho => rtrm_num hr ho)
  have Hop := Lib.hid (rtrm_op hr)
  clear hr
  obtain ⟨key, op, va, vk, vals⟩ := t
  obtain ⟨hT, -⟩ := hT
  have hnum := Hnum.out
  have hop := Hop.out
  dsimp only at hT hn hs hnum hop ⊢
  clear Hnum Hop
  have hsz := getV_size (key := key) hv
  have A := fun V (h : LabL V c l) => refget_any c kc l key V h (by unfold maxLen; omega)
  obtain ⟨gv, hgv⟩ : ∃ g, getV l key = g := ⟨_, rfl⟩
  obtain ⟨gb, hgb⟩ : ∃ g, getB l key = g := ⟨_, rfl⟩
  obtain ⟨R, hR⟩ : ∃ R, meetP l ⟨key, op, va, vk, vals⟩ = R := ⟨_, rfl⟩
  rw [hR]
  unfold meetP at hR
  dsimp only at hR
  rw [hgv] at hsz
  rw [hgv, hgb] at hR
  simp only [hgv, hgb] at A
  have HA := Lib.hid A
  have HF := Lib.hid hF
  have HT := Lib.hid hT
  have HR := Lib.hid hR
  have Hs := Lib.hid hs
  have Hnum := Lib.hid hnum
  clear hF hT hgv hgb A hv hR hs hnum
  obtain ⟨n, hln⟩ : ∃ n, vals.length = n := ⟨_, rfl⟩
  rw [hln] at hn ⊢
  have Hln := Lib.hid hln
  clear hln
  go_enter Tryz.func103, Tryz.ntmps103
  go_wp2_with (go_at_call 102; (with_reducible refine (HA.out _ (HF.out.mono (by (repeat' (first | with_reducible exact Below.refl _ _ | with_reducible assumption | with_reducible refine Below.drew ?_ | with_reducible refine below_drewN' ?_ _ | with_reducible refine Below.alloc ?_ ?_ _ | with_reducible refine Below.setCell ?_ ?_ _ | with_reducible refine below_step (by assumption) ?_ ?_ | omega | (simp; done) | (simp; omega)))))).mono ?_); rintro e w1 ⟨rfl, hb1⟩; obtain ⟨hc1, hf1⟩ := bcell hb1; have hz1 := hb1.size; (try simp at hz1); have z1_0 : w.heap.size < w1.heap.size := (by omega); have y1_0 : w.heap.size ≤ w1.heap.size := (by omega); have HB1 := Lib.hid (show Below w.heap.size w w1 by (repeat' (first | with_reducible exact Below.refl _ _ | with_reducible assumption | with_reducible refine Below.drew ?_ | with_reducible refine below_drewN' ?_ _ | with_reducible refine Below.alloc ?_ ?_ _ | with_reducible refine Below.setCell ?_ ?_ _ | with_reducible refine below_step (by assumption) ?_ ?_ | omega | (simp; done) | (simp; omega)))))
  have x1 : w1.cell? ⟨w.heap.size, 1, none⟩ = some (.int .i64 op) := by simp [go_sem, *]
  have x2 : w1.cell? ⟨w.heap.size, 2, none⟩ = some (.slice va n vk) := by simp [go_sem, *]
  have HT1 := Lib.hid (HT.out.mono HB1.out)
  clear hb1 hc1 hf1
  go_loopw [7, 8] (fun b i wr => ∃ k : Nat, k ≤ n ∧ i = .int .i64 k ∧ b = .bool (gb && (vals.take k).any (strB gv)) ∧ Below w1.heap.size w1 wr) (fun _ i _ => n - (intOf i).toNat)
  case atStart => exact ⟨0, Nat.zero_le _, rfl, by simp, by (repeat' (first | with_reducible exact Below.refl _ _ | with_reducible assumption | with_reducible refine Below.drew ?_ | with_reducible refine below_drewN' ?_ _ | with_reducible refine Below.alloc ?_ ?_ _ | with_reducible refine Below.setCell ?_ ?_ _ | with_reducible refine below_step (by assumption) ?_ ?_ | omega | (simp; done) | (simp; omega)))⟩
  case round =>
    obtain ⟨k, hk, rfl, rfl, hB⟩ := hrel
    obtain ⟨hcB, hfB⟩ := bcell hB
    have hbz := hB.size
    have HB := Lib.hid hB
    have hww : w.heap.size < wr.heap.size := by omega
    by_cases hlt : k < n
    · obtain ⟨v, hx⟩ := mem_at (l := vals) (k := k) (by rw [Hln.out]; exact hlt)
      obtain ⟨b, off, e8, hb, hc⟩ := HT1.out (by rw [Hln.out]; omega)
      subst e8
      have hbw : b < wr.heap.size := by omega
      have c0 := txt_cell (hc k v hx)
      rw [Nat.mul_one] at c0
      have Hx := Lib.hid hx
      have Hst := Lib.hid (any_take2 (P := strB gv) hx)
      clear hc hx
      cases hg : gb
      · subst hg
        go_wp2
        go_roundw
        case rel => exact ⟨k + 1, by omega, by go_num, by simp, by (repeat' (first | with_reducible exact Below.refl _ _ | with_reducible assumption | with_reducible refine Below.drew ?_ | with_reducible refine below_drewN' ?_ _ | with_reducible refine Below.alloc ?_ ?_ _ | with_reducible refine Below.setCell ?_ ?_ _ | with_reducible refine below_step (by assumption) ?_ ?_ | omega | (simp; done) | (simp; omega)))⟩
        case measure => simp [intOf]; omega
      · subst hg
        cases hany : (vals.take k).any (strB gv)
        · cases hv : strB gv v
          · have Hn := Lib.hid (show (vals.take (k + 1)).any (strB gv) = false by rw [Hst.out, hany, hv]; rfl)
            have k1 := (strB_list v gv).trans ((strB_symm v gv).trans hv)
            have Ha := Lib.hid hany
            clear hany hv
            go_wp2
            go_roundw
            case rel => exact ⟨k + 1, by omega, by go_num, by rw [Hn.out]; simp, by (repeat' (first | with_reducible exact Below.refl _ _ | with_reducible assumption | with_reducible refine Below.drew ?_ | with_reducible refine below_drewN' ?_ _ | with_reducible refine Below.alloc ?_ ?_ _ | with_reducible refine Below.setCell ?_ ?_ _ | with_reducible refine below_step (by assumption) ?_ ?_ | omega | (simp; done) | (simp; omega)))⟩
            case measure => simp [intOf]; omega
          · have Hn := Lib.hid (show (vals.take (k + 1)).any (strB gv) = true by rw [Hst.out, hv]; simp)
            have k1 := (strB_list v gv).trans ((strB_symm v gv).trans hv)
            have Ha := Lib.hid hany
            clear hany hv
            go_wp2
            go_roundw
            case rel => exact ⟨k + 1, by omega, by go_num, by rw [Hn.out]; simp, by (repeat' (first | with_reducible exact Below.refl _ _ | with_reducible assumption | with_reducible refine Below.drew ?_ | with_reducible refine below_drewN' ?_ _ | with_reducible refine Below.alloc ?_ ?_ _ | with_reducible refine Below.setCell ?_ ?_ _ | with_reducible refine below_step (by assumption) ?_ ?_ | omega | (simp; done) | (simp; omega)))⟩
            case measure => simp [intOf]; omega
        · have Hn := Lib.hid (show (vals.take (k + 1)).any (strB gv) = true by rw [Hst.out, hany]; rfl)
          have Ha := Lib.hid hany
          clear hany
          go_wp2
          go_roundw
          case rel => exact ⟨k + 1, by omega, by go_num, by rw [Hn.out]; simp, by (repeat' (first | with_reducible exact Below.refl _ _ | with_reducible assumption | with_reducible refine Below.drew ?_ | with_reducible refine below_drewN' ?_ _ | with_reducible refine Below.alloc ?_ ?_ _ | with_reducible refine Below.setCell ?_ ?_ _ | with_reducible refine below_step (by assumption) ?_ ?_ | omega | (simp; done) | (simp; omega)))⟩
          case measure => simp [intOf]; omega
    · have hall : vals.take k = vals := List.take_of_length_le (by rw [Hln.out]; omega)
      rw [hall]
      clear hall
      obtain ⟨ci, hci⟩ : ∃ ci, vals.any (strB gv) = ci := ⟨_, rfl⟩
      rw [hci]
      have hR := HR.out
      rw [hci] at hR
      clear hci
      rcases op_cases op with ⟨e0, h⟩ | ⟨e0, h1, h⟩ | ⟨e0, h1, h2, h⟩ | ⟨e0, h1, h2, h3, h⟩ | ⟨e0, h1, h2, h3, h4, h⟩ | ⟨e0, h1, h2, h3, h4, h5, h⟩ | ⟨e0, h1, h2, h3, h4, h5, h⟩
      · subst e0
        rw [if_pos rfl] at hR
        have HR2 := Lib.hid hR
        clear hR
        go_wp2
        go_ret
        exact ⟨by rw [← HR2.out]; first | rfl | simp, HB1.out.trans (HB.out.mono HB1.out.size)⟩
      · subst e0
        rw [if_neg (by decide), if_pos rfl] at hR
        have HR2 := Lib.hid hR
        clear hR
        go_wp2
        go_ret
        exact ⟨by rw [← HR2.out]; first | rfl | simp, HB1.out.trans (HB.out.mono HB1.out.size)⟩
      · subst e0
        rw [if_neg (by decide), if_neg (by decide), if_pos rfl] at hR
        have HR2 := Lib.hid hR
        clear hR
        go_wp2
        go_ret
        exact ⟨by rw [← HR2.out]; first | rfl | simp, HB1.out.trans (HB.out.mono HB1.out.size)⟩
      · subst e0
        rw [if_neg (by decide), if_neg (by decide), if_neg (by decide), if_pos rfl] at hR
        have HR2 := Lib.hid hR
        clear hR
        go_wp2
        go_ret
        exact ⟨by rw [← HR2.out]; first | rfl | simp, HB1.out.trans (HB.out.mono HB1.out.size)⟩
      · subst e0
        rw [if_neg (by decide), if_neg (by decide), if_neg (by decide), if_neg (by decide), if_pos (by decide)] at hR
        obtain ⟨v0, hv0, hnum⟩ := Hnum.out (by decide)
        subst hv0
        have hn1 : n = 1 := by rw [← Hln.out]; rfl
        subst hn1
        obtain ⟨b, off, e8, hb, hc⟩ := HT1.out (by simp)
        subst e8
        have c0 := txt_cell (hc 0 v0 rfl)
        simp only [Nat.zero_mul, Nat.add_zero] at c0
        have hbw : b < wr.heap.size := by omega
        have X := fun V => refnumber_any gv hsz V
        have Y := fun V => refnumber_any v0 (Hs.out v0 List.mem_cons_self) V
        have ev : ([v0] : List ByteArray)[0]?.getD emp = v0 := rfl
        have hd : decide (([v0] : List ByteArray).length = 1) = true := rfl
        rw [ev, hd, Bool.and_true] at hR
        unfold excB at hR
        rw [hnum, decide_eq_true rfl, Bool.and_true] at hR
        simp only [hnum] at Y
        obtain ⟨⟨x, e⟩, hx⟩ : ∃ d, numV gv = d := ⟨_, rfl⟩
        obtain ⟨y, hy⟩ : ∃ d, (numV v0).1 = d := ⟨_, rfl⟩
        rw [hx] at X hR
        simp only [hy] at Y hR
        dsimp only at X hR
        have HX := Lib.hid X
        have HY := Lib.hid Y
        clear X Y hc ev hd hx hy hnum
        cases hg : gb
        · subst hg
          rw [Bool.false_and] at hR
          subst hR
          go_wp2_with (first | ((with_reducible refine (HX.out _).mono ?_); rintro e w2 ⟨rfl, hb2⟩; obtain ⟨hc2, hf2⟩ := bcell hb2; have hz2 := hb2.size; have z2_0 : w.heap.size < w2.heap.size := (by omega); have y2_0 : w.heap.size ≤ w2.heap.size := (by omega); have z2_1 : b < w2.heap.size := (by omega); have y2_1 : b ≤ w2.heap.size := (by omega)) | ((with_reducible refine (HY.out _).mono ?_); rintro e w3 ⟨rfl, hb3⟩; obtain ⟨hc3, hf3⟩ := bcell hb3; have hz3 := hb3.size; have z3_0 : w.heap.size < w3.heap.size := (by omega); have y3_0 : w.heap.size ≤ w3.heap.size := (by omega); have z3_1 : b < w3.heap.size := (by omega); have y3_1 : b ≤ w3.heap.size := (by omega)))
          go_ret
          exact ⟨rfl, HB1.out.trans ((HB.out.trans (by (repeat' (first | with_reducible exact Below.refl _ _ | with_reducible assumption | with_reducible refine Below.drew ?_ | with_reducible refine below_drewN' ?_ _ | with_reducible refine Below.alloc ?_ ?_ _ | with_reducible refine Below.setCell ?_ ?_ _ | with_reducible refine below_step (by assumption) ?_ ?_ | omega | (simp; done) | (simp; omega))))).mono HB1.out.size)⟩
        · subst hg
          by_cases he : e = 0
          · have ge : (e != 0) = false := by simpa using he
            rw [decide_eq_true he] at hR
            simp at hR
            have HR2 := Lib.hid hR
            clear he hR
            go_wp2_with (first | ((with_reducible refine (HX.out _).mono ?_); rintro e w2 ⟨rfl, hb2⟩; obtain ⟨hc2, hf2⟩ := bcell hb2; have hz2 := hb2.size; have z2_0 : w.heap.size < w2.heap.size := (by omega); have y2_0 : w.heap.size ≤ w2.heap.size := (by omega); have z2_1 : b < w2.heap.size := (by omega); have y2_1 : b ≤ w2.heap.size := (by omega)) | ((with_reducible refine (HY.out _).mono ?_); rintro e w3 ⟨rfl, hb3⟩; obtain ⟨hc3, hf3⟩ := bcell hb3; have hz3 := hb3.size; have z3_0 : w.heap.size < w3.heap.size := (by omega); have y3_0 : w.heap.size ≤ w3.heap.size := (by omega); have z3_1 : b < w3.heap.size := (by omega); have y3_1 : b ≤ w3.heap.size := (by omega)))
            go_ret
            exact ⟨by rw [← HR2.out]; first | rfl | simp, HB1.out.trans ((HB.out.trans (by (repeat' (first | with_reducible exact Below.refl _ _ | with_reducible assumption | with_reducible refine Below.drew ?_ | with_reducible refine below_drewN' ?_ _ | with_reducible refine Below.alloc ?_ ?_ _ | with_reducible refine Below.setCell ?_ ?_ _ | with_reducible refine below_step (by assumption) ?_ ?_ | omega | (simp; done) | (simp; omega))))).mono HB1.out.size)⟩
          · have ge : (e != 0) = true := by simpa using he
            rw [decide_eq_false he] at hR
            simp at hR
            subst hR
            clear he
            go_wp2_with (first | ((with_reducible refine (HX.out _).mono ?_); rintro e w2 ⟨rfl, hb2⟩; obtain ⟨hc2, hf2⟩ := bcell hb2; have hz2 := hb2.size; have z2_0 : w.heap.size < w2.heap.size := (by omega); have y2_0 : w.heap.size ≤ w2.heap.size := (by omega); have z2_1 : b < w2.heap.size := (by omega); have y2_1 : b ≤ w2.heap.size := (by omega)) | ((with_reducible refine (HY.out _).mono ?_); rintro e w3 ⟨rfl, hb3⟩; obtain ⟨hc3, hf3⟩ := bcell hb3; have hz3 := hb3.size; have z3_0 : w.heap.size < w3.heap.size := (by omega); have y3_0 : w.heap.size ≤ w3.heap.size := (by omega); have z3_1 : b < w3.heap.size := (by omega); have y3_1 : b ≤ w3.heap.size := (by omega)))
            all_goals (go_ret; exact ⟨rfl, HB1.out.trans ((HB.out.trans (by (repeat' (first | with_reducible exact Below.refl _ _ | with_reducible assumption | with_reducible refine Below.drew ?_ | with_reducible refine below_drewN' ?_ _ | with_reducible refine Below.alloc ?_ ?_ _ | with_reducible refine Below.setCell ?_ ?_ _ | with_reducible refine below_step (by assumption) ?_ ?_ | omega | (simp; done) | (simp; omega))))).mono HB1.out.size)⟩)
      · subst e0
        rw [if_neg (by decide), if_neg (by decide), if_neg (by decide), if_neg (by decide), if_pos (by decide)] at hR
        obtain ⟨v0, hv0, hnum⟩ := Hnum.out (by decide)
        subst hv0
        have hn1 : n = 1 := by rw [← Hln.out]; rfl
        subst hn1
        obtain ⟨b, off, e8, hb, hc⟩ := HT1.out (by simp)
        subst e8
        have c0 := txt_cell (hc 0 v0 rfl)
        simp only [Nat.zero_mul, Nat.add_zero] at c0
        have hbw : b < wr.heap.size := by omega
        have X := fun V => refnumber_any gv hsz V
        have Y := fun V => refnumber_any v0 (Hs.out v0 List.mem_cons_self) V
        have ev : ([v0] : List ByteArray)[0]?.getD emp = v0 := rfl
        have hd : decide (([v0] : List ByteArray).length = 1) = true := rfl
        rw [ev, hd, Bool.and_true] at hR
        unfold excB at hR
        rw [hnum, decide_eq_true rfl, Bool.and_true] at hR
        simp only [hnum] at Y
        obtain ⟨⟨x, e⟩, hx⟩ : ∃ d, numV gv = d := ⟨_, rfl⟩
        obtain ⟨y, hy⟩ : ∃ d, (numV v0).1 = d := ⟨_, rfl⟩
        rw [hx] at X hR
        simp only [hy] at Y hR
        dsimp only at X hR
        have HX := Lib.hid X
        have HY := Lib.hid Y
        clear X Y hc ev hd hx hy hnum
        cases hg : gb
        · subst hg
          rw [Bool.false_and] at hR
          subst hR
          go_wp2_with (first | ((with_reducible refine (HX.out _).mono ?_); rintro e w2 ⟨rfl, hb2⟩; obtain ⟨hc2, hf2⟩ := bcell hb2; have hz2 := hb2.size; have z2_0 : w.heap.size < w2.heap.size := (by omega); have y2_0 : w.heap.size ≤ w2.heap.size := (by omega); have z2_1 : b < w2.heap.size := (by omega); have y2_1 : b ≤ w2.heap.size := (by omega)) | ((with_reducible refine (HY.out _).mono ?_); rintro e w3 ⟨rfl, hb3⟩; obtain ⟨hc3, hf3⟩ := bcell hb3; have hz3 := hb3.size; have z3_0 : w.heap.size < w3.heap.size := (by omega); have y3_0 : w.heap.size ≤ w3.heap.size := (by omega); have z3_1 : b < w3.heap.size := (by omega); have y3_1 : b ≤ w3.heap.size := (by omega)))
          go_ret
          exact ⟨rfl, HB1.out.trans ((HB.out.trans (by (repeat' (first | with_reducible exact Below.refl _ _ | with_reducible assumption | with_reducible refine Below.drew ?_ | with_reducible refine below_drewN' ?_ _ | with_reducible refine Below.alloc ?_ ?_ _ | with_reducible refine Below.setCell ?_ ?_ _ | with_reducible refine below_step (by assumption) ?_ ?_ | omega | (simp; done) | (simp; omega))))).mono HB1.out.size)⟩
        · subst hg
          by_cases he : e = 0
          · have ge : (e != 0) = false := by simpa using he
            rw [decide_eq_true he] at hR
            simp at hR
            have HR2 := Lib.hid hR
            clear he hR
            go_wp2_with (first | ((with_reducible refine (HX.out _).mono ?_); rintro e w2 ⟨rfl, hb2⟩; obtain ⟨hc2, hf2⟩ := bcell hb2; have hz2 := hb2.size; have z2_0 : w.heap.size < w2.heap.size := (by omega); have y2_0 : w.heap.size ≤ w2.heap.size := (by omega); have z2_1 : b < w2.heap.size := (by omega); have y2_1 : b ≤ w2.heap.size := (by omega)) | ((with_reducible refine (HY.out _).mono ?_); rintro e w3 ⟨rfl, hb3⟩; obtain ⟨hc3, hf3⟩ := bcell hb3; have hz3 := hb3.size; have z3_0 : w.heap.size < w3.heap.size := (by omega); have y3_0 : w.heap.size ≤ w3.heap.size := (by omega); have z3_1 : b < w3.heap.size := (by omega); have y3_1 : b ≤ w3.heap.size := (by omega)))
            go_ret
            exact ⟨by rw [← HR2.out]; first | rfl | simp, HB1.out.trans ((HB.out.trans (by (repeat' (first | with_reducible exact Below.refl _ _ | with_reducible assumption | with_reducible refine Below.drew ?_ | with_reducible refine below_drewN' ?_ _ | with_reducible refine Below.alloc ?_ ?_ _ | with_reducible refine Below.setCell ?_ ?_ _ | with_reducible refine below_step (by assumption) ?_ ?_ | omega | (simp; done) | (simp; omega))))).mono HB1.out.size)⟩
          · have ge : (e != 0) = true := by simpa using he
            rw [decide_eq_false he] at hR
            simp at hR
            subst hR
            clear he
            go_wp2_with (first | ((with_reducible refine (HX.out _).mono ?_); rintro e w2 ⟨rfl, hb2⟩; obtain ⟨hc2, hf2⟩ := bcell hb2; have hz2 := hb2.size; have z2_0 : w.heap.size < w2.heap.size := (by omega); have y2_0 : w.heap.size ≤ w2.heap.size := (by omega); have z2_1 : b < w2.heap.size := (by omega); have y2_1 : b ≤ w2.heap.size := (by omega)) | ((with_reducible refine (HY.out _).mono ?_); rintro e w3 ⟨rfl, hb3⟩; obtain ⟨hc3, hf3⟩ := bcell hb3; have hz3 := hb3.size; have z3_0 : w.heap.size < w3.heap.size := (by omega); have y3_0 : w.heap.size ≤ w3.heap.size := (by omega); have z3_1 : b < w3.heap.size := (by omega); have y3_1 : b ≤ w3.heap.size := (by omega)))
            all_goals (go_ret; exact ⟨rfl, HB1.out.trans ((HB.out.trans (by (repeat' (first | with_reducible exact Below.refl _ _ | with_reducible assumption | with_reducible refine Below.drew ?_ | with_reducible refine below_drewN' ?_ _ | with_reducible refine Below.alloc ?_ ?_ _ | with_reducible refine Below.setCell ?_ ?_ _ | with_reducible refine below_step (by assumption) ?_ ?_ | omega | (simp; done) | (simp; omega))))).mono HB1.out.size)⟩)
      · exfalso
        omega
end Lb
end Go.Proofs.YthbpnfpalcgfeaaGreat
