/-
  The contracts of triremeref23.one, Right and triremelaw23.right.
-/
import Derived.Test.YtdlebpobkkndaaaCap3
namespace Go.Proofs.Ytdlebpobkkndaaa
open Go.RowKit
set_option linter.unusedVariables false

set_option maxRecDepth 100000 in
theorem one23_any (n : Int) (w : World) :
    Calls Try.prog 15 #[.int .i64 n] w fun e w' => e = .returned (.bool (capB n)) ∧ Below w.heap.size w w' := by
  rcases capB_cases n with ⟨a1, h0⟩ | ⟨a1, a2, h0⟩ | ⟨a1, a2, h0⟩
  all_goals
    rw [h0]
    clear h0
    go_enter Try.func15, Try.ntmps15
    go_wp2
    go_ret
    exact ⟨by first | rfl | (simp; omega), by (repeat' (first | with_reducible exact Below.refl _ _ | with_reducible assumption | with_reducible refine Below.drew ?_ | with_reducible refine below_drewN' ?_ _ | with_reducible refine Below.alloc ?_ ?_ _ | with_reducible refine Below.setCell ?_ ?_ _ | with_reducible refine below_step (by assumption) ?_ ?_ | omega | (simp; done) | (simp; omega)))⟩

set_option maxRecDepth 100000 in
set_option maxHeartbeats 2000000 in
theorem right23_any (c0 c1 c2 : Int) (w : World) :
    Calls Try.prog 7 #[.agg #[.int .i64 c0, .int .i64 c1, .int .i64 c2]] w fun e w' => e = .returned (.bool (rightC c0 c1 c2)) ∧ Below w.heap.size w w' := by
  unfold rightC
  cases h0 : capB c0
  rotate_left
  cases h1 : capB c1
  rotate_left
  all_goals
    have H0 := Lib.hid h0
    first | (have H1 := Lib.hid h1) | skip
    clear h0
    first | clear h1 | skip
    go_enter Try.func7, Try.ntmps7
    go_wp2_with (first
      | (go_at_call 15; (with_reducible refine (one23_any c0 _).mono ?_); rw [H0.out]; rintro e w1 ⟨rfl, hb1⟩; obtain ⟨hc1, hf1⟩ := bcell hb1; have hz1 := hb1.size; (try simp at hz1); have hx1 : w.heap.size < w1.heap.size := (by omega))
      | (go_at_call 15; (with_reducible refine (one23_any c1 _).mono ?_); rw [H1.out]; rintro e w2 ⟨rfl, hb2⟩; obtain ⟨hc2, hf2⟩ := bcell hb2; have hz2 := hb2.size; have hx2 : w.heap.size < w2.heap.size := (by omega))
      | (go_at_call 15; (with_reducible refine (one23_any c2 _).mono ?_); rintro e w3 ⟨rfl, hb3⟩; have hz3 := hb3.size))
    go_ret
    exact ⟨by simp, by (repeat' (first | with_reducible exact Below.refl _ _ | with_reducible assumption | with_reducible refine Below.drew ?_ | with_reducible refine below_drewN' ?_ _ | with_reducible refine Below.alloc ?_ ?_ _ | with_reducible refine Below.setCell ?_ ?_ _ | with_reducible refine below_step (by assumption) ?_ ?_ | omega | (simp; done) | (simp; omega)))⟩

def bothM (m : Mac) : Bool := lightM m && rightM m
def rightAll (c0 c1 c2 : Int) (ms : List Mac) (like : Mac) : Bool := decide (ms.length ≤ 30) && (rightC c0 c1 c2 && (bothM like && ms.all bothM))
theorem bothM_ok {m : Mac} (h : bothM m = true) : (0 ≤ m.r0 ∧ m.r0 ≤ 1125899906842624) ∧ (0 ≤ m.r1 ∧ m.r1 ≤ 1125899906842624) := by
  unfold bothM rightM at h
  simp only [Bool.and_eq_true] at h
  have := (rtB_iff m.r0 m.r1 m.r2 m.r3 m.r4).1 h.2.1.1.2
  exact ⟨this.1, this.2.1⟩
theorem rightAll_ok {c0 c1 c2 : Int} {ms : List Mac} {like : Mac} (h : rightAll c0 c1 c2 ms like = true) : ms.length ≤ 30 ∧ rightC c0 c1 c2 = true ∧ MacsOk [like] ∧ MacsOk ms := by
  unfold rightAll at h
  simp only [Bool.and_eq_true, decide_eq_true_eq] at h
  obtain ⟨h1, h2, h3, h4⟩ := h
  refine ⟨h1, h2, fun x hx => ?_, fun x hx => ?_⟩
  · obtain rfl : x = like := by simpa using hx
    exact bothM_ok h3
  · exact bothM_ok (List.all_eq_true.1 h4 x hx)

def CellsC (c0 c1 c2 : Int) (b : Nat) (w : World) : Prop := b < w.heap.size ∧ w.cell? ⟨b, 0, none⟩ = some (.int .i64 c0) ∧ w.cell? ⟨b, 1, none⟩ = some (.int .i64 c1) ∧ w.cell? ⟨b, 2, none⟩ = some (.int .i64 c2)
theorem CellsC.mono {c0 c1 c2 : Int} {b : Nat} {w w' : World} (h : CellsC c0 c1 c2 b w) (hb : Below w.heap.size w w') : CellsC c0 c1 c2 b w' := by
  obtain ⟨h0, h1, h2, h3⟩ := h
  have := hb.size
  exact ⟨by omega, by rw [hb.cell (p := ⟨b, 0, none⟩) h0]; exact h1, by rw [hb.cell (p := ⟨b, 1, none⟩) h0]; exact h2, by rw [hb.cell (p := ⟨b, 2, none⟩) h0]; exact h3⟩
theorem CellsM.all {m : Mac} {b : Nat} {w : World} (h : CellsM m b w) : b < w.heap.size ∧ w.cell? ⟨b, 0, none⟩ = some (.string m.nm) ∧ w.cell? ⟨b, 1, none⟩ = some (.string m.gp) ∧ w.cell? ⟨b, 2, none⟩ = some (.int .i64 m.r0) ∧ w.cell? ⟨b, 3, none⟩ = some (.int .i64 m.r1) ∧
    w.cell? ⟨b, 4, none⟩ = some (.int .i64 m.r2) ∧ w.cell? ⟨b, 5, none⟩ = some (.int .i64 m.r3) ∧ w.cell? ⟨b, 6, none⟩ = some (.int .i64 m.r4) ∧ w.cell? ⟨b, 7, none⟩ = some (.slice m.la m.labs.length m.lk) ∧
    w.cell? ⟨b, 8, none⟩ = some (.slice m.ta m.tnts.length m.tk) ∧ w.cell? ⟨b, 9, none⟩ = some (.bool m.rd) := by
  obtain ⟨h0, h⟩ := h
  obtain ⟨m0, m1, m2, m3, m4, m5, m6, m7, m8, m9⟩ := mac_cells h
  simp only [Nat.zero_add] at m1 m2 m3 m4 m5 m6 m7 m8 m9
  exact ⟨h0, m0, m1, m2, m3, m4, m5, m6, m7, m8, m9⟩

set_option maxRecDepth 100000 in
set_option maxHeartbeats 8000000 in
theorem rightall_any (c0 c1 c2 : Int) (c : Option Addr) (kc : Nat) (ms : List Mac) (like : Mac) (w : World) (hF : MacsAt w c ms) (hm : ms.length ≤ maxLen) (hA : ∀ x ∈ ms, MacAt w x) (hL : MacAt w like) :
    Calls Try.prog 8 #[.agg #[.int .i64 c0, .int .i64 c1, .int .i64 c2], .slice c ms.length kc, .agg #[.string (like).nm, .string (like).gp, .int .i64 (like).r0, .int .i64 (like).r1, .int .i64 (like).r2, .int .i64 (like).r3, .int .i64 (like).r4, .slice (like).la (like).labs.length (like).lk, .slice (like).ta (like).tnts.length (like).tk, .bool (like).rd]] w fun e w' => e = .returned (.bool (rightAll c0 c1 c2 ms like)) ∧ Below w.heap.size w w' := by
  have HF := Lib.hid hF
  have HA := Lib.hid hA
  have HL := Lib.hid hL
  clear hF hA hL
  by_cases h30 : 30 < ms.length
  · have hr : rightAll c0 c1 c2 ms like = false := by unfold rightAll; rw [decide_eq_false (by omega)]; rfl
    rw [hr]
    clear hr
    unfold maxLen at hm
    go_enter Try.func8, Try.ntmps8
    go_wp2
    go_ret
    exact ⟨rfl, by (repeat' (first | with_reducible exact Below.refl _ _ | with_reducible assumption | with_reducible refine Below.drew ?_ | with_reducible refine below_drewN' ?_ _ | with_reducible refine Below.alloc ?_ ?_ _ | with_reducible refine Below.setCell ?_ ?_ _ | with_reducible refine below_step (by assumption) ?_ ?_ | omega | (simp; done) | (simp; omega)))⟩
  · have hr : rightAll c0 c1 c2 ms like = (rightC c0 c1 c2 && (bothM like && ms.all bothM)) := by unfold rightAll; rw [decide_eq_true (by omega)]; rfl
    rw [hr]
    clear hr
    obtain ⟨n, hln⟩ : ∃ n, ms.length = n := ⟨_, rfl⟩
    rw [hln] at hm h30 ⊢
    have Hln := Lib.hid hln
    clear hln hm
    have h30' : n ≤ 30 := by omega
    clear h30
    cases h1 : rightC c0 c1 c2
    rotate_left
    cases h2 : lightM like
    rotate_left
    cases h3 : rightM like
    rotate_left
    all_goals
      have H1 := Lib.hid h1
      first | (have H2 := Lib.hid h2) | skip
      first | (have H3 := Lib.hid h3) | skip
      first | (have e2 : bothM like = true := by unfold bothM; rw [h2, h3]; rfl) | (have e2 : bothM like = false := by unfold bothM; rw [h2, h3]; rfl) | (have e2 : bothM like = false := by unfold bothM; rw [h2]; rfl) | skip
      clear h1
      first | clear h2 | skip
      first | clear h3 | skip
      first | (rw [e2]; clear e2) | skip
      go_enter Try.func8, Try.ntmps8
      go_wp2_with (first
        | (go_at_call 7; (with_reducible refine (right23_any c0 c1 c2 _).mono ?_); rw [H1.out]; rintro e w1 ⟨rfl, hb1⟩; obtain ⟨hc1, hf1⟩ := bcell hb1; have hz1 := hb1.size; (try simp at hz1); have hx1 : w.heap.size + 1 < w1.heap.size := (by omega); have HB1 := Lib.hid (show Below w.heap.size w w1 by (repeat' (first | with_reducible exact Below.refl _ _ | with_reducible assumption | with_reducible refine Below.drew ?_ | with_reducible refine below_drewN' ?_ _ | with_reducible refine Below.alloc ?_ ?_ _ | with_reducible refine Below.setCell ?_ ?_ _ | with_reducible refine below_step (by assumption) ?_ ?_ | omega | (simp; done) | (simp; omega)))))
        | (go_at_call 16; (with_reducible refine (lightm_any like _ (HL.out.mono HB1.out)).mono ?_); rw [H2.out]; rintro e w2 ⟨rfl, hb2⟩; obtain ⟨hc2, hf2⟩ := bcell hb2; have hz2 := hb2.size; have hx2 : w.heap.size + 1 < w2.heap.size := (by omega); have HB2 := Lib.hid (HB1.out.trans (hb2.mono HB1.out.size)))
        | (go_at_call 17; (with_reducible refine (rightm_any like _ (HL.out.mono HB2.out) H2.out).mono ?_); rw [H3.out]; rintro e w3 ⟨rfl, hb3⟩; have hz3 := hb3.size; have HB3 := Lib.hid (HB2.out.trans (hb3.mono HB2.out.size))))
    all_goals
      first
        | (go_ret; exact ⟨by simp, by (repeat' (first | with_reducible exact Below.refl _ _ | with_reducible assumption | with_reducible refine Below.drew ?_ | with_reducible refine below_drewN' ?_ _ | with_reducible refine Below.alloc ?_ ?_ _ | with_reducible refine Below.setCell ?_ ?_ _ | with_reducible refine below_step (by assumption) ?_ ?_ | omega | (simp; done) | (simp; omega)))⟩)
        | skip
    have HFV := Lib.hid (HF.out.mono HB3.out)
    have HAV := Lib.hid (fun x hx => (HA.out x hx).mono HB3.out)
    have hzV := HB3.out.size
    clear hb1 hb2 hb3 hz1 hz2 hz3 hx1 hx2 HB1 HB2
    obtain ⟨V, hV⟩ : ∃ V, V = w3 := ⟨_, rfl⟩
    subst hV
    go_loopw [7] (fun i wr => ∃ k : Nat, k ≤ n ∧ i = .int .i64 k ∧ (ms.take k).all bothM = true ∧ Below V.heap.size V wr) (fun i _ => n - (intOf i).toNat)
    case atStart => exact ⟨0, by omega, rfl, rfl, by (repeat' (first | with_reducible exact Below.refl _ _ | with_reducible assumption | with_reducible refine Below.drew ?_ | with_reducible refine below_drewN' ?_ _ | with_reducible refine Below.alloc ?_ ?_ _ | with_reducible refine Below.setCell ?_ ?_ _ | with_reducible refine below_step (by assumption) ?_ ?_ | omega | (simp; done) | (simp; omega)))⟩
    case round =>
      obtain ⟨k, hk, rfl, hE, hB⟩ := hrel
      obtain ⟨hcB, hfB⟩ := bcell hB
      have hbz := hB.size
      have HE := Lib.hid hE
      have HB := Lib.hid hB
      clear hE
      by_cases hlt : k < n
      · obtain ⟨x, hx⟩ := mem_at (l := ms) (k := k) (by rw [Hln.out]; exact hlt)
        obtain ⟨b, off, rfl, hb, hc⟩ := HFV.out (by rw [Hln.out]; omega)
        have hbw : b < wr.heap.size := by omega
        obtain ⟨m0, m1, m2, m3, m4, m5, m6, m7, m8, m9⟩ := mac_cells (hc k x hx)
        have HAx := Lib.hid ((HAV.out x (List.mem_of_getElem? hx)).mono HB.out)
        have Hx := Lib.hid hx
        clear hc hx
        cases k1 : lightM x
        · have Hs := Lib.hid (show (true && (true && ms.all bothM)) = false by rw [all_bad Hx.out (P := bothM) (by unfold bothM; rw [k1]; rfl)]; rfl)
          have K1 := Lib.hid k1
          clear k1
          go_wp2_with (go_at_call 16; (with_reducible refine (lightm_any x _ HAx.out).mono ?_); rw [K1.out]; rintro e w5 ⟨rfl, hb5⟩; have hz5 := hb5.size)
          go_ret
          exact ⟨by rw [Hs.out]; rfl, HB3.out.trans ((HB.out.mono hzV).trans (by (repeat' (first | with_reducible exact Below.refl _ _ | with_reducible assumption | with_reducible refine Below.drew ?_ | with_reducible refine below_drewN' ?_ _ | with_reducible refine Below.alloc ?_ ?_ _ | with_reducible refine Below.setCell ?_ ?_ _ | with_reducible refine below_step (by assumption) ?_ ?_ | omega | (simp; done) | (simp; omega)))))⟩
        · cases k2 : rightM x
          · have Hs := Lib.hid (show (true && (true && ms.all bothM)) = false by rw [all_bad Hx.out (P := bothM) (by unfold bothM; rw [k1, k2]; rfl)]; rfl)
            have K1 := Lib.hid k1
            have K2 := Lib.hid k2
            clear k1 k2
            go_wp2_with (first
              | (go_at_call 16; (with_reducible refine (lightm_any x _ HAx.out).mono ?_); rw [K1.out]; rintro e w5 ⟨rfl, hb5⟩; obtain ⟨hc5, hf5⟩ := bcell hb5; have hz5 := hb5.size; have hbx5 : b < w5.heap.size := (by omega); have HA5 := Lib.hid (HAx.out.mono hb5))
              | (go_at_call 17; (with_reducible refine (rightm_any x _ HA5.out K1.out).mono ?_); rw [K2.out]; rintro e w6 ⟨rfl, hb6⟩; have hz6 := hb6.size))
            go_ret
            exact ⟨by rw [Hs.out]; rfl, HB3.out.trans ((HB.out.mono hzV).trans (by (repeat' (first | with_reducible exact Below.refl _ _ | with_reducible assumption | with_reducible refine Below.drew ?_ | with_reducible refine below_drewN' ?_ _ | with_reducible refine Below.alloc ?_ ?_ _ | with_reducible refine Below.setCell ?_ ?_ _ | with_reducible refine below_step (by assumption) ?_ ?_ | omega | (simp; done) | (simp; omega)))))⟩
          · have Hs := Lib.hid (all_take1 (P := bothM) Hx.out (by unfold bothM; rw [k1, k2]; rfl) HE.out)
            have K1 := Lib.hid k1
            have K2 := Lib.hid k2
            clear k1 k2
            go_wp2_with (first
              | (go_at_call 16; (with_reducible refine (lightm_any x _ HAx.out).mono ?_); rw [K1.out]; rintro e w5 ⟨rfl, hb5⟩; obtain ⟨hc5, hf5⟩ := bcell hb5; have hz5 := hb5.size; have hbx5 : b < w5.heap.size := (by omega); have HA5 := Lib.hid (HAx.out.mono hb5))
              | (go_at_call 17; (with_reducible refine (rightm_any x _ HA5.out K1.out).mono ?_); rw [K2.out]; rintro e w6 ⟨rfl, hb6⟩; have hz6 := hb6.size))
            go_roundw
            case rel => exact ⟨k + 1, by omega, by go_num, Hs.out, HB.out.trans (by (repeat' (first | with_reducible exact Below.refl _ _ | with_reducible assumption | with_reducible refine Below.drew ?_ | with_reducible refine below_drewN' ?_ _ | with_reducible refine Below.alloc ?_ ?_ _ | with_reducible refine Below.setCell ?_ ?_ _ | with_reducible refine below_step (by assumption) ?_ ?_ | omega | (simp; done) | (simp; omega))))⟩
            case measure => simp [intOf]; omega
      · obtain rfl : k = n := by omega
        have Hs := Lib.hid (show (true && (true && ms.all bothM)) = true by rw [all_done Hln.out HE.out]; rfl)
        go_wp2
        go_ret
        exact ⟨by rw [Hs.out]; rfl, HB3.out.trans (HB.out.mono hzV)⟩
end Go.Proofs.Ytdlebpobkkndaaa
