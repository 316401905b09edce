/-
  TaintsRight: whether any taints, and any tolerations, are right, is as the document says. For any tolerations and any taints; no condition.
-/
import Derived.Test.YtlfjjiepclphiaaRefT
import Derived.Test.YtlfjjiepclphiaaTntM
namespace Go.Proofs.Ytlfjjiepclphiaa
open Go.ChangeShapes Go.WideShapes Go.ChangeAt Go.RowKit
set_option linter.unusedVariables false
namespace taintsRight

/-- What the document asks of an effect. -/
theorem okO_ref (t : Tol) : okO t = (weB t.key && weB t.val && (decide (t.eff = 0) || effB t.eff) && formO t) := by
  unfold okO reB effB
  have : decide (t.eff = 0 ∨ t.eff = 1 ∨ t.eff = 2 ∨ t.eff = 3) = (decide (t.eff = 0) || decide (1 ≤ t.eff ∧ t.eff ≤ 3)) := by
    rw [← Bool.decide_or]
    exact decide_eq_decide.2 (by omega)
  rw [this]
theorem okQ_cases (t : Tol) : (weB t.key = false ∧ okO t = false) ∨ (weB t.key = true ∧ weB t.val = false ∧ okO t = false) ∨ (weB t.key = true ∧ weB t.val = true ∧ (t.eff != 0) = true ∧ effB t.eff = false ∧ okO t = false) ∨
    (weB t.key = true ∧ weB t.val = true ∧ (t.eff != 0) = true ∧ effB t.eff = true ∧ formO t = false ∧ okO t = false) ∨ (weB t.key = true ∧ weB t.val = true ∧ (t.eff != 0) = true ∧ effB t.eff = true ∧ formO t = true ∧ okO t = true) ∨
    (weB t.key = true ∧ weB t.val = true ∧ (t.eff != 0) = false ∧ formO t = false ∧ okO t = false) ∨ (weB t.key = true ∧ weB t.val = true ∧ (t.eff != 0) = false ∧ formO t = true ∧ okO t = true) := by
  rw [okO_ref]
  cases weB t.key <;> cases weB t.val <;> cases formO t <;> cases h : effB t.eff <;> by_cases h0 : t.eff = 0 <;> simp [h0]
theorem formO_cases (t : Tol) (h : formO t = false) : (t.any = true ∧ ¬ t.val = emp) ∨ (t.any = false ∧ t.key = emp) := by
  unfold formO at h
  cases ha : t.any <;> simp [ha] at h ⊢ <;> exact h
theorem formO_true (t : Tol) (h : formO t = true) : (t.any = true ∧ t.val = emp) ∨ (t.any = false ∧ ¬ t.key = emp) := by
  unfold formO at h
  cases ha : t.any <;> simp [ha] at h ⊢ <;> exact h

set_option maxRecDepth 100000 in
set_option maxHeartbeats 4000000 in
theorem refrightbears_any (a : Option Addr) (ka : Nat) (l : List Tol) (w : World) (hD : TolsAt w a l) (hsz : ∀ x ∈ l, x.key.size ≤ 1000000000 ∧ x.val.size ≤ 1000000000) (hn : l.length ≤ 1000000) :
    Calls Try.prog 26 #[.slice a l.length ka] w fun e w' => e = .returned (.bool (rightO l)) ∧ Below w.heap.size w w' := by
  have HD := Lib.hid hD
  have Hsz := Lib.hid hsz
  clear hD hsz
  have Hbad := Lib.hid (fun k t h ho => okO_bad (l := l) (k := k) (t := t) h ho)
  by_cases h16 : 16 < l.length
  · have hr : rightO l = false := by unfold rightO; rw [decide_eq_false (by omega), Bool.and_false]
    rw [hr]
    clear hr Hbad
    go_enter Try.func26, Try.ntmps26
    go_wp2
    go_ret
    exact ⟨rfl, by (repeat' (first | with_reducible exact Below.refl _ _ | with_reducible assumption | with_reducible refine Below.drew ?_ | with_reducible refine below_drewN' ?_ _ | with_reducible refine Below.alloc ?_ ?_ _ | with_reducible refine Below.setCell ?_ ?_ _ | with_reducible refine below_step (by assumption) ?_ ?_ | omega | (simp; done) | (simp; omega)))⟩
  · have Hend := Lib.hid (show l.all okO = true → rightO l = true from fun h => by unfold rightO; rw [h, decide_eq_true (by omega)]; rfl)
    obtain ⟨n, hln⟩ : ∃ n, l.length = n := ⟨_, rfl⟩
    rw [hln] at hn h16 ⊢
    have Hln := Lib.hid hln
    clear hln
    have h16' : n ≤ 16 := by omega
    go_enter Try.func26, Try.ntmps26
    go_wp2
    go_loopw [3] (fun i wr => ∃ k : Nat, k ≤ n ∧ i = .int .i64 k ∧ (l.take k).all okO = true ∧ Below w.heap.size w wr) (fun i _ => n - (intOf i).toNat)
    case atStart => exact ⟨0, by omega, rfl, rfl, by (repeat' (first | with_reducible exact Below.refl _ _ | with_reducible assumption | with_reducible refine Below.drew ?_ | with_reducible refine below_drewN' ?_ _ | with_reducible refine Below.alloc ?_ ?_ _ | with_reducible refine Below.setCell ?_ ?_ _ | with_reducible refine below_step (by assumption) ?_ ?_ | omega | (simp; done) | (simp; omega)))⟩
    case round =>
      obtain ⟨k, hk, rfl, hE, hB⟩ := hrel
      obtain ⟨hcB, hfB⟩ := bcell hB
      have hbz := hB.size
      have HE := Lib.hid hE
      clear hE
      by_cases hlt : k < n
      · obtain ⟨x, hx⟩ := mem_at (l := l) (k := k) (by rw [Hln.out]; exact hlt)
        obtain ⟨b, off, rfl, hb, hc⟩ := HD.out (by rw [Hln.out]; omega)
        have hbw : b < wr.heap.size := by omega
        obtain ⟨c0, c1, c2, c3⟩ := tol_cells (hc k x hx)
        obtain ⟨hs1, hs2⟩ := Hsz.out x (List.mem_of_getElem? hx)
        have Hx := Lib.hid hx
        clear hc hx
        rcases okQ_cases x with ⟨k1, hv⟩ | ⟨k1, k2, hv⟩ | ⟨k1, k2, e0, k3, hv⟩ | ⟨k1, k2, e0, k3, k4, hv⟩ | ⟨k1, k2, e0, k3, k4, hv⟩ | ⟨k1, k2, e0, k4, hv⟩ | ⟨k1, k2, e0, k4, hv⟩
        · skip
          have Hs := Lib.hid (Hbad.out k x Hx.out hv)
          have K1 := Lib.hid k1
          first | (have K2 := Lib.hid k2) | skip
          first | (have K3 := Lib.hid k3) | skip
          clear hv k1
          first | clear k2 | skip
          first | clear k3 | skip
          go_wp2_with (first | (go_at_call 35; (with_reducible refine (refmaybe_any x.key hs1 _).mono ?_); rintro e w5 ⟨rfl, hb5⟩; rw [K1.out]; have hX5 : CellsO x wr.heap.size w5 := CellsO.mono (by first | exact CellsO.new x wr 25 | (have h9 := CellsO.new x wr 25; rw [ha] at h9; exact h9)) hb5; have HX5 := Lib.hid hX5; obtain ⟨x50, x51, x52, x53, x54⟩ := hX5; obtain ⟨hc5, hf5⟩ := bcell hb5; have hz5 := hb5.size; (try simp at hz5)) | (go_at_call 35; (with_reducible refine (refmaybe_any x.val hs2 _).mono ?_); rintro e w6 ⟨rfl, hb6⟩; rw [K2.out]; have hX6 := HX5.out.mono hb6; have HX6 := Lib.hid hX6; obtain ⟨x60, x61, x62, x63, x64⟩ := hX6; obtain ⟨hc6, hf6⟩ := bcell hb6; have hz6 := hb6.size; (try simp at hz6)) | (go_at_call 36; (with_reducible refine (refeffect_any _ _).mono ?_); rintro e w7 ⟨rfl, hb7⟩; rw [K3.out]; have hX7 := HX6.out.mono hb7; have HX7 := Lib.hid hX7; obtain ⟨x70, x71, x72, x73, x74⟩ := hX7; obtain ⟨hc7, hf7⟩ := bcell hb7; have hz7 := hb7.size; (try simp at hz7)))
          go_ret
          exact ⟨by rw [Hs.out]; rfl, by (repeat' (first | with_reducible exact Below.refl _ _ | with_reducible assumption | with_reducible refine Below.drew ?_ | with_reducible refine below_drewN' ?_ _ | with_reducible refine Below.alloc ?_ ?_ _ | with_reducible refine Below.setCell ?_ ?_ _ | with_reducible refine below_step (by assumption) ?_ ?_ | omega | (simp; done) | (simp; omega)))⟩
        · skip
          have Hs := Lib.hid (Hbad.out k x Hx.out hv)
          have K1 := Lib.hid k1
          first | (have K2 := Lib.hid k2) | skip
          first | (have K3 := Lib.hid k3) | skip
          clear hv k1
          first | clear k2 | skip
          first | clear k3 | skip
          go_wp2_with (first | (go_at_call 35; (with_reducible refine (refmaybe_any x.key hs1 _).mono ?_); rintro e w5 ⟨rfl, hb5⟩; rw [K1.out]; have hX5 : CellsO x wr.heap.size w5 := CellsO.mono (by first | exact CellsO.new x wr 25 | (have h9 := CellsO.new x wr 25; rw [ha] at h9; exact h9)) hb5; have HX5 := Lib.hid hX5; obtain ⟨x50, x51, x52, x53, x54⟩ := hX5; obtain ⟨hc5, hf5⟩ := bcell hb5; have hz5 := hb5.size; (try simp at hz5)) | (go_at_call 35; (with_reducible refine (refmaybe_any x.val hs2 _).mono ?_); rintro e w6 ⟨rfl, hb6⟩; rw [K2.out]; have hX6 := HX5.out.mono hb6; have HX6 := Lib.hid hX6; obtain ⟨x60, x61, x62, x63, x64⟩ := hX6; obtain ⟨hc6, hf6⟩ := bcell hb6; have hz6 := hb6.size; (try simp at hz6)) | (go_at_call 36; (with_reducible refine (refeffect_any _ _).mono ?_); rintro e w7 ⟨rfl, hb7⟩; rw [K3.out]; have hX7 := HX6.out.mono hb7; have HX7 := Lib.hid hX7; obtain ⟨x70, x71, x72, x73, x74⟩ := hX7; obtain ⟨hc7, hf7⟩ := bcell hb7; have hz7 := hb7.size; (try simp at hz7)))
          go_ret
          exact ⟨by rw [Hs.out]; rfl, by (repeat' (first | with_reducible exact Below.refl _ _ | with_reducible assumption | with_reducible refine Below.drew ?_ | with_reducible refine below_drewN' ?_ _ | with_reducible refine Below.alloc ?_ ?_ _ | with_reducible refine Below.setCell ?_ ?_ _ | with_reducible refine below_step (by assumption) ?_ ?_ | omega | (simp; done) | (simp; omega)))⟩
        · skip
          have Hs := Lib.hid (Hbad.out k x Hx.out hv)
          have K1 := Lib.hid k1
          first | (have K2 := Lib.hid k2) | skip
          first | (have K3 := Lib.hid k3) | skip
          clear hv k1
          first | clear k2 | skip
          first | clear k3 | skip
          go_wp2_with (first | (go_at_call 35; (with_reducible refine (refmaybe_any x.key hs1 _).mono ?_); rintro e w5 ⟨rfl, hb5⟩; rw [K1.out]; have hX5 : CellsO x wr.heap.size w5 := CellsO.mono (by first | exact CellsO.new x wr 25 | (have h9 := CellsO.new x wr 25; rw [ha] at h9; exact h9)) hb5; have HX5 := Lib.hid hX5; obtain ⟨x50, x51, x52, x53, x54⟩ := hX5; obtain ⟨hc5, hf5⟩ := bcell hb5; have hz5 := hb5.size; (try simp at hz5)) | (go_at_call 35; (with_reducible refine (refmaybe_any x.val hs2 _).mono ?_); rintro e w6 ⟨rfl, hb6⟩; rw [K2.out]; have hX6 := HX5.out.mono hb6; have HX6 := Lib.hid hX6; obtain ⟨x60, x61, x62, x63, x64⟩ := hX6; obtain ⟨hc6, hf6⟩ := bcell hb6; have hz6 := hb6.size; (try simp at hz6)) | (go_at_call 36; (with_reducible refine (refeffect_any _ _).mono ?_); rintro e w7 ⟨rfl, hb7⟩; rw [K3.out]; have hX7 := HX6.out.mono hb7; have HX7 := Lib.hid hX7; obtain ⟨x70, x71, x72, x73, x74⟩ := hX7; obtain ⟨hc7, hf7⟩ := bcell hb7; have hz7 := hb7.size; (try simp at hz7)))
          go_ret
          exact ⟨by rw [Hs.out]; rfl, by (repeat' (first | with_reducible exact Below.refl _ _ | with_reducible assumption | with_reducible refine Below.drew ?_ | with_reducible refine below_drewN' ?_ _ | with_reducible refine Below.alloc ?_ ?_ _ | with_reducible refine Below.setCell ?_ ?_ _ | with_reducible refine below_step (by assumption) ?_ ?_ | omega | (simp; done) | (simp; omega)))⟩
        · rcases formO_cases x k4 with ⟨ha, e2⟩ | ⟨ha, e2⟩
          all_goals
            clear k4
            first | (have e3 := emp_lits e2) | (have e3 := emp_litn e2)
            obtain ⟨q1, q2, q3, q4⟩ := e3
            clear e2
            have Hs := Lib.hid (Hbad.out k x Hx.out hv)
            have K1 := Lib.hid k1
            first | (have K2 := Lib.hid k2) | skip
            first | (have K3 := Lib.hid k3) | skip
            clear hv k1
            first | clear k2 | skip
            first | clear k3 | skip
            go_wp2_with (first | (go_at_call 35; (with_reducible refine (refmaybe_any x.key hs1 _).mono ?_); rintro e w5 ⟨rfl, hb5⟩; rw [K1.out]; have hX5 : CellsO x wr.heap.size w5 := CellsO.mono (by first | exact CellsO.new x wr 25 | (have h9 := CellsO.new x wr 25; rw [ha] at h9; exact h9)) hb5; have HX5 := Lib.hid hX5; obtain ⟨x50, x51, x52, x53, x54⟩ := hX5; obtain ⟨hc5, hf5⟩ := bcell hb5; have hz5 := hb5.size; (try simp at hz5)) | (go_at_call 35; (with_reducible refine (refmaybe_any x.val hs2 _).mono ?_); rintro e w6 ⟨rfl, hb6⟩; rw [K2.out]; have hX6 := HX5.out.mono hb6; have HX6 := Lib.hid hX6; obtain ⟨x60, x61, x62, x63, x64⟩ := hX6; obtain ⟨hc6, hf6⟩ := bcell hb6; have hz6 := hb6.size; (try simp at hz6)) | (go_at_call 36; (with_reducible refine (refeffect_any _ _).mono ?_); rintro e w7 ⟨rfl, hb7⟩; rw [K3.out]; have hX7 := HX6.out.mono hb7; have HX7 := Lib.hid hX7; obtain ⟨x70, x71, x72, x73, x74⟩ := hX7; obtain ⟨hc7, hf7⟩ := bcell hb7; have hz7 := hb7.size; (try simp at hz7)))
            go_ret
            exact ⟨by rw [Hs.out]; rfl, by (repeat' (first | with_reducible exact Below.refl _ _ | with_reducible assumption | with_reducible refine Below.drew ?_ | with_reducible refine below_drewN' ?_ _ | with_reducible refine Below.alloc ?_ ?_ _ | with_reducible refine Below.setCell ?_ ?_ _ | with_reducible refine below_step (by assumption) ?_ ?_ | omega | (simp; done) | (simp; omega)))⟩
        · rcases formO_true x k4 with ⟨ha, e2⟩ | ⟨ha, e2⟩
          all_goals
            clear k4
            first | (have e3 := emp_lits e2) | (have e3 := emp_litn e2)
            obtain ⟨q1, q2, q3, q4⟩ := e3
            clear e2
            have Hs := Lib.hid (show (l.take (k + 1)).all okO = true by rw [take_at Hx.out, List.all_append, HE.out]; simp [hv])
            have K1 := Lib.hid k1
            first | (have K2 := Lib.hid k2) | skip
            first | (have K3 := Lib.hid k3) | skip
            clear hv k1
            first | clear k2 | skip
            first | clear k3 | skip
            go_wp2_with (first | (go_at_call 35; (with_reducible refine (refmaybe_any x.key hs1 _).mono ?_); rintro e w5 ⟨rfl, hb5⟩; rw [K1.out]; have hX5 : CellsO x wr.heap.size w5 := CellsO.mono (by first | exact CellsO.new x wr 25 | (have h9 := CellsO.new x wr 25; rw [ha] at h9; exact h9)) hb5; have HX5 := Lib.hid hX5; obtain ⟨x50, x51, x52, x53, x54⟩ := hX5; obtain ⟨hc5, hf5⟩ := bcell hb5; have hz5 := hb5.size; (try simp at hz5)) | (go_at_call 35; (with_reducible refine (refmaybe_any x.val hs2 _).mono ?_); rintro e w6 ⟨rfl, hb6⟩; rw [K2.out]; have hX6 := HX5.out.mono hb6; have HX6 := Lib.hid hX6; obtain ⟨x60, x61, x62, x63, x64⟩ := hX6; obtain ⟨hc6, hf6⟩ := bcell hb6; have hz6 := hb6.size; (try simp at hz6)) | (go_at_call 36; (with_reducible refine (refeffect_any _ _).mono ?_); rintro e w7 ⟨rfl, hb7⟩; rw [K3.out]; have hX7 := HX6.out.mono hb7; have HX7 := Lib.hid hX7; obtain ⟨x70, x71, x72, x73, x74⟩ := hX7; obtain ⟨hc7, hf7⟩ := bcell hb7; have hz7 := hb7.size; (try simp at hz7)))
            all_goals
              go_roundw
              case rel => exact ⟨k + 1, by omega, by go_num, Hs.out, by (repeat' (first | with_reducible exact Below.refl _ _ | with_reducible assumption | with_reducible refine Below.drew ?_ | with_reducible refine below_drewN' ?_ _ | with_reducible refine Below.alloc ?_ ?_ _ | with_reducible refine Below.setCell ?_ ?_ _ | with_reducible refine below_step (by assumption) ?_ ?_ | omega | (simp; done) | (simp; omega)))⟩
              case measure => simp [intOf]; omega
        · rcases formO_cases x k4 with ⟨ha, e2⟩ | ⟨ha, e2⟩
          all_goals
            clear k4
            first | (have e3 := emp_lits e2) | (have e3 := emp_litn e2)
            obtain ⟨q1, q2, q3, q4⟩ := e3
            clear e2
            have Hs := Lib.hid (Hbad.out k x Hx.out hv)
            have K1 := Lib.hid k1
            first | (have K2 := Lib.hid k2) | skip
            first | (have K3 := Lib.hid k3) | skip
            clear hv k1
            first | clear k2 | skip
            first | clear k3 | skip
            go_wp2_with (first | (go_at_call 35; (with_reducible refine (refmaybe_any x.key hs1 _).mono ?_); rintro e w5 ⟨rfl, hb5⟩; rw [K1.out]; have hX5 : CellsO x wr.heap.size w5 := CellsO.mono (by first | exact CellsO.new x wr 25 | (have h9 := CellsO.new x wr 25; rw [ha] at h9; exact h9)) hb5; have HX5 := Lib.hid hX5; obtain ⟨x50, x51, x52, x53, x54⟩ := hX5; obtain ⟨hc5, hf5⟩ := bcell hb5; have hz5 := hb5.size; (try simp at hz5)) | (go_at_call 35; (with_reducible refine (refmaybe_any x.val hs2 _).mono ?_); rintro e w6 ⟨rfl, hb6⟩; rw [K2.out]; have hX6 := HX5.out.mono hb6; have HX6 := Lib.hid hX6; obtain ⟨x60, x61, x62, x63, x64⟩ := hX6; obtain ⟨hc6, hf6⟩ := bcell hb6; have hz6 := hb6.size; (try simp at hz6)) | (go_at_call 36; (with_reducible refine (refeffect_any _ _).mono ?_); rintro e w7 ⟨rfl, hb7⟩; rw [K3.out]; have hX7 := HX6.out.mono hb7; have HX7 := Lib.hid hX7; obtain ⟨x70, x71, x72, x73, x74⟩ := hX7; obtain ⟨hc7, hf7⟩ := bcell hb7; have hz7 := hb7.size; (try simp at hz7)))
            go_ret
            exact ⟨by rw [Hs.out]; rfl, by (repeat' (first | with_reducible exact Below.refl _ _ | with_reducible assumption | with_reducible refine Below.drew ?_ | with_reducible refine below_drewN' ?_ _ | with_reducible refine Below.alloc ?_ ?_ _ | with_reducible refine Below.setCell ?_ ?_ _ | with_reducible refine below_step (by assumption) ?_ ?_ | omega | (simp; done) | (simp; omega)))⟩
        · rcases formO_true x k4 with ⟨ha, e2⟩ | ⟨ha, e2⟩
          all_goals
            clear k4
            first | (have e3 := emp_lits e2) | (have e3 := emp_litn e2)
            obtain ⟨q1, q2, q3, q4⟩ := e3
            clear e2
            have Hs := Lib.hid (show (l.take (k + 1)).all okO = true by rw [take_at Hx.out, List.all_append, HE.out]; simp [hv])
            have K1 := Lib.hid k1
            first | (have K2 := Lib.hid k2) | skip
            first | (have K3 := Lib.hid k3) | skip
            clear hv k1
            first | clear k2 | skip
            first | clear k3 | skip
            go_wp2_with (first | (go_at_call 35; (with_reducible refine (refmaybe_any x.key hs1 _).mono ?_); rintro e w5 ⟨rfl, hb5⟩; rw [K1.out]; have hX5 : CellsO x wr.heap.size w5 := CellsO.mono (by first | exact CellsO.new x wr 25 | (have h9 := CellsO.new x wr 25; rw [ha] at h9; exact h9)) hb5; have HX5 := Lib.hid hX5; obtain ⟨x50, x51, x52, x53, x54⟩ := hX5; obtain ⟨hc5, hf5⟩ := bcell hb5; have hz5 := hb5.size; (try simp at hz5)) | (go_at_call 35; (with_reducible refine (refmaybe_any x.val hs2 _).mono ?_); rintro e w6 ⟨rfl, hb6⟩; rw [K2.out]; have hX6 := HX5.out.mono hb6; have HX6 := Lib.hid hX6; obtain ⟨x60, x61, x62, x63, x64⟩ := hX6; obtain ⟨hc6, hf6⟩ := bcell hb6; have hz6 := hb6.size; (try simp at hz6)) | (go_at_call 36; (with_reducible refine (refeffect_any _ _).mono ?_); rintro e w7 ⟨rfl, hb7⟩; rw [K3.out]; have hX7 := HX6.out.mono hb7; have HX7 := Lib.hid hX7; obtain ⟨x70, x71, x72, x73, x74⟩ := hX7; obtain ⟨hc7, hf7⟩ := bcell hb7; have hz7 := hb7.size; (try simp at hz7)))
            all_goals
              go_roundw
              case rel => exact ⟨k + 1, by omega, by go_num, Hs.out, by (repeat' (first | with_reducible exact Below.refl _ _ | with_reducible assumption | with_reducible refine Below.drew ?_ | with_reducible refine below_drewN' ?_ _ | with_reducible refine Below.alloc ?_ ?_ _ | with_reducible refine Below.setCell ?_ ?_ _ | with_reducible refine below_step (by assumption) ?_ ?_ | omega | (simp; done) | (simp; omega)))⟩
              case measure => simp [intOf]; omega
      · obtain rfl : k = n := by omega
        have Hs := Lib.hid (Hend.out (by rw [← List.take_of_length_le (Nat.le_of_eq Hln.out)]; exact HE.out))
        go_wp2
        go_ret
        exact ⟨by rw [Hs.out]; rfl, by (repeat' (first | with_reducible exact Below.refl _ _ | with_reducible assumption | with_reducible refine Below.drew ?_ | with_reducible refine below_drewN' ?_ _ | with_reducible refine Below.alloc ?_ ?_ _ | with_reducible refine Below.setCell ?_ ?_ _ | with_reducible refine below_step (by assumption) ?_ ?_ | omega | (simp; done) | (simp; omega)))⟩

theorem light_sizes {l : List Tol} {xs : List Tnt} (h : lightB l xs = true) : (l.length ≤ 40 ∧ xs.length ≤ 40) ∧ (∀ x ∈ l, x.key.size ≤ 1000000000 ∧ x.val.size ≤ 1000000000) ∧ (∀ x ∈ xs, x.key.size ≤ 1000000000 ∧ x.val.size ≤ 1000000000) := by
  unfold lightB at h
  rw [Bool.and_eq_true, Bool.and_eq_true, decide_eq_true_eq] at h
  refine ⟨h.1, fun x hx => ?_, fun x hx => ?_⟩
  · have := List.all_eq_true.1 h.2.1 x hx
    unfold shortO at this
    rw [decide_eq_true_eq] at this
    omega
  · have := List.all_eq_true.1 h.2.2 x hx
    unfold shortT at this
    rw [decide_eq_true_eq] at this
    omega

set_option maxRecDepth 100000 in
set_option maxHeartbeats 4000000 in
theorem walk_no (a c : Option Addr) (ka kc : Nat) (l : List Tol) (xs : List Tnt) (w : World) (hD : TolsAt w a l) (hn : l.length ≤ maxLen) (hF : TntsAt w c xs) (hm : xs.length ≤ maxLen) (hL : lightB l xs = false) :
    Calls Try.prog 7 #[.slice a l.length ka, .slice c xs.length kc] w fun e w' => e = .returned (.bool true) ∧ Below w.heap.size w w' := by
  have HL := Lib.hid hL
  clear hL
  go_enter Try.func7, Try.ntmps7
  go_wp2_with (first | (go_at_call 8; (with_reducible refine (light_any a c ka kc l xs _ hD hn hF hm).mono ?_); rintro e w1 ⟨rfl, hb1⟩; rw [HL.out]; have hz1 := hb1.size) | (go_at_call 9; (with_reducible refine (known_any _).mono ?_); rintro e w2 ⟨rfl, hb2⟩))
  go_ret
  exact ⟨rfl, by (repeat' (first | with_reducible exact Below.refl _ _ | with_reducible assumption | with_reducible refine Below.drew ?_ | with_reducible refine below_drewN' ?_ _ | with_reducible refine Below.alloc ?_ ?_ _ | with_reducible refine Below.setCell ?_ ?_ _ | with_reducible refine below_step (by assumption) ?_ ?_ | omega | (simp; done) | (simp; omega)))⟩

set_option maxRecDepth 100000 in
set_option maxHeartbeats 4000000 in
theorem walk_yes (a c : Option Addr) (ka kc : Nat) (l : List Tol) (xs : List Tnt) (w : World) (hD : TolsAt w a l) (hF : TntsAt w c xs) (hok : NilOk c xs.length kc) (hcap : xs.length ≤ kc) (hL : lightB l xs = true) :
    Calls Try.prog 7 #[.slice a l.length ka, .slice c xs.length kc] w fun e w' => e = .returned (.bool true) ∧ Below w.heap.size w w' := by
  obtain ⟨⟨hn, hm⟩, h1, h2⟩ := light_sizes hL
  have HL := Lib.hid hL
  have HD := Lib.hid hD
  have HF := Lib.hid hF
  have Hok := Lib.hid hok
  have Hs1 := Lib.hid h1
  have Hs2 := Lib.hid h2
  clear hL hD hF hok h1 h2
  have hnL : l.length ≤ maxLen := by unfold maxLen; omega
  have hmL : xs.length ≤ maxLen := by unfold maxLen; omega
  have hn6 : l.length ≤ 1000000 := by omega
  have hm6 : xs.length ≤ 1000000 := by omega
  go_enter Try.func7, Try.ntmps7
  go_wp2_with (first
    | (go_at_call 8; (with_reducible refine (light_any a c ka kc l xs _ HD.out hnL HF.out hmL).mono ?_); rintro e w1 ⟨rfl, hb1⟩; rw [HL.out]; have hz1 := hb1.size; have HB1 := Lib.hid hb1)
    | (go_at_call 23; (with_reducible refine (right_any c kc xs _ (HF.out.mono HB1.out) hm6 Hok.out hcap).mono ?_); rintro e w2 ⟨rfl, hb2⟩; have hz2 := hb2.size; have HB2 := Lib.hid (HB1.out.trans (hb2.mono HB1.out.size)))
    | (go_at_call 24; (with_reducible refine (refright_t c kc xs _ (HF.out.mono HB2.out) Hs2.out hm6).mono ?_); rintro e w3 ⟨rfl, hb3⟩; have hz3 := hb3.size; have HB3 := Lib.hid (HB2.out.trans (hb3.mono HB2.out.size)))
    | (go_at_call 25; (with_reducible refine (rightbears_any a ka l _ (HD.out.mono HB3.out) hn6).mono ?_); rintro e w4 ⟨rfl, hb4⟩; have hz4 := hb4.size; have HB4 := Lib.hid (HB3.out.trans (hb4.mono HB3.out.size)))
    | (go_at_call 26; (with_reducible refine (refrightbears_any a ka l _ (HD.out.mono HB4.out) Hs1.out hn6).mono ?_); rintro e w5 ⟨rfl, hb5⟩; have hz5 := hb5.size)
    | (go_at_call 9; (with_reducible refine (known_any _).mono ?_); rintro e w6 ⟨rfl, hb6⟩))
  all_goals
    go_ret
    exact ⟨by simp, by (repeat' (first | with_reducible exact Below.refl _ _ | with_reducible assumption | with_reducible refine Below.drew ?_ | with_reducible refine below_drewN' ?_ _ | with_reducible refine Below.alloc ?_ ?_ _ | with_reducible refine Below.setCell ?_ ?_ _ | with_reducible refine below_step (by assumption) ?_ ?_ | omega | (simp; done) | (simp; omega)))⟩

theorem walk {H : Type} {enc : TypeId × Value → H} {W : World} {base : Nat} {v u : Value} {d f : DataW H} {p q : List MemPlace}
    (hv : Value.okWide Try.prog W .any base 22 v) (h : DataW.Trod enc Try.prog W 0 (fun _ => true) true 22 v d p)
    (hu : Value.okWide Try.prog W .any base 23 u) (k : DataW.Trod enc Try.prog W 0 (fun _ => true) true 23 u f q) :
    Calls Try.prog 7 #[v, u] W fun e W' => e = .returned (.bool true) ∧ Below W.heap.size W W' := by
  obtain ⟨a, l, ka, rfl, _, hD, hn, _⟩ := open_tols hv h
  obtain ⟨c, xs, kc, rfl, hok, hF, hm, hcap⟩ := open_tnts hu k
  cases hL : lightB l xs
  · exact walk_no a c ka kc l xs W hD hn hF hm hL
  · exact walk_yes a c ka kc l xs W hD hF hok hcap hL

set_option maxRecDepth 100000 in
theorem lifted (os : Os) (started : os.Started) (H : Type) (enc : TypeId × Value → H) :
    ReturnsInHanded {} Try.checked os 7 .any (Rows.taintsRightSpec.pre6 enc Try.prog Try.f7 Rows.taintsRightRow.domain false) (Rows.taintsRightSpec.post enc Try.prog Try.f7 false true false false) := by
  refine returnsInHanded_of_change (C := Try.checked) Try.own started (by kernel_rfl) Try.func7
    (ChangeSpec.witness6 (enc := enc) (C := Try.checked) false ⟨#[], #[.slice none 0 0, .slice none 0 0], []⟩ 8 (by kernel_rfl) (by kernel_rfl) (by kernel_rfl) (by kernel_rfl)) ?_
  intro W base args ds gs before hval hW _ _
  have hW' := hW
  obtain ⟨p, q, hA, hV, rfl, hfz, hnd⟩ := hW
  rw [Try.params7] at hA hval
  obtain ⟨v0, v1, d0, d1, p0, p1, rfl, rfl, rfl, h0, h1⟩ := trodAll_two hA
  refine (walk (hval 0 22 v0 rfl rfl) h0 (hval 1 23 v1 rfl rfl) h1).mono fun e W' ⟨he, hb⟩ => ?_
  exact ⟨_, he, law_post Try.laidOut hW' rfl (by kernel_rfl) (by kernel_rfl) Try.underlying4 rfl rfl rfl hb⟩

theorem over : Rows.taintsRightRow.holds Try.pinned (OpenSpec.ofChange Rows.taintsRightSpec) :=
  OpenClaim.holds_of_wide 7 Try.f7 rfl rfl rfl rfl rfl rfl rfl ⟨rfl, rfl, rfl, rfl, rfl⟩ rfl rfl rfl rfl rfl (by kernel_rfl) Try.func7 (by kernel_rfl)
    (of_decide_eq_true (by kernel_rfl)) (by unfold Func.isWrapper; first | (rw [if_pos (by decide +kernel)]; kernel_rfl) | (rw [if_neg (by decide +kernel)]; exact ⟨rfl, rfl⟩))
    (fun os started H enc _ => lifted os started H enc)

/-- The statement. -/
theorem proved : Rows.TaintsRightSaid := over
end taintsRight
end Go.Proofs.Ytlfjjiepclphiaa
