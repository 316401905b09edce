/-
  The contracts of taints.RightBears, triremeref06.RightBears.
-/
import Derived.Test.YthbpnfpalcgfeaaMG
import Derived.Test.YthbpnfpalcgfeaaMD
namespace Go.Proofs.Ythbpnfpalcgfeaa
open Go.RowKit
set_option linter.unusedVariables false
set_option linter.unusedSimpArgs false

def formO (t : Tol) : Bool := !((t.any && !decide (t.val = emp)) || (decide (t.key = emp) && !t.any))
def okO (t : Tol) : Bool := weB t.key && weB t.val && reB t.eff && formO t
def rightO (l : List Tol) : Bool := l.all okO && decide (l.length ≤ 16)
theorem okO_bad {l : List Tol} {k : Nat} {t : Tol} (h : l[k]? = some t) (ho : okO t = false) : rightO l = false := by
  unfold rightO
  have : l.all okO = false := by
    rw [Bool.eq_false_iff]
    intro he
    have := List.all_eq_true.1 he t (List.mem_of_getElem? h)
    rw [ho] at this
    cases this
  rw [this]; rfl
theorem okO_cases (t : Tol) : (weB t.key = false ∧ okO t = false) ∨ (weB t.key = true ∧ weB t.val = false ∧ okO t = false) ∨ (weB t.key = true ∧ weB t.val = true ∧ reB t.eff = false ∧ okO t = false) ∨
    (weB t.key = true ∧ weB t.val = true ∧ reB t.eff = true ∧ formO t = false ∧ okO t = false) ∨ (weB t.key = true ∧ weB t.val = true ∧ reB t.eff = true ∧ formO t = true ∧ okO t = true) := by
  unfold okO
  cases weB t.key <;> cases weB t.val <;> cases reB t.eff <;> cases formO t <;> simp
def CellsO (x : Tol) (b : Nat) (w : World) : Prop := b < w.heap.size ∧ w.cell? ⟨b, 0, none⟩ = some (.string x.key) ∧ w.cell? ⟨b, 1, none⟩ = some (.string x.val) ∧ w.cell? ⟨b, 2, none⟩ = some (.bool x.any) ∧ w.cell? ⟨b, 3, none⟩ = some (.int .i64 x.eff)
theorem CellsO.mono {x : Tol} {b : Nat} {w w' : World} (h : CellsO x b w) (hb : Below w.heap.size w w') : CellsO x b w' := by
  obtain ⟨h0, h1, h2, h3, h4⟩ := h
  have := hb.size
  exact ⟨by omega, by rw [hb.cell (p := ⟨b, 0, none⟩) h0]; exact h1, by rw [hb.cell (p := ⟨b, 1, none⟩) h0]; exact h2, by rw [hb.cell (p := ⟨b, 2, none⟩) h0]; exact h3, by rw [hb.cell (p := ⟨b, 3, none⟩) h0]; exact h4⟩
theorem CellsO.new (x : Tol) (w : World) (t : TypeId) : CellsO x w.heap.size (w.alloc (.cells #[.string x.key, .string x.val, .bool x.any, .int .i64 x.eff] t)) := ⟨by simp, by simp [go_sem], by simp [go_sem], by simp [go_sem], by simp [go_sem]⟩

set_option maxRecDepth 100000 in
set_option maxHeartbeats 4000000 in
theorem rightbears_any (a : Option Addr) (ka : Nat) (l : List Tol) (w : World) (hD : TolsAt w a l) (hn : l.length ≤ 1000000) :
    Calls Try.prog 109 #[.slice a l.length ka] w fun e w' => e = .returned (.bool (rightO l)) ∧ Below w.heap.size w w' := by
  have HD := Lib.hid hD
  clear hD
  have Hbad := Lib.hid (fun k t h ho => okO_bad (l := l) (k := k) (t := t) h ho)
  have Hend := Lib.hid (show l.all okO = true → rightO l = decide (l.length ≤ 16) from fun h => by unfold rightO; rw [h]; rfl)
  obtain ⟨n, hln⟩ : ∃ n, l.length = n := ⟨_, rfl⟩
  rw [hln] at hn ⊢
  have Hln := Lib.hid hln
  clear hln
  go_enter Try.func109, Try.ntmps109
  go_wp2
  go_loopw [7] (fun i wr => ∃ k : Nat, k ≤ n ∧ i = .int .i64 k ∧ (l.take k).all okO = true ∧ Below w.heap.size w wr) (fun i _ => n - (intOf i).toNat)
  case atStart => exact ⟨0, by omega, rfl, rfl, by (repeat' (first | with_reducible exact Below.refl _ _ | with_reducible assumption | with_reducible refine Below.drew ?_ | with_reducible refine below_drewN' ?_ _ | with_reducible refine Below.alloc ?_ ?_ _ | with_reducible refine Below.setCell ?_ ?_ _ | with_reducible refine below_step (by assumption) ?_ ?_ | omega | (simp; done) | (simp; omega)))⟩
  case round =>
    obtain ⟨k, hk, rfl, hE, hB⟩ := hrel
    obtain ⟨hcB, hfB⟩ := bcell hB
    have hbz := hB.size
    have HE := Lib.hid hE
    clear hE
    by_cases hlt : k < n
    · obtain ⟨x, hx⟩ := mem_at (l := l) (k := k) (by rw [Hln.out]; exact hlt)
      obtain ⟨b, off, rfl, hb, hc⟩ := HD.out (by rw [Hln.out]; omega)
      have hbw : b < wr.heap.size := by omega
      obtain ⟨c0, c1, c2, c3⟩ := tol_cells (hc k x hx)
      have Hx := Lib.hid hx
      clear hc hx
      rcases okO_cases x with ⟨k1, hv⟩ | ⟨k1, k2, hv⟩ | ⟨k1, k2, k3, hv⟩ | ⟨k1, k2, k3, k4, hv⟩ | ⟨k1, k2, k3, k4, hv⟩
      rotate_right 2
      · have Hs := Lib.hid (Hbad.out k x Hx.out hv)
        have K1 := Lib.hid k1
        have K2 := Lib.hid k2
        have K3 := Lib.hid k3
        clear hv k1 k2 k3
        have e1 : x.key = emp ∨ ¬ x.key = emp := Decidable.em _
        have e2 : x.val = emp ∨ ¬ x.val = emp := Decidable.em _
        unfold formO at k4
        rcases e1 with e1 | e1 <;> rcases e2 with e2 | e2 <;> cases ha : x.any <;> (try (exfalso; simp [e1, e2, ha] at k4; done))
        all_goals
          clear k4
          first | (have e3 := emp_lits e1) | (have e3 := emp_litn e1)
          first | (have e4 := emp_lits e2) | (have e4 := emp_litn e2)
          obtain ⟨q1, q2, q3, q4⟩ := e3
          obtain ⟨p1, p2, p3, p4⟩ := e4
          clear e1 e2
          go_wp2_with (first | (go_at_call 129; (with_reducible refine (wordorempty_any x.key _).mono ?_); rintro e w5 ⟨rfl, hb5⟩; rw [K1.out]; have hX5 : CellsO x wr.heap.size w5 := CellsO.mono (by first | exact CellsO.new x wr 60 | (have h9 := CellsO.new x wr 60; rw [ha] at h9; exact h9)) hb5; have HX5 := Lib.hid hX5; obtain ⟨x50, x51, x52, x53, x54⟩ := hX5; obtain ⟨hc5, hf5⟩ := bcell hb5; have hz5 := hb5.size; (try simp at hz5)) | (go_at_call 129; (with_reducible refine (wordorempty_any x.val _).mono ?_); rintro e w6 ⟨rfl, hb6⟩; rw [K2.out]; have hX6 := HX5.out.mono hb6; have HX6 := Lib.hid hX6; obtain ⟨x60, x61, x62, x63, x64⟩ := hX6; obtain ⟨hc6, hf6⟩ := bcell hb6; have hz6 := hb6.size; (try simp at hz6)) | (go_at_call 130; (with_reducible refine (righteffect_any _ _).mono ?_); rintro e w7 ⟨rfl, hb7⟩; rw [K3.out]; have hX7 := HX6.out.mono hb7; have HX7 := Lib.hid hX7; obtain ⟨x70, x71, x72, x73, x74⟩ := hX7; obtain ⟨hc7, hf7⟩ := bcell hb7; have hz7 := hb7.size; (try simp at hz7)))
          go_ret
          exact ⟨by rw [Hs.out]; rfl, by (repeat' (first | with_reducible exact Below.refl _ _ | with_reducible assumption | with_reducible refine Below.drew ?_ | with_reducible refine below_drewN' ?_ _ | with_reducible refine Below.alloc ?_ ?_ _ | with_reducible refine Below.setCell ?_ ?_ _ | with_reducible refine below_step (by assumption) ?_ ?_ | omega | (simp; done) | (simp; omega)))⟩
      · have Hs := Lib.hid (show (l.take (k + 1)).all okO = true by rw [take_at Hx.out, List.all_append, HE.out]; simp [hv])
        have K1 := Lib.hid k1
        have K2 := Lib.hid k2
        have K3 := Lib.hid k3
        clear hv k1 k2 k3
        have e1 : x.key = emp ∨ ¬ x.key = emp := Decidable.em _
        have e2 : x.val = emp ∨ ¬ x.val = emp := Decidable.em _
        unfold formO at k4
        rcases e1 with e1 | e1 <;> rcases e2 with e2 | e2 <;> cases ha : x.any <;> (try (exfalso; simp [e1, e2, ha] at k4; done))
        all_goals
          clear k4
          first | (have e3 := emp_lits e1) | (have e3 := emp_litn e1)
          first | (have e4 := emp_lits e2) | (have e4 := emp_litn e2)
          obtain ⟨q1, q2, q3, q4⟩ := e3
          obtain ⟨p1, p2, p3, p4⟩ := e4
          clear e1 e2
          go_wp2_with (first | (go_at_call 129; (with_reducible refine (wordorempty_any x.key _).mono ?_); rintro e w5 ⟨rfl, hb5⟩; rw [K1.out]; have hX5 : CellsO x wr.heap.size w5 := CellsO.mono (by first | exact CellsO.new x wr 60 | (have h9 := CellsO.new x wr 60; rw [ha] at h9; exact h9)) hb5; have HX5 := Lib.hid hX5; obtain ⟨x50, x51, x52, x53, x54⟩ := hX5; obtain ⟨hc5, hf5⟩ := bcell hb5; have hz5 := hb5.size; (try simp at hz5)) | (go_at_call 129; (with_reducible refine (wordorempty_any x.val _).mono ?_); rintro e w6 ⟨rfl, hb6⟩; rw [K2.out]; have hX6 := HX5.out.mono hb6; have HX6 := Lib.hid hX6; obtain ⟨x60, x61, x62, x63, x64⟩ := hX6; obtain ⟨hc6, hf6⟩ := bcell hb6; have hz6 := hb6.size; (try simp at hz6)) | (go_at_call 130; (with_reducible refine (righteffect_any _ _).mono ?_); rintro e w7 ⟨rfl, hb7⟩; rw [K3.out]; have hX7 := HX6.out.mono hb7; have HX7 := Lib.hid hX7; obtain ⟨x70, x71, x72, x73, x74⟩ := hX7; obtain ⟨hc7, hf7⟩ := bcell hb7; have hz7 := hb7.size; (try simp at hz7)))
          go_roundw
          case rel => exact ⟨k + 1, by omega, by go_num, Hs.out, by (repeat' (first | with_reducible exact Below.refl _ _ | with_reducible assumption | with_reducible refine Below.drew ?_ | with_reducible refine below_drewN' ?_ _ | with_reducible refine Below.alloc ?_ ?_ _ | with_reducible refine Below.setCell ?_ ?_ _ | with_reducible refine below_step (by assumption) ?_ ?_ | omega | (simp; done) | (simp; omega)))⟩
          case measure => simp [intOf]; omega
      all_goals
        have Hs := Lib.hid (Hbad.out k x Hx.out hv)
        have K1 := Lib.hid k1
        first | (have K2 := Lib.hid k2) | skip
        first | (have K3 := Lib.hid k3) | skip
        clear hv k1
        first | clear k2 | skip
        first | clear k3 | skip
        go_wp2_with (first | (go_at_call 129; (with_reducible refine (wordorempty_any x.key _).mono ?_); rintro e w5 ⟨rfl, hb5⟩; rw [K1.out]; have hX5 : CellsO x wr.heap.size w5 := CellsO.mono (by first | exact CellsO.new x wr 60 | (have h9 := CellsO.new x wr 60; rw [ha] at h9; exact h9)) hb5; have HX5 := Lib.hid hX5; obtain ⟨x50, x51, x52, x53, x54⟩ := hX5; obtain ⟨hc5, hf5⟩ := bcell hb5; have hz5 := hb5.size; (try simp at hz5)) | (go_at_call 129; (with_reducible refine (wordorempty_any x.val _).mono ?_); rintro e w6 ⟨rfl, hb6⟩; rw [K2.out]; have hX6 := HX5.out.mono hb6; have HX6 := Lib.hid hX6; obtain ⟨x60, x61, x62, x63, x64⟩ := hX6; obtain ⟨hc6, hf6⟩ := bcell hb6; have hz6 := hb6.size; (try simp at hz6)) | (go_at_call 130; (with_reducible refine (righteffect_any _ _).mono ?_); rintro e w7 ⟨rfl, hb7⟩; rw [K3.out]; have hX7 := HX6.out.mono hb7; have HX7 := Lib.hid hX7; obtain ⟨x70, x71, x72, x73, x74⟩ := hX7; obtain ⟨hc7, hf7⟩ := bcell hb7; have hz7 := hb7.size; (try simp at hz7)))
        go_ret
        exact ⟨by rw [Hs.out]; rfl, by (repeat' (first | with_reducible exact Below.refl _ _ | with_reducible assumption | with_reducible refine Below.drew ?_ | with_reducible refine below_drewN' ?_ _ | with_reducible refine Below.alloc ?_ ?_ _ | with_reducible refine Below.setCell ?_ ?_ _ | with_reducible refine below_step (by assumption) ?_ ?_ | omega | (simp; done) | (simp; omega)))⟩
    · obtain rfl : k = n := by omega
      have Hs := Lib.hid (Hend.out (by rw [← List.take_of_length_le (Nat.le_of_eq Hln.out)]; exact HE.out))
      rw [Hln.out] at Hs
      go_wp2
      go_ret
      exact ⟨by rw [Hs.out]; simp; omega, by (repeat' (first | with_reducible exact Below.refl _ _ | with_reducible assumption | with_reducible refine Below.drew ?_ | with_reducible refine below_drewN' ?_ _ | with_reducible refine Below.alloc ?_ ?_ _ | with_reducible refine Below.setCell ?_ ?_ _ | with_reducible refine below_step (by assumption) ?_ ?_ | omega | (simp; done) | (simp; omega)))⟩
/-- What the document asks of an effect. -/
theorem okO_ref (t : Tol) : okO t = (weB t.key && weB t.val && (decide (t.eff = 0) || effB t.eff) && formO t) := by
  unfold okO reB effB
  have : decide (t.eff = 0 ∨ t.eff = 1 ∨ t.eff = 2 ∨ t.eff = 3) = (decide (t.eff = 0) || decide (1 ≤ t.eff ∧ t.eff ≤ 3)) := by
    rw [← Bool.decide_or]
    exact decide_eq_decide.2 (by omega)
  rw [this]
theorem okQ_cases (t : Tol) : (weB t.key = false ∧ okO t = false) ∨ (weB t.key = true ∧ weB t.val = false ∧ okO t = false) ∨ (weB t.key = true ∧ weB t.val = true ∧ (t.eff != 0) = true ∧ effB t.eff = false ∧ okO t = false) ∨
    (weB t.key = true ∧ weB t.val = true ∧ (t.eff != 0) = true ∧ effB t.eff = true ∧ formO t = false ∧ okO t = false) ∨ (weB t.key = true ∧ weB t.val = true ∧ (t.eff != 0) = true ∧ effB t.eff = true ∧ formO t = true ∧ okO t = true) ∨
    (weB t.key = true ∧ weB t.val = true ∧ (t.eff != 0) = false ∧ formO t = false ∧ okO t = false) ∨ (weB t.key = true ∧ weB t.val = true ∧ (t.eff != 0) = false ∧ formO t = true ∧ okO t = true) := by
  rw [okO_ref]
  cases weB t.key <;> cases weB t.val <;> cases formO t <;> cases h : effB t.eff <;> by_cases h0 : t.eff = 0 <;> simp [h0]
theorem formO_cases (t : Tol) (h : formO t = false) : (t.any = true ∧ ¬ t.val = emp) ∨ (t.any = false ∧ t.key = emp) := by
  unfold formO at h
  cases ha : t.any <;> simp [ha] at h ⊢ <;> exact h
theorem formO_true (t : Tol) (h : formO t = true) : (t.any = true ∧ t.val = emp) ∨ (t.any = false ∧ ¬ t.key = emp) := by
  unfold formO at h
  cases ha : t.any <;> simp [ha] at h ⊢ <;> exact h

set_option maxRecDepth 100000 in
set_option maxHeartbeats 4000000 in
theorem refrightbears_any (a : Option Addr) (ka : Nat) (l : List Tol) (w : World) (hD : TolsAt w a l) (hsz : ∀ x ∈ l, x.key.size ≤ 1000000000 ∧ x.val.size ≤ 1000000000) (hn : l.length ≤ 1000000) :
    Calls Try.prog 65 #[.slice a l.length ka] w fun e w' => e = .returned (.bool (rightO l)) ∧ Below w.heap.size w w' := by
  have HD := Lib.hid hD
  have Hsz := Lib.hid hsz
  clear hD hsz
  have Hbad := Lib.hid (fun k t h ho => okO_bad (l := l) (k := k) (t := t) h ho)
  by_cases h16 : 16 < l.length
  · have hr : rightO l = false := by unfold rightO; rw [decide_eq_false (by omega), Bool.and_false]
    rw [hr]
    clear hr Hbad
    go_enter Try.func65, Try.ntmps65
    go_wp2
    go_ret
    exact ⟨rfl, by (repeat' (first | with_reducible exact Below.refl _ _ | with_reducible assumption | with_reducible refine Below.drew ?_ | with_reducible refine below_drewN' ?_ _ | with_reducible refine Below.alloc ?_ ?_ _ | with_reducible refine Below.setCell ?_ ?_ _ | with_reducible refine below_step (by assumption) ?_ ?_ | omega | (simp; done) | (simp; omega)))⟩
  · have Hend := Lib.hid (show l.all okO = true → rightO l = true from fun h => by unfold rightO; rw [h, decide_eq_true (by omega)]; rfl)
    obtain ⟨n, hln⟩ : ∃ n, l.length = n := ⟨_, rfl⟩
    rw [hln] at hn h16 ⊢
    have Hln := Lib.hid hln
    clear hln
    have h16' : n ≤ 16 := by omega
    go_enter Try.func65, Try.ntmps65
    go_wp2
    go_loopw [3] (fun i wr => ∃ k : Nat, k ≤ n ∧ i = .int .i64 k ∧ (l.take k).all okO = true ∧ Below w.heap.size w wr) (fun i _ => n - (intOf i).toNat)
    case atStart => exact ⟨0, by omega, rfl, rfl, by (repeat' (first | with_reducible exact Below.refl _ _ | with_reducible assumption | with_reducible refine Below.drew ?_ | with_reducible refine below_drewN' ?_ _ | with_reducible refine Below.alloc ?_ ?_ _ | with_reducible refine Below.setCell ?_ ?_ _ | with_reducible refine below_step (by assumption) ?_ ?_ | omega | (simp; done) | (simp; omega)))⟩
    case round =>
      obtain ⟨k, hk, rfl, hE, hB⟩ := hrel
      obtain ⟨hcB, hfB⟩ := bcell hB
      have hbz := hB.size
      have HE := Lib.hid hE
      clear hE
      by_cases hlt : k < n
      · obtain ⟨x, hx⟩ := mem_at (l := l) (k := k) (by rw [Hln.out]; exact hlt)
        obtain ⟨b, off, rfl, hb, hc⟩ := HD.out (by rw [Hln.out]; omega)
        have hbw : b < wr.heap.size := by omega
        obtain ⟨c0, c1, c2, c3⟩ := tol_cells (hc k x hx)
        obtain ⟨hs1, hs2⟩ := Hsz.out x (List.mem_of_getElem? hx)
        have Hx := Lib.hid hx
        clear hc hx
        rcases okQ_cases x with ⟨k1, hv⟩ | ⟨k1, k2, hv⟩ | ⟨k1, k2, e0, k3, hv⟩ | ⟨k1, k2, e0, k3, k4, hv⟩ | ⟨k1, k2, e0, k3, k4, hv⟩ | ⟨k1, k2, e0, k4, hv⟩ | ⟨k1, k2, e0, k4, hv⟩
        · skip
          have Hs := Lib.hid (Hbad.out k x Hx.out hv)
          have K1 := Lib.hid k1
          first | (have K2 := Lib.hid k2) | skip
          first | (have K3 := Lib.hid k3) | skip
          clear hv k1
          first | clear k2 | skip
          first | clear k3 | skip
          go_wp2_with (first | (go_at_call 90; (with_reducible refine (refmaybe_any x.key hs1 _).mono ?_); rintro e w5 ⟨rfl, hb5⟩; rw [K1.out]; have hX5 : CellsO x wr.heap.size w5 := CellsO.mono (by first | exact CellsO.new x wr 60 | (have h9 := CellsO.new x wr 60; rw [ha] at h9; exact h9)) hb5; have HX5 := Lib.hid hX5; obtain ⟨x50, x51, x52, x53, x54⟩ := hX5; obtain ⟨hc5, hf5⟩ := bcell hb5; have hz5 := hb5.size; (try simp at hz5)) | (go_at_call 90; (with_reducible refine (refmaybe_any x.val hs2 _).mono ?_); rintro e w6 ⟨rfl, hb6⟩; rw [K2.out]; have hX6 := HX5.out.mono hb6; have HX6 := Lib.hid hX6; obtain ⟨x60, x61, x62, x63, x64⟩ := hX6; obtain ⟨hc6, hf6⟩ := bcell hb6; have hz6 := hb6.size; (try simp at hz6)) | (go_at_call 91; (with_reducible refine (refeffect_any _ _).mono ?_); rintro e w7 ⟨rfl, hb7⟩; rw [K3.out]; have hX7 := HX6.out.mono hb7; have HX7 := Lib.hid hX7; obtain ⟨x70, x71, x72, x73, x74⟩ := hX7; obtain ⟨hc7, hf7⟩ := bcell hb7; have hz7 := hb7.size; (try simp at hz7)))
          go_ret
          exact ⟨by rw [Hs.out]; rfl, by (repeat' (first | with_reducible exact Below.refl _ _ | with_reducible assumption | with_reducible refine Below.drew ?_ | with_reducible refine below_drewN' ?_ _ | with_reducible refine Below.alloc ?_ ?_ _ | with_reducible refine Below.setCell ?_ ?_ _ | with_reducible refine below_step (by assumption) ?_ ?_ | omega | (simp; done) | (simp; omega)))⟩
        · skip
          have Hs := Lib.hid (Hbad.out k x Hx.out hv)
          have K1 := Lib.hid k1
          first | (have K2 := Lib.hid k2) | skip
          first | (have K3 := Lib.hid k3) | skip
          clear hv k1
          first | clear k2 | skip
          first | clear k3 | skip
          go_wp2_with (first | (go_at_call 90; (with_reducible refine (refmaybe_any x.key hs1 _).mono ?_); rintro e w5 ⟨rfl, hb5⟩; rw [K1.out]; have hX5 : CellsO x wr.heap.size w5 := CellsO.mono (by first | exact CellsO.new x wr 60 | (have h9 := CellsO.new x wr 60; rw [ha] at h9; exact h9)) hb5; have HX5 := Lib.hid hX5; obtain ⟨x50, x51, x52, x53, x54⟩ := hX5; obtain ⟨hc5, hf5⟩ := bcell hb5; have hz5 := hb5.size; (try simp at hz5)) | (go_at_call 90; (with_reducible refine (refmaybe_any x.val hs2 _).mono ?_); rintro e w6 ⟨rfl, hb6⟩; rw [K2.out]; have hX6 := HX5.out.mono hb6; have HX6 := Lib.hid hX6; obtain ⟨x60, x61, x62, x63, x64⟩ := hX6; obtain ⟨hc6, hf6⟩ := bcell hb6; have hz6 := hb6.size; (try simp at hz6)) | (go_at_call 91; (with_reducible refine (refeffect_any _ _).mono ?_); rintro e w7 ⟨rfl, hb7⟩; rw [K3.out]; have hX7 := HX6.out.mono hb7; have HX7 := Lib.hid hX7; obtain ⟨x70, x71, x72, x73, x74⟩ := hX7; obtain ⟨hc7, hf7⟩ := bcell hb7; have hz7 := hb7.size; (try simp at hz7)))
          go_ret
          exact ⟨by rw [Hs.out]; rfl, by (repeat' (first | with_reducible exact Below.refl _ _ | with_reducible assumption | with_reducible refine Below.drew ?_ | with_reducible refine below_drewN' ?_ _ | with_reducible refine Below.alloc ?_ ?_ _ | with_reducible refine Below.setCell ?_ ?_ _ | with_reducible refine below_step (by assumption) ?_ ?_ | omega | (simp; done) | (simp; omega)))⟩
        · skip
          have Hs := Lib.hid (Hbad.out k x Hx.out hv)
          have K1 := Lib.hid k1
          first | (have K2 := Lib.hid k2) | skip
          first | (have K3 := Lib.hid k3) | skip
          clear hv k1
          first | clear k2 | skip
          first | clear k3 | skip
          go_wp2_with (first | (go_at_call 90; (with_reducible refine (refmaybe_any x.key hs1 _).mono ?_); rintro e w5 ⟨rfl, hb5⟩; rw [K1.out]; have hX5 : CellsO x wr.heap.size w5 := CellsO.mono (by first | exact CellsO.new x wr 60 | (have h9 := CellsO.new x wr 60; rw [ha] at h9; exact h9)) hb5; have HX5 := Lib.hid hX5; obtain ⟨x50, x51, x52, x53, x54⟩ := hX5; obtain ⟨hc5, hf5⟩ := bcell hb5; have hz5 := hb5.size; (try simp at hz5)) | (go_at_call 90; (with_reducible refine (refmaybe_any x.val hs2 _).mono ?_); rintro e w6 ⟨rfl, hb6⟩; rw [K2.out]; have hX6 := HX5.out.mono hb6; have HX6 := Lib.hid hX6; obtain ⟨x60, x61, x62, x63, x64⟩ := hX6; obtain ⟨hc6, hf6⟩ := bcell hb6; have hz6 := hb6.size; (try simp at hz6)) | (go_at_call 91; (with_reducible refine (refeffect_any _ _).mono ?_); rintro e w7 ⟨rfl, hb7⟩; rw [K3.out]; have hX7 := HX6.out.mono hb7; have HX7 := Lib.hid hX7; obtain ⟨x70, x71, x72, x73, x74⟩ := hX7; obtain ⟨hc7, hf7⟩ := bcell hb7; have hz7 := hb7.size; (try simp at hz7)))
          go_ret
          exact ⟨by rw [Hs.out]; rfl, by (repeat' (first | with_reducible exact Below.refl _ _ | with_reducible assumption | with_reducible refine Below.drew ?_ | with_reducible refine below_drewN' ?_ _ | with_reducible refine Below.alloc ?_ ?_ _ | with_reducible refine Below.setCell ?_ ?_ _ | with_reducible refine below_step (by assumption) ?_ ?_ | omega | (simp; done) | (simp; omega)))⟩
        · rcases formO_cases x k4 with ⟨ha, e2⟩ | ⟨ha, e2⟩
          all_goals
            clear k4
            first | (have e3 := emp_lits e2) | (have e3 := emp_litn e2)
            obtain ⟨q1, q2, q3, q4⟩ := e3
            clear e2
            have Hs := Lib.hid (Hbad.out k x Hx.out hv)
            have K1 := Lib.hid k1
            first | (have K2 := Lib.hid k2) | skip
            first | (have K3 := Lib.hid k3) | skip
            clear hv k1
            first | clear k2 | skip
            first | clear k3 | skip
            go_wp2_with (first | (go_at_call 90; (with_reducible refine (refmaybe_any x.key hs1 _).mono ?_); rintro e w5 ⟨rfl, hb5⟩; rw [K1.out]; have hX5 : CellsO x wr.heap.size w5 := CellsO.mono (by first | exact CellsO.new x wr 60 | (have h9 := CellsO.new x wr 60; rw [ha] at h9; exact h9)) hb5; have HX5 := Lib.hid hX5; obtain ⟨x50, x51, x52, x53, x54⟩ := hX5; obtain ⟨hc5, hf5⟩ := bcell hb5; have hz5 := hb5.size; (try simp at hz5)) | (go_at_call 90; (with_reducible refine (refmaybe_any x.val hs2 _).mono ?_); rintro e w6 ⟨rfl, hb6⟩; rw [K2.out]; have hX6 := HX5.out.mono hb6; have HX6 := Lib.hid hX6; obtain ⟨x60, x61, x62, x63, x64⟩ := hX6; obtain ⟨hc6, hf6⟩ := bcell hb6; have hz6 := hb6.size; (try simp at hz6)) | (go_at_call 91; (with_reducible refine (refeffect_any _ _).mono ?_); rintro e w7 ⟨rfl, hb7⟩; rw [K3.out]; have hX7 := HX6.out.mono hb7; have HX7 := Lib.hid hX7; obtain ⟨x70, x71, x72, x73, x74⟩ := hX7; obtain ⟨hc7, hf7⟩ := bcell hb7; have hz7 := hb7.size; (try simp at hz7)))
            go_ret
            exact ⟨by rw [Hs.out]; rfl, by (repeat' (first | with_reducible exact Below.refl _ _ | with_reducible assumption | with_reducible refine Below.drew ?_ | with_reducible refine below_drewN' ?_ _ | with_reducible refine Below.alloc ?_ ?_ _ | with_reducible refine Below.setCell ?_ ?_ _ | with_reducible refine below_step (by assumption) ?_ ?_ | omega | (simp; done) | (simp; omega)))⟩
        · rcases formO_true x k4 with ⟨ha, e2⟩ | ⟨ha, e2⟩
          all_goals
            clear k4
            first | (have e3 := emp_lits e2) | (have e3 := emp_litn e2)
            obtain ⟨q1, q2, q3, q4⟩ := e3
            clear e2
            have Hs := Lib.hid (show (l.take (k + 1)).all okO = true by rw [take_at Hx.out, List.all_append, HE.out]; simp [hv])
            have K1 := Lib.hid k1
            first | (have K2 := Lib.hid k2) | skip
            first | (have K3 := Lib.hid k3) | skip
            clear hv k1
            first | clear k2 | skip
            first | clear k3 | skip
            go_wp2_with (first | (go_at_call 90; (with_reducible refine (refmaybe_any x.key hs1 _).mono ?_); rintro e w5 ⟨rfl, hb5⟩; rw [K1.out]; have hX5 : CellsO x wr.heap.size w5 := CellsO.mono (by first | exact CellsO.new x wr 60 | (have h9 := CellsO.new x wr 60; rw [ha] at h9; exact h9)) hb5; have HX5 := Lib.hid hX5; obtain ⟨x50, x51, x52, x53, x54⟩ := hX5; obtain ⟨hc5, hf5⟩ := bcell hb5; have hz5 := hb5.size; (try simp at hz5)) | (go_at_call 90; (with_reducible refine (refmaybe_any x.val hs2 _).mono ?_); rintro e w6 ⟨rfl, hb6⟩; rw [K2.out]; have hX6 := HX5.out.mono hb6; have HX6 := Lib.hid hX6; obtain ⟨x60, x61, x62, x63, x64⟩ := hX6; obtain ⟨hc6, hf6⟩ := bcell hb6; have hz6 := hb6.size; (try simp at hz6)) | (go_at_call 91; (with_reducible refine (refeffect_any _ _).mono ?_); rintro e w7 ⟨rfl, hb7⟩; rw [K3.out]; have hX7 := HX6.out.mono hb7; have HX7 := Lib.hid hX7; obtain ⟨x70, x71, x72, x73, x74⟩ := hX7; obtain ⟨hc7, hf7⟩ := bcell hb7; have hz7 := hb7.size; (try simp at hz7)))
            all_goals
              go_roundw
              case rel => exact ⟨k + 1, by omega, by go_num, Hs.out, by (repeat' (first | with_reducible exact Below.refl _ _ | with_reducible assumption | with_reducible refine Below.drew ?_ | with_reducible refine below_drewN' ?_ _ | with_reducible refine Below.alloc ?_ ?_ _ | with_reducible refine Below.setCell ?_ ?_ _ | with_reducible refine below_step (by assumption) ?_ ?_ | omega | (simp; done) | (simp; omega)))⟩
              case measure => simp [intOf]; omega
        · rcases formO_cases x k4 with ⟨ha, e2⟩ | ⟨ha, e2⟩
          all_goals
            clear k4
            first | (have e3 := emp_lits e2) | (have e3 := emp_litn e2)
            obtain ⟨q1, q2, q3, q4⟩ := e3
            clear e2
            have Hs := Lib.hid (Hbad.out k x Hx.out hv)
            have K1 := Lib.hid k1
            first | (have K2 := Lib.hid k2) | skip
            first | (have K3 := Lib.hid k3) | skip
            clear hv k1
            first | clear k2 | skip
            first | clear k3 | skip
            go_wp2_with (first | (go_at_call 90; (with_reducible refine (refmaybe_any x.key hs1 _).mono ?_); rintro e w5 ⟨rfl, hb5⟩; rw [K1.out]; have hX5 : CellsO x wr.heap.size w5 := CellsO.mono (by first | exact CellsO.new x wr 60 | (have h9 := CellsO.new x wr 60; rw [ha] at h9; exact h9)) hb5; have HX5 := Lib.hid hX5; obtain ⟨x50, x51, x52, x53, x54⟩ := hX5; obtain ⟨hc5, hf5⟩ := bcell hb5; have hz5 := hb5.size; (try simp at hz5)) | (go_at_call 90; (with_reducible refine (refmaybe_any x.val hs2 _).mono ?_); rintro e w6 ⟨rfl, hb6⟩; rw [K2.out]; have hX6 := HX5.out.mono hb6; have HX6 := Lib.hid hX6; obtain ⟨x60, x61, x62, x63, x64⟩ := hX6; obtain ⟨hc6, hf6⟩ := bcell hb6; have hz6 := hb6.size; (try simp at hz6)) | (go_at_call 91; (with_reducible refine (refeffect_any _ _).mono ?_); rintro e w7 ⟨rfl, hb7⟩; rw [K3.out]; have hX7 := HX6.out.mono hb7; have HX7 := Lib.hid hX7; obtain ⟨x70, x71, x72, x73, x74⟩ := hX7; obtain ⟨hc7, hf7⟩ := bcell hb7; have hz7 := hb7.size; (try simp at hz7)))
            go_ret
            exact ⟨by rw [Hs.out]; rfl, by (repeat' (first | with_reducible exact Below.refl _ _ | with_reducible assumption | with_reducible refine Below.drew ?_ | with_reducible refine below_drewN' ?_ _ | with_reducible refine Below.alloc ?_ ?_ _ | with_reducible refine Below.setCell ?_ ?_ _ | with_reducible refine below_step (by assumption) ?_ ?_ | omega | (simp; done) | (simp; omega)))⟩
        · rcases formO_true x k4 with ⟨ha, e2⟩ | ⟨ha, e2⟩
          all_goals
            clear k4
            first | (have e3 := emp_lits e2) | (have e3 := emp_litn e2)
            obtain ⟨q1, q2, q3, q4⟩ := e3
            clear e2
            have Hs := Lib.hid (show (l.take (k + 1)).all okO = true by rw [take_at Hx.out, List.all_append, HE.out]; simp [hv])
            have K1 := Lib.hid k1
            first | (have K2 := Lib.hid k2) | skip
            first | (have K3 := Lib.hid k3) | skip
            clear hv k1
            first | clear k2 | skip
            first | clear k3 | skip
            go_wp2_with (first | (go_at_call 90; (with_reducible refine (refmaybe_any x.key hs1 _).mono ?_); rintro e w5 ⟨rfl, hb5⟩; rw [K1.out]; have hX5 : CellsO x wr.heap.size w5 := CellsO.mono (by first | exact CellsO.new x wr 60 | (have h9 := CellsO.new x wr 60; rw [ha] at h9; exact h9)) hb5; have HX5 := Lib.hid hX5; obtain ⟨x50, x51, x52, x53, x54⟩ := hX5; obtain ⟨hc5, hf5⟩ := bcell hb5; have hz5 := hb5.size; (try simp at hz5)) | (go_at_call 90; (with_reducible refine (refmaybe_any x.val hs2 _).mono ?_); rintro e w6 ⟨rfl, hb6⟩; rw [K2.out]; have hX6 := HX5.out.mono hb6; have HX6 := Lib.hid hX6; obtain ⟨x60, x61, x62, x63, x64⟩ := hX6; obtain ⟨hc6, hf6⟩ := bcell hb6; have hz6 := hb6.size; (try simp at hz6)) | (go_at_call 91; (with_reducible refine (refeffect_any _ _).mono ?_); rintro e w7 ⟨rfl, hb7⟩; rw [K3.out]; have hX7 := HX6.out.mono hb7; have HX7 := Lib.hid hX7; obtain ⟨x70, x71, x72, x73, x74⟩ := hX7; obtain ⟨hc7, hf7⟩ := bcell hb7; have hz7 := hb7.size; (try simp at hz7)))
            all_goals
              go_roundw
              case rel => exact ⟨k + 1, by omega, by go_num, Hs.out, by (repeat' (first | with_reducible exact Below.refl _ _ | with_reducible assumption | with_reducible refine Below.drew ?_ | with_reducible refine below_drewN' ?_ _ | with_reducible refine Below.alloc ?_ ?_ _ | with_reducible refine Below.setCell ?_ ?_ _ | with_reducible refine below_step (by assumption) ?_ ?_ | omega | (simp; done) | (simp; omega)))⟩
              case measure => simp [intOf]; omega
      · obtain rfl : k = n := by omega
        have Hs := Lib.hid (Hend.out (by rw [← List.take_of_length_le (Nat.le_of_eq Hln.out)]; exact HE.out))
        go_wp2
        go_ret
        exact ⟨by rw [Hs.out]; rfl, by (repeat' (first | with_reducible exact Below.refl _ _ | with_reducible assumption | with_reducible refine Below.drew ?_ | with_reducible refine below_drewN' ?_ _ | with_reducible refine Below.alloc ?_ ?_ _ | with_reducible refine Below.setCell ?_ ?_ _ | with_reducible refine below_step (by assumption) ?_ ?_ | omega | (simp; done) | (simp; omega)))⟩

end Go.Proofs.Ythbpnfpalcgfeaa
