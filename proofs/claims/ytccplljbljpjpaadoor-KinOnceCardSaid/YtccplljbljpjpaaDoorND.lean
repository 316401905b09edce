/-
  Pods and bound pods that came in.
-/
import Derived.Test.YtccplljbljpjpaaDoorMG
import Derived.Test.YtccplljbljpjpaaDoorMD
import Derived.Test.YtccplljbljpjpaaDoorME
import Derived.Test.YtccplljbljpjpaaDoorLabNC
namespace Go.Proofs.YtccplljbljpjpaaDoor
open Go.RowKit
open Go.ChangeShapes Go.WideShapes Go.ChangeAt Go.RowKit
set_option linter.unusedVariables false
set_option linter.unusedSimpArgs false

def formO (t : Tol) : Bool := !((t.any && !decide (t.val = emp)) || (decide (t.key = emp) && !t.any))
def okO (t : Tol) : Bool := weB t.key && weB t.val && reB t.eff && formO t
def rightO (l : List Tol) : Bool := l.all okO && decide (l.length ≤ 16)
theorem okO_bad {l : List Tol} {k : Nat} {t : Tol} (h : l[k]? = some t) (ho : okO t = false) : rightO l = false := by
  unfold rightO
  have : l.all okO = false := by
    rw [Bool.eq_false_iff]
    intro he
    have := List.all_eq_true.1 he t (List.mem_of_getElem? h)
    rw [ho] at this
    cases this
  rw [this]; rfl
theorem okO_cases (t : Tol) : (weB t.key = false ∧ okO t = false) ∨ (weB t.key = true ∧ weB t.val = false ∧ okO t = false) ∨ (weB t.key = true ∧ weB t.val = true ∧ reB t.eff = false ∧ okO t = false) ∨
    (weB t.key = true ∧ weB t.val = true ∧ reB t.eff = true ∧ formO t = false ∧ okO t = false) ∨ (weB t.key = true ∧ weB t.val = true ∧ reB t.eff = true ∧ formO t = true ∧ okO t = true) := by
  unfold okO
  cases weB t.key <;> cases weB t.val <;> cases reB t.eff <;> cases formO t <;> simp
def CellsO (x : Tol) (b : Nat) (w : World) : Prop := b < w.heap.size ∧ w.cell? ⟨b, 0, none⟩ = some (.string x.key) ∧ w.cell? ⟨b, 1, none⟩ = some (.string x.val) ∧ w.cell? ⟨b, 2, none⟩ = some (.bool x.any) ∧ w.cell? ⟨b, 3, none⟩ = some (.int .i64 x.eff)
theorem CellsO.mono {x : Tol} {b : Nat} {w w' : World} (h : CellsO x b w) (hb : Below w.heap.size w w') : CellsO x b w' := by
  obtain ⟨h0, h1, h2, h3, h4⟩ := h
  have := hb.size
  exact ⟨by omega, by rw [hb.cell (p := ⟨b, 0, none⟩) h0]; exact h1, by rw [hb.cell (p := ⟨b, 1, none⟩) h0]; exact h2, by rw [hb.cell (p := ⟨b, 2, none⟩) h0]; exact h3, by rw [hb.cell (p := ⟨b, 3, none⟩) h0]; exact h4⟩
theorem CellsO.new (x : Tol) (w : World) (t : TypeId) : CellsO x w.heap.size (w.alloc (.cells #[.string x.key, .string x.val, .bool x.any, .int .i64 x.eff] t)) := ⟨by simp, by simp [go_sem], by simp [go_sem], by simp [go_sem], by simp [go_sem]⟩

set_option maxRecDepth 100000 in
set_option maxHeartbeats 4000000 in
theorem rightbears_any (a : Option Addr) (ka : Nat) (l : List Tol) (w : World) (hD : TolsAt w a l) (hn : l.length ≤ 1000000) :
    Calls Tryd.prog 29 #[.slice a l.length ka] w fun e w' => e = .returned (.bool (rightO l)) ∧ Below w.heap.size w w' := by
  have HD := Lib.hid hD
  clear hD
  have Hbad := Lib.hid (fun k t h ho => okO_bad (l := l) (k := k) (t := t) h ho)
  have Hend := Lib.hid (show l.all okO = true → rightO l = decide (l.length ≤ 16) from fun h => by unfold rightO; rw [h]; rfl)
  obtain ⟨n, hln⟩ : ∃ n, l.length = n := ⟨_, rfl⟩
  rw [hln] at hn ⊢
  have Hln := Lib.hid hln
  clear hln
  go_enter Tryd.func29, Tryd.ntmps29
  go_wp2
  go_loopw [7] (fun i wr => ∃ k : Nat, k ≤ n ∧ i = .int .i64 k ∧ (l.take k).all okO = true ∧ Below w.heap.size w wr) (fun i _ => n - (intOf i).toNat)
  case atStart => exact ⟨0, by omega, rfl, rfl, by (repeat' (first | with_reducible exact Below.refl _ _ | with_reducible assumption | with_reducible refine Below.drew ?_ | with_reducible refine below_drewN' ?_ _ | with_reducible refine Below.alloc ?_ ?_ _ | with_reducible refine Below.setCell ?_ ?_ _ | with_reducible refine below_step (by assumption) ?_ ?_ | omega | (simp; done) | (simp; omega)))⟩
  case round =>
    obtain ⟨k, hk, rfl, hE, hB⟩ := hrel
    obtain ⟨hcB, hfB⟩ := bcell hB
    have hbz := hB.size
    have HE := Lib.hid hE
    clear hE
    by_cases hlt : k < n
    · obtain ⟨x, hx⟩ := mem_at (l := l) (k := k) (by rw [Hln.out]; exact hlt)
      obtain ⟨b, off, rfl, hb, hc⟩ := HD.out (by rw [Hln.out]; omega)
      have hbw : b < wr.heap.size := by omega
      obtain ⟨c0, c1, c2, c3⟩ := tol_cells (hc k x hx)
      have Hx := Lib.hid hx
      clear hc hx
      rcases okO_cases x with ⟨k1, hv⟩ | ⟨k1, k2, hv⟩ | ⟨k1, k2, k3, hv⟩ | ⟨k1, k2, k3, k4, hv⟩ | ⟨k1, k2, k3, k4, hv⟩
      rotate_right 2
      · have Hs := Lib.hid (Hbad.out k x Hx.out hv)
        have K1 := Lib.hid k1
        have K2 := Lib.hid k2
        have K3 := Lib.hid k3
        clear hv k1 k2 k3
        have e1 : x.key = emp ∨ ¬ x.key = emp := Decidable.em _
        have e2 : x.val = emp ∨ ¬ x.val = emp := Decidable.em _
        unfold formO at k4
        rcases e1 with e1 | e1 <;> rcases e2 with e2 | e2 <;> cases ha : x.any <;> (try (exfalso; simp [e1, e2, ha] at k4; done))
        all_goals
          clear k4
          first | (have e3 := emp_lits e1) | (have e3 := emp_litn e1)
          first | (have e4 := emp_lits e2) | (have e4 := emp_litn e2)
          obtain ⟨q1, q2, q3, q4⟩ := e3
          obtain ⟨p1, p2, p3, p4⟩ := e4
          clear e1 e2
          go_wp2_with (first | (go_at_call 51; (with_reducible refine (wordorempty_any x.key _).mono ?_); rintro e w5 ⟨rfl, hb5⟩; rw [K1.out]; have hX5 : CellsO x wr.heap.size w5 := CellsO.mono (by first | exact CellsO.new x wr 70 | (have h9 := CellsO.new x wr 70; rw [ha] at h9; exact h9)) hb5; have HX5 := Lib.hid hX5; obtain ⟨x50, x51, x52, x53, x54⟩ := hX5; obtain ⟨hc5, hf5⟩ := bcell hb5; have hz5 := hb5.size; (try simp at hz5)) | (go_at_call 51; (with_reducible refine (wordorempty_any x.val _).mono ?_); rintro e w6 ⟨rfl, hb6⟩; rw [K2.out]; have hX6 := HX5.out.mono hb6; have HX6 := Lib.hid hX6; obtain ⟨x60, x61, x62, x63, x64⟩ := hX6; obtain ⟨hc6, hf6⟩ := bcell hb6; have hz6 := hb6.size; (try simp at hz6)) | (go_at_call 52; (with_reducible refine (righteffect_any _ _).mono ?_); rintro e w7 ⟨rfl, hb7⟩; rw [K3.out]; have hX7 := HX6.out.mono hb7; have HX7 := Lib.hid hX7; obtain ⟨x70, x71, x72, x73, x74⟩ := hX7; obtain ⟨hc7, hf7⟩ := bcell hb7; have hz7 := hb7.size; (try simp at hz7)))
          go_ret
          exact ⟨by rw [Hs.out]; rfl, by (repeat' (first | with_reducible exact Below.refl _ _ | with_reducible assumption | with_reducible refine Below.drew ?_ | with_reducible refine below_drewN' ?_ _ | with_reducible refine Below.alloc ?_ ?_ _ | with_reducible refine Below.setCell ?_ ?_ _ | with_reducible refine below_step (by assumption) ?_ ?_ | omega | (simp; done) | (simp; omega)))⟩
      · have Hs := Lib.hid (show (l.take (k + 1)).all okO = true by rw [take_at Hx.out, List.all_append, HE.out]; simp [hv])
        have K1 := Lib.hid k1
        have K2 := Lib.hid k2
        have K3 := Lib.hid k3
        clear hv k1 k2 k3
        have e1 : x.key = emp ∨ ¬ x.key = emp := Decidable.em _
        have e2 : x.val = emp ∨ ¬ x.val = emp := Decidable.em _
        unfold formO at k4
        rcases e1 with e1 | e1 <;> rcases e2 with e2 | e2 <;> cases ha : x.any <;> (try (exfalso; simp [e1, e2, ha] at k4; done))
        all_goals
          clear k4
          first | (have e3 := emp_lits e1) | (have e3 := emp_litn e1)
          first | (have e4 := emp_lits e2) | (have e4 := emp_litn e2)
          obtain ⟨q1, q2, q3, q4⟩ := e3
          obtain ⟨p1, p2, p3, p4⟩ := e4
          clear e1 e2
          go_wp2_with (first | (go_at_call 51; (with_reducible refine (wordorempty_any x.key _).mono ?_); rintro e w5 ⟨rfl, hb5⟩; rw [K1.out]; have hX5 : CellsO x wr.heap.size w5 := CellsO.mono (by first | exact CellsO.new x wr 70 | (have h9 := CellsO.new x wr 70; rw [ha] at h9; exact h9)) hb5; have HX5 := Lib.hid hX5; obtain ⟨x50, x51, x52, x53, x54⟩ := hX5; obtain ⟨hc5, hf5⟩ := bcell hb5; have hz5 := hb5.size; (try simp at hz5)) | (go_at_call 51; (with_reducible refine (wordorempty_any x.val _).mono ?_); rintro e w6 ⟨rfl, hb6⟩; rw [K2.out]; have hX6 := HX5.out.mono hb6; have HX6 := Lib.hid hX6; obtain ⟨x60, x61, x62, x63, x64⟩ := hX6; obtain ⟨hc6, hf6⟩ := bcell hb6; have hz6 := hb6.size; (try simp at hz6)) | (go_at_call 52; (with_reducible refine (righteffect_any _ _).mono ?_); rintro e w7 ⟨rfl, hb7⟩; rw [K3.out]; have hX7 := HX6.out.mono hb7; have HX7 := Lib.hid hX7; obtain ⟨x70, x71, x72, x73, x74⟩ := hX7; obtain ⟨hc7, hf7⟩ := bcell hb7; have hz7 := hb7.size; (try simp at hz7)))
          go_roundw
          case rel => exact ⟨k + 1, by omega, by go_num, Hs.out, by (repeat' (first | with_reducible exact Below.refl _ _ | with_reducible assumption | with_reducible refine Below.drew ?_ | with_reducible refine below_drewN' ?_ _ | with_reducible refine Below.alloc ?_ ?_ _ | with_reducible refine Below.setCell ?_ ?_ _ | with_reducible refine below_step (by assumption) ?_ ?_ | omega | (simp; done) | (simp; omega)))⟩
          case measure => simp [intOf]; omega
      all_goals
        have Hs := Lib.hid (Hbad.out k x Hx.out hv)
        have K1 := Lib.hid k1
        first | (have K2 := Lib.hid k2) | skip
        first | (have K3 := Lib.hid k3) | skip
        clear hv k1
        first | clear k2 | skip
        first | clear k3 | skip
        go_wp2_with (first | (go_at_call 51; (with_reducible refine (wordorempty_any x.key _).mono ?_); rintro e w5 ⟨rfl, hb5⟩; rw [K1.out]; have hX5 : CellsO x wr.heap.size w5 := CellsO.mono (by first | exact CellsO.new x wr 70 | (have h9 := CellsO.new x wr 70; rw [ha] at h9; exact h9)) hb5; have HX5 := Lib.hid hX5; obtain ⟨x50, x51, x52, x53, x54⟩ := hX5; obtain ⟨hc5, hf5⟩ := bcell hb5; have hz5 := hb5.size; (try simp at hz5)) | (go_at_call 51; (with_reducible refine (wordorempty_any x.val _).mono ?_); rintro e w6 ⟨rfl, hb6⟩; rw [K2.out]; have hX6 := HX5.out.mono hb6; have HX6 := Lib.hid hX6; obtain ⟨x60, x61, x62, x63, x64⟩ := hX6; obtain ⟨hc6, hf6⟩ := bcell hb6; have hz6 := hb6.size; (try simp at hz6)) | (go_at_call 52; (with_reducible refine (righteffect_any _ _).mono ?_); rintro e w7 ⟨rfl, hb7⟩; rw [K3.out]; have hX7 := HX6.out.mono hb7; have HX7 := Lib.hid hX7; obtain ⟨x70, x71, x72, x73, x74⟩ := hX7; obtain ⟨hc7, hf7⟩ := bcell hb7; have hz7 := hb7.size; (try simp at hz7)))
        go_ret
        exact ⟨by rw [Hs.out]; rfl, by (repeat' (first | with_reducible exact Below.refl _ _ | with_reducible assumption | with_reducible refine Below.drew ?_ | with_reducible refine below_drewN' ?_ _ | with_reducible refine Below.alloc ?_ ?_ _ | with_reducible refine Below.setCell ?_ ?_ _ | with_reducible refine below_step (by assumption) ?_ ?_ | omega | (simp; done) | (simp; omega)))⟩
    · obtain rfl : k = n := by omega
      have Hs := Lib.hid (Hend.out (by rw [← List.take_of_length_le (Nat.le_of_eq Hln.out)]; exact HE.out))
      rw [Hln.out] at Hs
      go_wp2
      go_ret
      exact ⟨by rw [Hs.out]; simp; omega, by (repeat' (first | with_reducible exact Below.refl _ _ | with_reducible assumption | with_reducible refine Below.drew ?_ | with_reducible refine below_drewN' ?_ _ | with_reducible refine Below.alloc ?_ ?_ _ | with_reducible refine Below.setCell ?_ ?_ _ | with_reducible refine below_step (by assumption) ?_ ?_ | omega | (simp; done) | (simp; omega)))⟩
/-- What the document asks of an effect. -/
theorem okO_ref (t : Tol) : okO t = (weB t.key && weB t.val && (decide (t.eff = 0) || effB t.eff) && formO t) := by
  unfold okO reB effB
  have : decide (t.eff = 0 ∨ t.eff = 1 ∨ t.eff = 2 ∨ t.eff = 3) = (decide (t.eff = 0) || decide (1 ≤ t.eff ∧ t.eff ≤ 3)) := by
    rw [← Bool.decide_or]
    exact decide_eq_decide.2 (by omega)
  rw [this]
theorem okQ_cases (t : Tol) : (weB t.key = false ∧ okO t = false) ∨ (weB t.key = true ∧ weB t.val = false ∧ okO t = false) ∨ (weB t.key = true ∧ weB t.val = true ∧ (t.eff != 0) = true ∧ effB t.eff = false ∧ okO t = false) ∨
    (weB t.key = true ∧ weB t.val = true ∧ (t.eff != 0) = true ∧ effB t.eff = true ∧ formO t = false ∧ okO t = false) ∨ (weB t.key = true ∧ weB t.val = true ∧ (t.eff != 0) = true ∧ effB t.eff = true ∧ formO t = true ∧ okO t = true) ∨
    (weB t.key = true ∧ weB t.val = true ∧ (t.eff != 0) = false ∧ formO t = false ∧ okO t = false) ∨ (weB t.key = true ∧ weB t.val = true ∧ (t.eff != 0) = false ∧ formO t = true ∧ okO t = true) := by
  rw [okO_ref]
  cases weB t.key <;> cases weB t.val <;> cases formO t <;> cases h : effB t.eff <;> by_cases h0 : t.eff = 0 <;> simp [h0]
theorem formO_cases (t : Tol) (h : formO t = false) : (t.any = true ∧ ¬ t.val = emp) ∨ (t.any = false ∧ t.key = emp) := by
  unfold formO at h
  cases ha : t.any <;> simp [ha] at h ⊢ <;> exact h
theorem formO_true (t : Tol) (h : formO t = true) : (t.any = true ∧ t.val = emp) ∨ (t.any = false ∧ ¬ t.key = emp) := by
  unfold formO at h
  cases ha : t.any <;> simp [ha] at h ⊢ <;> exact h

/-- A port, as a cell. -/
def pcs (n : Int) : List Value := [.int .i64 n]
theorem pcs_len (n : Int) : (pcs n).length = 1 := rfl
abbrev PrtL := RowsAt pcs 1
structure Pd where
  nm : ByteArray
  n0 : Int
  n1 : Int
  n2 : Int
  n3 : Int
  n4 : Int
  la : Option Addr
  lk : Nat
  labs : List Lab
  sa : Option Addr
  sk : Nat
  sels : List Lab
  ta : Option Addr
  tk : Nat
  trms : List Lb.Trm
  ba : Option Addr
  bk : Nat
  bers : List Tol
  pa : Option Addr
  pk : Nat
  prts : List Int
  aa : Option Addr
  ak : Nat
  aprs : List Lab
  wd : Bool
  da : Option Addr
  dk : Nat
  spds : List Lab
  sw : Int
  rk : Int
  ow : ByteArray
  dm : Bool
  pn : Bool
  lc : Bool
def prow (p : Pd) : List Value := [.string p.nm, .int .i64 p.n0, .int .i64 p.n1, .int .i64 p.n2, .int .i64 p.n3, .int .i64 p.n4, .slice p.la p.labs.length p.lk, .slice p.sa p.sels.length p.sk, .slice p.ta p.trms.length p.tk, .slice p.ba p.bers.length p.bk, .slice p.pa p.prts.length p.pk, .slice p.aa p.aprs.length p.ak, .bool p.wd, .slice p.da p.spds.length p.dk, .int .i64 p.sw, .int .i64 p.rk, .string p.ow, .bool p.dm, .bool p.pn, .bool p.lc]
theorem prow_len (p : Pd) : (prow p).length = 20 := rfl
/-- A pod's lists lie in memory. -/
structure PodAt (w : World) (p : Pd) : Prop where
  labs : LabL w p.la p.labs
  sels : LabL w p.sa p.sels
  trms : Lb.TrmL w p.ta p.trms
  trmA : ∀ t ∈ p.trms, Lb.TrmAt w t
  bers : TolsAt w p.ba p.bers
  prts : PrtL w p.pa p.prts
  aprs : LabL w p.aa p.aprs
  spds : LabL w p.da p.spds
  ll : p.labs.length ≤ maxLen
  sl : p.sels.length ≤ maxLen
  tl : p.trms.length ≤ maxLen
  bl : p.bers.length ≤ maxLen
  pl : p.prts.length ≤ maxLen
  al : p.aprs.length ≤ maxLen
  dl : p.spds.length ≤ maxLen
theorem PodAt.mono {w w' : World} {p : Pd} (h : PodAt w p) (hb : Below w.heap.size w w') : PodAt w' p :=
  ⟨h.labs.mono hb, h.sels.mono hb, h.trms.mono hb, fun t ht => (h.trmA t ht).mono hb, h.bers.mono hb, h.prts.mono hb, h.aprs.mono hb, h.spds.mono hb, h.ll, h.sl, h.tl, h.bl, h.pl, h.al, h.dl⟩
/-- A pod that came in. -/
structure PodIn (w : World) (p : Pd) : Prop where
  here : PodAt w p
  ln : NilOk p.la p.labs.length p.lk ∧ p.labs.length ≤ p.lk
  sn : NilOk p.sa p.sels.length p.sk ∧ p.sels.length ≤ p.sk
  tn : NilOk p.ta p.trms.length p.tk ∧ p.trms.length ≤ p.tk
  bn : NilOk p.ba p.bers.length p.bk ∧ p.bers.length ≤ p.bk
  pn : NilOk p.pa p.prts.length p.pk ∧ p.prts.length ≤ p.pk
  an : NilOk p.aa p.aprs.length p.ak ∧ p.aprs.length ≤ p.ak
  dn : NilOk p.da p.spds.length p.dk ∧ p.spds.length ≤ p.dk
theorem PodIn.mono {w w' : World} {p : Pd} (h : PodIn w p) (hb : Below w.heap.size w w') : PodIn w' p := ⟨h.here.mono hb, h.ln, h.sn, h.tn, h.bn, h.pn, h.an, h.dn⟩

theorem Tryd.cells37 : Tryd.prog.cellsOf 37 = 20 := by kernel_rfl
theorem Tryd.cells70 : Tryd.prog.cellsOf 70 = 4 := by kernel_rfl
theorem Tryd.cells34 : Tryd.prog.cellsOf 34 = 1 := by kernel_rfl
theorem Tryd.cells35 : Tryd.prog.cellsOf 35 = 1 := by kernel_rfl
theorem Tryd.cells29 : Tryd.prog.cellsOf 29 = 1 := by kernel_rfl

set_option maxRecDepth 100000 in
theorem tol_open {H : Type} {enc : TypeId × Value → H} {W : World} {fuel : Nat} {cs : List Value} {y : DataW H × List MemPlace} (hl : cs.length = 4)
    (h : DataW.trod enc Tryd.prog W 0 (fun _ => true) true fuel 70 cs = some y) : ∃ x : Tol, cs = ocs x := by
  obtain ⟨xs, n, _, hx, _, hlen, hg⟩ := DataW.trod_struct Tryd.underlying70 h
  match cs, hl with
  | [c0, c1, c2, c3], _ =>
    match xs, hlen with
    | [y0, y1, y2, y3], _ =>
      have g0 := hg 0 _ rfl
      have g1 := hg 1 _ rfl
      have g2 := hg 2 _ rfl
      have g3 := hg 3 _ rfl
      obtain ⟨s0, q0, _⟩ := DataW.trod_string Tryd.underlying9 g0
      obtain ⟨s1, q1, _⟩ := DataW.trod_string Tryd.underlying9 g1
      obtain ⟨b2, q2, _⟩ := DataW.trod_bool Tryd.underlying4 g2
      obtain ⟨n3, q3, _⟩ := DataW.trod_int Tryd.underlying3 g3
      simp [cells_int, Tryd.cells9, Tryd.cells4] at q0 q1 q2 q3
      exact ⟨⟨s0, s1, b2, n3⟩, by rw [q0, q1, q2, q3]; rfl⟩
theorem prt_open {H : Type} {enc : TypeId × Value → H} {W : World} {fuel : Nat} {cs : List Value} {y : DataW H × List MemPlace} (hl : cs.length = 1)
    (h : DataW.trod enc Tryd.prog W 0 (fun _ => true) true fuel 3 cs = some y) : ∃ n : Int, cs = pcs n := by
  obtain ⟨n0, q0, _⟩ := DataW.trod_int Tryd.underlying3 h
  exact ⟨n0, q0⟩
/-- Terms inside what came in, with their values. -/
theorem open_nested_in {α : Type} {enc : α → List Value} {K : Nat} {In : World → α → Prop} {H : Type} {ec : TypeId × Value → H} {P : Program} {W : World} {t e : TypeId} {fuel : Nat} {a : Option Addr} {len cap : Nat} {y : DataW H × List MemPlace}
    (ht : P.underlying t = some (.slice e)) (hE : P.cellsOf e = K) (hE0 : 0 < K)
    (hdec : ∀ (cs : List Value) (fuel : Nat) (y : DataW H × List MemPlace), cs.length = K → DataW.trod ec P W 0 (fun _ => true) true fuel e cs = some y → ∃ x, cs = enc x ∧ In W x)
    (h : DataW.trod ec P W 0 (fun _ => true) true fuel t [.slice a len cap] = some y) :
    ∃ l : List α, l.length = len ∧ RowsAt enc K W a l ∧ len ≤ maxLen ∧ ∀ x ∈ l, In W x := by
  obtain ⟨l, h1, h2, h3⟩ := open_nested (α := {x : α // In W x}) (enc := fun x => enc x.1) ht hE hE0 (fun cs fuel y hl hy => by
    obtain ⟨x, e, hx⟩ := hdec cs fuel y hl hy
    exact ⟨⟨x, hx⟩, e⟩) h
  refine ⟨l.map Subtype.val, by rw [List.length_map]; exact h1, rows_val h2, h3, fun x hx => ?_⟩
  obtain ⟨y, _, rfl⟩ := List.mem_map.1 hx
  exact y.2
set_option maxRecDepth 100000 in
set_option maxHeartbeats 4000000 in
theorem pod_open {H : Type} {enc : TypeId × Value → H} {W : World} {fuel : Nat} {cs : List Value} {y : DataW H × List MemPlace} (hl : cs.length = 20)
    (h : DataW.trod enc Tryd.prog W 0 (fun _ => true) true fuel 37 cs = some y) : ∃ p : Pd, cs = prow p ∧ PodIn W p := by
  obtain ⟨zs, _, _, _, _, hlen3, hk⟩ := DataW.trod_struct Tryd.underlying37 h
  match cs, hl with
  | [c0, c1, c2, c3, c4, c5, c6, c7, c8, c9, c10, c11, c12, c13, c14, c15, c16, c17, c18, c19], _ =>
    match zs, hlen3 with
    | [z0, z1, z2, z3, z4, z5, z6, z7, z8, z9, z10, z11, z12, z13, z14, z15], _ =>
      have k0 := hk 0 _ rfl
      have k1 := hk 1 _ rfl
      have k2 := hk 2 _ rfl
      have k3 := hk 3 _ rfl
      have k4 := hk 4 _ rfl
      have k5 := hk 5 _ rfl
      have k6 := hk 6 _ rfl
      have k7 := hk 7 _ rfl
      have k8 := hk 8 _ rfl
      have k9 := hk 9 _ rfl
      have k10 := hk 10 _ rfl
      have k11 := hk 11 _ rfl
      have k12 := hk 12 _ rfl
      have k13 := hk 13 _ rfl
      have k14 := hk 14 _ rfl
      have k15 := hk 15 _ rfl
      obtain ⟨m0, r0, _⟩ := DataW.trod_string Tryd.underlying9 k0
      obtain ⟨a2, l2, k2', r2⟩ := Go.Joins.slice_form Tryd.underlying33 k2
      obtain ⟨a3, l3, k3', r3⟩ := Go.Joins.slice_form Tryd.underlying33 k3
      obtain ⟨a4, l4, k4', r4⟩ := Go.Joins.slice_form Tryd.underlying34 k4
      obtain ⟨a5, l5, k5', r5⟩ := Go.Joins.slice_form Tryd.underlying35 k5
      obtain ⟨a6, l6, k6', r6⟩ := Go.Joins.slice_form Tryd.underlying29 k6
      obtain ⟨a7, l7, k7', r7⟩ := Go.Joins.slice_form Tryd.underlying33 k7
      obtain ⟨m8, r8, _⟩ := DataW.trod_bool Tryd.underlying4 k8
      obtain ⟨a9, l9, k9', r9⟩ := Go.Joins.slice_form Tryd.underlying33 k9
      obtain ⟨m10, r10, _⟩ := DataW.trod_int Tryd.underlying3 k10
      obtain ⟨m11, r11, _⟩ := DataW.trod_int Tryd.underlying3 k11
      obtain ⟨m12, r12, _⟩ := DataW.trod_string Tryd.underlying9 k12
      obtain ⟨m13, r13, _⟩ := DataW.trod_bool Tryd.underlying4 k13
      obtain ⟨m14, r14, _⟩ := DataW.trod_bool Tryd.underlying4 k14
      obtain ⟨m15, r15, _⟩ := DataW.trod_bool Tryd.underlying4 k15
      rw [r2] at k2
      rw [r3] at k3
      rw [r4] at k4
      rw [r5] at k5
      rw [r6] at k6
      rw [r7] at k7
      rw [r9] at k9
      obtain ⟨L2, e2, x2, y2⟩ := open_nested (K := 2) (enc := kcs) Tryd.underlying33 Tryd.cells67 (by decide) (fun cs fuel y hl h => lab_open hl h) k2
      obtain ⟨L3, e3, x3, y3⟩ := open_nested (K := 2) (enc := kcs) Tryd.underlying33 Tryd.cells67 (by decide) (fun cs fuel y hl h => lab_open hl h) k3
      obtain ⟨L4, e4, x4, y4, v4⟩ := open_nested_in (K := 3) (enc := Lb.trcs) (In := Lb.TrmAt) Tryd.underlying34 Lb.Tryd.cells54 (by decide) (fun cs fuel y hl h => Lb.trm_open hl h) k4
      obtain ⟨L5, e5, x5, y5⟩ := open_nested (K := 4) (enc := ocs) Tryd.underlying35 Tryd.cells70 (by decide) (fun cs fuel y hl h => tol_open hl h) k5
      obtain ⟨L6, e6, x6, y6⟩ := open_nested (K := 1) (enc := pcs) Tryd.underlying29 cells_int (by decide) (fun cs fuel y hl h => prt_open hl h) k6
      obtain ⟨L7, e7, x7, y7⟩ := open_nested (K := 2) (enc := kcs) Tryd.underlying33 Tryd.cells67 (by decide) (fun cs fuel y hl h => lab_open hl h) k7
      obtain ⟨L9, e9, x9, y9⟩ := open_nested (K := 2) (enc := kcs) Tryd.underlying33 Tryd.cells67 (by decide) (fun cs fuel y hl h => lab_open hl h) k9
      have g2 := nested_cap Tryd.underlying33 k2
      have g3 := nested_cap Tryd.underlying33 k3
      have g4 := nested_cap Tryd.underlying34 k4
      have g5 := nested_cap Tryd.underlying35 k5
      have g6 := nested_cap Tryd.underlying29 k6
      have g7 := nested_cap Tryd.underlying33 k7
      have g9 := nested_cap Tryd.underlying33 k9
      obtain ⟨us, _, _, _, _, hlen5, hv⟩ := DataW.trod_struct Tryd.underlying31 k1
      match us, hlen5 with
      | [u0, u1, u2, u3, u4], _ =>
        have v0 := hv 0 _ rfl
        have v1 := hv 1 _ rfl
        have v2 := hv 2 _ rfl
        have v3 := hv 3 _ rfl
        have v4' := hv 4 _ rfl
        obtain ⟨i0, p0, _⟩ := DataW.trod_int Tryd.underlying3 v0
        obtain ⟨i1, p1, _⟩ := DataW.trod_int Tryd.underlying3 v1
        obtain ⟨i2, p2, _⟩ := DataW.trod_int Tryd.underlying3 v2
        obtain ⟨i3, p3, _⟩ := DataW.trod_int Tryd.underlying3 v3
        obtain ⟨i4, p4, _⟩ := DataW.trod_int Tryd.underlying3 v4'
        simp [cells_int, Tryd.cells9, Tryd.cells4, Tryd.cells33, Tryd.cells34, Tryd.cells35, Tryd.cells29, Tryd.cells31] at r0 r2 r3 r4 r5 r6 r7 r8 r9 r10 r11 r12 r13 r14 r15 p0 p1 p2 p3 p4
        subst e2
        subst e3
        subst e4
        subst e5
        subst e6
        subst e7
        subst e9
        exact ⟨⟨m0, i0, i1, i2, i3, i4, a2, k2', L2, a3, k3', L3, a4, k4', L4, a5, k5', L5, a6, k6', L6, a7, k7', L7, m8, a9, k9', L9, m10, m11, m12, m13, m14, m15⟩, by rw [r0, r2, r3, r4, r5, r6, r7, r8, r9, r10, r11, r12, r13, r14, r15, p0, p1, p2, p3, p4]; rfl, ⟨⟨x2, x3, x4, v4, x5, x6, x7, x9, y2, y3, y4, y5, y6, y7, y9⟩, g2, g3, g4, g5, g6, g7, g9⟩⟩
/-- A bound pod: the pod, and where. -/
structure Bd where
  p : Pd
  on : ByteArray
def brow (b : Bd) : List Value := prow b.p ++ [.string b.on]
theorem brow_len (b : Bd) : (brow b).length = 21 := rfl
abbrev BndL := RowsAt brow 21
def BndIn (w : World) (b : Bd) : Prop := PodIn w b.p
set_option maxRecDepth 100000 in
theorem open_pod {H : Type} {enc : TypeId × Value → H} {W : World} {base : Nat} {v : Value} {d : DataW H} {p : List MemPlace}
    (hv : Value.okWide Tryd.prog W .any base 37 v) (h : DataW.Trod enc Tryd.prog W 0 (fun _ => true) true 37 v d p) :
    ∃ m : Pd, v = .agg (prow m).toArray ∧ PodIn W m := by
  obtain ⟨cs, rfl, hsz⟩ := okWide_struct Tryd.underlying37 hv
  rw [Tryd.cells37] at hsz
  obtain ⟨fuel, hf⟩ := h
  obtain ⟨l⟩ := cs
  obtain ⟨m, hm, hA⟩ := pod_open (cs := l) hsz hf
  exact ⟨m, by rw [hm], hA⟩
end Go.Proofs.YtccplljbljpjpaaDoor
