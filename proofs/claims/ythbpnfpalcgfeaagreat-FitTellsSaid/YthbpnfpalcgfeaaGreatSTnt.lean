/-
  Taints: bears, borne, Unborne, Prefers, Allows.
-/
import Derived.Test.YthbpnfpalcgfeaaGreatMA
import Derived.Test.YthbpnfpalcgfeaaGreatMD
import Derived.Test.YthbpnfpalcgfeaaGreatND
import Derived.Laws.StructEq
namespace Go.Proofs.YthbpnfpalcgfeaaGreat
namespace Tn
open Go.RowKit
set_option linter.unusedVariables false
set_option linter.unusedSimpArgs false

theorem toList_inj (a b : ByteArray) : a.toList = b.toList ↔ a = b := by
  rw [ByteArray.toList_eq, ByteArray.toList_eq]
  exact ⟨fun h => ByteArray.ext (Array.toList_inj.mp h), fun h => by rw [h]⟩
theorem strB_list (a b : ByteArray) : (a.toList == b.toList) = strB a b := by
  unfold strB
  by_cases h : a = b
  · subst h; simp
  · rw [decide_eq_false h, beq_eq_false_iff_ne]; exact fun e => h ((toList_inj _ _).1 e)

theorem guard_taint (op : BinOp) (x y : Operand) (xs ys : Array Value) (w : World) : (eqGuard op 75 x y (.agg xs) (.agg ys)).run Tryz.prog w = .ok () w := run_eqGuard_agg w op _ x y xs ys (by kernel_rfl)
theorem eql_taint0 (x y : Tnt) (w : World) : (Op.equalIn 10000 75 (.agg #[.string x.key, .string x.val, .int .i64 x.eff]) (.agg #[.string y.key, .string y.val, .int .i64 y.eff])).run Tryz.prog w = .ok (tntB x y) w := by
  have hus := Tryz.underlying9
  have has := Tryz.isAgg9
  have hzs := Tryz.sizeOf9
  have hui := Tryz.underlying3
  have hai := Tryz.isAgg3
  have hzi := Tryz.sizeOf3
  have hS : Tryz.prog.underlying 75 = some (.struct (Tryz.prog.fieldsOf 75)) := by kernel_rfl
  have hp : Tryz.prog.stoodInHeld 75 = false := by kernel_rfl
  rw [show (10000 : Nat) = 9999 + 1 from rfl, run_equalIn_agg w 9999 75 _ _ hS hp]
  simp only [Program.fieldsOf, Tryz.underlying75]
  go_simp
  obtain ⟨x1, x2, x3⟩ := x
  obtain ⟨y1, y2, y3⟩ := y
  unfold tntB
  by_cases h1 : x1 = y1 <;> by_cases h2 : x2 = y2 <;> by_cases h3 : x3 = y3 <;> simp [h1, h2, h3, toList_inj]
theorem eql_taint (x y : Tnt) (w : World) : (binOp .eql 75 (.agg #[.string x.key, .string x.val, .int .i64 x.eff]) (.agg #[.string y.key, .string y.val, .int .i64 y.eff])).run Tryz.prog w = .ok (.bool (tntB x y)) w := by
  rw [run_eql_struct, eql_taint0]; rfl
theorem neq_taint (x y : Tnt) (w : World) : (binOp .neq 75 (.agg #[.string x.key, .string x.val, .int .i64 x.eff]) (.agg #[.string y.key, .string y.val, .int .i64 y.eff])).run Tryz.prog w = .ok (.bool (!tntB x y)) w := by
  rw [run_neq_struct, eql_taint0]; rfl

def bearsB (t : Tol) (x : Tnt) : Bool := decide ((t.eff = 0 ∨ t.eff = x.eff) ∧ (t.key = emp ∨ t.key = x.key) ∧ (t.any = true ∨ t.val = x.val))

theorem emp_no {s : ByteArray} (h : ¬ s = emp) : ((s.toList = []) = False) ∧ (!s.toList.isEmpty) = true ∧ s.toList.isEmpty = false := by
  have h' : s.toList ≠ [] := fun e => h ((toList_inj _ _).1 (e.trans emp_list.symm))
  refine ⟨eq_iff_iff.2 ⟨h', False.elim⟩, ?_, ?_⟩ <;> cases hx : s.toList <;> first | exact absurd hx h' | rfl

theorem bears_like (t : Tol) (x : Tnt) : tntB ⟨if t.key = emp then x.key else t.key, if t.any = true then x.val else t.val, if t.eff = 0 then x.eff else t.eff⟩ x = bearsB t x := by
  obtain ⟨k, v, a, e⟩ := t
  obtain ⟨k', v', e'⟩ := x
  unfold tntB bearsB
  by_cases h1 : k = emp <;> by_cases h2 : a = true <;> by_cases h3 : e = 0 <;> simp [h1, h2, h3, eq_comm, and_comm, and_left_comm, Bool.and_assoc]

set_option maxRecDepth 100000 in
set_option maxHeartbeats 1000000 in
theorem bears_any (t : Tol) (x : Tnt) (w : World) :
    Calls Tryz.prog 121 #[.agg #[.string t.key, .string t.val, .bool t.any, .int .i64 t.eff], .agg #[.string x.key, .string x.val, .int .i64 x.eff]] w fun e w' => e = .returned (.bool (bearsB t x)) ∧ Below w.heap.size w w' := by
  have hq := fun w => eql_taint ⟨if t.key = emp then x.key else t.key, if t.any = true then x.val else t.val, if t.eff = 0 then x.eff else t.eff⟩ x w
  simp only [bears_like] at hq
  have hg := guard_taint
  obtain ⟨tk, tv, ta, te⟩ := t
  obtain ⟨xk, xv, xe⟩ := x
  simp only at hq
  obtain ⟨r, hr⟩ : ∃ r, bearsB ⟨tk, tv, ta, te⟩ ⟨xk, xv, xe⟩ = r := ⟨_, rfl⟩
  rw [hr]
  simp only [hr] at hq
  clear hr
  by_cases h1 : tk = emp <;> by_cases h3 : te = 0 <;> cases ta
  all_goals
    first | (have hh := emp_yes h1; simp only [if_pos h1] at hq; obtain ⟨h2, h4, h6⟩ := hh) | (have hh := emp_no h1; simp only [if_neg h1] at hq; obtain ⟨h2, h4, h6⟩ := hh)
    first | (simp only [if_pos h3] at hq; have h5 : (te == 0) = true := (by simp [h3])) | (simp only [if_neg h3] at hq; have h5 : (te == 0) = false := (by simp [h3]))
    simp only [if_true, Bool.false_eq_true, if_false] at hq
    clear h1 h3
    go_enter Tryz.func121, Tryz.ntmps121
    go_wp2
    go_ret
    exact ⟨rfl, by (repeat' (first | with_reducible exact Below.refl _ _ | with_reducible assumption | with_reducible refine Below.drew ?_ | with_reducible refine below_drewN' ?_ _ | with_reducible refine Below.alloc ?_ ?_ _ | with_reducible refine Below.setCell ?_ ?_ _ | with_reducible refine below_step (by assumption) ?_ ?_ | omega | (simp; done) | (simp; omega)))⟩
set_option maxRecDepth 100000 in
set_option maxHeartbeats 1000000 in
theorem refbears_any (t : Tol) (x : Tnt) (w : World) :
    Calls Tryz.prog 118 #[.agg #[.string t.key, .string t.val, .bool t.any, .int .i64 t.eff], .agg #[.string x.key, .string x.val, .int .i64 x.eff]] w fun e w' => e = .returned (.bool (bearsB t x)) ∧ Below w.heap.size w w' := by
  obtain ⟨tk, tv, ta, te⟩ := t
  obtain ⟨xk, xv, xe⟩ := x
  have e1 := strB_list tk xk
  have e2 := strB_list tv xv
  by_cases g1 : te = 0 ∨ te = xe
  · by_cases g2 : tk = emp ∨ tk = xk
    · by_cases g3 : ta = true ∨ tv = xv
      · have Hr := Lib.hid (show bearsB ⟨tk, tv, ta, te⟩ ⟨xk, xv, xe⟩ = true from decide_eq_true ⟨g1, g2, g3⟩)
        (by_cases h1 : te = 0) <;> (by_cases h2 : te = xe) <;> (by_cases h3 : tk = emp) <;> (by_cases h4 : tk = xk) <;> (by_cases h5 : tv = xv) <;> cases ta <;> (first | (exfalso; simp_all; done) | skip)
        all_goals
          first | (have k1 : (te == 0) = true := by rw [h1]; rfl) | (have k1 : (te == 0) = false := by simpa using h1)
          first | (have k2 : (te == xe) = true := by rw [h2]; simp) | (have k2 : (te == xe) = false := by simpa using h2)
          first | (have k4 : (tk.toList == xk.toList) = true := by rw [h4]; simp) | (have k4 : (tk.toList == xk.toList) = false := by rw [e1]; exact decide_eq_false h4)
          first | (have k5 : (tv.toList == xv.toList) = true := by rw [h5]; simp) | (have k5 : (tv.toList == xv.toList) = false := by rw [e2]; exact decide_eq_false h5)
          clear e1 e2
          first | (have hh := emp_yes h3; obtain ⟨q1, q2, q3⟩ := hh) | (have hh := emp_no h3; obtain ⟨q1, q2, q3⟩ := hh)
          (try clear g1); (try clear g2); (try clear g3)
          clear h1 h2 h3 h4 h5
          go_enter Tryz.func118, Tryz.ntmps118
          go_wp2
          go_ret
          exact ⟨by rw [Hr.out]; rfl, by (repeat' (first | with_reducible exact Below.refl _ _ | with_reducible assumption | with_reducible refine Below.drew ?_ | with_reducible refine below_drewN' ?_ _ | with_reducible refine Below.alloc ?_ ?_ _ | with_reducible refine Below.setCell ?_ ?_ _ | with_reducible refine below_step (by assumption) ?_ ?_ | omega | (simp; done) | (simp; omega)))⟩
      · have Hr := Lib.hid (show bearsB ⟨tk, tv, ta, te⟩ ⟨xk, xv, xe⟩ = false from decide_eq_false fun h => g3 h.2.2)
        (by_cases h1 : te = 0) <;> (by_cases h2 : te = xe) <;> (by_cases h3 : tk = emp) <;> (by_cases h4 : tk = xk) <;> (by_cases h5 : tv = xv) <;> cases ta <;> (first | (exfalso; simp_all; done) | skip)
        all_goals
          first | (have k1 : (te == 0) = true := by rw [h1]; rfl) | (have k1 : (te == 0) = false := by simpa using h1)
          first | (have k2 : (te == xe) = true := by rw [h2]; simp) | (have k2 : (te == xe) = false := by simpa using h2)
          first | (have k4 : (tk.toList == xk.toList) = true := by rw [h4]; simp) | (have k4 : (tk.toList == xk.toList) = false := by rw [e1]; exact decide_eq_false h4)
          first | (have k5 : (tv.toList == xv.toList) = true := by rw [h5]; simp) | (have k5 : (tv.toList == xv.toList) = false := by rw [e2]; exact decide_eq_false h5)
          clear e1 e2
          first | (have hh := emp_yes h3; obtain ⟨q1, q2, q3⟩ := hh) | (have hh := emp_no h3; obtain ⟨q1, q2, q3⟩ := hh)
          (try clear g1); (try clear g2); (try clear g3)
          clear h1 h2 h3 h4 h5
          go_enter Tryz.func118, Tryz.ntmps118
          go_wp2
          go_ret
          exact ⟨by rw [Hr.out]; rfl, by (repeat' (first | with_reducible exact Below.refl _ _ | with_reducible assumption | with_reducible refine Below.drew ?_ | with_reducible refine below_drewN' ?_ _ | with_reducible refine Below.alloc ?_ ?_ _ | with_reducible refine Below.setCell ?_ ?_ _ | with_reducible refine below_step (by assumption) ?_ ?_ | omega | (simp; done) | (simp; omega)))⟩
    · have Hr := Lib.hid (show bearsB ⟨tk, tv, ta, te⟩ ⟨xk, xv, xe⟩ = false from decide_eq_false fun h => g2 h.2.1)
      (by_cases h1 : te = 0) <;> (by_cases h2 : te = xe) <;> (by_cases h3 : tk = emp) <;> (by_cases h4 : tk = xk) <;> (by_cases h5 : tv = xv) <;> cases ta <;> (first | (exfalso; simp_all; done) | skip)
      all_goals
        first | (have k1 : (te == 0) = true := by rw [h1]; rfl) | (have k1 : (te == 0) = false := by simpa using h1)
        first | (have k2 : (te == xe) = true := by rw [h2]; simp) | (have k2 : (te == xe) = false := by simpa using h2)
        first | (have k4 : (tk.toList == xk.toList) = true := by rw [h4]; simp) | (have k4 : (tk.toList == xk.toList) = false := by rw [e1]; exact decide_eq_false h4)
        first | (have k5 : (tv.toList == xv.toList) = true := by rw [h5]; simp) | (have k5 : (tv.toList == xv.toList) = false := by rw [e2]; exact decide_eq_false h5)
        clear e1 e2
        first | (have hh := emp_yes h3; obtain ⟨q1, q2, q3⟩ := hh) | (have hh := emp_no h3; obtain ⟨q1, q2, q3⟩ := hh)
        (try clear g1); (try clear g2); (try clear g3)
        clear h1 h2 h3 h4 h5
        go_enter Tryz.func118, Tryz.ntmps118
        go_wp2
        go_ret
        exact ⟨by rw [Hr.out]; rfl, by (repeat' (first | with_reducible exact Below.refl _ _ | with_reducible assumption | with_reducible refine Below.drew ?_ | with_reducible refine below_drewN' ?_ _ | with_reducible refine Below.alloc ?_ ?_ _ | with_reducible refine Below.setCell ?_ ?_ _ | with_reducible refine below_step (by assumption) ?_ ?_ | omega | (simp; done) | (simp; omega)))⟩
  · have Hr := Lib.hid (show bearsB ⟨tk, tv, ta, te⟩ ⟨xk, xv, xe⟩ = false from decide_eq_false fun h => g1 h.1)
    (by_cases h1 : te = 0) <;> (by_cases h2 : te = xe) <;> (by_cases h3 : tk = emp) <;> (by_cases h4 : tk = xk) <;> (by_cases h5 : tv = xv) <;> cases ta <;> (first | (exfalso; simp_all; done) | skip)
    all_goals
      first | (have k1 : (te == 0) = true := by rw [h1]; rfl) | (have k1 : (te == 0) = false := by simpa using h1)
      first | (have k2 : (te == xe) = true := by rw [h2]; simp) | (have k2 : (te == xe) = false := by simpa using h2)
      first | (have k4 : (tk.toList == xk.toList) = true := by rw [h4]; simp) | (have k4 : (tk.toList == xk.toList) = false := by rw [e1]; exact decide_eq_false h4)
      first | (have k5 : (tv.toList == xv.toList) = true := by rw [h5]; simp) | (have k5 : (tv.toList == xv.toList) = false := by rw [e2]; exact decide_eq_false h5)
      clear e1 e2
      first | (have hh := emp_yes h3; obtain ⟨q1, q2, q3⟩ := hh) | (have hh := emp_no h3; obtain ⟨q1, q2, q3⟩ := hh)
      (try clear g1); (try clear g2); (try clear g3)
      clear h1 h2 h3 h4 h5
      go_enter Tryz.func118, Tryz.ntmps118
      go_wp2
      go_ret
      exact ⟨by rw [Hr.out]; rfl, by (repeat' (first | with_reducible exact Below.refl _ _ | with_reducible assumption | with_reducible refine Below.drew ?_ | with_reducible refine below_drewN' ?_ _ | with_reducible refine Below.alloc ?_ ?_ _ | with_reducible refine Below.setCell ?_ ?_ _ | with_reducible refine below_step (by assumption) ?_ ?_ | omega | (simp; done) | (simp; omega)))⟩
/-- Some toleration bears it. -/
def borneB (l : List Tol) (x : Tnt) : Bool := l.any fun t => bearsB t x
theorem borneB_take {l : List Tol} {k : Nat} {t : Tol} {x : Tnt} (h : l[k]? = some t) : borneB (l.take (k + 1)) x = (borneB (l.take k) x || bearsB t x) := by
  unfold borneB
  rw [take_at h, List.any_append]
  simp
theorem borneB_yes {l : List Tol} {k : Nat} {t : Tol} {x : Tnt} (h : l[k]? = some t) (hb : bearsB t x = true) : borneB l x = true := by
  unfold borneB
  rw [List.any_eq_true]
  exact ⟨t, List.mem_of_getElem? h, hb⟩

set_option maxRecDepth 100000 in
set_option maxHeartbeats 2000000 in
theorem borne_any (a : Option Addr) (ka : Nat) (l : List Tol) (x : Tnt) (w : World) (hD : TolsAt w a l) (hn : l.length ≤ 1000000) :
    Calls Tryz.prog 112 #[.slice a l.length ka, .agg #[.string (x).key, .string (x).val, .int .i64 (x).eff]] w fun e w' => e = .returned (.bool (borneB l x)) ∧ Below w.heap.size w w' := by
  have HD := Lib.hid hD
  clear hD
  obtain ⟨n, hln⟩ : ∃ n, l.length = n := ⟨_, rfl⟩
  rw [hln] at hn ⊢
  have Hln := Lib.hid hln
  clear hln
  go_enter Tryz.func112, Tryz.ntmps112
  go_wp2
  go_loopw [9] (fun i wr => ∃ k : Nat, k ≤ n ∧ i = .int .i64 k ∧ borneB (l.take k) x = false ∧ Below (w.heap.size + 1) (w.alloc (.cells #[.string x.key, .string x.val, .int .i64 x.eff] 75)) wr) (fun i _ => n - (intOf i).toNat)
  case atStart => exact ⟨0, by omega, rfl, rfl, by (repeat' (first | with_reducible exact Below.refl _ _ | with_reducible assumption | with_reducible refine Below.drew ?_ | with_reducible refine below_drewN' ?_ _ | with_reducible refine Below.alloc ?_ ?_ _ | with_reducible refine Below.setCell ?_ ?_ _ | with_reducible refine below_step (by assumption) ?_ ?_ | omega | (simp; done) | (simp; omega)))⟩
  case round =>
    obtain ⟨k, hk, rfl, hE, hB⟩ := hrel
    have hB' : Below (w.alloc (.cells #[.string x.key, .string x.val, .int .i64 x.eff] 75)).heap.size (w.alloc (.cells #[.string x.key, .string x.val, .int .i64 x.eff] 75)) wr := by simpa using hB
    obtain ⟨hcB, hfB⟩ := bcell hB'
    have hzB := hB.size
    (try simp at hzB)
    have hz0 : w.heap.size < wr.heap.size := by omega
    have HE := Lib.hid hE
    have hBw : Below w.heap.size w wr := by have := hB'.mono (B' := w.heap.size) (by simp); exact ((Below.refl _ w).alloc (Nat.le_refl _) _).trans this
    clear hE
    by_cases hlt : k < n
    · obtain ⟨t, ht⟩ := mem_at (l := l) (k := k) (by rw [Hln.out]; exact hlt)
      have Ht := Lib.hid ht
      clear ht
      obtain ⟨b, off, rfl, hb, hc⟩ := HD.out (by rw [Hln.out]; omega)
      have hbw : b < wr.heap.size := by omega
      have hbw1 : b < w.heap.size + 1 := by omega
      obtain ⟨c0, c1, c2, c3⟩ := tol_cells (hc k t Ht.out)
      clear hc
      cases hv : bearsB t x
      · have Hs := Lib.hid (show borneB (l.take (k + 1)) x = false by rw [borneB_take Ht.out, HE.out, hv]; rfl)
        have Hv := Lib.hid hv
        clear hv
        go_wp2_with (go_at_call 121; (with_reducible refine (bears_any t x _).mono ?_); rintro e w5 ⟨rfl, hb5⟩; rw [Hv.out]; obtain ⟨hc5, hf5⟩ := bcell hb5; have hz5 := hb5.size; (try simp at hz5))
        go_roundw
        case rel => exact ⟨k + 1, by omega, by go_num, Hs.out, by (repeat' (first | with_reducible exact Below.refl _ _ | with_reducible assumption | with_reducible refine Below.drew ?_ | with_reducible refine below_drewN' ?_ _ | with_reducible refine Below.alloc ?_ ?_ _ | with_reducible refine Below.setCell ?_ ?_ _ | with_reducible refine below_step (by assumption) ?_ ?_ | omega | (simp; done) | (simp; omega)))⟩
        case measure => simp [intOf]; omega
      · have Hs := Lib.hid (borneB_yes Ht.out hv)
        have Hv := Lib.hid hv
        clear hv
        go_wp2_with (go_at_call 121; (with_reducible refine (bears_any t x _).mono ?_); rintro e w5 ⟨rfl, hb5⟩; rw [Hv.out]; obtain ⟨hc5, hf5⟩ := bcell hb5; have hz5 := hb5.size; (try simp at hz5))
        go_ret
        exact ⟨by rw [Hs.out]; rfl, by (repeat' (first | with_reducible exact Below.refl _ _ | with_reducible assumption | with_reducible refine Below.drew ?_ | with_reducible refine below_drewN' ?_ _ | with_reducible refine Below.alloc ?_ ?_ _ | with_reducible refine Below.setCell ?_ ?_ _ | with_reducible refine below_step (by assumption) ?_ ?_ | omega | (simp; done) | (simp; omega)))⟩
    · obtain rfl : k = n := by omega
      have Hs := Lib.hid (show borneB l x = false by rw [← HE.out, ← Hln.out, List.take_length])
      go_wp2
      go_ret
      exact ⟨by rw [Hs.out]; rfl, by (repeat' (first | with_reducible exact Below.refl _ _ | with_reducible assumption | with_reducible refine Below.drew ?_ | with_reducible refine below_drewN' ?_ _ | with_reducible refine Below.alloc ?_ ?_ _ | with_reducible refine Below.setCell ?_ ?_ _ | with_reducible refine below_step (by assumption) ?_ ?_ | omega | (simp; done) | (simp; omega)))⟩
/-- What is looked at, and not borne. -/
def leftB (l : List Tol) (eff : Int) (x : Tnt) : Bool := (decide (eff = 0) || decide (x.eff = eff)) && !borneB l x
def unborneL (l : List Tol) (xs : List Tnt) (eff : Int) : List Tnt := xs.filter (leftB l eff)
theorem filt_yes {α : Type} {P : α → Bool} {xs : List α} {k : Nat} {x : α} (h : xs[k]? = some x) (hp : P x = true) : (xs.take (k + 1)).filter P = (xs.take k).filter P ++ [x] := by
  rw [take_at h, List.filter_append]; simp [hp]
theorem filt_no {α : Type} {P : α → Bool} {xs : List α} {k : Nat} {x : α} (h : xs[k]? = some x) (hp : P x = false) : (xs.take (k + 1)).filter P = (xs.take k).filter P := by
  rw [take_at h, List.filter_append]; simp [hp]
set_option maxRecDepth 100000 in
set_option maxHeartbeats 4000000 in
theorem unborne_any (a c : Option Addr) (ka kc : Nat) (l : List Tol) (xs : List Tnt) (eff : Int) (w : World) (hD : TolsAt w a l) (hn : l.length ≤ 1000000) (hF : TntsAt w c xs) (hm : xs.length ≤ 1000000) :
    Calls Tryz.prog 94 #[.slice a l.length ka, .slice c xs.length kc, .int .i64 eff] w (Gives w (OwnL tcs 3 w.heap.size 75 (unborneL l xs eff))) := by
  have HD := Lib.hid hD
  have HF := Lib.hid hF
  clear hD hF
  obtain ⟨i0, hi, hz0, hz1, hz2⟩ := info_parts Tryz.info75
  have Hi := Lib.hid hi
  have Hz0 := Lib.hid hz0
  have Hz1 := Lib.hid hz1
  have Hz2 := Lib.hid hz2
  clear hi hz0 hz1 hz2
  obtain ⟨n, hln⟩ : ∃ n, xs.length = n := ⟨_, rfl⟩
  rw [hln] at hm ⊢
  have Hln := Lib.hid hln
  clear hln
  go_enter Tryz.func94, Tryz.ntmps94
  go_wp2
  go_loopw [7, 12] (fun v i wr => ∃ k : Nat, k ≤ n ∧ i = .int .i64 k ∧ wr.ownsRow w.heap.size 75 3 v ((xs.take k).filter (leftB l eff)).length (((xs.take k).filter (leftB l eff)).flatMap tcs) ∧ Below w.heap.size w wr) (fun _ i _ => n - (intOf i).toNat)
  case atStart => exact ⟨0, by omega, rfl, World.ownsRow_nil _ _ _ _, by (repeat' (first | with_reducible exact Below.refl _ _ | with_reducible assumption | with_reducible refine Below.drew ?_ | with_reducible refine below_drewN' ?_ _ | with_reducible refine Below.alloc ?_ ?_ _ | with_reducible refine Below.setCell ?_ ?_ _ | with_reducible refine below_step (by assumption) ?_ ?_ | omega | (simp; done) | (simp; omega)))⟩
  case round =>
    obtain ⟨k, hk, rfl, hown, hB⟩ := hrel
    obtain ⟨hcB, hfB⟩ := bcell hB
    have hbz := hB.size
    have Hown := Lib.hid hown
    have HB := Lib.hid hB
    clear hown
    by_cases hlt : k < n
    · obtain ⟨x, hx⟩ := mem_at (l := xs) (k := k) (by rw [Hln.out]; exact hlt)
      have Hx := Lib.hid hx
      obtain ⟨b, off, rfl, hb, hc⟩ := HF.out (by rw [Hln.out]; omega)
      have hbw : b < wr.heap.size := by omega
      obtain ⟨c0, c1, c2⟩ := tnt_cells (hc k x hx)
      clear hc hx
      have HDr := Lib.hid (HD.out.mono hB)
      by_cases he : eff = 0 ∨ x.eff = eff
      · cases hv : borneB l x
        · have Hs := Lib.hid (filt_yes Hx.out (P := leftB l eff) (show leftB l eff x = true by unfold leftB; rw [hv]; rcases he with h | h <;> simp [h]))
          have Hv := Lib.hid hv
          have hL := filt_len (leftB l eff) xs k
          have hc3 : ((xs.take k).filter (leftB l eff)).length + 1 ≤ maxLen := by unfold maxLen; omega
          have hc4 : (((xs.take k).filter (leftB l eff)).length + 1) * 40 ≤ 140737488355328 := by omega
          have Hrow := Lib.hid (show ((xs.take k).filter (leftB l eff)).flatMap tcs ++ tcs x = ((xs.take (k + 1)).filter (leftB l eff)).flatMap tcs by rw [Hs.out]; simp)
          have Hlen := Lib.hid (show ((xs.take k).filter (leftB l eff)).length + 1 = ((xs.take (k + 1)).filter (leftB l eff)).length by rw [Hs.out]; simp)
          clear hL hv
          by_cases h0 : eff = 0
          all_goals
            first | (have k1 : (eff == 0) = true := by rw [h0]; rfl) | (have k1 : (eff == 0) = false := by simpa using h0)
            first | (have k2 : (x.eff == eff) = true := by rcases he with h | h <;> first | exact absurd h h0 | (rw [h]; simp)) | skip
            clear h0 he
            go_wp2_with (first | (go_at_call 112; (with_reducible refine (borne_any a ka l x _ (HDr.out.mono (by (repeat' (first | with_reducible exact Below.refl _ _ | with_reducible assumption | with_reducible refine Below.drew ?_ | with_reducible refine below_drewN' ?_ _ | with_reducible refine Below.alloc ?_ ?_ _ | with_reducible refine Below.setCell ?_ ?_ _ | with_reducible refine below_step (by assumption) ?_ ?_ | omega | (simp; done) | (simp; omega))))) hn).mono ?_); rintro e w5 ⟨rfl, hb5⟩; rw [Hv.out]; obtain ⟨hc5, hf5⟩ := bcell hb5; have hz5 := hb5.size; (try simp at hz5); have HOx := Lib.hid (own_kept (Hown.out.alloc _) hb5); have HBx := Lib.hid (show Below w.heap.size w w5 by (repeat' (first | with_reducible exact Below.refl _ _ | with_reducible assumption | with_reducible refine Below.drew ?_ | with_reducible refine below_drewN' ?_ _ | with_reducible refine Below.alloc ?_ ?_ _ | with_reducible refine Below.setCell ?_ ?_ _ | with_reducible refine below_step (by assumption) ?_ ?_ | omega | (simp; done) | (simp; omega)))); have hbx : w.heap.size ≤ w5.heap.size := by omega) | (at_builtin; refine wpList_append_own _ rfl (.tmp 30) (.tmp 32) 35 rfl w.heap.size 75 i0 _ 3 40 Tryz.underlying35 Hi.out Hz0.out Hz1.out Hz2.out rfl (by decide) _ ((xs.take k).filter (leftB l eff)).length (((xs.take k).filter (leftB l eff)).flatMap tcs) rfl (HOx.out.alloc _) ⟨w5.heap.size, 0, none⟩ 1 1 (tcs x) rfl rfl (news_at _ _ _) (by first | exact tcs_one _ | exact ocs_one _) hc3 hc4 (le_alloc hbx _) ?_; intro v1 w1 hown1 hgrow1 _; rw [Hrow.out, Hlen.out] at hown1; have hB1 := own_below (HOx.out.alloc _) (HBx.out.alloc hbx _) (le_alloc hbx _) hgrow1; have HO1 := Lib.hid hown1; clear hown1 hgrow1))
            go_roundw
            case rel => exact ⟨k + 1, by omega, by go_num, HO1.out, hB1⟩
            case measure => simp [intOf]; omega
        · have Hs := Lib.hid (filt_no Hx.out (P := leftB l eff) (show leftB l eff x = false by unfold leftB; rw [hv]; simp))
          have Hv := Lib.hid hv
          clear hv
          by_cases h0 : eff = 0
          all_goals
            first | (have k1 : (eff == 0) = true := by rw [h0]; rfl) | (have k1 : (eff == 0) = false := by simpa using h0)
            first | (have k2 : (x.eff == eff) = true := by rcases he with h | h <;> first | exact absurd h h0 | (rw [h]; simp)) | skip
            clear h0 he
            go_wp2_with (go_at_call 112; (with_reducible refine (borne_any a ka l x _ (HDr.out.mono (by (repeat' (first | with_reducible exact Below.refl _ _ | with_reducible assumption | with_reducible refine Below.drew ?_ | with_reducible refine below_drewN' ?_ _ | with_reducible refine Below.alloc ?_ ?_ _ | with_reducible refine Below.setCell ?_ ?_ _ | with_reducible refine below_step (by assumption) ?_ ?_ | omega | (simp; done) | (simp; omega))))) hn).mono ?_); rintro e w5 ⟨rfl, hb5⟩; rw [Hv.out]; obtain ⟨hc5, hf5⟩ := bcell hb5; have hz5 := hb5.size; (try simp at hz5); have HOx := Lib.hid (own_kept (Hown.out.alloc _) hb5))
            go_roundw
            case rel => exact ⟨k + 1, by omega, by go_num, by rw [Hs.out]; exact HOx.out, by (repeat' (first | with_reducible exact Below.refl _ _ | with_reducible assumption | with_reducible refine Below.drew ?_ | with_reducible refine below_drewN' ?_ _ | with_reducible refine Below.alloc ?_ ?_ _ | with_reducible refine Below.setCell ?_ ?_ _ | with_reducible refine below_step (by assumption) ?_ ?_ | omega | (simp; done) | (simp; omega)))⟩
            case measure => simp [intOf]; omega
      · have Hs := Lib.hid (filt_no Hx.out (P := leftB l eff) (show leftB l eff x = false by unfold leftB; rw [decide_eq_false (fun h => he (.inl h)), decide_eq_false (fun h => he (.inr h))]; rfl))
        have k1 : (eff == 0) = false := by simpa using fun h => he (.inl h)
        have k2 : (x.eff == eff) = false := by simpa using fun h => he (.inr h)
        clear he
        go_wp2
        go_roundw
        case rel => exact ⟨k + 1, by omega, by go_num, by rw [Hs.out]; exact Hown.out.alloc _, by (repeat' (first | with_reducible exact Below.refl _ _ | with_reducible assumption | with_reducible refine Below.drew ?_ | with_reducible refine below_drewN' ?_ _ | with_reducible refine Below.alloc ?_ ?_ _ | with_reducible refine Below.setCell ?_ ?_ _ | with_reducible refine below_step (by assumption) ?_ ?_ | omega | (simp; done) | (simp; omega)))⟩
        case measure => simp [intOf]; omega
    · obtain rfl : k = n := by omega
      have HP := Lib.hid (show ∀ v, wr.ownsRow w.heap.size 75 3 v ((xs.take k).filter (leftB l eff)).length (((xs.take k).filter (leftB l eff)).flatMap tcs) → Gives w (OwnL tcs 3 w.heap.size 75 (unborneL l xs eff)) (.returned v) wr from fun v h => Gives.ownL (filt_all _ Hln.out).symm h HB.out)
      go_wp2
      refine bodyPost_ret (by simp [results, Tryz.results94, go_sem]) rfl (HP.out _ Hown.out)
def sameB (xs ys : List Tnt) : Bool := decide (xs = ys)
theorem sameB_len {xs ys : List Tnt} (h : xs.length ≠ ys.length) : sameB xs ys = false := decide_eq_false fun e => h (congrArg _ e)
theorem sameB_at {xs ys : List Tnt} {k : Nat} {x y : Tnt} (hx : xs[k]? = some x) (hy : ys[k]? = some y) (h : tntB x y = false) : sameB xs ys = false := by
  refine decide_eq_false fun e => ?_
  subst e
  rw [hx] at hy
  cases hy
  simp [tntB] at h
theorem sameB_all {xs ys : List Tnt} {n : Nat} (hx : xs.length = n) (hy : ys.length = n) (h : xs.take n = ys.take n) : sameB xs ys = true := by
  refine decide_eq_true ?_
  rw [List.take_of_length_le (by omega), List.take_of_length_le (by omega)] at h
  exact h
theorem take_eq {xs ys : List Tnt} {k : Nat} {x y : Tnt} (hx : xs[k]? = some x) (hy : ys[k]? = some y) (h : tntB x y = true) (ht : xs.take k = ys.take k) : xs.take (k + 1) = ys.take (k + 1) := by
  rw [take_at hx, take_at hy, ht, of_decide_eq_true h]

theorem tnt_at {w : World} {b off i : Nat} {x : Tnt} (h : ∀ r, r < 3 → w.cell? ⟨b, off + i * 3 + r, none⟩ = (tcs x)[r]?) :
    w.cell? ⟨b, off + i * 3, none⟩ = some (.string x.key) ∧ w.cell? ⟨b, off + i * 3 + 1, none⟩ = some (.string x.val) ∧ w.cell? ⟨b, off + i * 3 + 2, none⟩ = some (.int .i64 x.eff) := tnt_cells h

/-- What the round over tolerations has by k. -/
def skipB (l : List Tol) (eff : Int) (x : Tnt) (k : Nat) : Bool := (!(decide (eff = 0) || decide (x.eff = eff))) || borneB (l.take k) x
theorem skipB_all {l : List Tol} {eff : Int} {x : Tnt} {m : Nat} (h : l.length = m) : (!skipB l eff x m) = leftB l eff x := by
  unfold skipB leftB
  rw [← h, List.take_length]
  cases decide (eff = 0) <;> cases decide (x.eff = eff) <;> cases borneB l x <;> rfl
theorem skipB_zero (l : List Tol) (eff : Int) (x : Tnt) : skipB l eff x 0 = !(decide (eff = 0) || decide (x.eff = eff)) := by
  unfold skipB
  simp [borneB]
theorem skipB_succ {l : List Tol} {eff : Int} {x : Tnt} {k : Nat} {t : Tol} (h : l[k]? = some t) : skipB l eff x (k + 1) = (skipB l eff x k || bearsB t x) := by
  unfold skipB
  rw [borneB_take h, Bool.or_assoc]

set_option maxRecDepth 100000 in
set_option maxHeartbeats 4000000 in
theorem refunborne_any (a c : Option Addr) (ka kc : Nat) (l : List Tol) (xs : List Tnt) (eff : Int) (w : World) (hD : TolsAt w a l) (hn : l.length ≤ 1000000) (hF : TntsAt w c xs) (hm : xs.length ≤ 1000000) :
    Calls Tryz.prog 104 #[.slice a l.length ka, .slice c xs.length kc, .int .i64 eff] w (Gives w (OwnL tcs 3 w.heap.size 75 (unborneL l xs eff))) := by
  have HD := Lib.hid hD
  have HF := Lib.hid hF
  clear hD hF
  obtain ⟨i0, hi, hz0, hz1, hz2⟩ := info_parts Tryz.info75
  have Hi := Lib.hid hi
  have Hz0 := Lib.hid hz0
  have Hz1 := Lib.hid hz1
  have Hz2 := Lib.hid hz2
  clear hi hz0 hz1 hz2
  obtain ⟨n, hln⟩ : ∃ n, xs.length = n := ⟨_, rfl⟩
  rw [hln] at hm ⊢
  have Hln := Lib.hid hln
  clear hln
  obtain ⟨m, hlm⟩ : ∃ m, l.length = m := ⟨_, rfl⟩
  rw [hlm] at hn ⊢
  have Hlm := Lib.hid hlm
  clear hlm
  go_enter Tryz.func104, Tryz.ntmps104
  go_wp2
  go_loopw [7, 8] (fun v i wr => ∃ k : Nat, k ≤ n ∧ i = .int .i64 k ∧ wr.ownsRow w.heap.size 75 3 v ((xs.take k).filter (leftB l eff)).length (((xs.take k).filter (leftB l eff)).flatMap tcs) ∧ Below w.heap.size w wr) (fun _ i _ => n - (intOf i).toNat)
  case atStart => exact ⟨0, by omega, rfl, World.ownsRow_nil _ _ _ _, by (repeat' (first | with_reducible exact Below.refl _ _ | with_reducible assumption | with_reducible refine Below.drew ?_ | with_reducible refine below_drewN' ?_ _ | with_reducible refine Below.alloc ?_ ?_ _ | with_reducible refine Below.setCell ?_ ?_ _ | with_reducible refine below_step (by assumption) ?_ ?_ | omega | (simp; done) | (simp; omega)))⟩
  case round =>
    obtain ⟨k, hk, rfl, hown, hB⟩ := hrel
    obtain ⟨hcB, hfB⟩ := bcell hB
    have hbz := hB.size
    have Hown := Lib.hid hown
    have HB := Lib.hid hB
    clear hown
    by_cases hlt : k < n
    · skip
      obtain ⟨x, hx⟩ := mem_at (l := xs) (k := k) (by rw [Hln.out]; exact hlt)
      have Hx := Lib.hid hx
      obtain ⟨b, off, rfl, hb, hc⟩ := HF.out (by rw [Hln.out]; omega)
      have hbw : b < wr.heap.size := by omega
      obtain ⟨c0, c1, c2⟩ := tnt_at (hc k x hx)
      clear hc hx
      have HDr := Lib.hid (HD.out.mono hB)
      have hz0 := skipB_zero l eff x
      have h3 : (((eff != 0) = false) ∧ skipB l eff x 0 = false) ∨ ((eff != 0) = true ∧ (x.eff != eff) = false ∧ skipB l eff x 0 = false) ∨ ((eff != 0) = true ∧ (x.eff != eff) = true ∧ skipB l eff x 0 = true) := by
        rw [hz0]
        by_cases h1 : eff = 0 <;> by_cases h2 : x.eff = eff <;> simp [h1, h2]
      clear hz0
      obtain ⟨w7, hw7⟩ : ∃ w7, w7 = wr := ⟨_, rfl⟩
      subst hw7
      rcases h3 with ⟨k1, hz⟩ | ⟨k1, k2, hz⟩ | ⟨k1, k2, hz⟩
      all_goals
        have Hz := Lib.hid hz
        clear hz
        go_wp2
        go_loopw [9, 10] (fun v i wy => ∃ j : Nat, j ≤ m ∧ i = .int .i64 j ∧ v = .bool (skipB l eff x j) ∧ Below w7.heap.size w7 wy) (fun _ i _ => m - (intOf i).toNat)
        case atStart => exact ⟨0, by omega, rfl, by rw [Hz.out], by (repeat' (first | with_reducible exact Below.refl _ _ | with_reducible assumption | with_reducible refine Below.drew ?_ | with_reducible refine below_drewN' ?_ _ | with_reducible refine Below.alloc ?_ ?_ _ | with_reducible refine Below.setCell ?_ ?_ _ | with_reducible refine below_step (by assumption) ?_ ?_ | omega | (simp; done) | (simp; omega)))⟩
        case round =>
          obtain ⟨j, hj, rfl, rfl, hC⟩ := hrel
          obtain ⟨hcC, hfC⟩ := bcell hC
          have hzC := hC.size
          have hbx : b < wr.heap.size := by omega
          by_cases hlj : j < m
          · obtain ⟨t, ht⟩ := mem_at (l := l) (k := j) (by rw [Hlm.out]; exact hlj)
            obtain ⟨b4, off4, rfl, hb4, hc4⟩ := HDr.out (by rw [Hlm.out]; omega)
            have hbx4 : b4 < wr.heap.size := by omega
            obtain ⟨t0, t1, t2, t3⟩ := tol_cells (hc4 j t ht)
            have Hsc := Lib.hid (skipB_succ (eff := eff) (x := x) ht)
            clear hc4 ht
            cases hsk : skipB l eff x j
            · cases hbv : bearsB t x
              all_goals
                have Hn := Lib.hid (Hsc.out.trans (by rw [hsk, hbv]))
                have Hbv := Lib.hid hbv
                clear hbv hsk
                go_wp2
                have hcH := held_cell
                refine region_rel (by kernel_rfl) (by kernel_rfl) ?_
                repeat
                  ((with_reducible refine relStep (fun K hK => ?_))
                   (have HK := Lib.hid hK)
                   clear hK
                   (first
                     | (apply relInl
                        · intro r n hf
                          have Hf := Lib.hid hf
                          clear hf
                          unfold relAt
                          go_simp
                          (first | (refine relUpon_val ?_ (Below.refl _ _); exact rfl) | exact rfl | (refine relUpon_enter ?_; (go_at_call 118; (with_reducible refine (refbears_any t x _).mono ?_); rintro e w1 ⟨rfl, hb⟩; rw [Hbv.out]; exact ⟨⟨_, rfl, rfl⟩, hb⟩)))
                        (simp only [Act.put, List.setIfInBounds_toArray, List.set_cons_zero, List.set_cons_succ])
                        (with_reducible refine HK.out _ _ ?_)
                        clear HK K)
                     | (fail)))
                refine relNil ?_
                intro r5 n5 hx5
                clear hcH
                (try simp only [List.nil_append, List.cons_append, List.mem_cons, List.not_mem_nil, or_false, forall_eq_or_imp, forall_eq, false_implies, implies_true] at hx5)
                obtain ⟨w5, hb5⟩ := n5
                (try dsimp only)
                obtain ⟨hc5, hf5⟩ := bcell hb5
                have hz5 := hb5.size
                (try simp at hz5)
                go_wp2
                go_roundw
                case rel => exact ⟨j + 1, by omega, by go_num, by rw [Hn.out]; rfl, by (repeat' (first | with_reducible exact Below.refl _ _ | with_reducible assumption | with_reducible refine Below.drew ?_ | with_reducible refine below_drewN' ?_ _ | with_reducible refine Below.alloc ?_ ?_ _ | with_reducible refine Below.setCell ?_ ?_ _ | with_reducible refine below_step (by assumption) ?_ ?_ | omega | (simp; done) | (simp; omega)))⟩
                case measure => simp [intOf]; omega
            · have Hn := Lib.hid (Hsc.out.trans (by rw [hsk, Bool.true_or]))
              clear hsk
              go_wp2
              have hcH := held_cell
              refine region_rel (by kernel_rfl) (by kernel_rfl) ?_
              repeat
                ((with_reducible refine relStep (fun K hK => ?_))
                 (have HK := Lib.hid hK)
                 clear hK
                 (first
                   | (apply relInl
                      · intro r n hf
                        have Hf := Lib.hid hf
                        clear hf
                        unfold relAt
                        go_simp
                        (first | (refine relUpon_val ?_ (Below.refl _ _); exact rfl) | exact rfl | (refine relUpon_enter ?_; fail))
                      (simp only [Act.put, List.setIfInBounds_toArray, List.set_cons_zero, List.set_cons_succ])
                      (with_reducible refine HK.out _ _ ?_)
                      clear HK K)
                   | (fail)))
              refine relNil ?_
              intro r5 n5 hx5
              clear hcH
              (try simp only [List.nil_append, List.cons_append, List.mem_cons, List.not_mem_nil, or_false, forall_eq_or_imp, forall_eq, false_implies, implies_true] at hx5)
              obtain ⟨w5, hb5⟩ := n5
              (try dsimp only)
              obtain ⟨hc5, hf5⟩ := bcell hb5
              have hz5 := hb5.size
              (try simp at hz5)
              go_wp2
              go_roundw
              case rel => exact ⟨j + 1, by omega, by go_num, by rw [Hn.out], by (repeat' (first | with_reducible exact Below.refl _ _ | with_reducible assumption | with_reducible refine Below.drew ?_ | with_reducible refine below_drewN' ?_ _ | with_reducible refine Below.alloc ?_ ?_ _ | with_reducible refine Below.setCell ?_ ?_ _ | with_reducible refine below_step (by assumption) ?_ ?_ | omega | (simp; done) | (simp; omega)))⟩
              case measure => simp [intOf]; omega
          · obtain rfl : j = m := by omega
            have hsk := skipB_all (eff := eff) (x := x) Hlm.out
            have HOx := Lib.hid (own_kept Hown.out hC)
            have HBx := Lib.hid (show Below w.heap.size w wr by (repeat' (first | with_reducible exact Below.refl _ _ | with_reducible assumption | with_reducible refine Below.drew ?_ | with_reducible refine below_drewN' ?_ _ | with_reducible refine Below.alloc ?_ ?_ _ | with_reducible refine Below.setCell ?_ ?_ _ | with_reducible refine below_step (by assumption) ?_ ?_ | omega | (simp; done) | (simp; omega))))
            have hbx : w.heap.size ≤ wr.heap.size := by omega
            cases hv : leftB l eff x
            · have hs9 : skipB l eff x j = true := by rw [hv] at hsk; simpa using hsk
              have Hs := Lib.hid (filt_no Hx.out (P := (leftB l eff)) (show (leftB l eff) x = false from hv))
              clear hv hsk
              rw [hs9]
              clear hs9
              go_wp2
              go_roundw
              case rel => exact ⟨k + 1, by omega, by go_num, by rw [Hs.out]; exact HOx.out, HBx.out⟩
              case measure => simp [intOf]; omega
            · have hs9 : skipB l eff x j = false := by rw [hv] at hsk; simpa using hsk
              have Hs := Lib.hid (filt_yes Hx.out (P := (leftB l eff)) (show (leftB l eff) x = true from hv))
              have hL := filt_len (leftB l eff) xs k
              have hc3 : ((xs.take k).filter (leftB l eff)).length + 1 ≤ maxLen := by unfold maxLen; omega
              have hc4 : (((xs.take k).filter (leftB l eff)).length + 1) * 40 ≤ 140737488355328 := by omega
              have Hrow := Lib.hid (show ((xs.take k).filter (leftB l eff)).flatMap tcs ++ tcs x = ((xs.take (k + 1)).filter (leftB l eff)).flatMap tcs by rw [Hs.out]; simp)
              have Hlen := Lib.hid (show ((xs.take k).filter (leftB l eff)).length + 1 = ((xs.take (k + 1)).filter (leftB l eff)).length by rw [Hs.out]; simp)
              clear hL
              clear hv hsk
              rw [hs9]
              clear hs9
              go_wp2_with (at_builtin; refine wpList_append_own _ rfl (.tmp 48) (.tmp 53) 35 rfl w.heap.size 75 i0 _ 3 40 Tryz.underlying35 Hi.out Hz0.out Hz1.out Hz2.out rfl (by decide) _ ((xs.take k).filter (leftB l eff)).length (((xs.take k).filter (leftB l eff)).flatMap tcs) rfl (HOx.out.alloc _) ⟨wr.heap.size, 0, none⟩ 1 1 (tcs x) rfl rfl (news_at _ _ _) (by first | exact tcs_one _ | exact ocs_one _) hc3 hc4 (le_alloc hbx _) ?_; intro v1 w1 hown1 hgrow1 _; rw [Hrow.out, Hlen.out] at hown1; have hB1 := own_below (HOx.out.alloc _) (HBx.out.alloc hbx _) (le_alloc hbx _) hgrow1; have HO1 := Lib.hid hown1; clear hown1 hgrow1)
              go_roundw
              case rel => exact ⟨k + 1, by omega, by go_num, HO1.out, hB1⟩
              case measure => simp [intOf]; omega
    · skip
      obtain rfl : k = n := by omega
      have HP := Lib.hid (show ∀ v, wr.ownsRow w.heap.size 75 3 v ((xs.take k).filter (leftB l eff)).length (((xs.take k).filter (leftB l eff)).flatMap tcs) → Gives w (OwnL tcs 3 w.heap.size 75 (unborneL l xs eff)) (.returned v) wr from fun v h => Gives.ownL (filt_all _ Hln.out).symm h HB.out)
      go_wp2
      refine bodyPost_ret (by simp [results, Tryz.results104, go_sem]) rfl (HP.out _ Hown.out)
def allowsB (l : List Tol) (xs : List Tnt) : Bool := decide ((unborneL l xs 1).length = 0) && decide ((unborneL l xs 3).length = 0)
set_option maxRecDepth 100000 in
set_option maxHeartbeats 4000000 in
theorem allows_any (a c : Option Addr) (ka kc : Nat) (l : List Tol) (xs : List Tnt) (w : World) (hD : TolsAt w a l) (hn : l.length ≤ 1000000) (hF : TntsAt w c xs) (hm : xs.length ≤ 1000000) :
    Calls Tryz.prog 65 #[.slice a l.length ka, .slice c xs.length kc] w fun e w' => e = .returned (.bool (allowsB l xs)) ∧ Below w.heap.size w w' := by
  unfold allowsB
  obtain ⟨n1, h1⟩ : ∃ n, (unborneL l xs 1).length = n := ⟨_, rfl⟩
  obtain ⟨n3, h3⟩ : ∃ n, (unborneL l xs 3).length = n := ⟨_, rfl⟩
  rw [h1, h3]
  have H1 := Lib.hid h1
  have H3 := Lib.hid h3
  clear h1 h3
  by_cases e1 : n1 = 0
  · by_cases e3 : n3 = 0
    all_goals
      first | subst e1 | skip
      first | subst e3 | skip
      first | (have k3 : (((n3 : Nat) : Int) == 0) = false := by simpa using e3) | skip
      go_enter Tryz.func65, Tryz.ntmps65
      go_wp2_with (first | (go_at_call 94; (with_reducible refine (unborne_any a c ka kc l xs 1 _ hD hn hF hm).mono ?_); rintro e w5 ⟨⟨v, rfl, hv⟩, hb5⟩; obtain ⟨q, kq, rfl, _, _⟩ := hv.isL tcs_len (by decide); rw [H1.out]; clear hv; have hz5 := hb5.size) | (go_at_call 94; (with_reducible refine (unborne_any a c ka kc l xs 3 _ (hD.mono (by (repeat' (first | with_reducible exact Below.refl _ _ | with_reducible assumption | with_reducible refine Below.drew ?_ | with_reducible refine below_drewN' ?_ _ | with_reducible refine Below.alloc ?_ ?_ _ | with_reducible refine Below.setCell ?_ ?_ _ | with_reducible refine below_step (by assumption) ?_ ?_ | omega | (simp; done) | (simp; omega))))) hn (hF.mono (by (repeat' (first | with_reducible exact Below.refl _ _ | with_reducible assumption | with_reducible refine Below.drew ?_ | with_reducible refine below_drewN' ?_ _ | with_reducible refine Below.alloc ?_ ?_ _ | with_reducible refine Below.setCell ?_ ?_ _ | with_reducible refine below_step (by assumption) ?_ ?_ | omega | (simp; done) | (simp; omega))))) hm).mono ?_); rintro e w6 ⟨⟨v, rfl, hv⟩, hb6⟩; obtain ⟨q, kq, rfl, _, _⟩ := hv.isL tcs_len (by decide); rw [H3.out]; clear hv))
      go_ret
      exact ⟨by simp [*], by (repeat' (first | with_reducible exact Below.refl _ _ | with_reducible assumption | with_reducible refine Below.drew ?_ | with_reducible refine below_drewN' ?_ _ | with_reducible refine Below.alloc ?_ ?_ _ | with_reducible refine Below.setCell ?_ ?_ _ | with_reducible refine below_step (by assumption) ?_ ?_ | omega | (simp; done) | (simp; omega)))⟩
  · have k1 : (((n1 : Nat) : Int) == 0) = false := by simpa using e1
    go_enter Tryz.func65, Tryz.ntmps65
    go_wp2_with (go_at_call 94; (with_reducible refine (unborne_any a c ka kc l xs 1 _ hD hn hF hm).mono ?_); rintro e w5 ⟨⟨v, rfl, hv⟩, hb5⟩; obtain ⟨q, kq, rfl, _, _⟩ := hv.isL tcs_len (by decide); rw [H1.out]; clear hv)
    go_ret
    exact ⟨by simp [e1], by (repeat' (first | with_reducible exact Below.refl _ _ | with_reducible assumption | with_reducible refine Below.drew ?_ | with_reducible refine below_drewN' ?_ _ | with_reducible refine Below.alloc ?_ ?_ _ | with_reducible refine Below.setCell ?_ ?_ _ | with_reducible refine below_step (by assumption) ?_ ?_ | omega | (simp; done) | (simp; omega)))⟩

def hardB (x : Tnt) : Bool := decide (x.eff = 1) || decide (x.eff = 3)
theorem allows_hard (l : List Tol) (xs : List Tnt) : allowsB l xs = !(unborneL l xs 0).any hardB := by
  unfold allowsB unborneL
  have h : ∀ e : Int, e ≠ 0 → (decide ((xs.filter (leftB l e)).length = 0) = true ↔ ∀ x ∈ xs, x.eff = e → borneB l x = true) := by
    intro e he
    rw [decide_eq_true_eq, List.length_eq_zero_iff, List.filter_eq_nil_iff]
    refine ⟨fun h x hx hxe => ?_, fun h x hx hl => ?_⟩
    · have := h x hx
      unfold leftB at this
      cases hb : borneB l x
      · simp [hb, hxe] at this
      · rfl
    · unfold leftB at hl
      simp [he] at hl
      rw [h x hx hl.1] at hl
      simp at hl
  have h1 := h 1 (by decide)
  have h3 := h 3 (by decide)
  rw [Bool.eq_iff_iff, Bool.and_eq_true, h1, h3]
  simp only [Bool.not_eq_true', List.any_eq_false, List.mem_filter]
  refine ⟨fun ⟨a, b⟩ x ⟨hx, hl⟩ hh => ?_, fun g => ⟨fun x hx hxe => ?_, fun x hx hxe => ?_⟩⟩
  · unfold leftB at hl
    unfold hardB at hh
    simp at hl hh
    rcases hh with hh | hh
    · rw [a x hx hh] at hl; cases hl
    · rw [b x hx hh] at hl; cases hl
  · cases hb : borneB l x
    · exact absurd (show hardB x = true by simp [hardB, hxe]) (g x ⟨hx, by simp [leftB, hb]⟩)
    · rfl
  · cases hb : borneB l x
    · exact absurd (show hardB x = true by simp [hardB, hxe]) (g x ⟨hx, by simp [leftB, hb]⟩)
    · rfl
theorem hard_cases (x : Tnt) : ((x.eff == 1) = true ∧ hardB x = true) ∨ ((x.eff == 1) = false ∧ (x.eff == 3) = true ∧ hardB x = true) ∨ ((x.eff == 1) = false ∧ (x.eff == 3) = false ∧ hardB x = false) := by
  unfold hardB
  by_cases h1 : x.eff = 1 <;> by_cases h3 : x.eff = 3 <;> simp [h1, h3]

set_option maxRecDepth 100000 in
set_option maxHeartbeats 4000000 in
theorem refallows_any (a c : Option Addr) (ka kc : Nat) (l : List Tol) (xs : List Tnt) (w : World) (hD : TolsAt w a l) (hn : l.length ≤ 1000000) (hF : TntsAt w c xs) (hm : xs.length ≤ 1000000) :
    Calls Tryz.prog 78 #[.slice a l.length ka, .slice c xs.length kc] w fun e w' => e = .returned (.bool (allowsB l xs)) ∧ Below w.heap.size w w' := by
  have HA := Lib.hid (allows_hard l xs)
  obtain ⟨us, hu⟩ : ∃ us, unborneL l xs 0 = us := ⟨_, rfl⟩
  have hul : us.length ≤ 1000000 := by rw [← hu]; exact Nat.le_trans (List.length_filter_le _ _) hm
  have HU := Lib.hid hu
  clear hu
  obtain ⟨n, hln⟩ : ∃ n, us.length = n := ⟨_, rfl⟩
  rw [hln] at hul
  have Hln := Lib.hid hln
  clear hln
  go_enter Tryz.func78, Tryz.ntmps78
  go_wp2_with (go_at_call 104; (with_reducible refine (refunborne_any a c ka kc l xs 0 _ hD hn hF hm).mono ?_); rintro e w5 ⟨⟨v, rfl, hv⟩, hb5⟩; rw [HU.out] at hv; obtain ⟨q, kq, rfl, _, hr⟩ := hv.isL tcs_len (by decide); rw [Hln.out]; have HR := Lib.hid hr; clear hv hr)
  have hz5 := hb5.size
  go_loopw [6] (fun i wr => ∃ k : Nat, k ≤ n ∧ i = .int .i64 k ∧ (us.take k).any hardB = false ∧ Below w5.heap.size w5 wr) (fun i _ => n - (intOf i).toNat)
  case atStart => exact ⟨0, by omega, rfl, rfl, by (repeat' (first | with_reducible exact Below.refl _ _ | with_reducible assumption | with_reducible refine Below.drew ?_ | with_reducible refine below_drewN' ?_ _ | with_reducible refine Below.alloc ?_ ?_ _ | with_reducible refine Below.setCell ?_ ?_ _ | with_reducible refine below_step (by assumption) ?_ ?_ | omega | (simp; done) | (simp; omega)))⟩
  case round =>
    obtain ⟨k, hk, rfl, hE, hB⟩ := hrel
    obtain ⟨hcB, hfB⟩ := bcell hB
    have hbz := hB.size
    have HE := Lib.hid hE
    clear hE
    have HBB := Lib.hid (show Below w.heap.size w wr from hb5.trans (hB.mono hz5))
    by_cases hlt : k < n
    · obtain ⟨x, hx⟩ := mem_at (l := us) (k := k) (by rw [Hln.out]; exact hlt)
      obtain ⟨b, off, rfl, hb, hc⟩ := HR.out (by rw [Hln.out]; omega)
      have hbw : b < wr.heap.size := by omega
      obtain ⟨c0, c1, c2⟩ := tnt_cells (hc k x hx)
      have Hx := Lib.hid hx
      clear hc hx
      rcases hard_cases x with ⟨k1, hv⟩ | ⟨k1, k2, hv⟩ | ⟨k1, k2, hv⟩
      · have Hs := Lib.hid (show allowsB l xs = false by rw [HA.out, HU.out, Bool.not_eq_false', List.any_eq_true]; exact ⟨x, List.mem_of_getElem? Hx.out, hv⟩)
        clear hv
        go_wp2
        go_ret
        exact ⟨by rw [Hs.out]; rfl, HBB.out⟩
      · have Hs := Lib.hid (show allowsB l xs = false by rw [HA.out, HU.out, Bool.not_eq_false', List.any_eq_true]; exact ⟨x, List.mem_of_getElem? Hx.out, hv⟩)
        clear hv
        go_wp2
        go_ret
        exact ⟨by rw [Hs.out]; rfl, HBB.out⟩
      · have Hs := Lib.hid (show (us.take (k + 1)).any hardB = false by rw [take_at Hx.out, List.any_append, HE.out]; simp [hv])
        clear hv
        go_wp2
        go_roundw
        case rel => exact ⟨k + 1, by omega, by go_num, Hs.out, by (repeat' (first | with_reducible exact Below.refl _ _ | with_reducible assumption | with_reducible refine Below.drew ?_ | with_reducible refine below_drewN' ?_ _ | with_reducible refine Below.alloc ?_ ?_ _ | with_reducible refine Below.setCell ?_ ?_ _ | with_reducible refine below_step (by assumption) ?_ ?_ | omega | (simp; done) | (simp; omega)))⟩
        case measure => simp [intOf]; omega
    · obtain rfl : k = n := by omega
      have Hs := Lib.hid (show allowsB l xs = true by rw [HA.out, HU.out, ← List.take_of_length_le (Nat.le_of_eq Hln.out), HE.out]; rfl)
      go_wp2
      go_ret
      exact ⟨by rw [Hs.out]; rfl, HBB.out⟩
end Tn
end Go.Proofs.YthbpnfpalcgfeaaGreat
