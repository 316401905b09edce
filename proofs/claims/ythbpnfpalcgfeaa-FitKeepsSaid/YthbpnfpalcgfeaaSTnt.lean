/-
  Taints: bears, borne, Unborne, Prefers, Allows.
-/
import Derived.Test.YthbpnfpalcgfeaaMA
import Derived.Test.YthbpnfpalcgfeaaMD
import Derived.Test.YthbpnfpalcgfeaaND
import Derived.Laws.StructEq
namespace Go.Proofs.Ythbpnfpalcgfeaa
namespace Tn
open Go.RowKit
set_option linter.unusedVariables false
set_option linter.unusedSimpArgs false

theorem toList_inj (a b : ByteArray) : a.toList = b.toList ↔ a = b := by
  rw [ByteArray.toList_eq, ByteArray.toList_eq]
  exact ⟨fun h => ByteArray.ext (Array.toList_inj.mp h), fun h => by rw [h]⟩
theorem strB_list (a b : ByteArray) : (a.toList == b.toList) = strB a b := by
  unfold strB
  by_cases h : a = b
  · subst h; simp
  · rw [decide_eq_false h, beq_eq_false_iff_ne]; exact fun e => h ((toList_inj _ _).1 e)

theorem guard_taint (op : BinOp) (x y : Operand) (xs ys : Array Value) (w : World) : (eqGuard op 103 x y (.agg xs) (.agg ys)).run Try.prog w = .ok () w := run_eqGuard_agg w op _ x y xs ys (by kernel_rfl)
theorem eql_taint0 (x y : Tnt) (w : World) : (Op.equalIn 10000 103 (.agg #[.string x.key, .string x.val, .int .i64 x.eff]) (.agg #[.string y.key, .string y.val, .int .i64 y.eff])).run Try.prog w = .ok (tntB x y) w := by
  have hus := Try.underlying9
  have has := Try.isAgg9
  have hzs := Try.sizeOf9
  have hui := Try.underlying3
  have hai := Try.isAgg3
  have hzi := Try.sizeOf3
  have hS : Try.prog.underlying 103 = some (.struct (Try.prog.fieldsOf 103)) := by kernel_rfl
  have hp : Try.prog.stoodInHeld 103 = false := by kernel_rfl
  rw [show (10000 : Nat) = 9999 + 1 from rfl, run_equalIn_agg w 9999 103 _ _ hS hp]
  simp only [Program.fieldsOf, Try.underlying103]
  go_simp
  obtain ⟨x1, x2, x3⟩ := x
  obtain ⟨y1, y2, y3⟩ := y
  unfold tntB
  by_cases h1 : x1 = y1 <;> by_cases h2 : x2 = y2 <;> by_cases h3 : x3 = y3 <;> simp [h1, h2, h3, toList_inj]
theorem eql_taint (x y : Tnt) (w : World) : (binOp .eql 103 (.agg #[.string x.key, .string x.val, .int .i64 x.eff]) (.agg #[.string y.key, .string y.val, .int .i64 y.eff])).run Try.prog w = .ok (.bool (tntB x y)) w := by
  rw [run_eql_struct, eql_taint0]; rfl
theorem neq_taint (x y : Tnt) (w : World) : (binOp .neq 103 (.agg #[.string x.key, .string x.val, .int .i64 x.eff]) (.agg #[.string y.key, .string y.val, .int .i64 y.eff])).run Try.prog w = .ok (.bool (!tntB x y)) w := by
  rw [run_neq_struct, eql_taint0]; rfl

def bearsB (t : Tol) (x : Tnt) : Bool := decide ((t.eff = 0 ∨ t.eff = x.eff) ∧ (t.key = emp ∨ t.key = x.key) ∧ (t.any = true ∨ t.val = x.val))

theorem emp_no {s : ByteArray} (h : ¬ s = emp) : ((s.toList = []) = False) ∧ (!s.toList.isEmpty) = true ∧ s.toList.isEmpty = false := by
  have h' : s.toList ≠ [] := fun e => h ((toList_inj _ _).1 (e.trans emp_list.symm))
  refine ⟨eq_iff_iff.2 ⟨h', False.elim⟩, ?_, ?_⟩ <;> cases hx : s.toList <;> first | exact absurd hx h' | rfl

theorem bears_like (t : Tol) (x : Tnt) : tntB ⟨if t.key = emp then x.key else t.key, if t.any = true then x.val else t.val, if t.eff = 0 then x.eff else t.eff⟩ x = bearsB t x := by
  obtain ⟨k, v, a, e⟩ := t
  obtain ⟨k', v', e'⟩ := x
  unfold tntB bearsB
  by_cases h1 : k = emp <;> by_cases h2 : a = true <;> by_cases h3 : e = 0 <;> simp [h1, h2, h3, eq_comm, and_comm, and_left_comm, Bool.and_assoc]

set_option maxRecDepth 100000 in
set_option maxHeartbeats 1000000 in
theorem bears_any (t : Tol) (x : Tnt) (w : World) :
    Calls Try.prog 137 #[.agg #[.string t.key, .string t.val, .bool t.any, .int .i64 t.eff], .agg #[.string x.key, .string x.val, .int .i64 x.eff]] w fun e w' => e = .returned (.bool (bearsB t x)) ∧ Below w.heap.size w w' := by
  have hq := fun w => eql_taint ⟨if t.key = emp then x.key else t.key, if t.any = true then x.val else t.val, if t.eff = 0 then x.eff else t.eff⟩ x w
  simp only [bears_like] at hq
  have hg := guard_taint
  obtain ⟨tk, tv, ta, te⟩ := t
  obtain ⟨xk, xv, xe⟩ := x
  simp only at hq
  obtain ⟨r, hr⟩ : ∃ r, bearsB ⟨tk, tv, ta, te⟩ ⟨xk, xv, xe⟩ = r := ⟨_, rfl⟩
  rw [hr]
  simp only [hr] at hq
  clear hr
  by_cases h1 : tk = emp <;> by_cases h3 : te = 0 <;> cases ta
  all_goals
    first | (have hh := emp_yes h1; simp only [if_pos h1] at hq; obtain ⟨h2, h4, h6⟩ := hh) | (have hh := emp_no h1; simp only [if_neg h1] at hq; obtain ⟨h2, h4, h6⟩ := hh)
    first | (simp only [if_pos h3] at hq; have h5 : (te == 0) = true := (by simp [h3])) | (simp only [if_neg h3] at hq; have h5 : (te == 0) = false := (by simp [h3]))
    simp only [if_true, Bool.false_eq_true, if_false] at hq
    clear h1 h3
    go_enter Try.func137, Try.ntmps137
    go_wp2
    go_ret
    exact ⟨rfl, by (repeat' (first | with_reducible exact Below.refl _ _ | with_reducible assumption | with_reducible refine Below.drew ?_ | with_reducible refine below_drewN' ?_ _ | with_reducible refine Below.alloc ?_ ?_ _ | with_reducible refine Below.setCell ?_ ?_ _ | with_reducible refine below_step (by assumption) ?_ ?_ | omega | (simp; done) | (simp; omega)))⟩
/-- Some toleration bears it. -/
def borneB (l : List Tol) (x : Tnt) : Bool := l.any fun t => bearsB t x
theorem borneB_take {l : List Tol} {k : Nat} {t : Tol} {x : Tnt} (h : l[k]? = some t) : borneB (l.take (k + 1)) x = (borneB (l.take k) x || bearsB t x) := by
  unfold borneB
  rw [take_at h, List.any_append]
  simp
theorem borneB_yes {l : List Tol} {k : Nat} {t : Tol} {x : Tnt} (h : l[k]? = some t) (hb : bearsB t x = true) : borneB l x = true := by
  unfold borneB
  rw [List.any_eq_true]
  exact ⟨t, List.mem_of_getElem? h, hb⟩

set_option maxRecDepth 100000 in
set_option maxHeartbeats 2000000 in
theorem borne_any (a : Option Addr) (ka : Nat) (l : List Tol) (x : Tnt) (w : World) (hD : TolsAt w a l) (hn : l.length ≤ 1000000) :
    Calls Try.prog 118 #[.slice a l.length ka, .agg #[.string (x).key, .string (x).val, .int .i64 (x).eff]] w fun e w' => e = .returned (.bool (borneB l x)) ∧ Below w.heap.size w w' := by
  have HD := Lib.hid hD
  clear hD
  obtain ⟨n, hln⟩ : ∃ n, l.length = n := ⟨_, rfl⟩
  rw [hln] at hn ⊢
  have Hln := Lib.hid hln
  clear hln
  go_enter Try.func118, Try.ntmps118
  go_wp2
  go_loopw [9] (fun i wr => ∃ k : Nat, k ≤ n ∧ i = .int .i64 k ∧ borneB (l.take k) x = false ∧ Below (w.heap.size + 1) (w.alloc (.cells #[.string x.key, .string x.val, .int .i64 x.eff] 103)) wr) (fun i _ => n - (intOf i).toNat)
  case atStart => exact ⟨0, by omega, rfl, rfl, by (repeat' (first | with_reducible exact Below.refl _ _ | with_reducible assumption | with_reducible refine Below.drew ?_ | with_reducible refine below_drewN' ?_ _ | with_reducible refine Below.alloc ?_ ?_ _ | with_reducible refine Below.setCell ?_ ?_ _ | with_reducible refine below_step (by assumption) ?_ ?_ | omega | (simp; done) | (simp; omega)))⟩
  case round =>
    obtain ⟨k, hk, rfl, hE, hB⟩ := hrel
    have hB' : Below (w.alloc (.cells #[.string x.key, .string x.val, .int .i64 x.eff] 103)).heap.size (w.alloc (.cells #[.string x.key, .string x.val, .int .i64 x.eff] 103)) wr := by simpa using hB
    obtain ⟨hcB, hfB⟩ := bcell hB'
    have hzB := hB.size
    (try simp at hzB)
    have hz0 : w.heap.size < wr.heap.size := by omega
    have HE := Lib.hid hE
    have hBw : Below w.heap.size w wr := by have := hB'.mono (B' := w.heap.size) (by simp); exact ((Below.refl _ w).alloc (Nat.le_refl _) _).trans this
    clear hE
    by_cases hlt : k < n
    · obtain ⟨t, ht⟩ := mem_at (l := l) (k := k) (by rw [Hln.out]; exact hlt)
      have Ht := Lib.hid ht
      clear ht
      obtain ⟨b, off, rfl, hb, hc⟩ := HD.out (by rw [Hln.out]; omega)
      have hbw : b < wr.heap.size := by omega
      have hbw1 : b < w.heap.size + 1 := by omega
      obtain ⟨c0, c1, c2, c3⟩ := tol_cells (hc k t Ht.out)
      clear hc
      cases hv : bearsB t x
      · have Hs := Lib.hid (show borneB (l.take (k + 1)) x = false by rw [borneB_take Ht.out, HE.out, hv]; rfl)
        have Hv := Lib.hid hv
        clear hv
        go_wp2_with (go_at_call 137; (with_reducible refine (bears_any t x _).mono ?_); rintro e w5 ⟨rfl, hb5⟩; rw [Hv.out]; obtain ⟨hc5, hf5⟩ := bcell hb5; have hz5 := hb5.size; (try simp at hz5))
        go_roundw
        case rel => exact ⟨k + 1, by omega, by go_num, Hs.out, by (repeat' (first | with_reducible exact Below.refl _ _ | with_reducible assumption | with_reducible refine Below.drew ?_ | with_reducible refine below_drewN' ?_ _ | with_reducible refine Below.alloc ?_ ?_ _ | with_reducible refine Below.setCell ?_ ?_ _ | with_reducible refine below_step (by assumption) ?_ ?_ | omega | (simp; done) | (simp; omega)))⟩
        case measure => simp [intOf]; omega
      · have Hs := Lib.hid (borneB_yes Ht.out hv)
        have Hv := Lib.hid hv
        clear hv
        go_wp2_with (go_at_call 137; (with_reducible refine (bears_any t x _).mono ?_); rintro e w5 ⟨rfl, hb5⟩; rw [Hv.out]; obtain ⟨hc5, hf5⟩ := bcell hb5; have hz5 := hb5.size; (try simp at hz5))
        go_ret
        exact ⟨by rw [Hs.out]; rfl, by (repeat' (first | with_reducible exact Below.refl _ _ | with_reducible assumption | with_reducible refine Below.drew ?_ | with_reducible refine below_drewN' ?_ _ | with_reducible refine Below.alloc ?_ ?_ _ | with_reducible refine Below.setCell ?_ ?_ _ | with_reducible refine below_step (by assumption) ?_ ?_ | omega | (simp; done) | (simp; omega)))⟩
    · obtain rfl : k = n := by omega
      have Hs := Lib.hid (show borneB l x = false by rw [← HE.out, ← Hln.out, List.take_length])
      go_wp2
      go_ret
      exact ⟨by rw [Hs.out]; rfl, by (repeat' (first | with_reducible exact Below.refl _ _ | with_reducible assumption | with_reducible refine Below.drew ?_ | with_reducible refine below_drewN' ?_ _ | with_reducible refine Below.alloc ?_ ?_ _ | with_reducible refine Below.setCell ?_ ?_ _ | with_reducible refine below_step (by assumption) ?_ ?_ | omega | (simp; done) | (simp; omega)))⟩
/-- What is looked at, and not borne. -/
def leftB (l : List Tol) (eff : Int) (x : Tnt) : Bool := (decide (eff = 0) || decide (x.eff = eff)) && !borneB l x
def unborneL (l : List Tol) (xs : List Tnt) (eff : Int) : List Tnt := xs.filter (leftB l eff)
theorem filt_yes {α : Type} {P : α → Bool} {xs : List α} {k : Nat} {x : α} (h : xs[k]? = some x) (hp : P x = true) : (xs.take (k + 1)).filter P = (xs.take k).filter P ++ [x] := by
  rw [take_at h, List.filter_append]; simp [hp]
theorem filt_no {α : Type} {P : α → Bool} {xs : List α} {k : Nat} {x : α} (h : xs[k]? = some x) (hp : P x = false) : (xs.take (k + 1)).filter P = (xs.take k).filter P := by
  rw [take_at h, List.filter_append]; simp [hp]
set_option maxRecDepth 100000 in
set_option maxHeartbeats 4000000 in
theorem unborne_any (a c : Option Addr) (ka kc : Nat) (l : List Tol) (xs : List Tnt) (eff : Int) (w : World) (hD : TolsAt w a l) (hn : l.length ≤ 1000000) (hF : TntsAt w c xs) (hm : xs.length ≤ 1000000) :
    Calls Try.prog 95 #[.slice a l.length ka, .slice c xs.length kc, .int .i64 eff] w (Gives w (OwnL tcs 3 w.heap.size 103 (unborneL l xs eff))) := by
  have HD := Lib.hid hD
  have HF := Lib.hid hF
  clear hD hF
  obtain ⟨i0, hi, hz0, hz1, hz2⟩ := info_parts Try.info103
  have Hi := Lib.hid hi
  have Hz0 := Lib.hid hz0
  have Hz1 := Lib.hid hz1
  have Hz2 := Lib.hid hz2
  clear hi hz0 hz1 hz2
  obtain ⟨n, hln⟩ : ∃ n, xs.length = n := ⟨_, rfl⟩
  rw [hln] at hm ⊢
  have Hln := Lib.hid hln
  clear hln
  go_enter Try.func95, Try.ntmps95
  go_wp2
  go_loopw [7, 12] (fun v i wr => ∃ k : Nat, k ≤ n ∧ i = .int .i64 k ∧ wr.ownsRow w.heap.size 103 3 v ((xs.take k).filter (leftB l eff)).length (((xs.take k).filter (leftB l eff)).flatMap tcs) ∧ Below w.heap.size w wr) (fun _ i _ => n - (intOf i).toNat)
  case atStart => exact ⟨0, by omega, rfl, World.ownsRow_nil _ _ _ _, by (repeat' (first | with_reducible exact Below.refl _ _ | with_reducible assumption | with_reducible refine Below.drew ?_ | with_reducible refine below_drewN' ?_ _ | with_reducible refine Below.alloc ?_ ?_ _ | with_reducible refine Below.setCell ?_ ?_ _ | with_reducible refine below_step (by assumption) ?_ ?_ | omega | (simp; done) | (simp; omega)))⟩
  case round =>
    obtain ⟨k, hk, rfl, hown, hB⟩ := hrel
    obtain ⟨hcB, hfB⟩ := bcell hB
    have hbz := hB.size
    have Hown := Lib.hid hown
    have HB := Lib.hid hB
    clear hown
    by_cases hlt : k < n
    · obtain ⟨x, hx⟩ := mem_at (l := xs) (k := k) (by rw [Hln.out]; exact hlt)
      have Hx := Lib.hid hx
      obtain ⟨b, off, rfl, hb, hc⟩ := HF.out (by rw [Hln.out]; omega)
      have hbw : b < wr.heap.size := by omega
      obtain ⟨c0, c1, c2⟩ := tnt_cells (hc k x hx)
      clear hc hx
      have HDr := Lib.hid (HD.out.mono hB)
      by_cases he : eff = 0 ∨ x.eff = eff
      · cases hv : borneB l x
        · have Hs := Lib.hid (filt_yes Hx.out (P := leftB l eff) (show leftB l eff x = true by unfold leftB; rw [hv]; rcases he with h | h <;> simp [h]))
          have Hv := Lib.hid hv
          have hL := filt_len (leftB l eff) xs k
          have hc3 : ((xs.take k).filter (leftB l eff)).length + 1 ≤ maxLen := by unfold maxLen; omega
          have hc4 : (((xs.take k).filter (leftB l eff)).length + 1) * 40 ≤ 140737488355328 := by omega
          have Hrow := Lib.hid (show ((xs.take k).filter (leftB l eff)).flatMap tcs ++ tcs x = ((xs.take (k + 1)).filter (leftB l eff)).flatMap tcs by rw [Hs.out]; simp)
          have Hlen := Lib.hid (show ((xs.take k).filter (leftB l eff)).length + 1 = ((xs.take (k + 1)).filter (leftB l eff)).length by rw [Hs.out]; simp)
          clear hL hv
          by_cases h0 : eff = 0
          all_goals
            first | (have k1 : (eff == 0) = true := by rw [h0]; rfl) | (have k1 : (eff == 0) = false := by simpa using h0)
            first | (have k2 : (x.eff == eff) = true := by rcases he with h | h <;> first | exact absurd h h0 | (rw [h]; simp)) | skip
            clear h0 he
            go_wp2_with (first | (go_at_call 118; (with_reducible refine (borne_any a ka l x _ (HDr.out.mono (by (repeat' (first | with_reducible exact Below.refl _ _ | with_reducible assumption | with_reducible refine Below.drew ?_ | with_reducible refine below_drewN' ?_ _ | with_reducible refine Below.alloc ?_ ?_ _ | with_reducible refine Below.setCell ?_ ?_ _ | with_reducible refine below_step (by assumption) ?_ ?_ | omega | (simp; done) | (simp; omega))))) hn).mono ?_); rintro e w5 ⟨rfl, hb5⟩; rw [Hv.out]; obtain ⟨hc5, hf5⟩ := bcell hb5; have hz5 := hb5.size; (try simp at hz5); have HOx := Lib.hid (own_kept (Hown.out.alloc _) hb5); have HBx := Lib.hid (show Below w.heap.size w w5 by (repeat' (first | with_reducible exact Below.refl _ _ | with_reducible assumption | with_reducible refine Below.drew ?_ | with_reducible refine below_drewN' ?_ _ | with_reducible refine Below.alloc ?_ ?_ _ | with_reducible refine Below.setCell ?_ ?_ _ | with_reducible refine below_step (by assumption) ?_ ?_ | omega | (simp; done) | (simp; omega)))); have hbx : w.heap.size ≤ w5.heap.size := by omega) | (at_builtin; refine wpList_append_own _ rfl (.tmp 30) (.tmp 32) 33 rfl w.heap.size 103 i0 _ 3 40 Try.underlying33 Hi.out Hz0.out Hz1.out Hz2.out rfl (by decide) _ ((xs.take k).filter (leftB l eff)).length (((xs.take k).filter (leftB l eff)).flatMap tcs) rfl (HOx.out.alloc _) ⟨w5.heap.size, 0, none⟩ 1 1 (tcs x) rfl rfl (news_at _ _ _) (by first | exact tcs_one _ | exact ocs_one _) hc3 hc4 (le_alloc hbx _) ?_; intro v1 w1 hown1 hgrow1 _; rw [Hrow.out, Hlen.out] at hown1; have hB1 := own_below (HOx.out.alloc _) (HBx.out.alloc hbx _) (le_alloc hbx _) hgrow1; have HO1 := Lib.hid hown1; clear hown1 hgrow1))
            go_roundw
            case rel => exact ⟨k + 1, by omega, by go_num, HO1.out, hB1⟩
            case measure => simp [intOf]; omega
        · have Hs := Lib.hid (filt_no Hx.out (P := leftB l eff) (show leftB l eff x = false by unfold leftB; rw [hv]; simp))
          have Hv := Lib.hid hv
          clear hv
          by_cases h0 : eff = 0
          all_goals
            first | (have k1 : (eff == 0) = true := by rw [h0]; rfl) | (have k1 : (eff == 0) = false := by simpa using h0)
            first | (have k2 : (x.eff == eff) = true := by rcases he with h | h <;> first | exact absurd h h0 | (rw [h]; simp)) | skip
            clear h0 he
            go_wp2_with (go_at_call 118; (with_reducible refine (borne_any a ka l x _ (HDr.out.mono (by (repeat' (first | with_reducible exact Below.refl _ _ | with_reducible assumption | with_reducible refine Below.drew ?_ | with_reducible refine below_drewN' ?_ _ | with_reducible refine Below.alloc ?_ ?_ _ | with_reducible refine Below.setCell ?_ ?_ _ | with_reducible refine below_step (by assumption) ?_ ?_ | omega | (simp; done) | (simp; omega))))) hn).mono ?_); rintro e w5 ⟨rfl, hb5⟩; rw [Hv.out]; obtain ⟨hc5, hf5⟩ := bcell hb5; have hz5 := hb5.size; (try simp at hz5); have HOx := Lib.hid (own_kept (Hown.out.alloc _) hb5))
            go_roundw
            case rel => exact ⟨k + 1, by omega, by go_num, by rw [Hs.out]; exact HOx.out, by (repeat' (first | with_reducible exact Below.refl _ _ | with_reducible assumption | with_reducible refine Below.drew ?_ | with_reducible refine below_drewN' ?_ _ | with_reducible refine Below.alloc ?_ ?_ _ | with_reducible refine Below.setCell ?_ ?_ _ | with_reducible refine below_step (by assumption) ?_ ?_ | omega | (simp; done) | (simp; omega)))⟩
            case measure => simp [intOf]; omega
      · have Hs := Lib.hid (filt_no Hx.out (P := leftB l eff) (show leftB l eff x = false by unfold leftB; rw [decide_eq_false (fun h => he (.inl h)), decide_eq_false (fun h => he (.inr h))]; rfl))
        have k1 : (eff == 0) = false := by simpa using fun h => he (.inl h)
        have k2 : (x.eff == eff) = false := by simpa using fun h => he (.inr h)
        clear he
        go_wp2
        go_roundw
        case rel => exact ⟨k + 1, by omega, by go_num, by rw [Hs.out]; exact Hown.out.alloc _, by (repeat' (first | with_reducible exact Below.refl _ _ | with_reducible assumption | with_reducible refine Below.drew ?_ | with_reducible refine below_drewN' ?_ _ | with_reducible refine Below.alloc ?_ ?_ _ | with_reducible refine Below.setCell ?_ ?_ _ | with_reducible refine below_step (by assumption) ?_ ?_ | omega | (simp; done) | (simp; omega)))⟩
        case measure => simp [intOf]; omega
    · obtain rfl : k = n := by omega
      have HP := Lib.hid (show ∀ v, wr.ownsRow w.heap.size 103 3 v ((xs.take k).filter (leftB l eff)).length (((xs.take k).filter (leftB l eff)).flatMap tcs) → Gives w (OwnL tcs 3 w.heap.size 103 (unborneL l xs eff)) (.returned v) wr from fun v h => Gives.ownL (filt_all _ Hln.out).symm h HB.out)
      go_wp2
      refine bodyPost_ret (by simp [results, Try.results95, go_sem]) rfl (HP.out _ Hown.out)
def sameB (xs ys : List Tnt) : Bool := decide (xs = ys)
theorem sameB_len {xs ys : List Tnt} (h : xs.length ≠ ys.length) : sameB xs ys = false := decide_eq_false fun e => h (congrArg _ e)
theorem sameB_at {xs ys : List Tnt} {k : Nat} {x y : Tnt} (hx : xs[k]? = some x) (hy : ys[k]? = some y) (h : tntB x y = false) : sameB xs ys = false := by
  refine decide_eq_false fun e => ?_
  subst e
  rw [hx] at hy
  cases hy
  simp [tntB] at h
theorem sameB_all {xs ys : List Tnt} {n : Nat} (hx : xs.length = n) (hy : ys.length = n) (h : xs.take n = ys.take n) : sameB xs ys = true := by
  refine decide_eq_true ?_
  rw [List.take_of_length_le (by omega), List.take_of_length_le (by omega)] at h
  exact h
theorem take_eq {xs ys : List Tnt} {k : Nat} {x y : Tnt} (hx : xs[k]? = some x) (hy : ys[k]? = some y) (h : tntB x y = true) (ht : xs.take k = ys.take k) : xs.take (k + 1) = ys.take (k + 1) := by
  rw [take_at hx, take_at hy, ht, of_decide_eq_true h]

set_option maxRecDepth 100000 in
set_option maxHeartbeats 4000000 in
theorem prefers_any (a c : Option Addr) (ka kc : Nat) (l : List Tol) (xs : List Tnt) (w : World) (hD : TolsAt w a l) (hn : l.length ≤ 1000000) (hF : TntsAt w c xs) (hm : xs.length ≤ 1000000) :
    Calls Try.prog 70 #[.slice a l.length ka, .slice c xs.length kc] w fun e w' => e = .returned (.int .i64 (unborneL l xs 2).length) ∧ Below w.heap.size w w' := by
  go_enter Try.func70, Try.ntmps70
  go_wp2_with (go_at_call 95; (with_reducible refine (unborne_any a c ka kc l xs 2 _ hD hn hF hm).mono ?_); rintro e w5 ⟨⟨v, rfl, hv⟩, hb5⟩; obtain ⟨q, kq, rfl, _, _⟩ := hv.isL tcs_len (by decide))
  go_ret
  exact ⟨rfl, by (repeat' (first | with_reducible exact Below.refl _ _ | with_reducible assumption | with_reducible refine Below.drew ?_ | with_reducible refine below_drewN' ?_ _ | with_reducible refine Below.alloc ?_ ?_ _ | with_reducible refine Below.setCell ?_ ?_ _ | with_reducible refine below_step (by assumption) ?_ ?_ | omega | (simp; done) | (simp; omega)))⟩
def allowsB (l : List Tol) (xs : List Tnt) : Bool := decide ((unborneL l xs 1).length = 0) && decide ((unborneL l xs 3).length = 0)
set_option maxRecDepth 100000 in
set_option maxHeartbeats 4000000 in
theorem allows_any (a c : Option Addr) (ka kc : Nat) (l : List Tol) (xs : List Tnt) (w : World) (hD : TolsAt w a l) (hn : l.length ≤ 1000000) (hF : TntsAt w c xs) (hm : xs.length ≤ 1000000) :
    Calls Try.prog 69 #[.slice a l.length ka, .slice c xs.length kc] w fun e w' => e = .returned (.bool (allowsB l xs)) ∧ Below w.heap.size w w' := by
  unfold allowsB
  obtain ⟨n1, h1⟩ : ∃ n, (unborneL l xs 1).length = n := ⟨_, rfl⟩
  obtain ⟨n3, h3⟩ : ∃ n, (unborneL l xs 3).length = n := ⟨_, rfl⟩
  rw [h1, h3]
  have H1 := Lib.hid h1
  have H3 := Lib.hid h3
  clear h1 h3
  by_cases e1 : n1 = 0
  · by_cases e3 : n3 = 0
    all_goals
      first | subst e1 | skip
      first | subst e3 | skip
      first | (have k3 : (((n3 : Nat) : Int) == 0) = false := by simpa using e3) | skip
      go_enter Try.func69, Try.ntmps69
      go_wp2_with (first | (go_at_call 95; (with_reducible refine (unborne_any a c ka kc l xs 1 _ hD hn hF hm).mono ?_); rintro e w5 ⟨⟨v, rfl, hv⟩, hb5⟩; obtain ⟨q, kq, rfl, _, _⟩ := hv.isL tcs_len (by decide); rw [H1.out]; clear hv; have hz5 := hb5.size) | (go_at_call 95; (with_reducible refine (unborne_any a c ka kc l xs 3 _ (hD.mono (by (repeat' (first | with_reducible exact Below.refl _ _ | with_reducible assumption | with_reducible refine Below.drew ?_ | with_reducible refine below_drewN' ?_ _ | with_reducible refine Below.alloc ?_ ?_ _ | with_reducible refine Below.setCell ?_ ?_ _ | with_reducible refine below_step (by assumption) ?_ ?_ | omega | (simp; done) | (simp; omega))))) hn (hF.mono (by (repeat' (first | with_reducible exact Below.refl _ _ | with_reducible assumption | with_reducible refine Below.drew ?_ | with_reducible refine below_drewN' ?_ _ | with_reducible refine Below.alloc ?_ ?_ _ | with_reducible refine Below.setCell ?_ ?_ _ | with_reducible refine below_step (by assumption) ?_ ?_ | omega | (simp; done) | (simp; omega))))) hm).mono ?_); rintro e w6 ⟨⟨v, rfl, hv⟩, hb6⟩; obtain ⟨q, kq, rfl, _, _⟩ := hv.isL tcs_len (by decide); rw [H3.out]; clear hv))
      go_ret
      exact ⟨by simp [*], by (repeat' (first | with_reducible exact Below.refl _ _ | with_reducible assumption | with_reducible refine Below.drew ?_ | with_reducible refine below_drewN' ?_ _ | with_reducible refine Below.alloc ?_ ?_ _ | with_reducible refine Below.setCell ?_ ?_ _ | with_reducible refine below_step (by assumption) ?_ ?_ | omega | (simp; done) | (simp; omega)))⟩
  · have k1 : (((n1 : Nat) : Int) == 0) = false := by simpa using e1
    go_enter Try.func69, Try.ntmps69
    go_wp2_with (go_at_call 95; (with_reducible refine (unborne_any a c ka kc l xs 1 _ hD hn hF hm).mono ?_); rintro e w5 ⟨⟨v, rfl, hv⟩, hb5⟩; obtain ⟨q, kq, rfl, _, _⟩ := hv.isL tcs_len (by decide); rw [H1.out]; clear hv)
    go_ret
    exact ⟨by simp [e1], by (repeat' (first | with_reducible exact Below.refl _ _ | with_reducible assumption | with_reducible refine Below.drew ?_ | with_reducible refine below_drewN' ?_ _ | with_reducible refine Below.alloc ?_ ?_ _ | with_reducible refine Below.setCell ?_ ?_ _ | with_reducible refine below_step (by assumption) ?_ ?_ | omega | (simp; done) | (simp; omega)))⟩

def hardB (x : Tnt) : Bool := decide (x.eff = 1) || decide (x.eff = 3)
theorem allows_hard (l : List Tol) (xs : List Tnt) : allowsB l xs = !(unborneL l xs 0).any hardB := by
  unfold allowsB unborneL
  have h : ∀ e : Int, e ≠ 0 → (decide ((xs.filter (leftB l e)).length = 0) = true ↔ ∀ x ∈ xs, x.eff = e → borneB l x = true) := by
    intro e he
    rw [decide_eq_true_eq, List.length_eq_zero_iff, List.filter_eq_nil_iff]
    refine ⟨fun h x hx hxe => ?_, fun h x hx hl => ?_⟩
    · have := h x hx
      unfold leftB at this
      cases hb : borneB l x
      · simp [hb, hxe] at this
      · rfl
    · unfold leftB at hl
      simp [he] at hl
      rw [h x hx hl.1] at hl
      simp at hl
  have h1 := h 1 (by decide)
  have h3 := h 3 (by decide)
  rw [Bool.eq_iff_iff, Bool.and_eq_true, h1, h3]
  simp only [Bool.not_eq_true', List.any_eq_false, List.mem_filter]
  refine ⟨fun ⟨a, b⟩ x ⟨hx, hl⟩ hh => ?_, fun g => ⟨fun x hx hxe => ?_, fun x hx hxe => ?_⟩⟩
  · unfold leftB at hl
    unfold hardB at hh
    simp at hl hh
    rcases hh with hh | hh
    · rw [a x hx hh] at hl; cases hl
    · rw [b x hx hh] at hl; cases hl
  · cases hb : borneB l x
    · exact absurd (show hardB x = true by simp [hardB, hxe]) (g x ⟨hx, by simp [leftB, hb]⟩)
    · rfl
  · cases hb : borneB l x
    · exact absurd (show hardB x = true by simp [hardB, hxe]) (g x ⟨hx, by simp [leftB, hb]⟩)
    · rfl
theorem hard_cases (x : Tnt) : ((x.eff == 1) = true ∧ hardB x = true) ∨ ((x.eff == 1) = false ∧ (x.eff == 3) = true ∧ hardB x = true) ∨ ((x.eff == 1) = false ∧ (x.eff == 3) = false ∧ hardB x = false) := by
  unfold hardB
  by_cases h1 : x.eff = 1 <;> by_cases h3 : x.eff = 3 <;> simp [h1, h3]

end Tn
end Go.Proofs.Ythbpnfpalcgfeaa
