/-
  Suit: Place, Prefers, Room, Suits, known, a case that came in.
-/
import Derived.Test.YthbpnfpalcgfeaaMA
import Derived.Test.YthbpnfpalcgfeaaMD
import Derived.Test.YthbpnfpalcgfeaaPodO
import Derived.Laws.StructEq
import Derived.Test.YthbpnfpalcgfeaaLab7
import Derived.Test.YthbpnfpalcgfeaaPd3
import Derived.Test.YthbpnfpalcgfeaaLab11
import Derived.Test.YthbpnfpalcgfeaaLabP
import Derived.Test.YthbpnfpalcgfeaaYd5
import Derived.Test.YthbpnfpalcgfeaaPd1
import Derived.Test.YthbpnfpalcgfeaaYd7
namespace Go.Proofs.Ythbpnfpalcgfeaa
namespace Tn
open Go.RowKit
set_option linter.unusedVariables false
set_option linter.unusedSimpArgs false

theorem toList_inj (a b : ByteArray) : a.toList = b.toList ↔ a = b := by
  rw [ByteArray.toList_eq, ByteArray.toList_eq]
  exact ⟨fun h => ByteArray.ext (Array.toList_inj.mp h), fun h => by rw [h]⟩
theorem strB_list (a b : ByteArray) : (a.toList == b.toList) = strB a b := by
  unfold strB
  by_cases h : a = b
  · subst h; simp
  · rw [decide_eq_false h, beq_eq_false_iff_ne]; exact fun e => h ((toList_inj _ _).1 e)

theorem guard_taint (op : BinOp) (x y : Operand) (xs ys : Array Value) (w : World) : (eqGuard op 103 x y (.agg xs) (.agg ys)).run Try.prog w = .ok () w := run_eqGuard_agg w op _ x y xs ys (by kernel_rfl)
theorem eql_taint0 (x y : Tnt) (w : World) : (Op.equalIn 10000 103 (.agg #[.string x.key, .string x.val, .int .i64 x.eff]) (.agg #[.string y.key, .string y.val, .int .i64 y.eff])).run Try.prog w = .ok (tntB x y) w := by
  have hus := Try.underlying9
  have has := Try.isAgg9
  have hzs := Try.sizeOf9
  have hui := Try.underlying3
  have hai := Try.isAgg3
  have hzi := Try.sizeOf3
  have hS : Try.prog.underlying 103 = some (.struct (Try.prog.fieldsOf 103)) := by kernel_rfl
  have hp : Try.prog.stoodInHeld 103 = false := by kernel_rfl
  rw [show (10000 : Nat) = 9999 + 1 from rfl, run_equalIn_agg w 9999 103 _ _ hS hp]
  simp only [Program.fieldsOf, Try.underlying103]
  go_simp
  obtain ⟨x1, x2, x3⟩ := x
  obtain ⟨y1, y2, y3⟩ := y
  unfold tntB
  by_cases h1 : x1 = y1 <;> by_cases h2 : x2 = y2 <;> by_cases h3 : x3 = y3 <;> simp [h1, h2, h3, toList_inj]
theorem eql_taint (x y : Tnt) (w : World) : (binOp .eql 103 (.agg #[.string x.key, .string x.val, .int .i64 x.eff]) (.agg #[.string y.key, .string y.val, .int .i64 y.eff])).run Try.prog w = .ok (.bool (tntB x y)) w := by
  rw [run_eql_struct, eql_taint0]; rfl
theorem neq_taint (x y : Tnt) (w : World) : (binOp .neq 103 (.agg #[.string x.key, .string x.val, .int .i64 x.eff]) (.agg #[.string y.key, .string y.val, .int .i64 y.eff])).run Try.prog w = .ok (.bool (!tntB x y)) w := by
  rw [run_neq_struct, eql_taint0]; rfl

def bearsB (t : Tol) (x : Tnt) : Bool := decide ((t.eff = 0 ∨ t.eff = x.eff) ∧ (t.key = emp ∨ t.key = x.key) ∧ (t.any = true ∨ t.val = x.val))

theorem emp_no {s : ByteArray} (h : ¬ s = emp) : ((s.toList = []) = False) ∧ (!s.toList.isEmpty) = true ∧ s.toList.isEmpty = false := by
  have h' : s.toList ≠ [] := fun e => h ((toList_inj _ _).1 (e.trans emp_list.symm))
  refine ⟨eq_iff_iff.2 ⟨h', False.elim⟩, ?_, ?_⟩ <;> cases hx : s.toList <;> first | exact absurd hx h' | rfl

theorem bears_like (t : Tol) (x : Tnt) : tntB ⟨if t.key = emp then x.key else t.key, if t.any = true then x.val else t.val, if t.eff = 0 then x.eff else t.eff⟩ x = bearsB t x := by
  obtain ⟨k, v, a, e⟩ := t
  obtain ⟨k', v', e'⟩ := x
  unfold tntB bearsB
  by_cases h1 : k = emp <;> by_cases h2 : a = true <;> by_cases h3 : e = 0 <;> simp [h1, h2, h3, eq_comm, and_comm, and_left_comm, Bool.and_assoc]

set_option maxRecDepth 100000 in
set_option maxHeartbeats 1000000 in
theorem bears_any (t : Tol) (x : Tnt) (w : World) :
    Calls Try.prog 137 #[.agg #[.string t.key, .string t.val, .bool t.any, .int .i64 t.eff], .agg #[.string x.key, .string x.val, .int .i64 x.eff]] w fun e w' => e = .returned (.bool (bearsB t x)) ∧ Below w.heap.size w w' := by
  have hq := fun w => eql_taint ⟨if t.key = emp then x.key else t.key, if t.any = true then x.val else t.val, if t.eff = 0 then x.eff else t.eff⟩ x w
  simp only [bears_like] at hq
  have hg := guard_taint
  obtain ⟨tk, tv, ta, te⟩ := t
  obtain ⟨xk, xv, xe⟩ := x
  simp only at hq
  obtain ⟨r, hr⟩ : ∃ r, bearsB ⟨tk, tv, ta, te⟩ ⟨xk, xv, xe⟩ = r := ⟨_, rfl⟩
  rw [hr]
  simp only [hr] at hq
  clear hr
  by_cases h1 : tk = emp <;> by_cases h3 : te = 0 <;> cases ta
  all_goals
    first | (have hh := emp_yes h1; simp only [if_pos h1] at hq; obtain ⟨h2, h4, h6⟩ := hh) | (have hh := emp_no h1; simp only [if_neg h1] at hq; obtain ⟨h2, h4, h6⟩ := hh)
    first | (simp only [if_pos h3] at hq; have h5 : (te == 0) = true := (by simp [h3])) | (simp only [if_neg h3] at hq; have h5 : (te == 0) = false := (by simp [h3]))
    simp only [if_true, Bool.false_eq_true, if_false] at hq
    clear h1 h3
    go_enter Try.func137, Try.ntmps137
    go_wp2
    go_ret
    exact ⟨rfl, by (repeat' (first | with_reducible exact Below.refl _ _ | with_reducible assumption | with_reducible refine Below.drew ?_ | with_reducible refine below_drewN' ?_ _ | with_reducible refine Below.alloc ?_ ?_ _ | with_reducible refine Below.setCell ?_ ?_ _ | with_reducible refine below_step (by assumption) ?_ ?_ | omega | (simp; done) | (simp; omega)))⟩
/-- Some toleration bears it. -/
def borneB (l : List Tol) (x : Tnt) : Bool := l.any fun t => bearsB t x
theorem borneB_take {l : List Tol} {k : Nat} {t : Tol} {x : Tnt} (h : l[k]? = some t) : borneB (l.take (k + 1)) x = (borneB (l.take k) x || bearsB t x) := by
  unfold borneB
  rw [take_at h, List.any_append]
  simp
theorem borneB_yes {l : List Tol} {k : Nat} {t : Tol} {x : Tnt} (h : l[k]? = some t) (hb : bearsB t x = true) : borneB l x = true := by
  unfold borneB
  rw [List.any_eq_true]
  exact ⟨t, List.mem_of_getElem? h, hb⟩

set_option maxRecDepth 100000 in
set_option maxHeartbeats 2000000 in
theorem borne_any (a : Option Addr) (ka : Nat) (l : List Tol) (x : Tnt) (w : World) (hD : TolsAt w a l) (hn : l.length ≤ 1000000) :
    Calls Try.prog 118 #[.slice a l.length ka, .agg #[.string (x).key, .string (x).val, .int .i64 (x).eff]] w fun e w' => e = .returned (.bool (borneB l x)) ∧ Below w.heap.size w w' := by
  have HD := Lib.hid hD
  clear hD
  obtain ⟨n, hln⟩ : ∃ n, l.length = n := ⟨_, rfl⟩
  rw [hln] at hn ⊢
  have Hln := Lib.hid hln
  clear hln
  go_enter Try.func118, Try.ntmps118
  go_wp2
  go_loopw [9] (fun i wr => ∃ k : Nat, k ≤ n ∧ i = .int .i64 k ∧ borneB (l.take k) x = false ∧ Below (w.heap.size + 1) (w.alloc (.cells #[.string x.key, .string x.val, .int .i64 x.eff] 103)) wr) (fun i _ => n - (intOf i).toNat)
  case atStart => exact ⟨0, by omega, rfl, rfl, by (repeat' (first | with_reducible exact Below.refl _ _ | with_reducible assumption | with_reducible refine Below.drew ?_ | with_reducible refine below_drewN' ?_ _ | with_reducible refine Below.alloc ?_ ?_ _ | with_reducible refine Below.setCell ?_ ?_ _ | with_reducible refine below_step (by assumption) ?_ ?_ | omega | (simp; done) | (simp; omega)))⟩
  case round =>
    obtain ⟨k, hk, rfl, hE, hB⟩ := hrel
    have hB' : Below (w.alloc (.cells #[.string x.key, .string x.val, .int .i64 x.eff] 103)).heap.size (w.alloc (.cells #[.string x.key, .string x.val, .int .i64 x.eff] 103)) wr := by simpa using hB
    obtain ⟨hcB, hfB⟩ := bcell hB'
    have hzB := hB.size
    (try simp at hzB)
    have hz0 : w.heap.size < wr.heap.size := by omega
    have HE := Lib.hid hE
    have hBw : Below w.heap.size w wr := by have := hB'.mono (B' := w.heap.size) (by simp); exact ((Below.refl _ w).alloc (Nat.le_refl _) _).trans this
    clear hE
    by_cases hlt : k < n
    · obtain ⟨t, ht⟩ := mem_at (l := l) (k := k) (by rw [Hln.out]; exact hlt)
      have Ht := Lib.hid ht
      clear ht
      obtain ⟨b, off, rfl, hb, hc⟩ := HD.out (by rw [Hln.out]; omega)
      have hbw : b < wr.heap.size := by omega
      have hbw1 : b < w.heap.size + 1 := by omega
      obtain ⟨c0, c1, c2, c3⟩ := tol_cells (hc k t Ht.out)
      clear hc
      cases hv : bearsB t x
      · have Hs := Lib.hid (show borneB (l.take (k + 1)) x = false by rw [borneB_take Ht.out, HE.out, hv]; rfl)
        have Hv := Lib.hid hv
        clear hv
        go_wp2_with (go_at_call 137; (with_reducible refine (bears_any t x _).mono ?_); rintro e w5 ⟨rfl, hb5⟩; rw [Hv.out]; obtain ⟨hc5, hf5⟩ := bcell hb5; have hz5 := hb5.size; (try simp at hz5))
        go_roundw
        case rel => exact ⟨k + 1, by omega, by go_num, Hs.out, by (repeat' (first | with_reducible exact Below.refl _ _ | with_reducible assumption | with_reducible refine Below.drew ?_ | with_reducible refine below_drewN' ?_ _ | with_reducible refine Below.alloc ?_ ?_ _ | with_reducible refine Below.setCell ?_ ?_ _ | with_reducible refine below_step (by assumption) ?_ ?_ | omega | (simp; done) | (simp; omega)))⟩
        case measure => simp [intOf]; omega
      · have Hs := Lib.hid (borneB_yes Ht.out hv)
        have Hv := Lib.hid hv
        clear hv
        go_wp2_with (go_at_call 137; (with_reducible refine (bears_any t x _).mono ?_); rintro e w5 ⟨rfl, hb5⟩; rw [Hv.out]; obtain ⟨hc5, hf5⟩ := bcell hb5; have hz5 := hb5.size; (try simp at hz5))
        go_ret
        exact ⟨by rw [Hs.out]; rfl, by (repeat' (first | with_reducible exact Below.refl _ _ | with_reducible assumption | with_reducible refine Below.drew ?_ | with_reducible refine below_drewN' ?_ _ | with_reducible refine Below.alloc ?_ ?_ _ | with_reducible refine Below.setCell ?_ ?_ _ | with_reducible refine below_step (by assumption) ?_ ?_ | omega | (simp; done) | (simp; omega)))⟩
    · obtain rfl : k = n := by omega
      have Hs := Lib.hid (show borneB l x = false by rw [← HE.out, ← Hln.out, List.take_length])
      go_wp2
      go_ret
      exact ⟨by rw [Hs.out]; rfl, by (repeat' (first | with_reducible exact Below.refl _ _ | with_reducible assumption | with_reducible refine Below.drew ?_ | with_reducible refine below_drewN' ?_ _ | with_reducible refine Below.alloc ?_ ?_ _ | with_reducible refine Below.setCell ?_ ?_ _ | with_reducible refine below_step (by assumption) ?_ ?_ | omega | (simp; done) | (simp; omega)))⟩
/-- What is looked at, and not borne. -/
def leftB (l : List Tol) (eff : Int) (x : Tnt) : Bool := (decide (eff = 0) || decide (x.eff = eff)) && !borneB l x
def unborneL (l : List Tol) (xs : List Tnt) (eff : Int) : List Tnt := xs.filter (leftB l eff)
theorem filt_yes {α : Type} {P : α → Bool} {xs : List α} {k : Nat} {x : α} (h : xs[k]? = some x) (hp : P x = true) : (xs.take (k + 1)).filter P = (xs.take k).filter P ++ [x] := by
  rw [take_at h, List.filter_append]; simp [hp]
theorem filt_no {α : Type} {P : α → Bool} {xs : List α} {k : Nat} {x : α} (h : xs[k]? = some x) (hp : P x = false) : (xs.take (k + 1)).filter P = (xs.take k).filter P := by
  rw [take_at h, List.filter_append]; simp [hp]
set_option maxRecDepth 100000 in
set_option maxHeartbeats 4000000 in
theorem unborne_any (a c : Option Addr) (ka kc : Nat) (l : List Tol) (xs : List Tnt) (eff : Int) (w : World) (hD : TolsAt w a l) (hn : l.length ≤ 1000000) (hF : TntsAt w c xs) (hm : xs.length ≤ 1000000) :
    Calls Try.prog 95 #[.slice a l.length ka, .slice c xs.length kc, .int .i64 eff] w (Gives w (OwnL tcs 3 w.heap.size 103 (unborneL l xs eff))) := by
  have HD := Lib.hid hD
  have HF := Lib.hid hF
  clear hD hF
  obtain ⟨i0, hi, hz0, hz1, hz2⟩ := info_parts Try.info103
  have Hi := Lib.hid hi
  have Hz0 := Lib.hid hz0
  have Hz1 := Lib.hid hz1
  have Hz2 := Lib.hid hz2
  clear hi hz0 hz1 hz2
  obtain ⟨n, hln⟩ : ∃ n, xs.length = n := ⟨_, rfl⟩
  rw [hln] at hm ⊢
  have Hln := Lib.hid hln
  clear hln
  go_enter Try.func95, Try.ntmps95
  go_wp2
  go_loopw [7, 12] (fun v i wr => ∃ k : Nat, k ≤ n ∧ i = .int .i64 k ∧ wr.ownsRow w.heap.size 103 3 v ((xs.take k).filter (leftB l eff)).length (((xs.take k).filter (leftB l eff)).flatMap tcs) ∧ Below w.heap.size w wr) (fun _ i _ => n - (intOf i).toNat)
  case atStart => exact ⟨0, by omega, rfl, World.ownsRow_nil _ _ _ _, by (repeat' (first | with_reducible exact Below.refl _ _ | with_reducible assumption | with_reducible refine Below.drew ?_ | with_reducible refine below_drewN' ?_ _ | with_reducible refine Below.alloc ?_ ?_ _ | with_reducible refine Below.setCell ?_ ?_ _ | with_reducible refine below_step (by assumption) ?_ ?_ | omega | (simp; done) | (simp; omega)))⟩
  case round =>
    obtain ⟨k, hk, rfl, hown, hB⟩ := hrel
    obtain ⟨hcB, hfB⟩ := bcell hB
    have hbz := hB.size
    have Hown := Lib.hid hown
    have HB := Lib.hid hB
    clear hown
    by_cases hlt : k < n
    · obtain ⟨x, hx⟩ := mem_at (l := xs) (k := k) (by rw [Hln.out]; exact hlt)
      have Hx := Lib.hid hx
      obtain ⟨b, off, rfl, hb, hc⟩ := HF.out (by rw [Hln.out]; omega)
      have hbw : b < wr.heap.size := by omega
      obtain ⟨c0, c1, c2⟩ := tnt_cells (hc k x hx)
      clear hc hx
      have HDr := Lib.hid (HD.out.mono hB)
      by_cases he : eff = 0 ∨ x.eff = eff
      · cases hv : borneB l x
        · have Hs := Lib.hid (filt_yes Hx.out (P := leftB l eff) (show leftB l eff x = true by unfold leftB; rw [hv]; rcases he with h | h <;> simp [h]))
          have Hv := Lib.hid hv
          have hL := filt_len (leftB l eff) xs k
          have hc3 : ((xs.take k).filter (leftB l eff)).length + 1 ≤ maxLen := by unfold maxLen; omega
          have hc4 : (((xs.take k).filter (leftB l eff)).length + 1) * 40 ≤ 140737488355328 := by omega
          have Hrow := Lib.hid (show ((xs.take k).filter (leftB l eff)).flatMap tcs ++ tcs x = ((xs.take (k + 1)).filter (leftB l eff)).flatMap tcs by rw [Hs.out]; simp)
          have Hlen := Lib.hid (show ((xs.take k).filter (leftB l eff)).length + 1 = ((xs.take (k + 1)).filter (leftB l eff)).length by rw [Hs.out]; simp)
          clear hL hv
          by_cases h0 : eff = 0
          all_goals
            first | (have k1 : (eff == 0) = true := by rw [h0]; rfl) | (have k1 : (eff == 0) = false := by simpa using h0)
            first | (have k2 : (x.eff == eff) = true := by rcases he with h | h <;> first | exact absurd h h0 | (rw [h]; simp)) | skip
            clear h0 he
            go_wp2_with (first | (go_at_call 118; (with_reducible refine (borne_any a ka l x _ (HDr.out.mono (by (repeat' (first | with_reducible exact Below.refl _ _ | with_reducible assumption | with_reducible refine Below.drew ?_ | with_reducible refine below_drewN' ?_ _ | with_reducible refine Below.alloc ?_ ?_ _ | with_reducible refine Below.setCell ?_ ?_ _ | with_reducible refine below_step (by assumption) ?_ ?_ | omega | (simp; done) | (simp; omega))))) hn).mono ?_); rintro e w5 ⟨rfl, hb5⟩; rw [Hv.out]; obtain ⟨hc5, hf5⟩ := bcell hb5; have hz5 := hb5.size; (try simp at hz5); have HOx := Lib.hid (own_kept (Hown.out.alloc _) hb5); have HBx := Lib.hid (show Below w.heap.size w w5 by (repeat' (first | with_reducible exact Below.refl _ _ | with_reducible assumption | with_reducible refine Below.drew ?_ | with_reducible refine below_drewN' ?_ _ | with_reducible refine Below.alloc ?_ ?_ _ | with_reducible refine Below.setCell ?_ ?_ _ | with_reducible refine below_step (by assumption) ?_ ?_ | omega | (simp; done) | (simp; omega)))); have hbx : w.heap.size ≤ w5.heap.size := by omega) | (at_builtin; refine wpList_append_own _ rfl (.tmp 30) (.tmp 32) 33 rfl w.heap.size 103 i0 _ 3 40 Try.underlying33 Hi.out Hz0.out Hz1.out Hz2.out rfl (by decide) _ ((xs.take k).filter (leftB l eff)).length (((xs.take k).filter (leftB l eff)).flatMap tcs) rfl (HOx.out.alloc _) ⟨w5.heap.size, 0, none⟩ 1 1 (tcs x) rfl rfl (news_at _ _ _) (by first | exact tcs_one _ | exact ocs_one _) hc3 hc4 (le_alloc hbx _) ?_; intro v1 w1 hown1 hgrow1 _; rw [Hrow.out, Hlen.out] at hown1; have hB1 := own_below (HOx.out.alloc _) (HBx.out.alloc hbx _) (le_alloc hbx _) hgrow1; have HO1 := Lib.hid hown1; clear hown1 hgrow1))
            go_roundw
            case rel => exact ⟨k + 1, by omega, by go_num, HO1.out, hB1⟩
            case measure => simp [intOf]; omega
        · have Hs := Lib.hid (filt_no Hx.out (P := leftB l eff) (show leftB l eff x = false by unfold leftB; rw [hv]; simp))
          have Hv := Lib.hid hv
          clear hv
          by_cases h0 : eff = 0
          all_goals
            first | (have k1 : (eff == 0) = true := by rw [h0]; rfl) | (have k1 : (eff == 0) = false := by simpa using h0)
            first | (have k2 : (x.eff == eff) = true := by rcases he with h | h <;> first | exact absurd h h0 | (rw [h]; simp)) | skip
            clear h0 he
            go_wp2_with (go_at_call 118; (with_reducible refine (borne_any a ka l x _ (HDr.out.mono (by (repeat' (first | with_reducible exact Below.refl _ _ | with_reducible assumption | with_reducible refine Below.drew ?_ | with_reducible refine below_drewN' ?_ _ | with_reducible refine Below.alloc ?_ ?_ _ | with_reducible refine Below.setCell ?_ ?_ _ | with_reducible refine below_step (by assumption) ?_ ?_ | omega | (simp; done) | (simp; omega))))) hn).mono ?_); rintro e w5 ⟨rfl, hb5⟩; rw [Hv.out]; obtain ⟨hc5, hf5⟩ := bcell hb5; have hz5 := hb5.size; (try simp at hz5); have HOx := Lib.hid (own_kept (Hown.out.alloc _) hb5))
            go_roundw
            case rel => exact ⟨k + 1, by omega, by go_num, by rw [Hs.out]; exact HOx.out, by (repeat' (first | with_reducible exact Below.refl _ _ | with_reducible assumption | with_reducible refine Below.drew ?_ | with_reducible refine below_drewN' ?_ _ | with_reducible refine Below.alloc ?_ ?_ _ | with_reducible refine Below.setCell ?_ ?_ _ | with_reducible refine below_step (by assumption) ?_ ?_ | omega | (simp; done) | (simp; omega)))⟩
            case measure => simp [intOf]; omega
      · have Hs := Lib.hid (filt_no Hx.out (P := leftB l eff) (show leftB l eff x = false by unfold leftB; rw [decide_eq_false (fun h => he (.inl h)), decide_eq_false (fun h => he (.inr h))]; rfl))
        have k1 : (eff == 0) = false := by simpa using fun h => he (.inl h)
        have k2 : (x.eff == eff) = false := by simpa using fun h => he (.inr h)
        clear he
        go_wp2
        go_roundw
        case rel => exact ⟨k + 1, by omega, by go_num, by rw [Hs.out]; exact Hown.out.alloc _, by (repeat' (first | with_reducible exact Below.refl _ _ | with_reducible assumption | with_reducible refine Below.drew ?_ | with_reducible refine below_drewN' ?_ _ | with_reducible refine Below.alloc ?_ ?_ _ | with_reducible refine Below.setCell ?_ ?_ _ | with_reducible refine below_step (by assumption) ?_ ?_ | omega | (simp; done) | (simp; omega)))⟩
        case measure => simp [intOf]; omega
    · obtain rfl : k = n := by omega
      have HP := Lib.hid (show ∀ v, wr.ownsRow w.heap.size 103 3 v ((xs.take k).filter (leftB l eff)).length (((xs.take k).filter (leftB l eff)).flatMap tcs) → Gives w (OwnL tcs 3 w.heap.size 103 (unborneL l xs eff)) (.returned v) wr from fun v h => Gives.ownL (filt_all _ Hln.out).symm h HB.out)
      go_wp2
      refine bodyPost_ret (by simp [results, Try.results95, go_sem]) rfl (HP.out _ Hown.out)
def sameB (xs ys : List Tnt) : Bool := decide (xs = ys)
theorem sameB_len {xs ys : List Tnt} (h : xs.length ≠ ys.length) : sameB xs ys = false := decide_eq_false fun e => h (congrArg _ e)
theorem sameB_at {xs ys : List Tnt} {k : Nat} {x y : Tnt} (hx : xs[k]? = some x) (hy : ys[k]? = some y) (h : tntB x y = false) : sameB xs ys = false := by
  refine decide_eq_false fun e => ?_
  subst e
  rw [hx] at hy
  cases hy
  simp [tntB] at h
theorem sameB_all {xs ys : List Tnt} {n : Nat} (hx : xs.length = n) (hy : ys.length = n) (h : xs.take n = ys.take n) : sameB xs ys = true := by
  refine decide_eq_true ?_
  rw [List.take_of_length_le (by omega), List.take_of_length_le (by omega)] at h
  exact h
theorem take_eq {xs ys : List Tnt} {k : Nat} {x y : Tnt} (hx : xs[k]? = some x) (hy : ys[k]? = some y) (h : tntB x y = true) (ht : xs.take k = ys.take k) : xs.take (k + 1) = ys.take (k + 1) := by
  rw [take_at hx, take_at hy, ht, of_decide_eq_true h]

set_option maxRecDepth 100000 in
set_option maxHeartbeats 4000000 in
theorem prefers_any (a c : Option Addr) (ka kc : Nat) (l : List Tol) (xs : List Tnt) (w : World) (hD : TolsAt w a l) (hn : l.length ≤ 1000000) (hF : TntsAt w c xs) (hm : xs.length ≤ 1000000) :
    Calls Try.prog 70 #[.slice a l.length ka, .slice c xs.length kc] w fun e w' => e = .returned (.int .i64 (unborneL l xs 2).length) ∧ Below w.heap.size w w' := by
  go_enter Try.func70, Try.ntmps70
  go_wp2_with (go_at_call 95; (with_reducible refine (unborne_any a c ka kc l xs 2 _ hD hn hF hm).mono ?_); rintro e w5 ⟨⟨v, rfl, hv⟩, hb5⟩; obtain ⟨q, kq, rfl, _, _⟩ := hv.isL tcs_len (by decide))
  go_ret
  exact ⟨rfl, by (repeat' (first | with_reducible exact Below.refl _ _ | with_reducible assumption | with_reducible refine Below.drew ?_ | with_reducible refine below_drewN' ?_ _ | with_reducible refine Below.alloc ?_ ?_ _ | with_reducible refine Below.setCell ?_ ?_ _ | with_reducible refine below_step (by assumption) ?_ ?_ | omega | (simp; done) | (simp; omega)))⟩
def allowsB (l : List Tol) (xs : List Tnt) : Bool := decide ((unborneL l xs 1).length = 0) && decide ((unborneL l xs 3).length = 0)
set_option maxRecDepth 100000 in
set_option maxHeartbeats 4000000 in
theorem allows_any (a c : Option Addr) (ka kc : Nat) (l : List Tol) (xs : List Tnt) (w : World) (hD : TolsAt w a l) (hn : l.length ≤ 1000000) (hF : TntsAt w c xs) (hm : xs.length ≤ 1000000) :
    Calls Try.prog 69 #[.slice a l.length ka, .slice c xs.length kc] w fun e w' => e = .returned (.bool (allowsB l xs)) ∧ Below w.heap.size w w' := by
  unfold allowsB
  obtain ⟨n1, h1⟩ : ∃ n, (unborneL l xs 1).length = n := ⟨_, rfl⟩
  obtain ⟨n3, h3⟩ : ∃ n, (unborneL l xs 3).length = n := ⟨_, rfl⟩
  rw [h1, h3]
  have H1 := Lib.hid h1
  have H3 := Lib.hid h3
  clear h1 h3
  by_cases e1 : n1 = 0
  · by_cases e3 : n3 = 0
    all_goals
      first | subst e1 | skip
      first | subst e3 | skip
      first | (have k3 : (((n3 : Nat) : Int) == 0) = false := by simpa using e3) | skip
      go_enter Try.func69, Try.ntmps69
      go_wp2_with (first | (go_at_call 95; (with_reducible refine (unborne_any a c ka kc l xs 1 _ hD hn hF hm).mono ?_); rintro e w5 ⟨⟨v, rfl, hv⟩, hb5⟩; obtain ⟨q, kq, rfl, _, _⟩ := hv.isL tcs_len (by decide); rw [H1.out]; clear hv; have hz5 := hb5.size) | (go_at_call 95; (with_reducible refine (unborne_any a c ka kc l xs 3 _ (hD.mono (by (repeat' (first | with_reducible exact Below.refl _ _ | with_reducible assumption | with_reducible refine Below.drew ?_ | with_reducible refine below_drewN' ?_ _ | with_reducible refine Below.alloc ?_ ?_ _ | with_reducible refine Below.setCell ?_ ?_ _ | with_reducible refine below_step (by assumption) ?_ ?_ | omega | (simp; done) | (simp; omega))))) hn (hF.mono (by (repeat' (first | with_reducible exact Below.refl _ _ | with_reducible assumption | with_reducible refine Below.drew ?_ | with_reducible refine below_drewN' ?_ _ | with_reducible refine Below.alloc ?_ ?_ _ | with_reducible refine Below.setCell ?_ ?_ _ | with_reducible refine below_step (by assumption) ?_ ?_ | omega | (simp; done) | (simp; omega))))) hm).mono ?_); rintro e w6 ⟨⟨v, rfl, hv⟩, hb6⟩; obtain ⟨q, kq, rfl, _, _⟩ := hv.isL tcs_len (by decide); rw [H3.out]; clear hv))
      go_ret
      exact ⟨by simp [*], by (repeat' (first | with_reducible exact Below.refl _ _ | with_reducible assumption | with_reducible refine Below.drew ?_ | with_reducible refine below_drewN' ?_ _ | with_reducible refine Below.alloc ?_ ?_ _ | with_reducible refine Below.setCell ?_ ?_ _ | with_reducible refine below_step (by assumption) ?_ ?_ | omega | (simp; done) | (simp; omega)))⟩
  · have k1 : (((n1 : Nat) : Int) == 0) = false := by simpa using e1
    go_enter Try.func69, Try.ntmps69
    go_wp2_with (go_at_call 95; (with_reducible refine (unborne_any a c ka kc l xs 1 _ hD hn hF hm).mono ?_); rintro e w5 ⟨⟨v, rfl, hv⟩, hb5⟩; obtain ⟨q, kq, rfl, _, _⟩ := hv.isL tcs_len (by decide); rw [H1.out]; clear hv)
    go_ret
    exact ⟨by simp [e1], by (repeat' (first | with_reducible exact Below.refl _ _ | with_reducible assumption | with_reducible refine Below.drew ?_ | with_reducible refine below_drewN' ?_ _ | with_reducible refine Below.alloc ?_ ?_ _ | with_reducible refine Below.setCell ?_ ?_ _ | with_reducible refine below_step (by assumption) ?_ ?_ | omega | (simp; done) | (simp; omega)))⟩

def hardB (x : Tnt) : Bool := decide (x.eff = 1) || decide (x.eff = 3)
theorem allows_hard (l : List Tol) (xs : List Tnt) : allowsB l xs = !(unborneL l xs 0).any hardB := by
  unfold allowsB unborneL
  have h : ∀ e : Int, e ≠ 0 → (decide ((xs.filter (leftB l e)).length = 0) = true ↔ ∀ x ∈ xs, x.eff = e → borneB l x = true) := by
    intro e he
    rw [decide_eq_true_eq, List.length_eq_zero_iff, List.filter_eq_nil_iff]
    refine ⟨fun h x hx hxe => ?_, fun h x hx hl => ?_⟩
    · have := h x hx
      unfold leftB at this
      cases hb : borneB l x
      · simp [hb, hxe] at this
      · rfl
    · unfold leftB at hl
      simp [he] at hl
      rw [h x hx hl.1] at hl
      simp at hl
  have h1 := h 1 (by decide)
  have h3 := h 3 (by decide)
  rw [Bool.eq_iff_iff, Bool.and_eq_true, h1, h3]
  simp only [Bool.not_eq_true', List.any_eq_false, List.mem_filter]
  refine ⟨fun ⟨a, b⟩ x ⟨hx, hl⟩ hh => ?_, fun g => ⟨fun x hx hxe => ?_, fun x hx hxe => ?_⟩⟩
  · unfold leftB at hl
    unfold hardB at hh
    simp at hl hh
    rcases hh with hh | hh
    · rw [a x hx hh] at hl; cases hl
    · rw [b x hx hh] at hl; cases hl
  · cases hb : borneB l x
    · exact absurd (show hardB x = true by simp [hardB, hxe]) (g x ⟨hx, by simp [leftB, hb]⟩)
    · rfl
  · cases hb : borneB l x
    · exact absurd (show hardB x = true by simp [hardB, hxe]) (g x ⟨hx, by simp [leftB, hb]⟩)
    · rfl
theorem hard_cases (x : Tnt) : ((x.eff == 1) = true ∧ hardB x = true) ∨ ((x.eff == 1) = false ∧ (x.eff == 3) = true ∧ hardB x = true) ∨ ((x.eff == 1) = false ∧ (x.eff == 3) = false ∧ hardB x = false) := by
  unfold hardB
  by_cases h1 : x.eff = 1 <;> by_cases h3 : x.eff = 3 <;> simp [h1, h3]

end Tn
end Go.Proofs.Ythbpnfpalcgfeaa
namespace Go.Proofs.Ythbpnfpalcgfeaa
namespace Lb
set_option linter.unusedSimpArgs false
open Go.RowKit
set_option linter.unusedVariables false

def intB (v x : Int) : Bool := v == x
set_option maxRecDepth 100000 in
set_option maxHeartbeats 4000000 in
theorem indexi_any (c : Option Addr) (kc : Nat) (l : List Int) (v : Int) (w : World) (hF : PrtL w c l) (hm : l.length ≤ 1000000) :
    Calls Try.prog 119 #[.slice c l.length kc, .int .i64 v] w fun e w' => e = .returned (.int .i64 (idxI (intB v) l)) ∧ Below w.heap.size w w' := by
  have HF := Lib.hid hF
  clear hF
  obtain ⟨n, hln⟩ : ∃ n, l.length = n := ⟨_, rfl⟩
  rw [hln] at hm ⊢
  have Hln := Lib.hid hln
  clear hln
  go_enter Try.func119, Try.ntmps119
  go_wp2
  go_loopw [8] (fun i wr => ∃ k : Nat, k ≤ n ∧ i = .int .i64 k ∧ (l.take k).any (intB v) = false ∧ Below w.heap.size w wr) (fun i _ => n - (intOf i).toNat)
  case atStart => exact ⟨0, by omega, rfl, rfl, by (repeat' (first | with_reducible exact Below.refl _ _ | with_reducible assumption | with_reducible refine Below.drew ?_ | with_reducible refine below_drewN' ?_ _ | with_reducible refine Below.alloc ?_ ?_ _ | with_reducible refine Below.setCell ?_ ?_ _ | with_reducible refine below_step (by assumption) ?_ ?_ | omega | (simp; done) | (simp; omega)))⟩
  case round =>
    obtain ⟨k, hk, rfl, hE, hB⟩ := hrel
    obtain ⟨hcB, hfB⟩ := bcell hB
    have hbz := hB.size
    have HE := Lib.hid hE
    have HB := Lib.hid hB
    clear hE
    by_cases hlt : k < n
    · obtain ⟨x, hx⟩ := mem_at (l := l) (k := k) (by rw [Hln.out]; exact hlt)
      obtain ⟨b, off, rfl, hb, hc⟩ := HF.out (by rw [Hln.out]; omega)
      have hbw : b < wr.heap.size := by omega
      have c0 := hc k x hx 0 (by decide)
      dsimp only [pcs, List.getElem?_cons_zero] at c0
      rw [Nat.mul_one, Nat.add_zero] at c0
      have Hx := Lib.hid hx
      clear hc hx
      cases hv : intB v x
      · have Hs := Lib.hid (any_take1 (P := intB v) Hx.out hv HE.out)
        have k1 : (v == x) = false := hv
        clear hv
        go_wp2
        go_roundw
        case rel => exact ⟨k + 1, by omega, by go_num, Hs.out, by (repeat' (first | with_reducible exact Below.refl _ _ | with_reducible assumption | with_reducible refine Below.drew ?_ | with_reducible refine below_drewN' ?_ _ | with_reducible refine Below.alloc ?_ ?_ _ | with_reducible refine Below.setCell ?_ ?_ _ | with_reducible refine below_step (by assumption) ?_ ?_ | omega | (simp; done) | (simp; omega)))⟩
        case measure => simp [intOf]; omega
      · have Hs := Lib.hid (idx_at (p := intB v) Hx.out HE.out hv)
        have k1 : (v == x) = true := hv
        clear hv
        go_wp2
        go_ret
        exact ⟨by rw [Hs.out]; rfl, by (repeat' (first | with_reducible exact Below.refl _ _ | with_reducible assumption | with_reducible refine Below.drew ?_ | with_reducible refine below_drewN' ?_ _ | with_reducible refine Below.alloc ?_ ?_ _ | with_reducible refine Below.setCell ?_ ?_ _ | with_reducible refine below_step (by assumption) ?_ ?_ | omega | (simp; done) | (simp; omega)))⟩
    · obtain rfl : k = n := by omega
      have Hs := Lib.hid (idx_no (p := intB v) Hln.out HE.out)
      go_wp2
      go_ret
      exact ⟨by rw [Hs.out]; rfl, by (repeat' (first | with_reducible exact Below.refl _ _ | with_reducible assumption | with_reducible refine Below.drew ?_ | with_reducible refine below_drewN' ?_ _ | with_reducible refine Below.alloc ?_ ?_ _ | with_reducible refine Below.setCell ?_ ?_ _ | with_reducible refine below_step (by assumption) ?_ ?_ | omega | (simp; done) | (simp; omega)))⟩

set_option maxRecDepth 100000 in
theorem containsi_any (c : Option Addr) (kc : Nat) (l : List Int) (v : Int) (w : World) (hF : PrtL w c l) (hm : l.length ≤ 1000000) :
    Calls Try.prog 96 #[.slice c l.length kc, .int .i64 v] w fun e w' => e = .returned (.bool (l.any (intB v))) ∧ Below w.heap.size w w' := by
  rw [← idx_geq]
  have A := fun V (h : PrtL V c l) => indexi_any c kc l v V h hm
  obtain ⟨i, hi⟩ : ∃ i, idxI (intB v) l = i := ⟨_, rfl⟩
  rw [hi]
  simp only [hi] at A
  clear hi
  have HA := Lib.hid A
  clear A
  go_enter Try.func96, Try.ntmps96
  go_wp2_with (go_at_call 119; (with_reducible refine (HA.out _ (hF.mono (by (repeat' (first | with_reducible exact Below.refl _ _ | with_reducible assumption | with_reducible refine Below.drew ?_ | with_reducible refine below_drewN' ?_ _ | with_reducible refine Below.alloc ?_ ?_ _ | with_reducible refine Below.setCell ?_ ?_ _ | with_reducible refine below_step (by assumption) ?_ ?_ | omega | (simp; done) | (simp; omega)))))).mono ?_); rintro e w1 ⟨rfl, hb1⟩; have hz1 := hb1.size; (try simp at hz1))
  go_ret
  exact ⟨by first | rfl | simp, by (repeat' (first | with_reducible exact Below.refl _ _ | with_reducible assumption | with_reducible refine Below.drew ?_ | with_reducible refine below_drewN' ?_ _ | with_reducible refine Below.alloc ?_ ?_ _ | with_reducible refine Below.setCell ?_ ?_ _ | with_reducible refine below_step (by assumption) ?_ ?_ | omega | (simp; done) | (simp; omega)))⟩
end Lb
end Go.Proofs.Ythbpnfpalcgfeaa
namespace Go.Proofs.Ythbpnfpalcgfeaa
open Go.RowKit
set_option linter.unusedVariables false
set_option linter.unusedSimpArgs false

/-- A machine and a pod, each in a block of its own. -/
structure MP (w : World) (X : Nat) (m : Mac) (p : Pd) (V : World) : Prop where
  xm : Box X (mrow m) V
  xp : Box (X + 1) (prow p) V
  ma : MacAt V m
  pa : PodAt V p
  bl : Below w.heap.size w V
theorem MP.mono {w V V' : World} {X : Nat} {m : Mac} {p : Pd} (h : MP w X m p V) (hb : Below V.heap.size V V') : MP w X m p V' :=
  ⟨h.xm.mono hb, h.xp.mono hb, h.ma.mono hb, h.pa.mono hb, h.bl.trans (hb.mono h.bl.size)⟩
theorem MP.new {w : World} {m : Mac} {p : Pd} (hm : MacAt w m) (hp : PodAt w p) : MP w w.heap.size m p ((w.alloc (.cells (mrow m).toArray 35)).alloc (.cells (prow p).toArray 47)) := by
  have h1 : Below w.heap.size w (w.alloc (.cells (mrow m).toArray 35)) := (Below.refl _ w).alloc (Nat.le_refl _) _
  have h2 : Below (w.alloc (.cells (mrow m).toArray 35)).heap.size (w.alloc (.cells (mrow m).toArray 35)) ((w.alloc (.cells (mrow m).toArray 35)).alloc (.cells (prow p).toArray 47)) := (Below.refl _ _).alloc (Nat.le_refl _) _
  refine ⟨(Box.new w (mrow m) 35).mono h2, ?_, (hm.mono h1).mono h2, (hp.mono h1).mono h2, h1.trans (h2.mono h1.size)⟩
  have h9 := Box.new (w.alloc (.cells (mrow m).toArray 35)) (prow p) 47
  rw [World.size_alloc] at h9
  exact h9
/-- Why a pod may not be on a machine. -/
def placeS (m : Mac) (p : Pd) : Int := if m.rd = false then 1 else if Lb.hasP m.labs p.sels = false then 4 else if p.trms.all (Lb.meetP m.labs) = false then 5 else if Tn.allowsB p.bers m.tnts = false then 6 else 0
structure LtM (m : Mac) : Prop where
  nm : m.nm.size ≤ 300
  ll : m.labs.length ≤ 40
  ls : ∀ x ∈ m.labs, x.key.size ≤ 300 ∧ x.val.size ≤ 300
  tl : m.tnts.length ≤ 1000000
theorem lightM_iff {m : Mac} (h : lightM m = true) : LtM m := by
  unfold lightM at h
  simp only [Bool.and_eq_true, decide_eq_true_eq] at h
  refine ⟨h.1.1.1, ((lightL_iff _).1 h.1.2).1, ((lightL_iff _).1 h.1.2).2, ?_⟩
  have h9 := h.2
  unfold lightB at h9
  simp only [Bool.and_eq_true, decide_eq_true_eq] at h9
  omega

set_option maxRecDepth 100000 in
set_option maxHeartbeats 4000000 in
theorem splace_any (m : Mac) (p : Pd) (w : World) (hM : MacAt w m) (hP : PodAt w p) (hm : lightM m = true) (hp : lightP p = true) :
    Calls Try.prog 31 #[.agg (mrow m).toArray, .agg (prow p).toArray] w fun e w' => e = .returned (.int .i64 (placeS m p)) ∧ Below w.heap.size w w' := by
  have hLm := lightM_iff hm
  have hLp := lightP_iff hp
  obtain ⟨R, hR⟩ : ∃ R, placeS m p = R := ⟨_, rfl⟩
  rw [hR]
  unfold placeS at hR
  obtain ⟨b1, h1⟩ : ∃ b, Lb.hasP m.labs p.sels = b := ⟨_, rfl⟩
  obtain ⟨b2, h2⟩ : ∃ b, p.trms.all (Lb.meetP m.labs) = b := ⟨_, rfl⟩
  obtain ⟨b3, h3⟩ : ∃ b, Tn.allowsB p.bers m.tnts = b := ⟨_, rfl⟩
  rw [h1, h2, h3] at hR
  have hc1 := fun V (h : MP w w.heap.size m p V) => Lb.has_any m.la p.sa m.lk p.sk m.labs p.sels V h.ma.labs h.pa.sels (by have := hLm.ll; omega) (by have := ((lightL_iff _).1 hLp.l1).1; omega)
  have hc2 := fun V (h : MP w w.heap.size m p V) => Lb.all_any2 m.la p.ta m.lk p.tk m.labs p.trms V h.ma.labs h.pa.trms h.pa.trmA (by have := hLm.ll; omega) (by have := hLp.tl; omega) (fun t ht => by have := (Lb.lightTm_ok (hLp.tt t ht)).1; omega) (fun x hx => by have := (hLm.ls x hx).2; omega) (fun t ht v hv => by have := (Lb.lightTm_ok (hLp.tt t ht)).2.2 v hv; omega)
  have hc3 := fun V (h : MP w w.heap.size m p V) => Tn.allows_any p.ba m.ta p.bk m.tk p.bers m.tnts V h.pa.bers (ber_sz hLp.bl).1 h.ma.tnts hLm.tl
  rw [h1] at hc1
  rw [h2] at hc2
  rw [h3] at hc3
  obtain ⟨W, hW⟩ : ∃ W, W = (w.alloc (.cells (mrow m).toArray 35)).alloc (.cells (prow p).toArray 47) := ⟨_, rfl⟩
  have H0 := Lib.hid (show MP w w.heap.size m p W by rw [hW]; exact MP.new hM hP)
  clear h1 h2 h3 hM hP hm hp hLm hLp
  obtain ⟨mn, mg, r0, r1, r2, r3, r4, ma, mk, ML, mta, mtk, MT, rd⟩ := m
  obtain ⟨nm, n0, n1, n2, n3, n4, la, lk, L, sa, sk, S, ta, tk, T, ba, bk, B, pa, pk, P, aa, ak, A, wd, da, dk, D, sw, rk, ow, dm, pn, lc⟩ := p
  have H1 := Lib.hid hc1
  have H2 := Lib.hid hc2
  have H3 := Lib.hid hc3
  clear hc1 hc2 hc3
  replace hW : W = (w.alloc (.cells #[.string mn, .string mg, .int .i64 r0, .int .i64 r1, .int .i64 r2, .int .i64 r3, .int .i64 r4, .slice ma ML.length mk, .slice mta MT.length mtk, .bool rd] 35)).alloc (.cells #[.string nm, .int .i64 n0, .int .i64 n1, .int .i64 n2, .int .i64 n3, .int .i64 n4, .slice la L.length lk, .slice sa S.length sk, .slice ta T.length tk, .slice ba B.length bk, .slice pa P.length pk, .slice aa A.length ak, .bool wd, .slice da D.length dk, .int .i64 sw, .int .i64 rk, .string ow, .bool dm, .bool pn, .bool lc] 47) := hW
  show Calls Try.prog 31 #[.agg #[.string mn, .string mg, .int .i64 r0, .int .i64 r1, .int .i64 r2, .int .i64 r3, .int .i64 r4, .slice ma ML.length mk, .slice mta MT.length mtk, .bool rd], .agg #[.string nm, .int .i64 n0, .int .i64 n1, .int .i64 n2, .int .i64 n3, .int .i64 n4, .slice la L.length lk, .slice sa S.length sk, .slice ta T.length tk, .slice ba B.length bk, .slice pa P.length pk, .slice aa A.length ak, .bool wd, .slice da D.length dk, .int .i64 sw, .int .i64 rk, .string ow, .bool dm, .bool pn, .bool lc]] w _
  dsimp only at hR
  cases rd with
  | false =>
    obtain rfl : R = 1 := by rw [← hR]; rfl
    clear hR
    go_enter Try.func31, Try.ntmps31
    go_upto_region 1 with (fail)
    rw [← hW]
    clear hW
    have hxm : ∀ i, W.cell? ⟨w.heap.size, i, none⟩ = [.string mn, .string mg, .int .i64 r0, .int .i64 r1, .int .i64 r2, .int .i64 r3, .int .i64 r4, .slice ma ML.length mk, .slice mta MT.length mtk, .bool false][i]? := H0.out.xm.cell
    have hxp : ∀ i, W.cell? ⟨w.heap.size + 1, i, none⟩ = [.string nm, .int .i64 n0, .int .i64 n1, .int .i64 n2, .int .i64 n3, .int .i64 n4, .slice la L.length lk, .slice sa S.length sk, .slice ta T.length tk, .slice ba B.length bk, .slice pa P.length pk, .slice aa A.length ak, .bool wd, .slice da D.length dk, .int .i64 sw, .int .i64 rk, .string ow, .bool dm, .bool pn, .bool lc][i]? := H0.out.xp.cell
    have hlm := H0.out.xm.lt
    have hlp := H0.out.xp.lt
    go_wp2_with (first
      | (go_at_call 67; (with_reducible refine (H1.out _ H0.out).mono ?_); rintro e w1 ⟨rfl, hb⟩; have H01 := Lib.hid (H0.out.mono hb); clear hb; have hym : ∀ i, w1.cell? ⟨w.heap.size, i, none⟩ = [.string mn, .string mg, .int .i64 r0, .int .i64 r1, .int .i64 r2, .int .i64 r3, .int .i64 r4, .slice ma ML.length mk, .slice mta MT.length mtk, .bool false][i]? := H01.out.xm.cell; have hyp : ∀ i, w1.cell? ⟨w.heap.size + 1, i, none⟩ = [.string nm, .int .i64 n0, .int .i64 n1, .int .i64 n2, .int .i64 n3, .int .i64 n4, .slice la L.length lk, .slice sa S.length sk, .slice ta T.length tk, .slice ba B.length bk, .slice pa P.length pk, .slice aa A.length ak, .bool wd, .slice da D.length dk, .int .i64 sw, .int .i64 rk, .string ow, .bool dm, .bool pn, .bool lc][i]? := H01.out.xp.cell; have hkm := H01.out.xm.lt; have hkp := H01.out.xp.lt; clear hxm hxp hlm hlp)
      | (go_at_call 68; (with_reducible refine (H2.out _ H01.out).mono ?_); rintro e w2 ⟨rfl, hb⟩; have H02 := Lib.hid (H01.out.mono hb); clear hb; have hzm : ∀ i, w2.cell? ⟨w.heap.size, i, none⟩ = [.string mn, .string mg, .int .i64 r0, .int .i64 r1, .int .i64 r2, .int .i64 r3, .int .i64 r4, .slice ma ML.length mk, .slice mta MT.length mtk, .bool false][i]? := H02.out.xm.cell; have hzp : ∀ i, w2.cell? ⟨w.heap.size + 1, i, none⟩ = [.string nm, .int .i64 n0, .int .i64 n1, .int .i64 n2, .int .i64 n3, .int .i64 n4, .slice la L.length lk, .slice sa S.length sk, .slice ta T.length tk, .slice ba B.length bk, .slice pa P.length pk, .slice aa A.length ak, .bool wd, .slice da D.length dk, .int .i64 sw, .int .i64 rk, .string ow, .bool dm, .bool pn, .bool lc][i]? := H02.out.xp.cell; have hjm := H02.out.xm.lt; have hjp := H02.out.xp.lt; clear hym hyp hkm hkp)
      | (go_at_call 69; (with_reducible refine (H3.out _ H02.out).mono ?_); rintro e w3 ⟨rfl, hb⟩; have H03 := Lib.hid (H02.out.mono hb); clear hb))
    go_ret
    exact ⟨rfl, by first | exact H03.out.bl | exact H02.out.bl | exact H01.out.bl | exact H0.out.bl⟩
  | true =>
    cases b1 with
    | false =>
      obtain rfl : R = 4 := by rw [← hR]; rfl
      clear hR
      go_enter Try.func31, Try.ntmps31
      go_upto_region 1 with (fail)
      rw [← hW]
      clear hW
      have hxm : ∀ i, W.cell? ⟨w.heap.size, i, none⟩ = [.string mn, .string mg, .int .i64 r0, .int .i64 r1, .int .i64 r2, .int .i64 r3, .int .i64 r4, .slice ma ML.length mk, .slice mta MT.length mtk, .bool true][i]? := H0.out.xm.cell
      have hxp : ∀ i, W.cell? ⟨w.heap.size + 1, i, none⟩ = [.string nm, .int .i64 n0, .int .i64 n1, .int .i64 n2, .int .i64 n3, .int .i64 n4, .slice la L.length lk, .slice sa S.length sk, .slice ta T.length tk, .slice ba B.length bk, .slice pa P.length pk, .slice aa A.length ak, .bool wd, .slice da D.length dk, .int .i64 sw, .int .i64 rk, .string ow, .bool dm, .bool pn, .bool lc][i]? := H0.out.xp.cell
      have hlm := H0.out.xm.lt
      have hlp := H0.out.xp.lt
      go_wp2_with (first
        | (go_at_call 67; (with_reducible refine (H1.out _ H0.out).mono ?_); rintro e w1 ⟨rfl, hb⟩; have H01 := Lib.hid (H0.out.mono hb); clear hb; have hym : ∀ i, w1.cell? ⟨w.heap.size, i, none⟩ = [.string mn, .string mg, .int .i64 r0, .int .i64 r1, .int .i64 r2, .int .i64 r3, .int .i64 r4, .slice ma ML.length mk, .slice mta MT.length mtk, .bool true][i]? := H01.out.xm.cell; have hyp : ∀ i, w1.cell? ⟨w.heap.size + 1, i, none⟩ = [.string nm, .int .i64 n0, .int .i64 n1, .int .i64 n2, .int .i64 n3, .int .i64 n4, .slice la L.length lk, .slice sa S.length sk, .slice ta T.length tk, .slice ba B.length bk, .slice pa P.length pk, .slice aa A.length ak, .bool wd, .slice da D.length dk, .int .i64 sw, .int .i64 rk, .string ow, .bool dm, .bool pn, .bool lc][i]? := H01.out.xp.cell; have hkm := H01.out.xm.lt; have hkp := H01.out.xp.lt; clear hxm hxp hlm hlp)
        | (go_at_call 68; (with_reducible refine (H2.out _ H01.out).mono ?_); rintro e w2 ⟨rfl, hb⟩; have H02 := Lib.hid (H01.out.mono hb); clear hb; have hzm : ∀ i, w2.cell? ⟨w.heap.size, i, none⟩ = [.string mn, .string mg, .int .i64 r0, .int .i64 r1, .int .i64 r2, .int .i64 r3, .int .i64 r4, .slice ma ML.length mk, .slice mta MT.length mtk, .bool true][i]? := H02.out.xm.cell; have hzp : ∀ i, w2.cell? ⟨w.heap.size + 1, i, none⟩ = [.string nm, .int .i64 n0, .int .i64 n1, .int .i64 n2, .int .i64 n3, .int .i64 n4, .slice la L.length lk, .slice sa S.length sk, .slice ta T.length tk, .slice ba B.length bk, .slice pa P.length pk, .slice aa A.length ak, .bool wd, .slice da D.length dk, .int .i64 sw, .int .i64 rk, .string ow, .bool dm, .bool pn, .bool lc][i]? := H02.out.xp.cell; have hjm := H02.out.xm.lt; have hjp := H02.out.xp.lt; clear hym hyp hkm hkp)
        | (go_at_call 69; (with_reducible refine (H3.out _ H02.out).mono ?_); rintro e w3 ⟨rfl, hb⟩; have H03 := Lib.hid (H02.out.mono hb); clear hb))
      go_ret
      exact ⟨rfl, by first | exact H03.out.bl | exact H02.out.bl | exact H01.out.bl | exact H0.out.bl⟩
    | true =>
      cases b2 with
      | false =>
        obtain rfl : R = 5 := by rw [← hR]; rfl
        clear hR
        go_enter Try.func31, Try.ntmps31
        go_upto_region 1 with (fail)
        rw [← hW]
        clear hW
        have hxm : ∀ i, W.cell? ⟨w.heap.size, i, none⟩ = [.string mn, .string mg, .int .i64 r0, .int .i64 r1, .int .i64 r2, .int .i64 r3, .int .i64 r4, .slice ma ML.length mk, .slice mta MT.length mtk, .bool true][i]? := H0.out.xm.cell
        have hxp : ∀ i, W.cell? ⟨w.heap.size + 1, i, none⟩ = [.string nm, .int .i64 n0, .int .i64 n1, .int .i64 n2, .int .i64 n3, .int .i64 n4, .slice la L.length lk, .slice sa S.length sk, .slice ta T.length tk, .slice ba B.length bk, .slice pa P.length pk, .slice aa A.length ak, .bool wd, .slice da D.length dk, .int .i64 sw, .int .i64 rk, .string ow, .bool dm, .bool pn, .bool lc][i]? := H0.out.xp.cell
        have hlm := H0.out.xm.lt
        have hlp := H0.out.xp.lt
        go_wp2_with (first
          | (go_at_call 67; (with_reducible refine (H1.out _ H0.out).mono ?_); rintro e w1 ⟨rfl, hb⟩; have H01 := Lib.hid (H0.out.mono hb); clear hb; have hym : ∀ i, w1.cell? ⟨w.heap.size, i, none⟩ = [.string mn, .string mg, .int .i64 r0, .int .i64 r1, .int .i64 r2, .int .i64 r3, .int .i64 r4, .slice ma ML.length mk, .slice mta MT.length mtk, .bool true][i]? := H01.out.xm.cell; have hyp : ∀ i, w1.cell? ⟨w.heap.size + 1, i, none⟩ = [.string nm, .int .i64 n0, .int .i64 n1, .int .i64 n2, .int .i64 n3, .int .i64 n4, .slice la L.length lk, .slice sa S.length sk, .slice ta T.length tk, .slice ba B.length bk, .slice pa P.length pk, .slice aa A.length ak, .bool wd, .slice da D.length dk, .int .i64 sw, .int .i64 rk, .string ow, .bool dm, .bool pn, .bool lc][i]? := H01.out.xp.cell; have hkm := H01.out.xm.lt; have hkp := H01.out.xp.lt; clear hxm hxp hlm hlp)
          | (go_at_call 68; (with_reducible refine (H2.out _ H01.out).mono ?_); rintro e w2 ⟨rfl, hb⟩; have H02 := Lib.hid (H01.out.mono hb); clear hb; have hzm : ∀ i, w2.cell? ⟨w.heap.size, i, none⟩ = [.string mn, .string mg, .int .i64 r0, .int .i64 r1, .int .i64 r2, .int .i64 r3, .int .i64 r4, .slice ma ML.length mk, .slice mta MT.length mtk, .bool true][i]? := H02.out.xm.cell; have hzp : ∀ i, w2.cell? ⟨w.heap.size + 1, i, none⟩ = [.string nm, .int .i64 n0, .int .i64 n1, .int .i64 n2, .int .i64 n3, .int .i64 n4, .slice la L.length lk, .slice sa S.length sk, .slice ta T.length tk, .slice ba B.length bk, .slice pa P.length pk, .slice aa A.length ak, .bool wd, .slice da D.length dk, .int .i64 sw, .int .i64 rk, .string ow, .bool dm, .bool pn, .bool lc][i]? := H02.out.xp.cell; have hjm := H02.out.xm.lt; have hjp := H02.out.xp.lt; clear hym hyp hkm hkp)
          | (go_at_call 69; (with_reducible refine (H3.out _ H02.out).mono ?_); rintro e w3 ⟨rfl, hb⟩; have H03 := Lib.hid (H02.out.mono hb); clear hb))
        go_ret
        exact ⟨rfl, by first | exact H03.out.bl | exact H02.out.bl | exact H01.out.bl | exact H0.out.bl⟩
      | true =>
        cases b3 with
        | false =>
          obtain rfl : R = 6 := by rw [← hR]; rfl
          clear hR
          go_enter Try.func31, Try.ntmps31
          go_upto_region 1 with (fail)
          rw [← hW]
          clear hW
          have hxm : ∀ i, W.cell? ⟨w.heap.size, i, none⟩ = [.string mn, .string mg, .int .i64 r0, .int .i64 r1, .int .i64 r2, .int .i64 r3, .int .i64 r4, .slice ma ML.length mk, .slice mta MT.length mtk, .bool true][i]? := H0.out.xm.cell
          have hxp : ∀ i, W.cell? ⟨w.heap.size + 1, i, none⟩ = [.string nm, .int .i64 n0, .int .i64 n1, .int .i64 n2, .int .i64 n3, .int .i64 n4, .slice la L.length lk, .slice sa S.length sk, .slice ta T.length tk, .slice ba B.length bk, .slice pa P.length pk, .slice aa A.length ak, .bool wd, .slice da D.length dk, .int .i64 sw, .int .i64 rk, .string ow, .bool dm, .bool pn, .bool lc][i]? := H0.out.xp.cell
          have hlm := H0.out.xm.lt
          have hlp := H0.out.xp.lt
          go_wp2_with (first
            | (go_at_call 67; (with_reducible refine (H1.out _ H0.out).mono ?_); rintro e w1 ⟨rfl, hb⟩; have H01 := Lib.hid (H0.out.mono hb); clear hb; have hym : ∀ i, w1.cell? ⟨w.heap.size, i, none⟩ = [.string mn, .string mg, .int .i64 r0, .int .i64 r1, .int .i64 r2, .int .i64 r3, .int .i64 r4, .slice ma ML.length mk, .slice mta MT.length mtk, .bool true][i]? := H01.out.xm.cell; have hyp : ∀ i, w1.cell? ⟨w.heap.size + 1, i, none⟩ = [.string nm, .int .i64 n0, .int .i64 n1, .int .i64 n2, .int .i64 n3, .int .i64 n4, .slice la L.length lk, .slice sa S.length sk, .slice ta T.length tk, .slice ba B.length bk, .slice pa P.length pk, .slice aa A.length ak, .bool wd, .slice da D.length dk, .int .i64 sw, .int .i64 rk, .string ow, .bool dm, .bool pn, .bool lc][i]? := H01.out.xp.cell; have hkm := H01.out.xm.lt; have hkp := H01.out.xp.lt; clear hxm hxp hlm hlp)
            | (go_at_call 68; (with_reducible refine (H2.out _ H01.out).mono ?_); rintro e w2 ⟨rfl, hb⟩; have H02 := Lib.hid (H01.out.mono hb); clear hb; have hzm : ∀ i, w2.cell? ⟨w.heap.size, i, none⟩ = [.string mn, .string mg, .int .i64 r0, .int .i64 r1, .int .i64 r2, .int .i64 r3, .int .i64 r4, .slice ma ML.length mk, .slice mta MT.length mtk, .bool true][i]? := H02.out.xm.cell; have hzp : ∀ i, w2.cell? ⟨w.heap.size + 1, i, none⟩ = [.string nm, .int .i64 n0, .int .i64 n1, .int .i64 n2, .int .i64 n3, .int .i64 n4, .slice la L.length lk, .slice sa S.length sk, .slice ta T.length tk, .slice ba B.length bk, .slice pa P.length pk, .slice aa A.length ak, .bool wd, .slice da D.length dk, .int .i64 sw, .int .i64 rk, .string ow, .bool dm, .bool pn, .bool lc][i]? := H02.out.xp.cell; have hjm := H02.out.xm.lt; have hjp := H02.out.xp.lt; clear hym hyp hkm hkp)
            | (go_at_call 69; (with_reducible refine (H3.out _ H02.out).mono ?_); rintro e w3 ⟨rfl, hb⟩; have H03 := Lib.hid (H02.out.mono hb); clear hb))
          go_ret
          exact ⟨rfl, by first | exact H03.out.bl | exact H02.out.bl | exact H01.out.bl | exact H0.out.bl⟩
        | true =>
          obtain rfl : R = 0 := by rw [← hR]; rfl
          clear hR
          go_enter Try.func31, Try.ntmps31
          go_upto_region 1 with (fail)
          rw [← hW]
          clear hW
          have hxm : ∀ i, W.cell? ⟨w.heap.size, i, none⟩ = [.string mn, .string mg, .int .i64 r0, .int .i64 r1, .int .i64 r2, .int .i64 r3, .int .i64 r4, .slice ma ML.length mk, .slice mta MT.length mtk, .bool true][i]? := H0.out.xm.cell
          have hxp : ∀ i, W.cell? ⟨w.heap.size + 1, i, none⟩ = [.string nm, .int .i64 n0, .int .i64 n1, .int .i64 n2, .int .i64 n3, .int .i64 n4, .slice la L.length lk, .slice sa S.length sk, .slice ta T.length tk, .slice ba B.length bk, .slice pa P.length pk, .slice aa A.length ak, .bool wd, .slice da D.length dk, .int .i64 sw, .int .i64 rk, .string ow, .bool dm, .bool pn, .bool lc][i]? := H0.out.xp.cell
          have hlm := H0.out.xm.lt
          have hlp := H0.out.xp.lt
          go_wp2_with (first
            | (go_at_call 67; (with_reducible refine (H1.out _ H0.out).mono ?_); rintro e w1 ⟨rfl, hb⟩; have H01 := Lib.hid (H0.out.mono hb); clear hb; have hym : ∀ i, w1.cell? ⟨w.heap.size, i, none⟩ = [.string mn, .string mg, .int .i64 r0, .int .i64 r1, .int .i64 r2, .int .i64 r3, .int .i64 r4, .slice ma ML.length mk, .slice mta MT.length mtk, .bool true][i]? := H01.out.xm.cell; have hyp : ∀ i, w1.cell? ⟨w.heap.size + 1, i, none⟩ = [.string nm, .int .i64 n0, .int .i64 n1, .int .i64 n2, .int .i64 n3, .int .i64 n4, .slice la L.length lk, .slice sa S.length sk, .slice ta T.length tk, .slice ba B.length bk, .slice pa P.length pk, .slice aa A.length ak, .bool wd, .slice da D.length dk, .int .i64 sw, .int .i64 rk, .string ow, .bool dm, .bool pn, .bool lc][i]? := H01.out.xp.cell; have hkm := H01.out.xm.lt; have hkp := H01.out.xp.lt; clear hxm hxp hlm hlp)
            | (go_at_call 68; (with_reducible refine (H2.out _ H01.out).mono ?_); rintro e w2 ⟨rfl, hb⟩; have H02 := Lib.hid (H01.out.mono hb); clear hb; have hzm : ∀ i, w2.cell? ⟨w.heap.size, i, none⟩ = [.string mn, .string mg, .int .i64 r0, .int .i64 r1, .int .i64 r2, .int .i64 r3, .int .i64 r4, .slice ma ML.length mk, .slice mta MT.length mtk, .bool true][i]? := H02.out.xm.cell; have hzp : ∀ i, w2.cell? ⟨w.heap.size + 1, i, none⟩ = [.string nm, .int .i64 n0, .int .i64 n1, .int .i64 n2, .int .i64 n3, .int .i64 n4, .slice la L.length lk, .slice sa S.length sk, .slice ta T.length tk, .slice ba B.length bk, .slice pa P.length pk, .slice aa A.length ak, .bool wd, .slice da D.length dk, .int .i64 sw, .int .i64 rk, .string ow, .bool dm, .bool pn, .bool lc][i]? := H02.out.xp.cell; have hjm := H02.out.xm.lt; have hjp := H02.out.xp.lt; clear hym hyp hkm hkp)
            | (go_at_call 69; (with_reducible refine (H3.out _ H02.out).mono ?_); rintro e w3 ⟨rfl, hb⟩; have H03 := Lib.hid (H02.out.mono hb); clear hb))
          go_ret
          exact ⟨rfl, by first | exact H03.out.bl | exact H02.out.bl | exact H01.out.bl | exact H0.out.bl⟩
/-- How many taints would rather keep it away. -/
def prefS (m : Mac) (p : Pd) : Nat := (Tn.unborneL p.bers m.tnts 2).length
set_option maxRecDepth 100000 in
set_option maxHeartbeats 4000000 in
theorem sprefers_any (m : Mac) (p : Pd) (w : World) (hM : MacAt w m) (hP : PodAt w p) (hm : lightM m = true) (hp : lightP p = true) :
    Calls Try.prog 32 #[.agg (mrow m).toArray, .agg (prow p).toArray] w fun e w' => e = .returned (.int .i64 (prefS m p)) ∧ Below w.heap.size w w' := by
  have hLm := lightM_iff hm
  have hLp := lightP_iff hp
  have hc3 := fun V (h : MP w w.heap.size m p V) => Tn.prefers_any p.ba m.ta p.bk m.tk p.bers m.tnts V h.pa.bers (ber_sz hLp.bl).1 h.ma.tnts hLm.tl
  obtain ⟨R, hR⟩ : ∃ R, prefS m p = R := ⟨_, rfl⟩
  rw [hR]
  unfold prefS at hR
  rw [hR] at hc3
  obtain ⟨W, hW⟩ : ∃ W, W = (w.alloc (.cells (mrow m).toArray 35)).alloc (.cells (prow p).toArray 47) := ⟨_, rfl⟩
  have H0 := Lib.hid (show MP w w.heap.size m p W by rw [hW]; exact MP.new hM hP)
  clear hM hP hm hp hLm hLp hR
  obtain ⟨mn, mg, r0, r1, r2, r3, r4, ma, mk, ML, mta, mtk, MT, rd⟩ := m
  obtain ⟨nm, n0, n1, n2, n3, n4, la, lk, L, sa, sk, S, ta, tk, T, ba, bk, B, pa, pk, P, aa, ak, A, wd, da, dk, D, sw, rk, ow, dm, pn, lc⟩ := p
  have H3 := Lib.hid hc3
  clear hc3
  replace hW : W = (w.alloc (.cells #[.string mn, .string mg, .int .i64 r0, .int .i64 r1, .int .i64 r2, .int .i64 r3, .int .i64 r4, .slice ma ML.length mk, .slice mta MT.length mtk, .bool rd] 35)).alloc (.cells #[.string nm, .int .i64 n0, .int .i64 n1, .int .i64 n2, .int .i64 n3, .int .i64 n4, .slice la L.length lk, .slice sa S.length sk, .slice ta T.length tk, .slice ba B.length bk, .slice pa P.length pk, .slice aa A.length ak, .bool wd, .slice da D.length dk, .int .i64 sw, .int .i64 rk, .string ow, .bool dm, .bool pn, .bool lc] 47) := hW
  show Calls Try.prog 32 #[.agg #[.string mn, .string mg, .int .i64 r0, .int .i64 r1, .int .i64 r2, .int .i64 r3, .int .i64 r4, .slice ma ML.length mk, .slice mta MT.length mtk, .bool rd], .agg #[.string nm, .int .i64 n0, .int .i64 n1, .int .i64 n2, .int .i64 n3, .int .i64 n4, .slice la L.length lk, .slice sa S.length sk, .slice ta T.length tk, .slice ba B.length bk, .slice pa P.length pk, .slice aa A.length ak, .bool wd, .slice da D.length dk, .int .i64 sw, .int .i64 rk, .string ow, .bool dm, .bool pn, .bool lc]] w _
  go_enter Try.func32, Try.ntmps32
  go_upto_region 1 with (fail)
  rw [← hW]
  clear hW
  have hxm : ∀ i, W.cell? ⟨w.heap.size, i, none⟩ = [.string mn, .string mg, .int .i64 r0, .int .i64 r1, .int .i64 r2, .int .i64 r3, .int .i64 r4, .slice ma ML.length mk, .slice mta MT.length mtk, .bool rd][i]? := H0.out.xm.cell
  have hxp : ∀ i, W.cell? ⟨w.heap.size + 1, i, none⟩ = [.string nm, .int .i64 n0, .int .i64 n1, .int .i64 n2, .int .i64 n3, .int .i64 n4, .slice la L.length lk, .slice sa S.length sk, .slice ta T.length tk, .slice ba B.length bk, .slice pa P.length pk, .slice aa A.length ak, .bool wd, .slice da D.length dk, .int .i64 sw, .int .i64 rk, .string ow, .bool dm, .bool pn, .bool lc][i]? := H0.out.xp.cell
  have hlm := H0.out.xm.lt
  have hlp := H0.out.xp.lt
  go_wp2_with (go_at_call 70; (with_reducible refine (H3.out _ H0.out).mono ?_); rintro e w3 ⟨rfl, hb⟩; have H03 := Lib.hid (H0.out.mono hb); clear hb)
  go_ret
  exact ⟨rfl, H03.out.bl⟩
end Go.Proofs.Ythbpnfpalcgfeaa
namespace Go.Proofs.Ythbpnfpalcgfeaa
open Go.RowKit
set_option linter.unusedVariables false
set_option linter.unusedSimpArgs false

theorem Try.info56 : (Try.prog.info? 56).map (fun i => (i.zero, i.size, i.bytes)) = some (some (.agg #[.string ⟨#[]⟩, .int .i64 0, .int .i64 0, .int .i64 0, .int .i64 0, .int .i64 0, .slice none 0 0, .slice none 0 0, .slice none 0 0, .slice none 0 0, .slice none 0 0, .slice none 0 0, .bool false, .slice none 0 0, .int .i64 0, .int .i64 0, .string ⟨#[]⟩, .bool false, .bool false, .bool false, .string ⟨#[]⟩]), 21, 288) := by kernel_rfl
/-- The pods on a machine but one. -/
def othB (mm nm : ByteArray) (b : Bd) : Bool := decide (b.on = mm) && !decide (b.p.nm = nm)
def othL (bs : List Bd) (mm nm : ByteArray) : List Bd := bs.filter (othB mm nm)
theorem othL_next {bs : List Bd} {k : Nat} {b : Bd} (h : bs[k]? = some b) (mm nm : ByteArray) : othL (bs.take (k + 1)) mm nm = othL (bs.take k) mm nm ++ (if othB mm nm b = true then [b] else []) := by
  unfold othL
  rw [List.take_add_one, h, List.filter_append]
  congr 1
  show List.filter (othB mm nm) [b] = _
  rw [List.filter_cons]
  split <;> rfl
theorem othL_len (bs : List Bd) (mm nm : ByteArray) : (othL bs mm nm).length ≤ bs.length := List.length_filter_le _ _
def GivesB (w : World) (L : List Bd) (e : Ending) (w' : World) : Prop := (∃ v, e = .returned v ∧ w'.ownsRow w.heap.size 56 21 v L.length (L.flatMap brow)) ∧ Below w.heap.size w w'
theorem brow_one (b : Bd) : ∀ u ∈ brow b, u.oneCell' = true := by
  intro u hu
  unfold brow at hu
  rw [List.mem_append] at hu
  rcases hu with hu | hu
  · exact prow_one b.p u hu
  · rw [List.mem_singleton] at hu
    subst hu
    rfl
theorem list21 {l : List Value} (h : l.length = 21) : ∃ x0 x1 x2 x3 x4 x5 x6 x7 x8 x9 y0 y1 y2 y3 y4 y5 y6 y7 y8 y9 z0, l = [x0, x1, x2, x3, x4, x5, x6, x7, x8, x9, y0, y1, y2, y3, y4, y5, y6, y7, y8, y9, z0] := by
  match l, h with
  | [x0, x1, x2, x3, x4, x5, x6, x7, x8, x9, y0, y1, y2, y3, y4, y5, y6, y7, y8, y9, z0], _ => exact ⟨x0, x1, x2, x3, x4, x5, x6, x7, x8, x9, y0, y1, y2, y3, y4, y5, y6, y7, y8, y9, z0, rfl⟩
set_option maxRecDepth 100000 in
set_option maxHeartbeats 4000000 in
theorem swithout_any (a : Option Addr) (ka : Nat) (bs : List Bd) (mm nn : ByteArray) (w : World) (hF : BndL w a bs) (hl : bs.length ≤ 1000000) :
    Calls Try.prog 71 #[.slice a bs.length ka, .string mm, .string nn] w (GivesB w (othL bs mm nn)) := by
  obtain ⟨n, hn⟩ : ∃ n, bs.length = n := ⟨_, rfl⟩
  have HN := Lib.hid hn
  have HF := Lib.hid hF
  rw [hn] at hl ⊢
  clear hn hF
  obtain ⟨i0, hi, hz0, hz1, hz2⟩ := info_parts Try.info56
  have Hi := Lib.hid hi
  have Hz0 := Lib.hid hz0
  have Hz1 := Lib.hid hz1
  have Hz2 := Lib.hid hz2
  clear hi hz0 hz1 hz2
  go_enter Try.func71, Try.ntmps71
  go_wp2
  go_loopw [7, 11] (fun vo vi wr => ∃ (k : Nat) (Q : List Bd), k ≤ n ∧ vi = .int .i64 k ∧ Q = othL (bs.take k) mm nn ∧ Q.length ≤ k ∧ wr.ownsRow w.heap.size 56 21 vo Q.length (Q.flatMap brow) ∧ Below w.heap.size w wr) (fun _ vi _ => n - (intOf vi).toNat)
  case atStart => exact ⟨0, [], Nat.zero_le _, rfl, rfl, Nat.le_refl _, World.ownsRow_nil _ _ _ _, by (repeat' (first | with_reducible exact Below.refl _ _ | with_reducible assumption | with_reducible refine Below.drew ?_ | with_reducible refine below_drewN' ?_ _ | with_reducible refine Below.alloc ?_ ?_ _ | with_reducible refine Below.setCell ?_ ?_ _ | with_reducible refine below_step (by assumption) ?_ ?_ | omega | (simp; done) | (simp; omega)))⟩
  case round =>
    obtain ⟨k, Q, hk, rfl, hE, hLk, hO, hB⟩ := hrel
    have HE := Lib.hid hE
    have HB := Lib.hid hB
    have HO := Lib.hid hO
    have hbz := hB.size
    obtain ⟨ao, ko, rfl⟩ := own_sl hO
    by_cases hlt : k < n
    · obtain ⟨m, hm⟩ := mem_at (l := bs) (k := k) (by rw [HN.out]; exact hlt)
      obtain ⟨b, o, rfl, hb, hc⟩ := (HF.out.mono hB) (by rw [HN.out]; omega)
      have HRg := Lib.hid (show wr.rangeAt b (o + k * 21) (brow m) from fun j v hj => by rw [hc k m hm j (by have := (List.getElem?_eq_some_iff.1 hj).1; exact this)]; exact hj)
      have c20 : wr.cell? ⟨b, o + k * 21 + 20, none⟩ = some (.string m.on) := hc k m hm 20 (by decide)
      have c0 : wr.cell? ⟨b, o + k * 21, none⟩ = some (.string m.p.nm) := hc k m hm 0 (by decide)
      have hnx := othL_next hm mm nn
      obtain ⟨p, on⟩ := m
      obtain ⟨nm, hnm⟩ : ∃ nm, p.nm = nm := ⟨_, rfl⟩
      dsimp only at c20 c0
      rw [hnm] at c0
      have hob : othB mm nn ⟨p, on⟩ = (decide (on = mm) && !decide (nm = nn)) := by rw [← hnm]; rfl
      rw [hob] at hnx
      clear hnm hob
      by_cases ho : on = mm
      · have q := str_yes ho
        by_cases hx : nm = nn
        · have q2 := str_yes hx
          rw [decide_eq_true ho, decide_eq_true hx, if_neg (by decide), List.append_nil, ← hE] at hnx
          have HNx := Lib.hid hnx.symm
          clear hE hO hB hc hm hnx ho hx
          go_wp2
          go_roundw
          case rel => exact ⟨k + 1, Q, by omega, by go_num, HNx.out, by omega, HO.out, HB.out⟩
          case measure => simp [intOf]; omega
        · have q2 := str_no hx
          rw [decide_eq_true ho, decide_eq_false hx, if_pos (by decide), ← hE] at hnx
          have HNx := Lib.hid hnx
          obtain ⟨pb, hpb⟩ : ∃ pb, (⟨p, on⟩ : Bd) = pb := ⟨_, rfl⟩
          rw [hpb] at HNx HRg
          obtain ⟨rw', hrw⟩ : ∃ r, brow pb = r := ⟨_, rfl⟩
          have HP := Lib.hid hrw
          have hlen : rw'.length = 21 := by rw [← hrw]; rfl
          rw [hrw] at HRg
          clear hE hO hB hc hm hnx ho hx hpb hrw
          obtain ⟨x0, x1, x2, x3, x4, x5, x6, x7, x8, x9, y0, y1, y2, y3, y4, y5, y6, y7, y8, y9, z0, rfl⟩ := list21 hlen
          clear hlen
          go_wp2_with (first
            | ((with_reducible refine at_load (ty := 56) ?_); refine load_cells rfl 56 (.tmp 34) rfl b (o + k * 21) rfl [x0, x1, x2, x3, x4, x5, x6, x7, x8, x9, y0, y1, y2, y3, y4, y5, y6, y7, y8, y9, z0] _ Try.underlying56 rfl (by kernel_rfl) HRg.out ?_)
            | (at_builtin; refine wpList_append_src rfl (.tmp 31) (.tmp 36) 23 rfl w.heap.size 56 i0 _ 21 288 Try.underlying23 Hi.out Hz0.out Hz1.out Hz2.out rfl (by decide) _ Q.length (Q.flatMap brow) rfl (HO.out.alloc _) (some ⟨wr.heap.size, 0, none⟩) 1 1 [x0, x1, x2, x3, x4, x5, x6, x7, x8, x9, y0, y1, y2, y3, y4, y5, y6, y7, y8, y9, z0] rfl rfl (fun q e => by injection e with e; rw [← e]; exact news_at _ _ _) (fun e => by cases e) (HP.out ▸ brow_one pb) (by unfold maxLen; omega) (by omega) (by simp; omega) ?_; intro v6 w6 hown6 hgrow6; obtain ⟨a6, k6, rfl⟩ := own_sl hown6; have HB6 := Lib.hid (own_below (HO.out.alloc _) (HB.out.alloc hbz _) (by simp; omega) hgrow6); have HO6 := Lib.hid hown6; clear hown6 hgrow6))
          go_roundw
          case rel =>
            refine ⟨k + 1, Q ++ [pb], by omega, by go_num, HNx.out.symm, by rw [List.length_append]; show Q.length + 1 ≤ _; omega, ?_, HB6.out⟩
            rw [List.length_append, List.flatMap_append]
            have h9 := HO6.out
            rw [← HP.out] at h9
            simpa using h9
          case measure => simp [intOf]; omega
      · have q := str_no ho
        rw [decide_eq_false ho, if_neg (by simp), List.append_nil, ← hE] at hnx
        have HNx := Lib.hid hnx.symm
        clear hE hO hB hc hm hnx ho
        go_wp2
        go_roundw
        case rel => exact ⟨k + 1, Q, by omega, by go_num, HNx.out, by omega, HO.out, HB.out⟩
        case measure => simp [intOf]; omega
    · obtain rfl : k = n := by omega
      have hL : Q = othL bs mm nn := by rw [hE, List.take_of_length_le (by rw [HN.out]; exact Nat.le_refl _)]
      have HL := Lib.hid hL
      clear hE hO hB hL
      go_wp2
      refine bodyPost_ret (v := .slice ao Q.length ko) (by simp [results, Try.results71, go_sem]) rfl ⟨⟨_, rfl, by rw [← HL.out]; exact HO.out⟩, HB.out⟩
end Go.Proofs.Ythbpnfpalcgfeaa
namespace Go.Proofs.Ythbpnfpalcgfeaa
open Go.RowKit
set_option linter.unusedVariables false
set_option linter.unusedSimpArgs false

def prtIn (PP : List Int) (x : Int) : Bool := PP.any (Lb.intB x)
def prtsIn (PP : List Int) (b : Bd) : Bool := b.p.prts.any (prtIn PP)
/-- Some port of theirs is among these. -/
def shareQ (L : List Bd) (PP : List Int) : Bool := L.any (prtsIn PP)
theorem any_yes {α : Type} {P : α → Bool} {l : List α} {k : Nat} {x : α} (h : l[k]? = some x) (hp : P x = true) : l.any P = true := List.any_eq_true.2 ⟨x, List.mem_of_getElem? h, hp⟩
theorem any_all {α : Type} {P : α → Bool} {l : List α} {n : Nat} (hl : l.length = n) (h : (l.take n).any P = false) : l.any P = false := by rw [← hl, List.take_length] at h; exact h
theorem any_next {α : Type} {P : α → Bool} {l : List α} {k : Nat} {x : α} (h : l[k]? = some x) (hp : P x = false) (ha : (l.take k).any P = false) : (l.take (k + 1)).any P = false := by
  rw [take_at h, List.any_append, ha]; simp [hp]

set_option maxRecDepth 100000 in
set_option maxHeartbeats 4000000 in
theorem sshares_any (c : Option Addr) (kc : Nat) (Bs : List Bd) (q : Pd) (w : World) (hG : BndL w c Bs) (hA : ∀ b ∈ Bs, PodAt w b.p) (hQ : PodAt w q) (hl : Bs.length ≤ 1000000) (hq : q.prts.length ≤ 1000000) (hb : ∀ b ∈ Bs, b.p.prts.length ≤ 1000000) :
    Calls Try.prog 73 #[.slice c Bs.length kc, .agg (prow q).toArray] w fun e w' => e = .returned (.bool (shareQ Bs q.prts)) ∧ Below w.heap.size w w' := by
  obtain ⟨R, hR⟩ : ∃ R, shareQ Bs q.prts = R := ⟨_, rfl⟩
  rw [hR]
  obtain ⟨W, hW⟩ : ∃ W, W = w.alloc (.cells (prow q).toArray 47) := ⟨_, rfl⟩
  have HW := Lib.hid (show Below w.heap.size w W by rw [hW]; exact (Below.refl _ w).alloc (Nat.le_refl _) _)
  have HX := Lib.hid (show Box w.heap.size (prow q) W by rw [hW]; exact Box.new w (prow q) 47)
  obtain ⟨PP, hPP⟩ : ∃ PP, q.prts = PP := ⟨_, rfl⟩
  obtain ⟨pp, hpp⟩ : ∃ pp, PP.length = pp := ⟨_, rfl⟩
  obtain ⟨qa, hqa⟩ : ∃ a, q.pa = a := ⟨_, rfl⟩
  obtain ⟨qk, hqk⟩ : ∃ a, q.pk = a := ⟨_, rfl⟩
  have HD := Lib.hid (show ∀ V, Below W.heap.size W V → V.cell? ⟨w.heap.size, 10, none⟩ = some (.slice qa pp qk) from fun V hV => by
    rw [(HX.out.mono hV).cell 10, ← hpp, ← hPP, ← hqa, ← hqk]
    rfl)
  have HCn := Lib.hid (show ∀ (x : Int) V, Below W.heap.size W V → Calls Try.prog 96 #[.slice qa pp qk, .int .i64 x] V fun e w' => e = .returned (.bool (prtIn PP x)) ∧ Below V.heap.size V w' from fun x V hV => by
    rw [← hpp]
    have h9 := hQ.prts
    rw [hPP, hqa] at h9
    exact Lb.containsi_any qa qk PP x V ((h9.mono HW.out).mono hV) (by rw [← hPP]; exact hq))
  have HG := Lib.hid (hG.mono HW.out)
  have HA := Lib.hid (show ∀ b ∈ Bs, PrtL W b.p.pa b.p.prts from fun b hb => ((hA b hb).mono HW.out).prts)
  have Hlx := Lib.hid hb
  rw [hPP] at hR
  have HR := Lib.hid hR
  obtain ⟨n, hn⟩ : ∃ n, Bs.length = n := ⟨_, rfl⟩
  have HN := Lib.hid hn
  have hlt0 := HX.out.lt
  rw [hn] at hl ⊢
  clear hG hA hQ hq hb hR hn hPP hpp hqa hqk HX
  obtain ⟨nm, n0, n1, n2, n3, n4, la, lk, L, sa, sk, S, ta, tk, T, ba, bk, B, pa, pk, P, aa, ak, A, wd, da, dk, D, sw, rk, ow, dm, pn, lc⟩ := q
  replace hW : W = w.alloc (.cells #[.string nm, .int .i64 n0, .int .i64 n1, .int .i64 n2, .int .i64 n3, .int .i64 n4, .slice la L.length lk, .slice sa S.length sk, .slice ta T.length tk, .slice ba B.length bk, .slice pa P.length pk, .slice aa A.length ak, .bool wd, .slice da D.length dk, .int .i64 sw, .int .i64 rk, .string ow, .bool dm, .bool pn, .bool lc] 47) := hW
  show Calls Try.prog 73 #[.slice c n kc, .agg #[.string nm, .int .i64 n0, .int .i64 n1, .int .i64 n2, .int .i64 n3, .int .i64 n4, .slice la L.length lk, .slice sa S.length sk, .slice ta T.length tk, .slice ba B.length bk, .slice pa P.length pk, .slice aa A.length ak, .bool wd, .slice da D.length dk, .int .i64 sw, .int .i64 rk, .string ow, .bool dm, .bool pn, .bool lc]] w _
  go_enter Try.func73, Try.ntmps73
  go_upto_region 1 with (fail)
  rw [← hW]
  clear hW
  go_wp2
  go_loopw [11] (fun vi wr => ∃ k : Nat, k ≤ n ∧ vi = .int .i64 k ∧ (Bs.take k).any (prtsIn PP) = false ∧ Below W.heap.size W wr) (fun vi _ => n - (intOf vi).toNat)
  case atStart => exact ⟨0, Nat.zero_le _, rfl, rfl, Below.refl _ _⟩
  case round =>
    obtain ⟨k, hk, rfl, hE, hB⟩ := hrel
    have HE := Lib.hid hE
    have HB := Lib.hid hB
    have hbz := hB.size
    by_cases hlt : k < n
    · obtain ⟨bb, hm⟩ := mem_at (l := Bs) (k := k) (by rw [HN.out]; exact hlt)
      obtain ⟨b, o, rfl, hb, hc⟩ := (HG.out.mono hB) (by rw [HN.out]; omega)
      have HRg := Lib.hid (show wr.rangeAt b (o + k * 21) (brow bb) from fun j v hj => by rw [hc k bb hm j (by have := (List.getElem?_eq_some_iff.1 hj).1; exact this)]; exact hj)
      have Hm := Lib.hid hm
      have HPL := Lib.hid ((HA.out bb (List.mem_of_getElem? hm)).mono hB)
      have hpl := Hlx.out bb (List.mem_of_getElem? hm)
      have HYes := Lib.hid (fun (h : prtsIn PP bb = true) => show R = true by rw [← HR.out]; exact any_yes (P := prtsIn PP) Hm.out h)
      have HNo := Lib.hid (fun (h : prtsIn PP bb = false) => any_next (P := prtsIn PP) Hm.out h HE.out)
      obtain ⟨P2, hP2⟩ : ∃ P2, bb.p.prts = P2 := ⟨_, rfl⟩
      obtain ⟨p2, hp2⟩ : ∃ p2, P2.length = p2 := ⟨_, rfl⟩
      obtain ⟨ax, hax⟩ : ∃ a, bb.p.pa = a := ⟨_, rfl⟩
      obtain ⟨kx, hkx⟩ : ∃ a, bb.p.pk = a := ⟨_, rfl⟩
      have hb2 : prtsIn PP bb = P2.any (prtIn PP) := by unfold prtsIn; rw [hP2]
      rw [hb2] at HYes HNo
      rw [hP2, hax] at HPL
      rw [hP2, hp2] at hpl
      obtain ⟨rb, hrb⟩ : ∃ r, brow bb = r := ⟨_, rfl⟩
      have h10 : rb[10]? = some (.slice ax p2 kx) := by rw [← hrb, ← hp2, ← hP2, ← hax, ← hkx]; rfl
      have hlen : rb.length = 21 := by rw [← hrb]; rfl
      have hone : rb.all (·.oneCell') = true := by rw [← hrb]; exact List.all_eq_true.2 (brow_one bb)
      rw [hrb] at HRg
      have Hp2 := Lib.hid hp2
      clear hE hB hc hm hP2 hp2 hax hkx hb2 hrb
      obtain ⟨x0, x1, x2, x3, x4, x5, x6, x7, x8, x9, y0, y1, y2, y3, y4, y5, y6, y7, y8, y9, z0, rfl⟩ := list21 hlen
      obtain rfl : y0 = .slice ax p2 kx := by simpa using h10
      have HOne := Lib.hid hone
      clear hlen h10 hone
      go_wp2_with (first
        | ((with_reducible refine at_load (ty := 56) ?_); refine load_cells rfl 56 (.tmp 13) rfl b (o + k * 21) rfl [x0, x1, x2, x3, x4, x5, x6, x7, x8, x9, .slice ax p2 kx, y1, y2, y3, y4, y5, y6, y7, y8, y9, z0] _ Try.underlying56 rfl (by kernel_rfl) HRg.out ?_)
        | ((with_reducible refine at_store (ty := 56) ?_); refine store_new rfl 56 (.tmp 6) (.tmp 14) rfl _ _ rfl rfl (by kernel_rfl) rfl HOne.out rfl ?_))
      obtain ⟨V, hV⟩ : ∃ V, V = wr.alloc (.cells #[x0, x1, x2, x3, x4, x5, x6, x7, x8, x9, .slice ax p2 kx, y1, y2, y3, y4, y5, y6, y7, y8, y9, z0] 56) := ⟨_, rfl⟩
      have HV := Lib.hid (show Below W.heap.size W V by rw [hV]; exact HB.out.alloc HB.out.size _)
      have HRV := Lib.hid (show Below wr.heap.size wr V by rw [hV]; exact (Below.refl _ _).alloc (Nat.le_refl _) _)
      have HPV := Lib.hid (HPL.out.mono HRV.out)
      rw [← hV]
      clear hV HOne HRg HPL
      go_loopw [19] (fun vj wq => ∃ j : Nat, j ≤ p2 ∧ vj = .int .i64 j ∧ (P2.take j).any (prtIn PP) = false ∧ Below V.heap.size V wq) (fun vj _ => p2 - (intOf vj).toNat)
      case atStart => exact ⟨0, Nat.zero_le _, rfl, rfl, Below.refl _ _⟩
      case round =>
        obtain ⟨j, hj, rfl, hE, hB⟩ := hrel
        have HE := Lib.hid hE
        have HQ := Lib.hid hB
        have HWq := Lib.hid (HV.out.trans (hB.mono HV.out.size))
        have hcz := hB.size
        by_cases hlj : j < p2
        · obtain ⟨x, hx⟩ := mem_at (l := P2) (k := j) (by rw [Hp2.out]; exact hlj)
          obtain ⟨b2, o2, rfl, hb2, hc2⟩ := (HPV.out.mono hB) (by rw [Hp2.out]; omega)
          have c0 := hc2 j x hx 0 (by decide)
          dsimp only [pcs, List.getElem?_cons_zero] at c0
          rw [Nat.mul_one, Nat.add_zero] at c0
          have d10 := HD.out _ HWq.out
          have hwl : w.heap.size < wr.heap.size := Nat.lt_of_lt_of_le hlt0 (Nat.le_trans HV.out.size hcz)
          have Hx := Lib.hid hx
          have HCx := Lib.hid (HCn.out x _ HWq.out)
          obtain ⟨z, hz⟩ : ∃ z, prtIn PP x = z := ⟨_, rfl⟩
          have HZ := Lib.hid hz
          rw [hz] at HCx
          clear hE hB hc2 hx hz
          cases z with
          | true =>
            obtain rfl : R = true := HYes.out (any_yes (P := prtIn PP) Hx.out HZ.out)
            go_wp2_with (go_at_call 96; (with_reducible refine (HCx.out).mono ?_); rintro e w6 ⟨rfl, hb6⟩; have HB6 := Lib.hid (HWq.out.trans (hb6.mono HWq.out.size)); clear hb6)
            go_ret
            exact ⟨rfl, HW.out.trans (HB6.out.mono HW.out.size)⟩
          | false =>
            have HE2 := Lib.hid (any_next (P := prtIn PP) Hx.out HZ.out HE.out)
            go_wp2_with (go_at_call 96; (with_reducible refine (HCx.out).mono ?_); rintro e w6 ⟨rfl, hb6⟩; have HB6 := Lib.hid (HQ.out.trans (hb6.mono hcz)); clear hb6)
            go_roundw
            case rel => exact ⟨j + 1, by omega, by go_num, HE2.out, HB6.out⟩
            case measure => simp [intOf]; omega
        · obtain rfl : p2 = j := by omega
          have HE2 := Lib.hid (HNo.out (any_all (P := prtIn PP) Hp2.out HE.out))
          clear hE hB
          go_wp2
          go_roundw
          case rel => exact ⟨k + 1, by omega, by go_num, HE2.out, HWq.out⟩
          case measure => simp [intOf]; omega
    · obtain rfl : k = n := by omega
      obtain rfl : R = false := by rw [← HR.out]; exact any_all (P := prtsIn PP) HN.out HE.out
      go_wp2
      go_ret
      exact ⟨rfl, HW.out.trans (HB.out.mono HW.out.size)⟩
end Go.Proofs.Ythbpnfpalcgfeaa
namespace Go.Proofs.Ythbpnfpalcgfeaa
open Go.RowKit
set_option linter.unusedVariables false
set_option linter.unusedSimpArgs false

/-- Why there is no room. -/
def roomS (m : Mac) (bs : List Bd) (p : Pd) : Int :=
  if Rs.fitsB p.n0 p.n1 p.n2 p.n3 p.n4 (leftY m (othL bs m.nm p.nm)).r0 (leftY m (othL bs m.nm p.nm)).r1 (leftY m (othL bs m.nm p.nm)).r2 (leftY m (othL bs m.nm p.nm)).r3 (leftY m (othL bs m.nm p.nm)).r4 = false then 2
  else if shareQ (othL bs m.nm p.nm) p.prts = true then 3 else 0
def suitS (m : Mac) (bs : List Bd) (p : Pd) : Int := if placeS m p = 0 then roomS m bs p else placeS m p

set_option maxRecDepth 100000 in
set_option maxHeartbeats 4000000 in
theorem sroom_any (m : Mac) (c : Option Addr) (kc : Nat) (bs : List Bd) (p : Pd) (w : World) (hM : MacAt w m) (hG : BndL w c bs) (hB : ∀ b ∈ bs, PodAt w b.p) (hP : PodAt w p) (hl : bs.length ≤ 1000000) (hq : p.prts.length ≤ 1000000) (hb : ∀ b ∈ bs, b.p.prts.length ≤ 1000000) :
    Calls Try.prog 33 #[.agg (mrow m).toArray, .slice c bs.length kc, .agg (prow p).toArray] w fun e w' => e = .returned (.int .i64 (roomS m bs p)) ∧ Below w.heap.size w w' := by
  obtain ⟨R, hR⟩ : ∃ R, roomS m bs p = R := ⟨_, rfl⟩
  rw [hR]
  unfold roomS at hR
  have hWo := fun V (hV : Below w.heap.size w V) => swithout_any c kc bs m.nm p.nm V (hG.mono hV) hl
  have hol := othL_len bs m.nm p.nm
  have hsub : ∀ b ∈ othL bs m.nm p.nm, b ∈ bs := fun b hb => (List.mem_filter.1 hb).1
  obtain ⟨O, hO⟩ : ∃ O, othL bs m.nm p.nm = O := ⟨_, rfl⟩
  rw [hO] at hWo hol hsub hR
  have hLf := fun a k V (hV : BndL V a O) => left_any m a k O V hV (by omega)
  obtain ⟨⟨l0, l1, l2, l3, l4⟩, hlv⟩ : ∃ l, leftY m O = l := ⟨_, rfl⟩
  rw [hlv] at hLf hR
  dsimp only [R5.v] at hLf hR
  have hFt := fun V => Rs.fits_any p.n0 p.n1 p.n2 p.n3 p.n4 l0 l1 l2 l3 l4 V
  obtain ⟨z, hz⟩ : ∃ z, Rs.fitsB p.n0 p.n1 p.n2 p.n3 p.n4 l0 l1 l2 l3 l4 = z := ⟨_, rfl⟩
  rw [hz] at hFt hR
  have hSh := fun a k V (hV : Below w.heap.size w V) (hL : BndL V a O) => sshares_any a k O p V hL (fun b hb => (hB b (hsub b hb)).mono hV) (hP.mono hV) (by omega) hq (fun b h => hb b (hsub b h))
  obtain ⟨s, hs⟩ : ∃ s, shareQ O p.prts = s := ⟨_, rfl⟩
  rw [hs] at hSh hR
  obtain ⟨W, hW⟩ : ∃ W, W = (w.alloc (.cells (mrow m).toArray 35)).alloc (.cells (prow p).toArray 47) := ⟨_, rfl⟩
  have H0 := Lib.hid (show MP w w.heap.size m p W by rw [hW]; exact MP.new hM hP)
  obtain ⟨n, hn⟩ : ∃ n, bs.length = n := ⟨_, rfl⟩
  obtain ⟨on, hon⟩ : ∃ on, O.length = on := ⟨_, rfl⟩
  have Hon := Lib.hid hon
  rw [hn] at hWo ⊢
  rw [hon] at hLf hSh
  have hGv : ∀ V e V', GivesB V O e V' → (∃ a k, e = .returned (.slice a on k) ∧ BndL V' a O) ∧ Below V.heap.size V V' := fun V e V' h => by
    obtain ⟨⟨v, rfl, ho⟩, hb⟩ := h
    obtain ⟨a, k, rfl, -, ht⟩ := IsL.of_own brow_len (by decide) ho
    exact ⟨⟨a, k, by rw [hon], ht⟩, hb⟩
  clear hz hs hM hG hB hP hl hq hb hol hsub hO hlv hn hon
  obtain ⟨mn, mg, r0, r1, r2, r3, r4, ma, mk, ML, mta, mtk, MT, rd⟩ := m
  obtain ⟨nm, n0, n1, n2, n3, n4, la, lk, L, sa, sk, S, ta, tk, T, ba, bk, B, pa, pk, P, aa, ak, A, wd, da, dk, D, sw, rk, ow, dm, pn, lc⟩ := p
  have HWo := Lib.hid (show ∀ V, Below w.heap.size w V → Calls Try.prog 71 #[.slice c n kc, .string mn, .string nm] V fun e V' => (∃ a k, e = .returned (.slice a on k) ∧ BndL V' a O) ∧ Below V.heap.size V V' from fun V hV => (hWo V hV).mono fun e V' h => hGv V e V' h)
  have HLf := Lib.hid (show ∀ a k V, BndL V a O → Calls Try.prog 17 #[.agg #[.string mn, .string mg, .int .i64 r0, .int .i64 r1, .int .i64 r2, .int .i64 r3, .int .i64 r4, .slice ma ML.length mk, .slice mta MT.length mtk, .bool rd], .slice a on k] V fun e w' => e = .returned (.agg #[.int .i64 l0, .int .i64 l1, .int .i64 l2, .int .i64 l3, .int .i64 l4]) ∧ Below V.heap.size V w' from hLf)
  have HFt := Lib.hid (show ∀ V, Calls Try.prog 72 #[.agg #[.int .i64 n0, .int .i64 n1, .int .i64 n2, .int .i64 n3, .int .i64 n4], .agg #[.int .i64 l0, .int .i64 l1, .int .i64 l2, .int .i64 l3, .int .i64 l4]] V fun e w' => e = .returned (.bool z) ∧ Below V.heap.size V w' from hFt)
  have HSh := Lib.hid (show ∀ a k V, Below w.heap.size w V → BndL V a O → Calls Try.prog 73 #[.slice a on k, .agg #[.string nm, .int .i64 n0, .int .i64 n1, .int .i64 n2, .int .i64 n3, .int .i64 n4, .slice la L.length lk, .slice sa S.length sk, .slice ta T.length tk, .slice ba B.length bk, .slice pa P.length pk, .slice aa A.length ak, .bool wd, .slice da D.length dk, .int .i64 sw, .int .i64 rk, .string ow, .bool dm, .bool pn, .bool lc]] V fun e w' => e = .returned (.bool s) ∧ Below V.heap.size V w' from hSh)
  clear hWo hLf hFt hSh hGv
  replace hW : W = (w.alloc (.cells #[.string mn, .string mg, .int .i64 r0, .int .i64 r1, .int .i64 r2, .int .i64 r3, .int .i64 r4, .slice ma ML.length mk, .slice mta MT.length mtk, .bool rd] 35)).alloc (.cells #[.string nm, .int .i64 n0, .int .i64 n1, .int .i64 n2, .int .i64 n3, .int .i64 n4, .slice la L.length lk, .slice sa S.length sk, .slice ta T.length tk, .slice ba B.length bk, .slice pa P.length pk, .slice aa A.length ak, .bool wd, .slice da D.length dk, .int .i64 sw, .int .i64 rk, .string ow, .bool dm, .bool pn, .bool lc] 47) := hW
  show Calls Try.prog 33 #[.agg #[.string mn, .string mg, .int .i64 r0, .int .i64 r1, .int .i64 r2, .int .i64 r3, .int .i64 r4, .slice ma ML.length mk, .slice mta MT.length mtk, .bool rd], .slice c n kc, .agg #[.string nm, .int .i64 n0, .int .i64 n1, .int .i64 n2, .int .i64 n3, .int .i64 n4, .slice la L.length lk, .slice sa S.length sk, .slice ta T.length tk, .slice ba B.length bk, .slice pa P.length pk, .slice aa A.length ak, .bool wd, .slice da D.length dk, .int .i64 sw, .int .i64 rk, .string ow, .bool dm, .bool pn, .bool lc]] w _
  go_enter Try.func33, Try.ntmps33
  go_upto_region 1 with (fail)
  rw [← hW]
  clear hW
  have hxm : ∀ i, W.cell? ⟨w.heap.size, i, none⟩ = [.string mn, .string mg, .int .i64 r0, .int .i64 r1, .int .i64 r2, .int .i64 r3, .int .i64 r4, .slice ma ML.length mk, .slice mta MT.length mtk, .bool rd][i]? := H0.out.xm.cell
  have hxp : ∀ i, W.cell? ⟨w.heap.size + 1, i, none⟩ = [.string nm, .int .i64 n0, .int .i64 n1, .int .i64 n2, .int .i64 n3, .int .i64 n4, .slice la L.length lk, .slice sa S.length sk, .slice ta T.length tk, .slice ba B.length bk, .slice pa P.length pk, .slice aa A.length ak, .bool wd, .slice da D.length dk, .int .i64 sw, .int .i64 rk, .string ow, .bool dm, .bool pn, .bool lc][i]? := H0.out.xp.cell
  have hlm := H0.out.xm.lt
  have hlp := H0.out.xp.lt
  go_wp2_with (go_at_call 71; (with_reducible refine (HWo.out _ H0.out.bl).mono ?_); rintro e w1 ⟨⟨a1, k1, rfl, ht1⟩, hb1⟩; have H01 := Lib.hid (H0.out.mono hb1); have HT1 := Lib.hid ht1; clear hb1 ht1 hxm hxp hlm hlp)
  have hxp : ∀ i, w1.cell? ⟨w.heap.size + 1, i, none⟩ = [.string nm, .int .i64 n0, .int .i64 n1, .int .i64 n2, .int .i64 n3, .int .i64 n4, .slice la L.length lk, .slice sa S.length sk, .slice ta T.length tk, .slice ba B.length bk, .slice pa P.length pk, .slice aa A.length ak, .bool wd, .slice da D.length dk, .int .i64 sw, .int .i64 rk, .string ow, .bool dm, .bool pn, .bool lc][i]? := H01.out.xp.cell
  have hlm := H01.out.xm.lt
  have hlp := H01.out.xp.lt
  have HRm := Lib.hid (show w1.rangeAt w.heap.size 0 [.string mn, .string mg, .int .i64 r0, .int .i64 r1, .int .i64 r2, .int .i64 r3, .int .i64 r4, .slice ma ML.length mk, .slice mta MT.length mtk, .bool rd] from H01.out.xm.range)
  have HRn := Lib.hid (show w1.rangeAt (w.heap.size + 1) 1 [.int .i64 n0, .int .i64 n1, .int .i64 n2, .int .i64 n3, .int .i64 n4] from fun j v hj => by
    have hj5 : j < 5 := (List.getElem?_eq_some_iff.1 hj).1
    rw [hxp]
    match j, hj5, hj with
    | 0, _, hj => exact hj
    | 1, _, hj => exact hj
    | 2, _, hj => exact hj
    | 3, _, hj => exact hj
    | 4, _, hj => exact hj)
  clear hxp
  have hcH := held_cell
  refine region_rel (by kernel_rfl) (by kernel_rfl) ?_
  repeat
    ((with_reducible refine relStep (fun K hK => ?_))
     (have HK := Lib.hid hK)
     clear hK
     (apply relInl
      · intro r n hf
        have Hf := Lib.hid hf
        clear hf
        (first
          | ((first | ((with_reducible refine at_rel (ty := 29) ?_); refine rel_load rfl (w.heap.size + 1) 1 rfl [.int .i64 n0, .int .i64 n1, .int .i64 n2, .int .i64 n3, .int .i64 n4] _ Try.underlying29 rfl (by kernel_rfl) (rangeAt_mono HRn.out hlp n.below) rfl) | ((with_reducible refine at_rel (ty := 35) ?_); refine rel_load rfl w.heap.size 0 rfl [.string mn, .string mg, .int .i64 r0, .int .i64 r1, .int .i64 r2, .int .i64 r3, .int .i64 r4, .slice ma ML.length mk, .slice mta MT.length mtk, .bool rd] _ Try.underlying35 rfl (by kernel_rfl) (rangeAt_mono HRm.out hlm n.below) rfl)))
          | (unfold relAt
             go_simp
             (first | (refine relUpon_val ?_ (Below.refl _ _); exact rfl) | exact rfl | (refine relUpon_enter ?_; (first | (go_at_call 17; (with_reducible refine (HLf.out _ _ _ (HT1.out.mono n.below)).mono ?_); rintro e w9 ⟨rfl, hb⟩; exact ⟨⟨_, rfl, rfl⟩, hb⟩) | (go_at_call 72; (with_reducible refine (HFt.out _).mono ?_); rintro e w9 ⟨rfl, hb⟩; exact ⟨⟨_, rfl, rfl⟩, hb⟩))))))
      (simp only [Act.put, List.setIfInBounds_toArray, List.set_cons_zero, List.set_cons_succ])
      (with_reducible refine HK.out _ _ ?_)
      clear HK K))
  refine relNil ?_
  intro r9 n9 hx9
  clear hcH
  (try simp only [List.nil_append, List.cons_append, List.mem_cons, List.not_mem_nil, or_false, forall_eq_or_imp, forall_eq, false_implies, implies_true] at hx9)
  obtain ⟨w9, hb9⟩ := n9
  (try dsimp only)
  obtain ⟨hc9, hf9⟩ := bcell hb9
  have hz9 := hb9.size
  (try simp at hz9)
  have H09 := Lib.hid (H01.out.mono hb9)
  have HT9 := Lib.hid (HT1.out.mono hb9)
  have HRp := Lib.hid (show w9.rangeAt (w.heap.size + 1) 0 [.string nm, .int .i64 n0, .int .i64 n1, .int .i64 n2, .int .i64 n3, .int .i64 n4, .slice la L.length lk, .slice sa S.length sk, .slice ta T.length tk, .slice ba B.length bk, .slice pa P.length pk, .slice aa A.length ak, .bool wd, .slice da D.length dk, .int .i64 sw, .int .i64 rk, .string ow, .bool dm, .bool pn, .bool lc] from H09.out.xp.range)
  clear hb9 hc9 hf9 hz9 hlm hlp HRm HRn
  cases z with
  | false =>
    obtain rfl : R = 2 := by rw [← hR]; rfl
    clear hR
    go_wp2
    go_ret
    exact ⟨rfl, H09.out.bl⟩
  | true =>
    cases s with
    | true =>
      obtain rfl : R = 3 := by rw [← hR]; rfl
      clear hR
      go_wp2_with (first
        | ((with_reducible refine at_load (ty := 47) ?_); refine load_cells rfl 47 (.tmp 5) rfl (w.heap.size + 1) 0 rfl [.string nm, .int .i64 n0, .int .i64 n1, .int .i64 n2, .int .i64 n3, .int .i64 n4, .slice la L.length lk, .slice sa S.length sk, .slice ta T.length tk, .slice ba B.length bk, .slice pa P.length pk, .slice aa A.length ak, .bool wd, .slice da D.length dk, .int .i64 sw, .int .i64 rk, .string ow, .bool dm, .bool pn, .bool lc] _ Try.underlying47 rfl (by kernel_rfl) HRp.out ?_)
        | (go_at_call 73; (with_reducible refine (HSh.out _ _ _ H09.out.bl HT9.out).mono ?_); rintro e w5 ⟨rfl, hb5⟩; have H05 := Lib.hid (H09.out.mono hb5); clear hb5))
      go_ret
      exact ⟨rfl, H05.out.bl⟩
    | false =>
      obtain rfl : R = 0 := by rw [← hR]; rfl
      clear hR
      go_wp2_with (first
        | ((with_reducible refine at_load (ty := 47) ?_); refine load_cells rfl 47 (.tmp 5) rfl (w.heap.size + 1) 0 rfl [.string nm, .int .i64 n0, .int .i64 n1, .int .i64 n2, .int .i64 n3, .int .i64 n4, .slice la L.length lk, .slice sa S.length sk, .slice ta T.length tk, .slice ba B.length bk, .slice pa P.length pk, .slice aa A.length ak, .bool wd, .slice da D.length dk, .int .i64 sw, .int .i64 rk, .string ow, .bool dm, .bool pn, .bool lc] _ Try.underlying47 rfl (by kernel_rfl) HRp.out ?_)
        | (go_at_call 73; (with_reducible refine (HSh.out _ _ _ H09.out.bl HT9.out).mono ?_); rintro e w5 ⟨rfl, hb5⟩; have H05 := Lib.hid (H09.out.mono hb5); clear hb5))
      go_ret
      exact ⟨rfl, H05.out.bl⟩

set_option maxRecDepth 100000 in
set_option maxHeartbeats 4000000 in
theorem ssuits_any (m : Mac) (c : Option Addr) (kc : Nat) (bs : List Bd) (p : Pd) (w : World) (hM : MacAt w m) (hG : BndL w c bs) (hB : ∀ b ∈ bs, PodAt w b.p) (hP : PodAt w p) (hm : lightM m = true) (hp : lightP p = true) (hl : bs.length ≤ 1000000) (hb : ∀ b ∈ bs, b.p.prts.length ≤ 1000000) :
    Calls Try.prog 26 #[.agg (mrow m).toArray, .slice c bs.length kc, .agg (prow p).toArray] w fun e w' => e = .returned (.int .i64 (suitS m bs p)) ∧ Below w.heap.size w w' := by
  have hq : p.prts.length ≤ 1000000 := by have := (lightP_iff hp).pl; omega
  have hPl := fun V (h : MP w w.heap.size m p V) => splace_any m p V h.ma h.pa hm hp
  have hRo := fun V (h : MP w w.heap.size m p V) => sroom_any m c kc bs p V h.ma (hG.mono h.bl) (fun b hb => (hB b hb).mono h.bl) h.pa hl hq hb
  obtain ⟨R, hR⟩ : ∃ R, suitS m bs p = R := ⟨_, rfl⟩
  rw [hR]
  unfold suitS at hR
  obtain ⟨x, hx⟩ : ∃ x, placeS m p = x := ⟨_, rfl⟩
  obtain ⟨y, hy⟩ : ∃ y, roomS m bs p = y := ⟨_, rfl⟩
  rw [hx] at hPl hR
  rw [hy] at hRo hR
  obtain ⟨W, hW⟩ : ∃ W, W = (w.alloc (.cells (mrow m).toArray 35)).alloc (.cells (prow p).toArray 47) := ⟨_, rfl⟩
  have H0 := Lib.hid (show MP w w.heap.size m p W by rw [hW]; exact MP.new hM hP)
  obtain ⟨n, hn⟩ : ∃ n, bs.length = n := ⟨_, rfl⟩
  rw [hn] at hRo ⊢
  clear hx hy hM hG hB hP hl hq hb hn hm hp
  obtain ⟨mn, mg, r0, r1, r2, r3, r4, ma, mk, ML, mta, mtk, MT, rd⟩ := m
  obtain ⟨nm, n0, n1, n2, n3, n4, la, lk, L, sa, sk, S, ta, tk, T, ba, bk, B, pa, pk, P, aa, ak, A, wd, da, dk, D, sw, rk, ow, dm, pn, lc⟩ := p
  have HPl := Lib.hid (show ∀ V, MP w w.heap.size (⟨mn, mg, r0, r1, r2, r3, r4, ma, mk, ML, mta, mtk, MT, rd⟩ : Mac) (⟨nm, n0, n1, n2, n3, n4, la, lk, L, sa, sk, S, ta, tk, T, ba, bk, B, pa, pk, P, aa, ak, A, wd, da, dk, D, sw, rk, ow, dm, pn, lc⟩ : Pd) V → Calls Try.prog 31 #[.agg #[.string mn, .string mg, .int .i64 r0, .int .i64 r1, .int .i64 r2, .int .i64 r3, .int .i64 r4, .slice ma ML.length mk, .slice mta MT.length mtk, .bool rd], .agg #[.string nm, .int .i64 n0, .int .i64 n1, .int .i64 n2, .int .i64 n3, .int .i64 n4, .slice la L.length lk, .slice sa S.length sk, .slice ta T.length tk, .slice ba B.length bk, .slice pa P.length pk, .slice aa A.length ak, .bool wd, .slice da D.length dk, .int .i64 sw, .int .i64 rk, .string ow, .bool dm, .bool pn, .bool lc]] V fun e w' => e = .returned (.int .i64 x) ∧ Below V.heap.size V w' from hPl)
  have HRo := Lib.hid (show ∀ V, MP w w.heap.size (⟨mn, mg, r0, r1, r2, r3, r4, ma, mk, ML, mta, mtk, MT, rd⟩ : Mac) (⟨nm, n0, n1, n2, n3, n4, la, lk, L, sa, sk, S, ta, tk, T, ba, bk, B, pa, pk, P, aa, ak, A, wd, da, dk, D, sw, rk, ow, dm, pn, lc⟩ : Pd) V → Calls Try.prog 33 #[.agg #[.string mn, .string mg, .int .i64 r0, .int .i64 r1, .int .i64 r2, .int .i64 r3, .int .i64 r4, .slice ma ML.length mk, .slice mta MT.length mtk, .bool rd], .slice c n kc, .agg #[.string nm, .int .i64 n0, .int .i64 n1, .int .i64 n2, .int .i64 n3, .int .i64 n4, .slice la L.length lk, .slice sa S.length sk, .slice ta T.length tk, .slice ba B.length bk, .slice pa P.length pk, .slice aa A.length ak, .bool wd, .slice da D.length dk, .int .i64 sw, .int .i64 rk, .string ow, .bool dm, .bool pn, .bool lc]] V fun e w' => e = .returned (.int .i64 y) ∧ Below V.heap.size V w' from hRo)
  clear hPl hRo
  replace hW : W = (w.alloc (.cells #[.string mn, .string mg, .int .i64 r0, .int .i64 r1, .int .i64 r2, .int .i64 r3, .int .i64 r4, .slice ma ML.length mk, .slice mta MT.length mtk, .bool rd] 35)).alloc (.cells #[.string nm, .int .i64 n0, .int .i64 n1, .int .i64 n2, .int .i64 n3, .int .i64 n4, .slice la L.length lk, .slice sa S.length sk, .slice ta T.length tk, .slice ba B.length bk, .slice pa P.length pk, .slice aa A.length ak, .bool wd, .slice da D.length dk, .int .i64 sw, .int .i64 rk, .string ow, .bool dm, .bool pn, .bool lc] 47) := hW
  show Calls Try.prog 26 #[.agg #[.string mn, .string mg, .int .i64 r0, .int .i64 r1, .int .i64 r2, .int .i64 r3, .int .i64 r4, .slice ma ML.length mk, .slice mta MT.length mtk, .bool rd], .slice c n kc, .agg #[.string nm, .int .i64 n0, .int .i64 n1, .int .i64 n2, .int .i64 n3, .int .i64 n4, .slice la L.length lk, .slice sa S.length sk, .slice ta T.length tk, .slice ba B.length bk, .slice pa P.length pk, .slice aa A.length ak, .bool wd, .slice da D.length dk, .int .i64 sw, .int .i64 rk, .string ow, .bool dm, .bool pn, .bool lc]] w _
  have HRm := Lib.hid (show ∀ V, MP w w.heap.size (⟨mn, mg, r0, r1, r2, r3, r4, ma, mk, ML, mta, mtk, MT, rd⟩ : Mac) (⟨nm, n0, n1, n2, n3, n4, la, lk, L, sa, sk, S, ta, tk, T, ba, bk, B, pa, pk, P, aa, ak, A, wd, da, dk, D, sw, rk, ow, dm, pn, lc⟩ : Pd) V → V.rangeAt w.heap.size 0 [.string mn, .string mg, .int .i64 r0, .int .i64 r1, .int .i64 r2, .int .i64 r3, .int .i64 r4, .slice ma ML.length mk, .slice mta MT.length mtk, .bool rd] from fun V h => h.xm.range)
  have HRp := Lib.hid (show ∀ V, MP w w.heap.size (⟨mn, mg, r0, r1, r2, r3, r4, ma, mk, ML, mta, mtk, MT, rd⟩ : Mac) (⟨nm, n0, n1, n2, n3, n4, la, lk, L, sa, sk, S, ta, tk, T, ba, bk, B, pa, pk, P, aa, ak, A, wd, da, dk, D, sw, rk, ow, dm, pn, lc⟩ : Pd) V → V.rangeAt (w.heap.size + 1) 0 [.string nm, .int .i64 n0, .int .i64 n1, .int .i64 n2, .int .i64 n3, .int .i64 n4, .slice la L.length lk, .slice sa S.length sk, .slice ta T.length tk, .slice ba B.length bk, .slice pa P.length pk, .slice aa A.length ak, .bool wd, .slice da D.length dk, .int .i64 sw, .int .i64 rk, .string ow, .bool dm, .bool pn, .bool lc] from fun V h => h.xp.range)
  by_cases h0 : x = 0
  · subst h0
    obtain rfl : R = y := by rw [← hR]; rfl
    clear hR
    go_enter Try.func26, Try.ntmps26
    go_upto_region 1 with (fail)
    rw [← hW]
    clear hW
    go_wp2_with (first
      | ((with_reducible refine at_load (ty := 35) ?_); refine load_cells rfl 35 (.tmp 3) rfl w.heap.size 0 rfl [.string mn, .string mg, .int .i64 r0, .int .i64 r1, .int .i64 r2, .int .i64 r3, .int .i64 r4, .slice ma ML.length mk, .slice mta MT.length mtk, .bool rd] _ Try.underlying35 rfl (by kernel_rfl) (by first | exact HRm.out _ H01.out | exact HRm.out _ H0.out) ?_)
      | ((with_reducible refine at_load (ty := 47) ?_); refine load_cells rfl 47 (.tmp 5) rfl (w.heap.size + 1) 0 rfl [.string nm, .int .i64 n0, .int .i64 n1, .int .i64 n2, .int .i64 n3, .int .i64 n4, .slice la L.length lk, .slice sa S.length sk, .slice ta T.length tk, .slice ba B.length bk, .slice pa P.length pk, .slice aa A.length ak, .bool wd, .slice da D.length dk, .int .i64 sw, .int .i64 rk, .string ow, .bool dm, .bool pn, .bool lc] _ Try.underlying47 rfl (by kernel_rfl) (by first | exact HRp.out _ H01.out | exact HRp.out _ H0.out) ?_)
      | (go_at_call 31; (with_reducible refine (HPl.out _ H0.out).mono ?_); rintro e w1 ⟨rfl, hb1⟩; have H01 := Lib.hid (H0.out.mono hb1); clear hb1)
      | (go_at_call 33; (with_reducible refine (HRo.out _ H01.out).mono ?_); rintro e w2 ⟨rfl, hb2⟩; have H02 := Lib.hid (H01.out.mono hb2); clear hb2))
    go_ret
    exact ⟨rfl, H02.out.bl⟩
  · have q0 : (x == 0) = false := by simpa using h0
    obtain rfl : R = x := by rw [← hR, if_neg h0]
    clear hR h0
    go_enter Try.func26, Try.ntmps26
    go_upto_region 1 with (fail)
    rw [← hW]
    clear hW
    go_wp2_with (first
      | ((with_reducible refine at_load (ty := 35) ?_); refine load_cells rfl 35 (.tmp 3) rfl w.heap.size 0 rfl [.string mn, .string mg, .int .i64 r0, .int .i64 r1, .int .i64 r2, .int .i64 r3, .int .i64 r4, .slice ma ML.length mk, .slice mta MT.length mtk, .bool rd] _ Try.underlying35 rfl (by kernel_rfl) (HRm.out _ H0.out) ?_)
      | ((with_reducible refine at_load (ty := 47) ?_); refine load_cells rfl 47 (.tmp 5) rfl (w.heap.size + 1) 0 rfl [.string nm, .int .i64 n0, .int .i64 n1, .int .i64 n2, .int .i64 n3, .int .i64 n4, .slice la L.length lk, .slice sa S.length sk, .slice ta T.length tk, .slice ba B.length bk, .slice pa P.length pk, .slice aa A.length ak, .bool wd, .slice da D.length dk, .int .i64 sw, .int .i64 rk, .string ow, .bool dm, .bool pn, .bool lc] _ Try.underlying47 rfl (by kernel_rfl) (HRp.out _ H0.out) ?_)
      | (go_at_call 31; (with_reducible refine (HPl.out _ H0.out).mono ?_); rintro e w1 ⟨rfl, hb1⟩; have H01 := Lib.hid (H0.out.mono hb1); clear hb1))
    go_ret
    exact ⟨rfl, H01.out.bl⟩
end Go.Proofs.Ythbpnfpalcgfeaa
namespace Go.Proofs.Ythbpnfpalcgfeaa
open Go.RowKit
set_option linter.unusedVariables false
set_option linter.unusedSimpArgs false

/-- Blocks that were made one after the other. -/
structure Blks (w V : World) (l : List (TypeId × List Value)) : Prop where
  sz : V.heap.size = w.heap.size + l.length
  bl : Below w.heap.size w V
  at' : ∀ i x, l[i]? = some x → Blk V (w.heap.size + i) x.1 x.2
theorem Blks.nil (w : World) : Blks w w [] := ⟨rfl, Below.refl _ _, fun i x h => by simp at h⟩
theorem Blks.push {w V : World} {l : List (TypeId × List Value)} (h : Blks w V l) (t : TypeId) (cs : List Value) : Blks w (V.alloc (.cells cs.toArray t)) (l ++ [(t, cs)]) := by
  refine ⟨by rw [World.size_alloc, h.sz, List.length_append]; rfl, h.bl.alloc h.bl.size _, fun i x hx => ?_⟩
  rw [List.getElem?_append] at hx
  split at hx
  · exact (h.at' i x hx).alloc _
  · rename_i hn
    have hi : i - l.length = 0 := by
      have := (List.getElem?_eq_some_iff.1 hx).1
      simp at this
      omega
    rw [hi] at hx
    obtain rfl : (t, cs) = x := by simpa using hx
    have h9 := Blk.new V t cs
    rw [h.sz, show l.length = i by omega] at h9
    exact h9
theorem Blks.mono {w V V' : World} {l : List (TypeId × List Value)} (h : Blks w V l) (hb : Below V.heap.size V V') : ∀ i x, l[i]? = some x → Blk V' (w.heap.size + i) x.1 x.2 := fun i x hx => (h.at' i x hx).below hb

theorem blk_range {V : World} {b : Nat} {t : TypeId} {cs : List Value} (h : Blk V b t cs) : V.rangeAt b 0 cs := fun j v hj => by rw [Nat.zero_add, h.cell]; exact hj
def pT (nm : ByteArray) (c : Int) (sa : Option Addr) (sk : Nat) (S : List Lab) (pa : Option Addr) (pk : Nat) (P : List Int) : Pd := ⟨nm, c, 0, 0, 1, 0, none, 0, [], sa, sk, S, none, 0, [], none, 0, [], pa, pk, P, none, 0, [], false, none, 0, [], 0, 0, emp, false, false, false⟩
theorem blk_rows {α : Type} {enc : α → List Value} {K : Nat} (hk : ∀ x, (enc x).length = K) {V : World} {b : Nat} {t : TypeId} {l : List α} (h : Blk V b t (l.flatMap enc)) : RowsAt enc K V (some ⟨b, 0, none⟩) l :=
  fun _ => ⟨b, 0, rfl, h.lt, fun i x hx r hr => by rw [Nat.zero_add, h.cell]; exact rows_get enc K hk l i r x hx hr⟩
def mT : Mac := ⟨⟨#[109]⟩, emp, 1000, 0, 0, 9, 0, none, 0, [], none, 0, [], true⟩
def mZ : Mac := ⟨emp, emp, 0, 0, 0, 0, 0, none, 0, [], none, 0, [], false⟩
def qT : Pd := pT ⟨#[113]⟩ 300 none 0 [] none 0 []
def rT (B : Nat) : Pd := pT ⟨#[114]⟩ 200 none 0 [] (some ⟨B + 4, 0, none⟩) 1 [80]
def sT : Pd := pT ⟨#[115]⟩ 200 none 0 [] none 0 []
def tT (B : Nat) : Pd := pT ⟨#[112]⟩ 1000 none 0 [] (some ⟨B + 7, 0, none⟩) 1 [80]
def uT (B : Nat) : Pd := pT ⟨#[115]⟩ 200 (some ⟨B + 10, 0, none⟩) 1 [⟨⟨#[97]⟩, ⟨#[98]⟩⟩] none 0 []
def bT (B : Nat) : Bd := ⟨pT ⟨#[112]⟩ 800 none 0 [] (some ⟨B + 1, 0, none⟩) 1 [80], ⟨#[109]⟩⟩
/-- What known has built. -/
structure K10 (w V : World) : Prop where
  m : Blk V w.heap.size 35 (mrow mT)
  p1 : PrtL V (some ⟨w.heap.size + 1, 0, none⟩) [80]
  bs : BndL V (some ⟨w.heap.size + 2, 0, none⟩) [bT w.heap.size]
  q : Blk V (w.heap.size + 3) 47 (prow qT)
  p4 : PrtL V (some ⟨w.heap.size + 4, 0, none⟩) [80]
  r : Blk V (w.heap.size + 5) 47 (prow (rT w.heap.size))
  s : Blk V (w.heap.size + 6) 47 (prow sT)
  p7 : PrtL V (some ⟨w.heap.size + 7, 0, none⟩) [80]
  t : Blk V (w.heap.size + 8) 47 (prow (tT w.heap.size))
  u : Blk V (w.heap.size + 9) 47 (prow (uT w.heap.size))
  lb : LabL V (some ⟨w.heap.size + 10, 0, none⟩) [⟨⟨#[97]⟩, ⟨#[98]⟩⟩]
  bl : Below w.heap.size w V
theorem K10.mono {w V V' : World} (h : K10 w V) (hb : Below V.heap.size V V') : K10 w V' :=
  ⟨h.m.below hb, h.p1.mono hb, h.bs.mono hb, h.q.below hb, h.p4.mono hb, h.r.below hb, h.s.below hb, h.p7.mono hb, h.t.below hb, h.u.below hb, h.lb.mono hb, h.bl.trans (hb.mono h.bl.size)⟩
theorem pT_at {V : World} {nm : ByteArray} {c : Int} {sa : Option Addr} {sk : Nat} {S : List Lab} {pa : Option Addr} {pk : Nat} {P : List Int} (h1 : LabL V sa S) (h2 : PrtL V pa P) (h3 : S.length ≤ maxLen) (h4 : P.length ≤ maxLen) : PodAt V (pT nm c sa sk S pa pk P) :=
  ⟨RowsAt.nil, h1, RowsAt.nil, (fun t ht => by cases ht), RowsAt.nil, h2, RowsAt.nil, RowsAt.nil, Nat.zero_le _, h3, Nat.zero_le _, Nat.zero_le _, h4, Nat.zero_le _, Nat.zero_le _⟩
theorem mT_at (V : World) : MacAt V mT := ⟨RowsAt.nil, RowsAt.nil, Nat.zero_le _, Nat.zero_le _⟩
theorem mZ_at (V : World) : MacAt V mZ := ⟨RowsAt.nil, RowsAt.nil, Nat.zero_le _, Nat.zero_le _⟩
theorem one_le : 1 ≤ maxLen := by unfold maxLen; decide
theorem K10.qa {w V : World} (h : K10 w V) : PodAt V qT := pT_at RowsAt.nil RowsAt.nil (Nat.zero_le _) (Nat.zero_le _)
theorem K10.ra {w V : World} (h : K10 w V) : PodAt V (rT w.heap.size) := pT_at RowsAt.nil h.p4 (Nat.zero_le _) one_le
theorem K10.sa {w V : World} (h : K10 w V) : PodAt V sT := pT_at RowsAt.nil RowsAt.nil (Nat.zero_le _) (Nat.zero_le _)
theorem K10.ta {w V : World} (h : K10 w V) : PodAt V (tT w.heap.size) := pT_at RowsAt.nil h.p7 (Nat.zero_le _) one_le
theorem K10.ua {w V : World} (h : K10 w V) : PodAt V (uT w.heap.size) := pT_at h.lb RowsAt.nil one_le (Nat.zero_le _)
theorem K10.ba {w V : World} (h : K10 w V) : ∀ b ∈ [bT w.heap.size], PodAt V b.p := fun b hb => by
  obtain rfl : b = bT w.heap.size := by simpa using hb
  exact pT_at RowsAt.nil h.p1 (Nat.zero_le _) one_le
theorem bT_prts (B : Nat) : ∀ b ∈ [bT B], b.p.prts.length ≤ 1000000 := fun b hb => by
  obtain rfl : b = bT B := by simpa using hb
  show 1 ≤ 1000000
  decide
set_option maxRecDepth 100000 in
theorem t_room1 (B : Nat) : roomS mT [bT B] qT = 2 := by kernel_rfl
set_option maxRecDepth 100000 in
theorem t_room2 (B : Nat) : roomS mT [bT B] (rT B) = 3 := by kernel_rfl
set_option maxRecDepth 100000 in
theorem t_suit1 (B : Nat) : suitS mT [bT B] sT = 0 := by kernel_rfl
set_option maxRecDepth 100000 in
theorem t_suit2 (B : Nat) : suitS mT [bT B] (tT B) = 0 := by kernel_rfl
set_option maxRecDepth 100000 in
theorem t_place : placeS mZ sT = 1 := by kernel_rfl
set_option maxRecDepth 100000 in
theorem t_suit3 (B : Nat) : suitS mT [bT B] (uT B) = 4 := by kernel_rfl
set_option maxRecDepth 100000 in
theorem t_pref : prefS mT sT = 0 := by kernel_rfl
set_option maxRecDepth 100000 in
theorem t_lightm : lightM mT = true ∧ lightM mZ = true := ⟨by kernel_rfl, by kernel_rfl⟩
set_option maxRecDepth 100000 in
theorem t_lightp (B : Nat) : lightP sT = true ∧ lightP (tT B) = true ∧ lightP (uT B) = true := ⟨by kernel_rfl, by kernel_rfl, by kernel_rfl⟩
theorem ta_room1 {w V : World} (h : K10 w V) : Calls Try.prog 33 #[.agg (mrow mT).toArray, .slice (some ⟨w.heap.size + 2, 0, none⟩) 1 1, .agg (prow qT).toArray] V fun e w' => e = .returned (.int .i64 2) ∧ Below V.heap.size V w' := by
  have h9 := sroom_any mT _ 1 [bT w.heap.size] qT V (mT_at V) h.bs h.ba h.qa (by show 1 ≤ 1000000; decide) (by show 0 ≤ 1000000; decide) (bT_prts _)
  rw [t_room1] at h9
  exact h9
theorem ta_room2 {w V : World} (h : K10 w V) : Calls Try.prog 33 #[.agg (mrow mT).toArray, .slice (some ⟨w.heap.size + 2, 0, none⟩) 1 1, .agg (prow (rT w.heap.size)).toArray] V fun e w' => e = .returned (.int .i64 3) ∧ Below V.heap.size V w' := by
  have h9 := sroom_any mT _ 1 [bT w.heap.size] (rT w.heap.size) V (mT_at V) h.bs h.ba h.ra (by show 1 ≤ 1000000; decide) (by show 1 ≤ 1000000; decide) (bT_prts _)
  rw [t_room2] at h9
  exact h9
theorem ta_suit1 {w V : World} (h : K10 w V) : Calls Try.prog 26 #[.agg (mrow mT).toArray, .slice (some ⟨w.heap.size + 2, 0, none⟩) 1 1, .agg (prow sT).toArray] V fun e w' => e = .returned (.int .i64 0) ∧ Below V.heap.size V w' := by
  have h9 := ssuits_any mT _ 1 [bT w.heap.size] sT V (mT_at V) h.bs h.ba h.sa t_lightm.1 (t_lightp 0).1 (by show 1 ≤ 1000000; decide) (bT_prts _)
  rw [t_suit1] at h9
  exact h9
theorem ta_suit2 {w V : World} (h : K10 w V) : Calls Try.prog 26 #[.agg (mrow mT).toArray, .slice (some ⟨w.heap.size + 2, 0, none⟩) 1 1, .agg (prow (tT w.heap.size)).toArray] V fun e w' => e = .returned (.int .i64 0) ∧ Below V.heap.size V w' := by
  have h9 := ssuits_any mT _ 1 [bT w.heap.size] (tT w.heap.size) V (mT_at V) h.bs h.ba h.ta t_lightm.1 (t_lightp _).2.1 (by show 1 ≤ 1000000; decide) (bT_prts _)
  rw [t_suit2] at h9
  exact h9
theorem ta_place {w V : World} (h : K10 w V) : Calls Try.prog 31 #[.agg #[.string ⟨#[]⟩, .string ⟨#[]⟩, .int .i64 0, .int .i64 0, .int .i64 0, .int .i64 0, .int .i64 0, .slice none 0 0, .slice none 0 0, .bool false], .agg (prow sT).toArray] V fun e w' => e = .returned (.int .i64 1) ∧ Below V.heap.size V w' := by
  have h9 := splace_any mZ sT V (mZ_at V) h.sa t_lightm.2 (t_lightp 0).1
  rw [t_place] at h9
  exact h9
theorem ta_suit3 {w V : World} (h : K10 w V) : Calls Try.prog 26 #[.agg (mrow mT).toArray, .slice (some ⟨w.heap.size + 2, 0, none⟩) 1 1, .agg (prow (uT w.heap.size)).toArray] V fun e w' => e = .returned (.int .i64 4) ∧ Below V.heap.size V w' := by
  have h9 := ssuits_any mT _ 1 [bT w.heap.size] (uT w.heap.size) V (mT_at V) h.bs h.ba h.ua t_lightm.1 (t_lightp _).2.2 (by show 1 ≤ 1000000; decide) (bT_prts _)
  rw [t_suit3] at h9
  exact h9
theorem ta_pref {w V : World} (h : K10 w V) : Calls Try.prog 32 #[.agg (mrow mT).toArray, .agg (prow sT).toArray] V fun e w' => e = .returned (.int .i64 0) ∧ Below V.heap.size V w' := by
  have h9 := sprefers_any mT sT V (mT_at V) h.sa t_lightm.1 (t_lightp 0).1
  rw [t_pref] at h9
  exact h9
set_option maxRecDepth 100000 in
set_option maxHeartbeats 8000000 in
theorem sknown_any (w : World) :
    Calls Try.prog 25 #[] w fun e w' => e = .returned (.bool true) ∧ Below w.heap.size w w' := by
  have HK0 := Lib.hid (Blks.nil w)
  go_enter Try.func25, Try.ntmps25
  go_upto_region 2 with ((with_reducible refine at_store (ty := 35) ?_); refine store_new rfl 35 (.tmp 1) (.tmp 9) rfl _ _ rfl rfl (by kernel_rfl) rfl (by rfl) rfl ?_)
  obtain ⟨W1, hW1⟩ : ∃ V, V = (w.alloc (.cells #[.string ⟨#[109]⟩, .string ⟨#[]⟩, .int .i64 1000, .int .i64 0, .int .i64 0, .int .i64 9, .int .i64 0, .slice none 0 0, .slice none 0 0, .bool true] 35)) := ⟨_, rfl⟩
  have HK1 := Lib.hid (show Blks w W1 [(35, [.string ⟨#[109]⟩, .string ⟨#[]⟩, .int .i64 1000, .int .i64 0, .int .i64 0, .int .i64 9, .int .i64 0, .slice none 0 0, .slice none 0 0, .bool true])] by rw [hW1]; exact (HK0.out.push 35 [.string ⟨#[109]⟩, .string ⟨#[]⟩, .int .i64 1000, .int .i64 0, .int .i64 0, .int .i64 9, .int .i64 0, .slice none 0 0, .slice none 0 0, .bool true]))
  have Hs1 := Lib.hid (show W1.heap.size = w.heap.size + 1 from HK1.out.sz)
  rw [← hW1]
  clear hW1 HK0
  go_upto_region 3 with (fail)
  (try simp only [Hs1.out])
  obtain ⟨W2, hW2⟩ : ∃ V, V = ((W1.alloc (.cells #[.int .i64 80] 3)).alloc (.cells #[.string ⟨#[112]⟩, .int .i64 800, .int .i64 0, .int .i64 0, .int .i64 1, .int .i64 0, .slice none 0 0, .slice none 0 0, .slice none 0 0, .slice none 0 0, .slice (some ⟨w.heap.size + 1, 0, none⟩) 1 1, .slice none 0 0, .bool false, .slice none 0 0, .int .i64 0, .int .i64 0, .string ⟨#[]⟩, .bool false, .bool false, .bool false, .string ⟨#[109]⟩] 56)) := ⟨_, rfl⟩
  have HK2 := Lib.hid (show Blks w W2 [(35, [.string ⟨#[109]⟩, .string ⟨#[]⟩, .int .i64 1000, .int .i64 0, .int .i64 0, .int .i64 9, .int .i64 0, .slice none 0 0, .slice none 0 0, .bool true]), (3, [.int .i64 80]), (56, [.string ⟨#[112]⟩, .int .i64 800, .int .i64 0, .int .i64 0, .int .i64 1, .int .i64 0, .slice none 0 0, .slice none 0 0, .slice none 0 0, .slice none 0 0, .slice (some ⟨w.heap.size + 1, 0, none⟩) 1 1, .slice none 0 0, .bool false, .slice none 0 0, .int .i64 0, .int .i64 0, .string ⟨#[]⟩, .bool false, .bool false, .bool false, .string ⟨#[109]⟩])] by rw [hW2]; exact ((HK1.out.push 3 [.int .i64 80]).push 56 [.string ⟨#[112]⟩, .int .i64 800, .int .i64 0, .int .i64 0, .int .i64 1, .int .i64 0, .slice none 0 0, .slice none 0 0, .slice none 0 0, .slice none 0 0, .slice (some ⟨w.heap.size + 1, 0, none⟩) 1 1, .slice none 0 0, .bool false, .slice none 0 0, .int .i64 0, .int .i64 0, .string ⟨#[]⟩, .bool false, .bool false, .bool false, .string ⟨#[109]⟩]))
  have Hs2 := Lib.hid (show W2.heap.size = w.heap.size + 3 from HK2.out.sz)
  rw [← hW2]
  clear hW2 HK1
  go_upto_region 4 with ((with_reducible refine at_store (ty := 47) ?_); refine store_new rfl 47 (.tmp 3) (.tmp 16) rfl _ _ rfl rfl (by kernel_rfl) rfl (List.all_eq_true.2 (prow_one (pT ⟨#[113]⟩ 300 none 0 [] none 0 []))) rfl ?_)
  (try simp only [Hs2.out])
  obtain ⟨W3, hW3⟩ : ∃ V, V = (W2.alloc (.cells #[.string ⟨#[113]⟩, .int .i64 300, .int .i64 0, .int .i64 0, .int .i64 1, .int .i64 0, .slice none 0 0, .slice none 0 0, .slice none 0 0, .slice none 0 0, .slice none 0 0, .slice none 0 0, .bool false, .slice none 0 0, .int .i64 0, .int .i64 0, .string ⟨#[]⟩, .bool false, .bool false, .bool false] 47)) := ⟨_, rfl⟩
  have HK3 := Lib.hid (show Blks w W3 [(35, [.string ⟨#[109]⟩, .string ⟨#[]⟩, .int .i64 1000, .int .i64 0, .int .i64 0, .int .i64 9, .int .i64 0, .slice none 0 0, .slice none 0 0, .bool true]), (3, [.int .i64 80]), (56, [.string ⟨#[112]⟩, .int .i64 800, .int .i64 0, .int .i64 0, .int .i64 1, .int .i64 0, .slice none 0 0, .slice none 0 0, .slice none 0 0, .slice none 0 0, .slice (some ⟨w.heap.size + 1, 0, none⟩) 1 1, .slice none 0 0, .bool false, .slice none 0 0, .int .i64 0, .int .i64 0, .string ⟨#[]⟩, .bool false, .bool false, .bool false, .string ⟨#[109]⟩]), (47, [.string ⟨#[113]⟩, .int .i64 300, .int .i64 0, .int .i64 0, .int .i64 1, .int .i64 0, .slice none 0 0, .slice none 0 0, .slice none 0 0, .slice none 0 0, .slice none 0 0, .slice none 0 0, .bool false, .slice none 0 0, .int .i64 0, .int .i64 0, .string ⟨#[]⟩, .bool false, .bool false, .bool false])] by rw [hW3]; exact (HK2.out.push 47 [.string ⟨#[113]⟩, .int .i64 300, .int .i64 0, .int .i64 0, .int .i64 1, .int .i64 0, .slice none 0 0, .slice none 0 0, .slice none 0 0, .slice none 0 0, .slice none 0 0, .slice none 0 0, .bool false, .slice none 0 0, .int .i64 0, .int .i64 0, .string ⟨#[]⟩, .bool false, .bool false, .bool false]))
  have Hs3 := Lib.hid (show W3.heap.size = w.heap.size + 4 from HK3.out.sz)
  rw [← hW3]
  clear hW3 HK2
  go_upto_region 5 with ((with_reducible refine at_store (ty := 47) ?_); refine store_new rfl 47 (.tmp 4) (.tmp 19) rfl _ _ (by show Value.pointer (some ⟨W3.heap.size + 1, 0, none⟩) = Value.pointer (some ⟨(W3.alloc _).heap.size, 0, none⟩); rw [World.size_alloc]) rfl (by kernel_rfl) rfl (List.all_eq_true.2 (prow_one (pT ⟨#[114]⟩ 200 none 0 [] (some ⟨W3.heap.size, 0, none⟩) 1 [80]))) rfl ?_)
  (try simp only [Hs3.out])
  obtain ⟨W4, hW4⟩ : ∃ V, V = ((W3.alloc (.cells #[.int .i64 80] 3)).alloc (.cells #[.string ⟨#[114]⟩, .int .i64 200, .int .i64 0, .int .i64 0, .int .i64 1, .int .i64 0, .slice none 0 0, .slice none 0 0, .slice none 0 0, .slice none 0 0, .slice (some ⟨w.heap.size + 4, 0, none⟩) 1 1, .slice none 0 0, .bool false, .slice none 0 0, .int .i64 0, .int .i64 0, .string ⟨#[]⟩, .bool false, .bool false, .bool false] 47)) := ⟨_, rfl⟩
  have HK4 := Lib.hid (show Blks w W4 [(35, [.string ⟨#[109]⟩, .string ⟨#[]⟩, .int .i64 1000, .int .i64 0, .int .i64 0, .int .i64 9, .int .i64 0, .slice none 0 0, .slice none 0 0, .bool true]), (3, [.int .i64 80]), (56, [.string ⟨#[112]⟩, .int .i64 800, .int .i64 0, .int .i64 0, .int .i64 1, .int .i64 0, .slice none 0 0, .slice none 0 0, .slice none 0 0, .slice none 0 0, .slice (some ⟨w.heap.size + 1, 0, none⟩) 1 1, .slice none 0 0, .bool false, .slice none 0 0, .int .i64 0, .int .i64 0, .string ⟨#[]⟩, .bool false, .bool false, .bool false, .string ⟨#[109]⟩]), (47, [.string ⟨#[113]⟩, .int .i64 300, .int .i64 0, .int .i64 0, .int .i64 1, .int .i64 0, .slice none 0 0, .slice none 0 0, .slice none 0 0, .slice none 0 0, .slice none 0 0, .slice none 0 0, .bool false, .slice none 0 0, .int .i64 0, .int .i64 0, .string ⟨#[]⟩, .bool false, .bool false, .bool false]), (3, [.int .i64 80]), (47, [.string ⟨#[114]⟩, .int .i64 200, .int .i64 0, .int .i64 0, .int .i64 1, .int .i64 0, .slice none 0 0, .slice none 0 0, .slice none 0 0, .slice none 0 0, .slice (some ⟨w.heap.size + 4, 0, none⟩) 1 1, .slice none 0 0, .bool false, .slice none 0 0, .int .i64 0, .int .i64 0, .string ⟨#[]⟩, .bool false, .bool false, .bool false])] by rw [hW4]; exact ((HK3.out.push 3 [.int .i64 80]).push 47 [.string ⟨#[114]⟩, .int .i64 200, .int .i64 0, .int .i64 0, .int .i64 1, .int .i64 0, .slice none 0 0, .slice none 0 0, .slice none 0 0, .slice none 0 0, .slice (some ⟨w.heap.size + 4, 0, none⟩) 1 1, .slice none 0 0, .bool false, .slice none 0 0, .int .i64 0, .int .i64 0, .string ⟨#[]⟩, .bool false, .bool false, .bool false]))
  have Hs4 := Lib.hid (show W4.heap.size = w.heap.size + 6 from HK4.out.sz)
  rw [← hW4]
  clear hW4 HK3
  go_upto_region 6 with ((with_reducible refine at_store (ty := 47) ?_); refine store_new rfl 47 (.tmp 5) (.tmp 21) rfl _ _ rfl rfl (by kernel_rfl) rfl (List.all_eq_true.2 (prow_one (pT ⟨#[115]⟩ 200 none 0 [] none 0 []))) rfl ?_)
  (try simp only [Hs4.out])
  obtain ⟨W5, hW5⟩ : ∃ V, V = (W4.alloc (.cells #[.string ⟨#[115]⟩, .int .i64 200, .int .i64 0, .int .i64 0, .int .i64 1, .int .i64 0, .slice none 0 0, .slice none 0 0, .slice none 0 0, .slice none 0 0, .slice none 0 0, .slice none 0 0, .bool false, .slice none 0 0, .int .i64 0, .int .i64 0, .string ⟨#[]⟩, .bool false, .bool false, .bool false] 47)) := ⟨_, rfl⟩
  have HK5 := Lib.hid (show Blks w W5 [(35, [.string ⟨#[109]⟩, .string ⟨#[]⟩, .int .i64 1000, .int .i64 0, .int .i64 0, .int .i64 9, .int .i64 0, .slice none 0 0, .slice none 0 0, .bool true]), (3, [.int .i64 80]), (56, [.string ⟨#[112]⟩, .int .i64 800, .int .i64 0, .int .i64 0, .int .i64 1, .int .i64 0, .slice none 0 0, .slice none 0 0, .slice none 0 0, .slice none 0 0, .slice (some ⟨w.heap.size + 1, 0, none⟩) 1 1, .slice none 0 0, .bool false, .slice none 0 0, .int .i64 0, .int .i64 0, .string ⟨#[]⟩, .bool false, .bool false, .bool false, .string ⟨#[109]⟩]), (47, [.string ⟨#[113]⟩, .int .i64 300, .int .i64 0, .int .i64 0, .int .i64 1, .int .i64 0, .slice none 0 0, .slice none 0 0, .slice none 0 0, .slice none 0 0, .slice none 0 0, .slice none 0 0, .bool false, .slice none 0 0, .int .i64 0, .int .i64 0, .string ⟨#[]⟩, .bool false, .bool false, .bool false]), (3, [.int .i64 80]), (47, [.string ⟨#[114]⟩, .int .i64 200, .int .i64 0, .int .i64 0, .int .i64 1, .int .i64 0, .slice none 0 0, .slice none 0 0, .slice none 0 0, .slice none 0 0, .slice (some ⟨w.heap.size + 4, 0, none⟩) 1 1, .slice none 0 0, .bool false, .slice none 0 0, .int .i64 0, .int .i64 0, .string ⟨#[]⟩, .bool false, .bool false, .bool false]), (47, [.string ⟨#[115]⟩, .int .i64 200, .int .i64 0, .int .i64 0, .int .i64 1, .int .i64 0, .slice none 0 0, .slice none 0 0, .slice none 0 0, .slice none 0 0, .slice none 0 0, .slice none 0 0, .bool false, .slice none 0 0, .int .i64 0, .int .i64 0, .string ⟨#[]⟩, .bool false, .bool false, .bool false])] by rw [hW5]; exact (HK4.out.push 47 [.string ⟨#[115]⟩, .int .i64 200, .int .i64 0, .int .i64 0, .int .i64 1, .int .i64 0, .slice none 0 0, .slice none 0 0, .slice none 0 0, .slice none 0 0, .slice none 0 0, .slice none 0 0, .bool false, .slice none 0 0, .int .i64 0, .int .i64 0, .string ⟨#[]⟩, .bool false, .bool false, .bool false]))
  have Hs5 := Lib.hid (show W5.heap.size = w.heap.size + 7 from HK5.out.sz)
  rw [← hW5]
  clear hW5 HK4
  go_upto_region 7 with ((with_reducible refine at_store (ty := 47) ?_); refine store_new rfl 47 (.tmp 6) (.tmp 24) rfl _ _ (by show Value.pointer (some ⟨W5.heap.size + 1, 0, none⟩) = Value.pointer (some ⟨(W5.alloc _).heap.size, 0, none⟩); rw [World.size_alloc]) rfl (by kernel_rfl) rfl (List.all_eq_true.2 (prow_one (pT ⟨#[112]⟩ 1000 none 0 [] (some ⟨W5.heap.size, 0, none⟩) 1 [80]))) rfl ?_)
  (try simp only [Hs5.out])
  obtain ⟨W6, hW6⟩ : ∃ V, V = ((W5.alloc (.cells #[.int .i64 80] 3)).alloc (.cells #[.string ⟨#[112]⟩, .int .i64 1000, .int .i64 0, .int .i64 0, .int .i64 1, .int .i64 0, .slice none 0 0, .slice none 0 0, .slice none 0 0, .slice none 0 0, .slice (some ⟨w.heap.size + 7, 0, none⟩) 1 1, .slice none 0 0, .bool false, .slice none 0 0, .int .i64 0, .int .i64 0, .string ⟨#[]⟩, .bool false, .bool false, .bool false] 47)) := ⟨_, rfl⟩
  have HK6 := Lib.hid (show Blks w W6 [(35, [.string ⟨#[109]⟩, .string ⟨#[]⟩, .int .i64 1000, .int .i64 0, .int .i64 0, .int .i64 9, .int .i64 0, .slice none 0 0, .slice none 0 0, .bool true]), (3, [.int .i64 80]), (56, [.string ⟨#[112]⟩, .int .i64 800, .int .i64 0, .int .i64 0, .int .i64 1, .int .i64 0, .slice none 0 0, .slice none 0 0, .slice none 0 0, .slice none 0 0, .slice (some ⟨w.heap.size + 1, 0, none⟩) 1 1, .slice none 0 0, .bool false, .slice none 0 0, .int .i64 0, .int .i64 0, .string ⟨#[]⟩, .bool false, .bool false, .bool false, .string ⟨#[109]⟩]), (47, [.string ⟨#[113]⟩, .int .i64 300, .int .i64 0, .int .i64 0, .int .i64 1, .int .i64 0, .slice none 0 0, .slice none 0 0, .slice none 0 0, .slice none 0 0, .slice none 0 0, .slice none 0 0, .bool false, .slice none 0 0, .int .i64 0, .int .i64 0, .string ⟨#[]⟩, .bool false, .bool false, .bool false]), (3, [.int .i64 80]), (47, [.string ⟨#[114]⟩, .int .i64 200, .int .i64 0, .int .i64 0, .int .i64 1, .int .i64 0, .slice none 0 0, .slice none 0 0, .slice none 0 0, .slice none 0 0, .slice (some ⟨w.heap.size + 4, 0, none⟩) 1 1, .slice none 0 0, .bool false, .slice none 0 0, .int .i64 0, .int .i64 0, .string ⟨#[]⟩, .bool false, .bool false, .bool false]), (47, [.string ⟨#[115]⟩, .int .i64 200, .int .i64 0, .int .i64 0, .int .i64 1, .int .i64 0, .slice none 0 0, .slice none 0 0, .slice none 0 0, .slice none 0 0, .slice none 0 0, .slice none 0 0, .bool false, .slice none 0 0, .int .i64 0, .int .i64 0, .string ⟨#[]⟩, .bool false, .bool false, .bool false]), (3, [.int .i64 80]), (47, [.string ⟨#[112]⟩, .int .i64 1000, .int .i64 0, .int .i64 0, .int .i64 1, .int .i64 0, .slice none 0 0, .slice none 0 0, .slice none 0 0, .slice none 0 0, .slice (some ⟨w.heap.size + 7, 0, none⟩) 1 1, .slice none 0 0, .bool false, .slice none 0 0, .int .i64 0, .int .i64 0, .string ⟨#[]⟩, .bool false, .bool false, .bool false])] by rw [hW6]; exact ((HK5.out.push 3 [.int .i64 80]).push 47 [.string ⟨#[112]⟩, .int .i64 1000, .int .i64 0, .int .i64 0, .int .i64 1, .int .i64 0, .slice none 0 0, .slice none 0 0, .slice none 0 0, .slice none 0 0, .slice (some ⟨w.heap.size + 7, 0, none⟩) 1 1, .slice none 0 0, .bool false, .slice none 0 0, .int .i64 0, .int .i64 0, .string ⟨#[]⟩, .bool false, .bool false, .bool false]))
  have Hs6 := Lib.hid (show W6.heap.size = w.heap.size + 9 from HK6.out.sz)
  rw [← hW6]
  clear hW6 HK5
  go_upto_region 8 with (first | ((with_reducible refine at_load (ty := 47) ?_); refine load_cells rfl 47 (.tmp 5) rfl (w.heap.size + 6) 0 rfl [.string ⟨#[115]⟩, .int .i64 200, .int .i64 0, .int .i64 0, .int .i64 1, .int .i64 0, .slice none 0 0, .slice none 0 0, .slice none 0 0, .slice none 0 0, .slice none 0 0, .slice none 0 0, .bool false, .slice none 0 0, .int .i64 0, .int .i64 0, .string ⟨#[]⟩, .bool false, .bool false, .bool false] _ Try.underlying47 rfl (by kernel_rfl) (blk_range (HK6.out.at' 6 _ rfl)) ?_) | ((with_reducible refine at_store (ty := 47) ?_); refine store_new rfl 47 (.tmp 7) (.tmp 25) rfl _ _ rfl rfl (by kernel_rfl) rfl (List.all_eq_true.2 (prow_one (pT ⟨#[115]⟩ 200 none 0 [] none 0 []))) rfl ?_))
  (try simp only [Hs6.out])
  obtain ⟨W7, hW7⟩ : ∃ V, V = (W6.alloc (.cells #[.string ⟨#[115]⟩, .int .i64 200, .int .i64 0, .int .i64 0, .int .i64 1, .int .i64 0, .slice none 0 0, .slice none 0 0, .slice none 0 0, .slice none 0 0, .slice none 0 0, .slice none 0 0, .bool false, .slice none 0 0, .int .i64 0, .int .i64 0, .string ⟨#[]⟩, .bool false, .bool false, .bool false] 47)) := ⟨_, rfl⟩
  have HK7 := Lib.hid (show Blks w W7 [(35, [.string ⟨#[109]⟩, .string ⟨#[]⟩, .int .i64 1000, .int .i64 0, .int .i64 0, .int .i64 9, .int .i64 0, .slice none 0 0, .slice none 0 0, .bool true]), (3, [.int .i64 80]), (56, [.string ⟨#[112]⟩, .int .i64 800, .int .i64 0, .int .i64 0, .int .i64 1, .int .i64 0, .slice none 0 0, .slice none 0 0, .slice none 0 0, .slice none 0 0, .slice (some ⟨w.heap.size + 1, 0, none⟩) 1 1, .slice none 0 0, .bool false, .slice none 0 0, .int .i64 0, .int .i64 0, .string ⟨#[]⟩, .bool false, .bool false, .bool false, .string ⟨#[109]⟩]), (47, [.string ⟨#[113]⟩, .int .i64 300, .int .i64 0, .int .i64 0, .int .i64 1, .int .i64 0, .slice none 0 0, .slice none 0 0, .slice none 0 0, .slice none 0 0, .slice none 0 0, .slice none 0 0, .bool false, .slice none 0 0, .int .i64 0, .int .i64 0, .string ⟨#[]⟩, .bool false, .bool false, .bool false]), (3, [.int .i64 80]), (47, [.string ⟨#[114]⟩, .int .i64 200, .int .i64 0, .int .i64 0, .int .i64 1, .int .i64 0, .slice none 0 0, .slice none 0 0, .slice none 0 0, .slice none 0 0, .slice (some ⟨w.heap.size + 4, 0, none⟩) 1 1, .slice none 0 0, .bool false, .slice none 0 0, .int .i64 0, .int .i64 0, .string ⟨#[]⟩, .bool false, .bool false, .bool false]), (47, [.string ⟨#[115]⟩, .int .i64 200, .int .i64 0, .int .i64 0, .int .i64 1, .int .i64 0, .slice none 0 0, .slice none 0 0, .slice none 0 0, .slice none 0 0, .slice none 0 0, .slice none 0 0, .bool false, .slice none 0 0, .int .i64 0, .int .i64 0, .string ⟨#[]⟩, .bool false, .bool false, .bool false]), (3, [.int .i64 80]), (47, [.string ⟨#[112]⟩, .int .i64 1000, .int .i64 0, .int .i64 0, .int .i64 1, .int .i64 0, .slice none 0 0, .slice none 0 0, .slice none 0 0, .slice none 0 0, .slice (some ⟨w.heap.size + 7, 0, none⟩) 1 1, .slice none 0 0, .bool false, .slice none 0 0, .int .i64 0, .int .i64 0, .string ⟨#[]⟩, .bool false, .bool false, .bool false]), (47, [.string ⟨#[115]⟩, .int .i64 200, .int .i64 0, .int .i64 0, .int .i64 1, .int .i64 0, .slice none 0 0, .slice none 0 0, .slice none 0 0, .slice none 0 0, .slice none 0 0, .slice none 0 0, .bool false, .slice none 0 0, .int .i64 0, .int .i64 0, .string ⟨#[]⟩, .bool false, .bool false, .bool false])] by rw [hW7]; exact (HK6.out.push 47 [.string ⟨#[115]⟩, .int .i64 200, .int .i64 0, .int .i64 0, .int .i64 1, .int .i64 0, .slice none 0 0, .slice none 0 0, .slice none 0 0, .slice none 0 0, .slice none 0 0, .slice none 0 0, .bool false, .slice none 0 0, .int .i64 0, .int .i64 0, .string ⟨#[]⟩, .bool false, .bool false, .bool false]))
  have Hs7 := Lib.hid (show W7.heap.size = w.heap.size + 10 from HK7.out.sz)
  rw [← hW7]
  clear hW7 HK6
  have y7 := (HK7.out.at' 9 _ rfl).cell 7
  have f7 := (HK7.out.at' 9 _ rfl).frozen 7
  have hs7 := Hs7.out
  dsimp only [List.getElem?_cons_zero, List.getElem?_cons_succ] at y7
  go_upto_region 9 with (fail)
  simp only [show w.heap.size + 1 + 1 = w.heap.size + 2 from rfl, show w.heap.size + 4 + 1 = w.heap.size + 5 from rfl, show w.heap.size + 7 + 1 = w.heap.size + 8 from rfl]
  obtain ⟨W8, hW8⟩ : ∃ V, V = W7.setCell ⟨w.heap.size + 9, 7, none⟩ (.slice (some ⟨w.heap.size + 10, 0, none⟩) 1 1) := ⟨_, rfl⟩
  have hz8 : W8.heap.size = w.heap.size + 10 := by rw [hW8]; simp; exact hs7
  obtain ⟨V, hV⟩ : ∃ V, V = W8.alloc (.cells #[.string ⟨#[97]⟩, .string ⟨#[98]⟩] 71) := ⟨_, rfl⟩
  have hot : ∀ i x, i ≠ 9 → ([(35, [.string ⟨#[109]⟩, .string ⟨#[]⟩, .int .i64 1000, .int .i64 0, .int .i64 0, .int .i64 9, .int .i64 0, .slice none 0 0, .slice none 0 0, .bool true]), (3, [.int .i64 80]), (56, [.string ⟨#[112]⟩, .int .i64 800, .int .i64 0, .int .i64 0, .int .i64 1, .int .i64 0, .slice none 0 0, .slice none 0 0, .slice none 0 0, .slice none 0 0, .slice (some ⟨w.heap.size + 1, 0, none⟩) 1 1, .slice none 0 0, .bool false, .slice none 0 0, .int .i64 0, .int .i64 0, .string ⟨#[]⟩, .bool false, .bool false, .bool false, .string ⟨#[109]⟩]), (47, [.string ⟨#[113]⟩, .int .i64 300, .int .i64 0, .int .i64 0, .int .i64 1, .int .i64 0, .slice none 0 0, .slice none 0 0, .slice none 0 0, .slice none 0 0, .slice none 0 0, .slice none 0 0, .bool false, .slice none 0 0, .int .i64 0, .int .i64 0, .string ⟨#[]⟩, .bool false, .bool false, .bool false]), (3, [.int .i64 80]), (47, [.string ⟨#[114]⟩, .int .i64 200, .int .i64 0, .int .i64 0, .int .i64 1, .int .i64 0, .slice none 0 0, .slice none 0 0, .slice none 0 0, .slice none 0 0, .slice (some ⟨w.heap.size + 4, 0, none⟩) 1 1, .slice none 0 0, .bool false, .slice none 0 0, .int .i64 0, .int .i64 0, .string ⟨#[]⟩, .bool false, .bool false, .bool false]), (47, [.string ⟨#[115]⟩, .int .i64 200, .int .i64 0, .int .i64 0, .int .i64 1, .int .i64 0, .slice none 0 0, .slice none 0 0, .slice none 0 0, .slice none 0 0, .slice none 0 0, .slice none 0 0, .bool false, .slice none 0 0, .int .i64 0, .int .i64 0, .string ⟨#[]⟩, .bool false, .bool false, .bool false]), (3, [.int .i64 80]), (47, [.string ⟨#[112]⟩, .int .i64 1000, .int .i64 0, .int .i64 0, .int .i64 1, .int .i64 0, .slice none 0 0, .slice none 0 0, .slice none 0 0, .slice none 0 0, .slice (some ⟨w.heap.size + 7, 0, none⟩) 1 1, .slice none 0 0, .bool false, .slice none 0 0, .int .i64 0, .int .i64 0, .string ⟨#[]⟩, .bool false, .bool false, .bool false]), (47, [.string ⟨#[115]⟩, .int .i64 200, .int .i64 0, .int .i64 0, .int .i64 1, .int .i64 0, .slice none 0 0, .slice none 0 0, .slice none 0 0, .slice none 0 0, .slice none 0 0, .slice none 0 0, .bool false, .slice none 0 0, .int .i64 0, .int .i64 0, .string ⟨#[]⟩, .bool false, .bool false, .bool false])] : List (TypeId × List Value))[i]? = some x → Blk V (w.heap.size + i) x.1 x.2 := fun i x hi hx => by
    rw [hV, hW8]
    exact ((HK7.out.at' i x hx).other (by show w.heap.size + i ≠ w.heap.size + 9; omega) _).alloc _
  have hlb : Blk V (w.heap.size + 10) 71 [.string ⟨#[97]⟩, .string ⟨#[98]⟩] := by
    have h9 := Blk.new W8 71 [.string ⟨#[97]⟩, .string ⟨#[98]⟩]
    rw [hz8] at h9
    rw [hV]
    exact h9
  have huu : Blk V (w.heap.size + 9) 47 (prow (uT w.heap.size)) := by
    rw [hV, hW8]
    exact ((HK7.out.at' 9 _ rfl).set 7 (.slice (some ⟨w.heap.size + 10, 0, none⟩) 1 1)).alloc _
  have hbl : Below w.heap.size w V := by
    rw [hV, hW8]
    exact (HK7.out.bl.setCell (by show w.heap.size ≤ w.heap.size + 9; omega) _).alloc (by simp; rw [hs7]; omega) _
  have HC := Lib.hid (show K10 w V from ⟨hot 0 _ (by decide) rfl, blk_rows (enc := pcs) (K := 1) (l := [80]) (fun x => rfl) (hot 1 _ (by decide) rfl), blk_rows (enc := brow) (K := 21) (l := [bT w.heap.size]) brow_len (hot 2 _ (by decide) rfl), hot 3 _ (by decide) rfl, blk_rows (enc := pcs) (K := 1) (l := [80]) (fun x => rfl) (hot 4 _ (by decide) rfl), hot 5 _ (by decide) rfl, hot 6 _ (by decide) rfl, blk_rows (enc := pcs) (K := 1) (l := [80]) (fun x => rfl) (hot 7 _ (by decide) rfl), hot 8 _ (by decide) rfl, huu, blk_rows (enc := kcs) (K := 2) (l := [⟨⟨#[97]⟩, ⟨#[98]⟩⟩]) kcs_len hlb, hbl⟩)
  rw [← hW8, ← hV]
  clear hot hV hlb huu hbl hz8 hW8 HK7 y7 f7 hs7 Hs1 Hs2 Hs3 Hs4 Hs5 Hs6 Hs7
  go_step
  (try dsimp only [List.append])
  go_wp2_with (first
    | ((with_reducible refine at_load (ty := 35) ?_); refine load_cells rfl 35 (.tmp 1) rfl (w.heap.size) 0 rfl (mrow mT) _ Try.underlying35 rfl (by kernel_rfl) (blk_range HC.out.m) ?_)
    | ((with_reducible refine at_load (ty := 47) ?_); refine load_cells rfl 47 (.tmp 3) rfl (w.heap.size + 3) 0 rfl (prow qT) _ Try.underlying47 rfl (by kernel_rfl) (blk_range HC.out.q) ?_)
    | ((with_reducible refine at_load (ty := 47) ?_); refine load_cells rfl 47 (.tmp 4) rfl (w.heap.size + 5) 0 rfl (prow (rT w.heap.size)) _ Try.underlying47 rfl (by kernel_rfl) (blk_range HC.out.r) ?_)
    | ((with_reducible refine at_load (ty := 47) ?_); refine load_cells rfl 47 (.tmp 5) rfl (w.heap.size + 6) 0 rfl (prow sT) _ Try.underlying47 rfl (by kernel_rfl) (blk_range HC.out.s) ?_)
    | ((with_reducible refine at_load (ty := 47) ?_); refine load_cells rfl 47 (.tmp 6) rfl (w.heap.size + 8) 0 rfl (prow (tT w.heap.size)) _ Try.underlying47 rfl (by kernel_rfl) (blk_range HC.out.t) ?_)
    | ((with_reducible refine at_load (ty := 47) ?_); refine load_cells rfl 47 (.tmp 7) rfl (w.heap.size + 9) 0 rfl (prow (uT w.heap.size)) _ Try.underlying47 rfl (by kernel_rfl) (blk_range HC.out.u) ?_)
    | (go_at_call 33; (with_reducible refine (ta_room1 HC.out).mono ?_); rintro e w1 ⟨rfl, hb⟩; have HD := Lib.hid (HC.out.mono hb); clear HC hb; have HC := HD; clear HD)
    | (go_at_call 33; (with_reducible refine (ta_room2 HC.out).mono ?_); rintro e w1 ⟨rfl, hb⟩; have HD := Lib.hid (HC.out.mono hb); clear HC hb; have HC := HD; clear HD)
    | (go_at_call 26; (with_reducible refine (ta_suit1 HC.out).mono ?_); rintro e w1 ⟨rfl, hb⟩; have HD := Lib.hid (HC.out.mono hb); clear HC hb; have HC := HD; clear HD)
    | (go_at_call 26; (with_reducible refine (ta_suit2 HC.out).mono ?_); rintro e w1 ⟨rfl, hb⟩; have HD := Lib.hid (HC.out.mono hb); clear HC hb; have HC := HD; clear HD)
    | (go_at_call 31; (with_reducible refine (ta_place HC.out).mono ?_); rintro e w1 ⟨rfl, hb⟩; have HD := Lib.hid (HC.out.mono hb); clear HC hb; have HC := HD; clear HD)
    | (go_at_call 26; (with_reducible refine (ta_suit3 HC.out).mono ?_); rintro e w1 ⟨rfl, hb⟩; have HD := Lib.hid (HC.out.mono hb); clear HC hb; have HC := HD; clear HD)
    | (go_at_call 32; (with_reducible refine (ta_pref HC.out).mono ?_); rintro e w1 ⟨rfl, hb⟩; have HD := Lib.hid (HC.out.mono hb); clear HC hb; have HC := HD; clear HD))
  go_ret
  exact ⟨rfl, HC.out.bl⟩
end Go.Proofs.Ythbpnfpalcgfeaa
namespace Go.Proofs.Ythbpnfpalcgfeaa
open Go.ChangeShapes Go.WideShapes Go.ChangeAt Go.RowKit
set_option linter.unusedVariables false
set_option linter.unusedSimpArgs false

theorem Try.cells23 : Try.prog.cellsOf 23 = 1 := by kernel_rfl
theorem Try.cells49 : Try.prog.cellsOf 49 = 36 := by kernel_rfl
/-- A case's cells. -/
def crow (m : Mac) (a : Option Addr) (n k : Nat) (p : Pd) (i0 i1 i2 i3 i4 : Int) : List Value := mrow m ++ .slice a n k :: (prow p ++ [.int .i64 i0, .int .i64 i1, .int .i64 i2, .int .i64 i3, .int .i64 i4])
set_option maxRecDepth 100000 in
set_option maxHeartbeats 4000000 in
theorem case_open {H : Type} {enc : TypeId × Value → H} {W : World} {fuel : Nat} {cs : List Value} {y : DataW H × List MemPlace} (hl : cs.length = 36)
    (h : DataW.trod enc Try.prog W 0 (fun _ => true) true fuel 49 cs = some y) :
    ∃ (m : Mac) (a : Option Addr) (l : List Bd) (k : Nat) (p : Pd) (i0 i1 i2 i3 i4 : Int), cs = crow m a l.length k p i0 i1 i2 i3 i4 ∧ MacIn W m ∧ PodIn W p ∧ BndL W a l ∧ l.length ≤ maxLen ∧ ∀ x ∈ l, BndIn W x := by
  obtain ⟨zs, _, _, _, _, hlen3, hk⟩ := DataW.trod_struct Try.underlying49 h
  match cs, hl with
  | c0 :: c1 :: c2 :: c3 :: c4 :: c5 :: c6 :: c7 :: c8 :: c9 :: c10 :: c11 :: c12 :: c13 :: c14 :: c15 :: c16 :: c17 :: c18 :: c19 :: c20 :: c21 :: c22 :: c23 :: c24 :: c25 :: c26 :: c27 :: c28 :: c29 :: c30 :: c31 :: c32 :: c33 :: c34 :: c35 :: [], _ =>
    match zs, hlen3 with
    | [z0, z1, z2, z3], _ =>
      have k0 := hk 0 _ rfl
      have k1 := hk 1 _ rfl
      have k2 := hk 2 _ rfl
      have k3 := hk 3 _ rfl
      obtain ⟨a1, l1, k1', r1⟩ := Go.Joins.slice_form Try.underlying23 k1
      rw [r1] at k1
      obtain ⟨L, g1, g2, g3, g4⟩ := open_nested_in (K := 21) (enc := brow) (In := BndIn) Try.underlying23 Try.cells56 (by decide) (fun cs fuel y hl h => bnd_open hl h) k1
      obtain ⟨us, _, _, _, _, hlen5, hv⟩ := DataW.trod_struct Try.underlying29 k3
      match us, hlen5 with
      | [u0, u1, u2, u3, u4], _ =>
        have v0 := hv 0 _ rfl
        have v1 := hv 1 _ rfl
        have v2 := hv 2 _ rfl
        have v3 := hv 3 _ rfl
        have v4 := hv 4 _ rfl
        obtain ⟨i0, p0, _⟩ := DataW.trod_int Try.underlying3 v0
        obtain ⟨i1, p1, _⟩ := DataW.trod_int Try.underlying3 v1
        obtain ⟨i2, p2, _⟩ := DataW.trod_int Try.underlying3 v2
        obtain ⟨i3, p3, _⟩ := DataW.trod_int Try.underlying3 v3
        obtain ⟨i4, p4, _⟩ := DataW.trod_int Try.underlying3 v4
        simp [cells_int, Try.cells35, Try.cells47, Try.cells23, Try.cells29] at k0 k2 r1 p0 p1 p2 p3 p4
        obtain ⟨m, hm, hM⟩ := mac_open rfl k0
        obtain ⟨p, hp, hP⟩ := pod_open rfl k2
        subst g1
        refine ⟨m, a1, L, k1', p, i0, i1, i2, i3, i4, ?_, hM, hP, g2, g3, g4⟩
        show [c0, c1, c2, c3, c4, c5, c6, c7, c8, c9] ++ c10 :: ([c11, c12, c13, c14, c15, c16, c17, c18, c19, c20, c21, c22, c23, c24, c25, c26, c27, c28, c29, c30] ++ [c31, c32, c33, c34, c35]) = _
        rw [hm, hp, r1, p0, p1, p2, p3, p4]
        rfl
set_option maxRecDepth 100000 in
theorem open_case {H : Type} {enc : TypeId × Value → H} {W : World} {base : Nat} {v : Value} {d : DataW H} {q : List MemPlace}
    (hv : Value.okWide Try.prog W .any base 49 v) (h : DataW.Trod enc Try.prog W 0 (fun _ => true) true 49 v d q) :
    ∃ (m : Mac) (a : Option Addr) (l : List Bd) (k : Nat) (p : Pd) (i0 i1 i2 i3 i4 : Int), v = .agg (crow m a l.length k p i0 i1 i2 i3 i4).toArray ∧ MacIn W m ∧ PodIn W p ∧ BndL W a l ∧ l.length ≤ maxLen ∧ ∀ x ∈ l, BndIn W x := by
  obtain ⟨cs, rfl, hsz⟩ := okWide_struct Try.underlying49 hv
  rw [Try.cells49] at hsz
  obtain ⟨fuel, hf⟩ := h
  obtain ⟨l⟩ := cs
  obtain ⟨m, a, L, k, p, i0, i1, i2, i3, i4, e, h1, h2, h3, h4, h5⟩ := case_open (cs := l) hsz hf
  exact ⟨m, a, L, k, p, i0, i1, i2, i3, i4, by rw [e], h1, h2, h3, h4, h5⟩
/-- A case in a block of its own. -/
structure CB (w : World) (m : Mac) (c : Option Addr) (n kc : Nat) (p : Pd) (i0 i1 i2 i3 i4 : Int) (V : World) : Prop where
  bx : Box w.heap.size (crow m c n kc p i0 i1 i2 i3 i4) V
  bl : Below w.heap.size w V
theorem CB.mono {w V V' : World} {m : Mac} {c : Option Addr} {n kc : Nat} {p : Pd} {i0 i1 i2 i3 i4 : Int} (h : CB w m c n kc p i0 i1 i2 i3 i4 V) (hb : Below V.heap.size V V') : CB w m c n kc p i0 i1 i2 i3 i4 V' :=
  ⟨h.bx.mono hb, h.bl.trans (hb.mono h.bl.size)⟩
theorem CB.push {w V : World} {m : Mac} {c : Option Addr} {n kc : Nat} {p : Pd} {i0 i1 i2 i3 i4 : Int} (h : CB w m c n kc p i0 i1 i2 i3 i4 V) (o : Obj) : CB w m c n kc p i0 i1 i2 i3 i4 (V.alloc o) := h.mono ((Below.refl _ _).alloc (Nat.le_refl _) o)
theorem CB.set {w V : World} {m : Mac} {c : Option Addr} {n kc : Nat} {p : Pd} {i0 i1 i2 i3 i4 : Int} (h : CB w m c n kc p i0 i1 i2 i3 i4 V) {q : Addr} (hq : w.heap.size < q.block) (v : Value) : CB w m c n kc p i0 i1 i2 i3 i4 (V.setCell q v) := by
  have hb : Below (w.heap.size + 1) V (V.setCell q v) := (Below.refl _ _).setCell hq v
  exact ⟨⟨Nat.lt_of_lt_of_le h.bx.lt hb.size, fun i => by rw [hb.cell (p := ⟨w.heap.size, i, none⟩) (Nat.lt_succ_self _)]; exact h.bx.cell i⟩, h.bl.setCell (Nat.le_of_lt hq) v⟩
theorem CB.rm {w V : World} {m : Mac} {c : Option Addr} {n kc : Nat} {p : Pd} {i0 i1 i2 i3 i4 : Int} (h : CB w m c n kc p i0 i1 i2 i3 i4 V) : V.rangeAt w.heap.size 0 (mrow m) := fun j v hj => by
  have hj10 : j < 10 := (List.getElem?_eq_some_iff.1 hj).1
  rw [Nat.zero_add, h.bx.cell]
  unfold crow
  rw [List.getElem?_append_left hj10]
  exact hj
theorem CB.rp {w V : World} {m : Mac} {c : Option Addr} {n kc : Nat} {p : Pd} {i0 i1 i2 i3 i4 : Int} (h : CB w m c n kc p i0 i1 i2 i3 i4 V) : V.rangeAt w.heap.size 11 (prow p) := fun j v hj => by
  have hj20 : j < 20 := (List.getElem?_eq_some_iff.1 hj).1
  rw [h.bx.cell]
  unfold crow
  rw [List.getElem?_append_right (by show 10 ≤ 11 + j; omega), show 11 + j - (mrow m).length = j + 1 by show 11 + j - 10 = j + 1; omega, List.getElem?_cons_succ, List.getElem?_append_left hj20]
  exact hj
theorem CB.cb {w V : World} {m : Mac} {c : Option Addr} {n kc : Nat} {p : Pd} {i0 i1 i2 i3 i4 : Int} (h : CB w m c n kc p i0 i1 i2 i3 i4 V) : V.cell? ⟨w.heap.size, 10, none⟩ = some (.slice c n kc) := by rw [h.bx.cell]; rfl
end Go.Proofs.Ythbpnfpalcgfeaa
