/-
  Labels: texts, terms, Right, Has, All.
-/
import Derived.Test.YtdfadbpepmkicaaGreatMGx
import Derived.Test.YtdfadbpepmkicaaGreatMBx
import Derived.OwnWalk
import Derived.Maps.OwnSet
import Derived.StringKeys
namespace Go.Proofs.YtdfadbpepmkicaaGreat
namespace Lb
open Go.RowKit
set_option linter.unusedSimpArgs false
set_option linter.unusedVariables false
def getV (l : List Lab) (key : ByteArray) : ByteArray := match l.find? (fun x => strB x.key key) with | some x => x.val | none => emp
def getB (l : List Lab) (key : ByteArray) : Bool := l.any fun x => strB x.key key
theorem get_at {l : List Lab} {k : Nat} {x : Lab} {key : ByteArray} (hx : l[k]? = some x) (hn : (l.take k).any (fun x => strB x.key key) = false) (h : strB x.key key = true) : getV l key = x.val ∧ getB l key = true := by
  have e : l = l.take k ++ x :: l.drop (k + 1) := by
    obtain ⟨hk, rfl⟩ := List.getElem?_eq_some_iff.1 hx
    rw [List.getElem_cons_drop, List.take_append_drop]
  have hn2 : (l.take k).find? (fun x => strB x.key key) = none := by
    rw [List.find?_eq_none]
    rw [List.any_eq_false] at hn
    exact hn
  constructor
  · unfold getV
    rw [e, List.find?_append, hn2]
    simp [h]
  · unfold getB
    rw [e, List.any_append]
    simp [h]
theorem get_no {l : List Lab} {n : Nat} {key : ByteArray} (hl : l.length = n) (hn : (l.take n).any (fun x => strB x.key key) = false) : getV l key = emp ∧ getB l key = false := by
  rw [List.take_of_length_le (Nat.le_of_eq hl)] at hn
  refine ⟨?_, hn⟩
  have : l.find? (fun x => strB x.key key) = none := by
    rw [List.find?_eq_none]
    rw [List.any_eq_false] at hn
    exact hn
  unfold getV
  rw [this]
theorem any_take1 {α : Type} {P : α → Bool} {l : List α} {k : Nat} {x : α} (h : l[k]? = some x) (hp : P x = false) (ha : (l.take k).any P = false) : (l.take (k + 1)).any P = false := by
  rw [take_at h, List.any_append, ha]; simp [hp]
set_option maxRecDepth 100000 in
set_option maxHeartbeats 4000000 in
theorem get_any (c : Option Addr) (kc : Nat) (l : List Lab) (key : ByteArray) (w : World) (hF : LabL w c l) (hm : l.length ≤ maxLen) :
    Calls Tryz.prog 154 #[.slice c l.length kc, .string key] w fun e w' => e = .returned (.tuple #[.string (getV l key), .bool (getB l key)]) ∧ Below w.heap.size w w' := by
  unfold maxLen at hm
  have HF := Lib.hid hF
  clear hF
  obtain ⟨n, hln⟩ : ∃ n, l.length = n := ⟨_, rfl⟩
  rw [hln] at hm ⊢
  have Hln := Lib.hid hln
  clear hln
  go_enter Tryz.func154, Tryz.ntmps154
  go_wp2
  go_loopw [10] (fun i wr => ∃ k : Nat, k ≤ n ∧ i = .int .i64 k ∧ (l.take k).any (fun x => strB x.key key) = false ∧ Below w.heap.size w wr) (fun i _ => n - (intOf i).toNat)
  case atStart => exact ⟨0, by omega, rfl, rfl, by (repeat' (first | with_reducible exact Below.refl _ _ | with_reducible assumption | with_reducible refine Below.drew ?_ | with_reducible refine below_drewN' ?_ _ | with_reducible refine Below.alloc ?_ ?_ _ | with_reducible refine Below.setCell ?_ ?_ _ | with_reducible refine below_step (by assumption) ?_ ?_ | omega | (simp; done) | (simp; omega)))⟩
  case round =>
    obtain ⟨k, hk, rfl, hE, hB⟩ := hrel
    obtain ⟨hcB, hfB⟩ := bcell hB
    have hbz := hB.size
    have HE := Lib.hid hE
    clear hE
    by_cases hlt : k < n
    · obtain ⟨x, hx⟩ := mem_at (l := l) (k := k) (by rw [Hln.out]; exact hlt)
      obtain ⟨b, off, rfl, hb, hc⟩ := HF.out (by rw [Hln.out]; omega)
      have hbw : b < wr.heap.size := by omega
      obtain ⟨c0, c1⟩ := lab_cells (hc k x hx)
      have Hx := Lib.hid hx
      clear hc hx
      cases hv : strB x.key key
      · have Hs := Lib.hid (any_take1 (P := fun x => strB x.key key) Hx.out hv HE.out)
        have k1 := (strB_list x.key key).trans hv
        clear hv
        go_wp2
        go_roundw
        case rel => exact ⟨k + 1, by omega, by go_num, Hs.out, by (repeat' (first | with_reducible exact Below.refl _ _ | with_reducible assumption | with_reducible refine Below.drew ?_ | with_reducible refine below_drewN' ?_ _ | with_reducible refine Below.alloc ?_ ?_ _ | with_reducible refine Below.setCell ?_ ?_ _ | with_reducible refine below_step (by assumption) ?_ ?_ | omega | (simp; done) | (simp; omega)))⟩
        case measure => simp [intOf]; omega
      · have Hv := Lib.hid (get_at Hx.out HE.out hv).1
        have Hb := Lib.hid (get_at Hx.out HE.out hv).2
        have k1 := (strB_list x.key key).trans hv
        clear hv
        go_wp2
        go_ret2
        exact ⟨by rw [Hv.out, Hb.out]; rfl, by (repeat' (first | with_reducible exact Below.refl _ _ | with_reducible assumption | with_reducible refine Below.drew ?_ | with_reducible refine below_drewN' ?_ _ | with_reducible refine Below.alloc ?_ ?_ _ | with_reducible refine Below.setCell ?_ ?_ _ | with_reducible refine below_step (by assumption) ?_ ?_ | omega | (simp; done) | (simp; omega)))⟩
    · obtain rfl : k = n := by omega
      have Hv := Lib.hid (get_no Hln.out HE.out).1
      have Hb := Lib.hid (get_no Hln.out HE.out).2
      go_wp2
      go_ret2
      exact ⟨by rw [Hv.out, Hb.out]; rfl, by (repeat' (first | with_reducible exact Below.refl _ _ | with_reducible assumption | with_reducible refine Below.drew ?_ | with_reducible refine below_drewN' ?_ _ | with_reducible refine Below.alloc ?_ ?_ _ | with_reducible refine Below.setCell ?_ ?_ _ | with_reducible refine below_step (by assumption) ?_ ?_ | omega | (simp; done) | (simp; omega)))⟩
theorem filt_yes {α : Type} {P : α → Bool} {xs : List α} {k : Nat} {x : α} (h : xs[k]? = some x) (hp : P x = true) : (xs.take (k + 1)).filter P = (xs.take k).filter P ++ [x] := by
  rw [take_at h, List.filter_append]; simp [hp]
theorem filt_no {α : Type} {P : α → Bool} {xs : List α} {k : Nat} {x : α} (h : xs[k]? = some x) (hp : P x = false) : (xs.take (k + 1)).filter P = (xs.take k).filter P := by
  rw [take_at h, List.filter_append]; simp [hp]
theorem OwnL.cap {α : Type} {enc : α → List Value} {K B : Nat} {t : TypeId} {l : List α} {v : Value} {w : World} {a : Option Addr} {n c : Nat} (h : OwnL enc K B t l v w) (e : v = .slice a n c) : n ≤ c := by
  subst e
  obtain ⟨hl, h | ⟨g, cap, cur, hv, r⟩⟩ := h
  · obtain ⟨h, _⟩ := h
    simp only [Value.slice.injEq] at h
    omega
  · simp only [Value.slice.injEq] at hv
    obtain ⟨_, h1, h2⟩ := hv
    obtain ⟨_, hnc, _⟩ := r
    omega
def labB (x y : Lab) : Bool := decide (x = y)
theorem guard_lab (op : BinOp) (x y : Operand) (xs ys : Array Value) (w : World) : (eqGuard op 83 x y (.agg xs) (.agg ys)).run Tryz.prog w = .ok () w := run_eqGuard_agg w op _ x y xs ys (by kernel_rfl)
theorem eql_lab0 (x y : Lab) (w : World) : (Op.equalIn 10000 83 (.agg #[.string x.key, .string x.val]) (.agg #[.string y.key, .string y.val])).run Tryz.prog w = .ok (labB x y) w := by
  have hus := Tryz.underlying9
  have has := Tryz.isAgg9
  have hzs := Tryz.sizeOf9
  have hS : Tryz.prog.underlying 83 = some (.struct (Tryz.prog.fieldsOf 83)) := by kernel_rfl
  have hp : Tryz.prog.stoodInHeld 83 = false := by kernel_rfl
  rw [show (10000 : Nat) = 9999 + 1 from rfl, run_equalIn_agg w 9999 83 _ _ hS hp]
  simp only [Program.fieldsOf, Tryz.underlying83]
  go_simp
  obtain ⟨x1, x2⟩ := x
  obtain ⟨y1, y2⟩ := y
  unfold labB
  by_cases h1 : x1 = y1 <;> by_cases h2 : x2 = y2 <;> simp [h1, h2, str_inj]
theorem eql_lab (x y : Lab) (w : World) : (binOp .eql 83 (.agg #[.string x.key, .string x.val]) (.agg #[.string y.key, .string y.val])).run Tryz.prog w = .ok (.bool (labB x y)) w := by
  rw [run_eql_struct, eql_lab0]; rfl
def idxI {α : Type} (p : α → Bool) (l : List α) : Int := if l.any p then (l.findIdx p : Int) else -1
theorem idx_at {α : Type} {p : α → Bool} : ∀ {l : List α} {k : Nat} {x : α}, l[k]? = some x → (l.take k).any p = false → p x = true → idxI p l = k := by
  intro l k x hx hn h
  have e : l = l.take k ++ x :: l.drop (k + 1) := by
    obtain ⟨hk, rfl⟩ := List.getElem?_eq_some_iff.1 hx
    rw [List.getElem_cons_drop, List.take_append_drop]
  have hk := lt_at hx
  have h1 : l.any p = true := by rw [e, List.any_append]; simp [h]
  have h2 : l.findIdx p = k := by
    rw [e, List.findIdx_append]
    have h3 : ¬ (l.take k).findIdx p < (l.take k).length := by
      intro hlt
      have := List.findIdx_getElem (w := hlt)
      rw [List.any_eq_false] at hn
      exact hn _ (List.getElem_mem hlt) this
    rw [if_neg h3, List.findIdx_cons, h]
    simp
    omega
  unfold idxI
  rw [h1, h2]
  rfl
theorem idx_no {α : Type} {p : α → Bool} {l : List α} {n : Nat} (hl : l.length = n) (hn : (l.take n).any p = false) : idxI p l = -1 := by
  rw [List.take_of_length_le (Nat.le_of_eq hl)] at hn
  unfold idxI
  rw [hn]
  rfl
theorem idx_geq {α : Type} (p : α → Bool) (l : List α) : decide (0 ≤ idxI p l) = l.any p := by
  unfold idxI
  cases h : l.any p
  · rfl
  · simp
set_option maxRecDepth 100000 in
set_option maxHeartbeats 4000000 in
theorem indexl_any (c : Option Addr) (kc : Nat) (l : List Lab) (v : Lab) (w : World) (hF : LabL w c l) (hm : l.length ≤ 1000000) :
    Calls Tryz.prog 156 #[.slice c l.length kc, .agg #[.string v.key, .string v.val]] w fun e w' => e = .returned (.int .i64 (idxI (labB v) l)) ∧ Below w.heap.size w w' := by
  have HF := Lib.hid hF
  clear hF
  obtain ⟨n, hln⟩ : ∃ n, l.length = n := ⟨_, rfl⟩
  rw [hln] at hm ⊢
  have Hln := Lib.hid hln
  clear hln
  have hq := eql_lab
  have hg := guard_lab
  go_enter Tryz.func156, Tryz.ntmps156
  go_wp2
  obtain ⟨W, hW⟩ : ∃ W, W = w.alloc (.cells #[.string v.key, .string v.val] 83) := ⟨_, rfl⟩
  have HW := Lib.hid (show Below w.heap.size w W by rw [hW]; (repeat' (first | with_reducible exact Below.refl _ _ | with_reducible assumption | with_reducible refine Below.drew ?_ | with_reducible refine below_drewN' ?_ _ | with_reducible refine Below.alloc ?_ ?_ _ | with_reducible refine Below.setCell ?_ ?_ _ | with_reducible refine below_step (by assumption) ?_ ?_ | omega | (simp; done) | (simp; omega))))
  have hWz : w.heap.size < W.heap.size := by rw [hW]; simp
  have s0 : W.cell? ⟨w.heap.size, 0, none⟩ = some (.string v.key) := by rw [hW]; simp [go_sem]
  have s1 : W.cell? ⟨w.heap.size, 1, none⟩ = some (.string v.val) := by rw [hW]; simp [go_sem]
  have HFW := Lib.hid (HF.out.mono HW.out)
  rw [← hW]
  clear hW
  go_loopw [8] (fun i wr => ∃ k : Nat, k ≤ n ∧ i = .int .i64 k ∧ (l.take k).any (labB v) = false ∧ Below W.heap.size W wr) (fun i _ => n - (intOf i).toNat)
  case atStart => exact ⟨0, by omega, rfl, rfl, by (repeat' (first | with_reducible exact Below.refl _ _ | with_reducible assumption | with_reducible refine Below.drew ?_ | with_reducible refine below_drewN' ?_ _ | with_reducible refine Below.alloc ?_ ?_ _ | with_reducible refine Below.setCell ?_ ?_ _ | with_reducible refine below_step (by assumption) ?_ ?_ | omega | (simp; done) | (simp; omega)))⟩
  case round =>
    obtain ⟨k, hk, rfl, hE, hB⟩ := hrel
    obtain ⟨hcB, hfB⟩ := bcell hB
    have hbz := hB.size
    have HE := Lib.hid hE
    have HB := Lib.hid hB
    clear hE
    by_cases hlt : k < n
    · obtain ⟨x, hx⟩ := mem_at (l := l) (k := k) (by rw [Hln.out]; exact hlt)
      obtain ⟨b, off, rfl, hb, hc⟩ := HFW.out (by rw [Hln.out]; omega)
      have hbw : b < wr.heap.size := by omega
      have hww : w.heap.size < wr.heap.size := by omega
      obtain ⟨c0, c1⟩ := lab_cells (hc k x hx)
      have Hx := Lib.hid hx
      clear hc hx
      cases hv : labB v x
      · have Hs := Lib.hid (any_take1 (P := labB v) Hx.out hv HE.out)
        have hq1 := fun w => (hq v x w).trans (by rw [hv])
        clear hq hv
        go_wp2
        have hcH := held_cell
        refine region_rel (by kernel_rfl) (by kernel_rfl) ?_
        repeat
          ((with_reducible refine relStep (fun K hK => ?_))
           (have HK := Lib.hid hK)
           clear hK
           (first
             | (apply relInl
                · intro r n hf
                  have Hf := Lib.hid hf
                  clear hf
                  unfold relAt
                  go_simp
                  (first | (refine relUpon_val ?_ (Below.refl _ _); exact rfl) | exact rfl | (refine relUpon_enter ?_; fail))
                (simp only [Act.put, List.setIfInBounds_toArray, List.set_cons_zero, List.set_cons_succ])
                (with_reducible refine HK.out _ _ ?_)
                clear HK K)
             | (fail)))
        refine relNil ?_
        intro r5 n5 hx5
        clear hcH
        (try simp only [List.nil_append, List.cons_append, List.mem_cons, List.not_mem_nil, or_false, forall_eq_or_imp, forall_eq, false_implies, implies_true] at hx5)
        obtain ⟨w5, hb5⟩ := n5
        (try dsimp only)
        obtain ⟨hc5, hf5⟩ := bcell hb5
        have hz5 := hb5.size
        (try simp at hz5)
        go_wp2
        go_roundw
        case rel => exact ⟨k + 1, by omega, by go_num, Hs.out, by (repeat' (first | with_reducible exact Below.refl _ _ | with_reducible assumption | with_reducible refine Below.drew ?_ | with_reducible refine below_drewN' ?_ _ | with_reducible refine Below.alloc ?_ ?_ _ | with_reducible refine Below.setCell ?_ ?_ _ | with_reducible refine below_step (by assumption) ?_ ?_ | omega | (simp; done) | (simp; omega)))⟩
        case measure => simp [intOf]; omega
      · have Hs := Lib.hid (idx_at (p := labB v) Hx.out HE.out hv)
        have hq1 := fun w => (hq v x w).trans (by rw [hv])
        clear hq hv
        go_wp2
        have hcH := held_cell
        refine region_rel (by kernel_rfl) (by kernel_rfl) ?_
        repeat
          ((with_reducible refine relStep (fun K hK => ?_))
           (have HK := Lib.hid hK)
           clear hK
           (first
             | (apply relInl
                · intro r n hf
                  have Hf := Lib.hid hf
                  clear hf
                  unfold relAt
                  go_simp
                  (first | (refine relUpon_val ?_ (Below.refl _ _); exact rfl) | exact rfl | (refine relUpon_enter ?_; fail))
                (simp only [Act.put, List.setIfInBounds_toArray, List.set_cons_zero, List.set_cons_succ])
                (with_reducible refine HK.out _ _ ?_)
                clear HK K)
             | (fail)))
        refine relNil ?_
        intro r5 n5 hx5
        clear hcH
        (try simp only [List.nil_append, List.cons_append, List.mem_cons, List.not_mem_nil, or_false, forall_eq_or_imp, forall_eq, false_implies, implies_true] at hx5)
        obtain ⟨w5, hb5⟩ := n5
        (try dsimp only)
        obtain ⟨hc5, hf5⟩ := bcell hb5
        have hz5 := hb5.size
        (try simp at hz5)
        go_wp2
        go_ret
        exact ⟨by rw [Hs.out]; rfl, HW.out.trans (Below.mono (by (repeat' (first | with_reducible exact Below.refl _ _ | with_reducible assumption | with_reducible refine Below.drew ?_ | with_reducible refine below_drewN' ?_ _ | with_reducible refine Below.alloc ?_ ?_ _ | with_reducible refine Below.setCell ?_ ?_ _ | with_reducible refine below_step (by assumption) ?_ ?_ | omega | (simp; done) | (simp; omega)))) (Nat.le_of_lt hWz))⟩
    · obtain rfl : k = n := by omega
      have Hs := Lib.hid (idx_no (p := labB v) Hln.out HE.out)
      go_wp2
      go_ret
      exact ⟨by rw [Hs.out]; rfl, HW.out.trans (HB.out.mono (Nat.le_of_lt hWz))⟩
set_option maxRecDepth 100000 in
theorem containsl_any (c : Option Addr) (kc : Nat) (l : List Lab) (v : Lab) (w : World) (hF : LabL w c l) (hm : l.length ≤ 1000000) :
    Calls Tryz.prog 148 #[.slice c l.length kc, .agg #[.string v.key, .string v.val]] w fun e w' => e = .returned (.bool (l.any (labB v))) ∧ Below w.heap.size w w' := by
  rw [← idx_geq]
  have A := fun V (h : LabL V c l) => indexl_any c kc l v V h hm
  obtain ⟨i, hi⟩ : ∃ i, idxI (labB v) l = i := ⟨_, rfl⟩
  rw [hi]
  simp only [hi] at A
  clear hi
  have HA := Lib.hid A
  clear A
  go_enter Tryz.func148, Tryz.ntmps148
  go_wp2_with (go_at_call 156; (with_reducible refine (HA.out _ (hF.mono (by (repeat' (first | with_reducible exact Below.refl _ _ | with_reducible assumption | with_reducible refine Below.drew ?_ | with_reducible refine below_drewN' ?_ _ | with_reducible refine Below.alloc ?_ ?_ _ | with_reducible refine Below.setCell ?_ ?_ _ | with_reducible refine below_step (by assumption) ?_ ?_ | omega | (simp; done) | (simp; omega)))))).mono ?_); rintro e w1 ⟨rfl, hb1⟩; have hz1 := hb1.size; (try simp at hz1))
  go_ret
  exact ⟨by first | rfl | simp, by (repeat' (first | with_reducible exact Below.refl _ _ | with_reducible assumption | with_reducible refine Below.drew ?_ | with_reducible refine below_drewN' ?_ _ | with_reducible refine Below.alloc ?_ ?_ _ | with_reducible refine Below.setCell ?_ ?_ _ | with_reducible refine below_step (by assumption) ?_ ?_ | omega | (simp; done) | (simp; omega)))⟩
def addD (d : Int × Int) (k : Int) : Int × Int := (if 112589990684262400 < d.1 then 1127025806749466624 else d.1 * 10 + k, (d.2 * 10 + k) % 1000)
def digB (s : ByteArray) (i : Nat) : Bool := decide (i < s.size ∧ 48 ≤ (s.get! i).toNat ∧ (s.get! i).toNat ≤ 57)
def intF (s : ByteArray) : Nat → Nat → Int × Int → (Int × Int) × Nat
  | 0, i, d => (d, i)
  | f + 1, i, d => if digB s i then intF s f (i + 1) (addD d (((s.get! i).toNat : Int) - 48)) else (d, i)
def intV (s : ByteArray) : (Int × Int) × Nat := intF s s.size 0 (0, 0)
theorem intF_end {s : ByteArray} (f i : Nat) (d : Int × Int) (h : digB s i = false) : intF s f i d = (d, i) := by
  cases f with
  | zero => rfl
  | succ f => rw [intF, h]; rfl
theorem addD_bd {d : Int × Int} {k : Int} (h1 : 0 ≤ d.1 ∧ d.1 ≤ 1127025806749466624) (h2 : 0 ≤ d.2 ∧ d.2 < 1000) (hk : 0 ≤ k ∧ k ≤ 9) : (0 ≤ (addD d k).1 ∧ (addD d k).1 ≤ 1127025806749466624) ∧ (0 ≤ (addD d k).2 ∧ (addD d k).2 < 1000) := by
  unfold addD
  dsimp only
  split <;> omega
theorem intF_le (s : ByteArray) : ∀ f i d, i ≤ s.size → (intF s f i d).2 ≤ s.size := by
  intro f
  induction f with
  | zero => intro i d h; exact h
  | succ f ih =>
    intro i d h
    rw [intF]
    split
    next hd => exact ih _ _ (by unfold digB at hd; simp at hd; omega)
    next => exact h
structure DecAt (b : Nat) (x y z : Int) (wr : World) : Prop where
  sz : b < wr.heap.size
  c0 : wr.cell? ⟨b, 0, none⟩ = some (.int .i64 x)
  c1 : wr.cell? ⟨b, 1, none⟩ = some (.int .i64 y)
  c2 : wr.cell? ⟨b, 2, none⟩ = some (.int .i64 z)
  f : ∀ j, wr.frozen? ⟨b, j, none⟩ = false
set_option maxRecDepth 100000 in
set_option maxHeartbeats 8000000 in
theorem integer_any (s : ByteArray) (hs : s.size ≤ 1000000000) (w : World) :
    Calls Tryz.prog 161 #[.string s] w fun e w' => e = .returned (.tuple #[.agg #[.int .i64 (intV s).1.1, .int .i64 (intV s).1.2, .int .i64 0], .string (s.extract (intV s).2 s.size)]) ∧ Below w.heap.size w w' := by
  obtain ⟨n, hn⟩ : ∃ n, s.size = n := ⟨_, rfl⟩
  go_enter Tryz.func161, Tryz.ntmps161
  go_wp2
  go_loopw [9] (fun i wr => ∃ (k f : Nat) (D : Int × Int), k ≤ s.size ∧ s.size ≤ k + f ∧ i = .int .i64 k ∧ intV s = intF s f k D ∧ (0 ≤ D.1 ∧ D.1 ≤ 1127025806749466624) ∧ (0 ≤ D.2 ∧ D.2 < 1000) ∧ DecAt w.heap.size 0 0 0 wr ∧ DecAt (w.heap.size + 1) D.1 D.2 0 wr ∧ Below w.heap.size w wr) (fun i _ => s.size - (intOf i).toNat)
  case atStart => exact ⟨0, s.size, (0, 0), Nat.zero_le _, by omega, rfl, rfl, by decide, by decide, (by constructor <;> simp [go_sem]), (by constructor <;> simp [go_sem]), by (repeat' (first | with_reducible exact Below.refl _ _ | with_reducible assumption | with_reducible refine Below.drew ?_ | with_reducible refine below_drewN' ?_ _ | with_reducible refine Below.alloc ?_ ?_ _ | with_reducible refine Below.setCell ?_ ?_ _ | with_reducible refine below_step (by assumption) ?_ ?_ | omega | (simp; done) | (simp; omega)))⟩
  case round =>
    obtain ⟨k, f, D, hk, hf, rfl, hE, hD1, hD2, ⟨z0, r0, r1, r2, rf⟩, ⟨z1, d0, d1, d2, df⟩, hB⟩ := hrel
    have HE := Lib.hid hE
    have HB := Lib.hid hB
    have hbz := hB.size
    clear hE
    obtain ⟨D1, D2⟩ := D
    dsimp only at hD1 hD2 d0 d1
    by_cases hlt : k < s.size
    · have hx := str_ix s k hlt
      obtain ⟨p, hp⟩ : ∃ p, (s.get! k).toNat = p := ⟨_, rfl⟩
      have hdg : digB s k = decide (48 ≤ p ∧ p ≤ 57) := by unfold digB; rw [hp]; simp [hlt]
      have hp256 : p < 256 := by rw [← hp]; exact UInt8.toNat_lt _
      rw [hp] at hx
      obtain ⟨f, rfl⟩ : ∃ g, f = g + 1 := ⟨f - 1, by omega⟩
      have hE2 := HE.out
      rw [intF, hp, hdg] at hE2
      clear hp hdg
      by_cases h48 : 48 ≤ p
      · by_cases h57 : p ≤ 57
        · rw [decide_eq_true (⟨h48, h57⟩ : 48 ≤ p ∧ p ≤ 57), if_pos rfl] at hE2
          have H2 := Lib.hid hE2
          have w1 : IntKind.u8.wrap ((p : Int) - 48) = (p : Int) - 48 := by simp [IntKind.wrap, IntKind.bits, IntKind.signed]; omega
          have w2 : IntKind.i64.wrap ((p : Int) - 48) = (p : Int) - 48 := wrap_in (by omega) (by omega)
          have w3 : IntKind.i64.wrap (D2 * 10) = D2 * 10 := wrap_in (by omega) (by omega)
          have w4 : IntKind.i64.wrap (D2 * 10 + ((p : Int) - 48)) = D2 * 10 + ((p : Int) - 48) := wrap_in (by omega) (by omega)
          have w5 : Int.tmod (D2 * 10 + ((p : Int) - 48)) 1000 = (D2 * 10 + ((p : Int) - 48)) % 1000 := Int.tmod_eq_emod_of_nonneg (by omega)
          have w6 : IntKind.i64.wrap ((D2 * 10 + ((p : Int) - 48)) % 1000) = (D2 * 10 + ((p : Int) - 48)) % 1000 := wrap_in (by omega) (by omega)
          clear hE2
          by_cases hbig : 112589990684262400 < D1
          · have Ha := Lib.hid (show addD (D1, D2) ((p : Int) - 48) = (1127025806749466624, (D2 * 10 + ((p : Int) - 48)) % 1000) by unfold addD; dsimp only; rw [if_pos hbig])
            go_wp2
            first | go_end0 | refine bodyPost_ret (results_none rfl _ _ _) rfl ?_
            go_wp2
            go_roundw
            case rel => exact ⟨k + 1, f, addD (D1, D2) ((p : Int) - 48), by omega, by omega, by go_num, H2.out, by rw [Ha.out]; dsimp only; omega, by rw [Ha.out]; dsimp only; omega, (by constructor <;> simp [go_sem, *]), (by rw [Ha.out]; constructor <;> simp [go_sem, *]), by (repeat' (first | with_reducible exact Below.refl _ _ | with_reducible assumption | with_reducible refine Below.drew ?_ | with_reducible refine below_drewN' ?_ _ | with_reducible refine Below.alloc ?_ ?_ _ | with_reducible refine Below.setCell ?_ ?_ _ | with_reducible refine below_step (by assumption) ?_ ?_ | omega | (simp; done) | (simp; omega)))⟩
            case measure => simp [intOf]; omega
          · have Ha := Lib.hid (show addD (D1, D2) ((p : Int) - 48) = (D1 * 10 + ((p : Int) - 48), (D2 * 10 + ((p : Int) - 48)) % 1000) by unfold addD; dsimp only; rw [if_neg hbig])
            have w7 : IntKind.i64.wrap (D1 * 10) = D1 * 10 := wrap_in (by omega) (by omega)
            have w8 : IntKind.i64.wrap (D1 * 10 + ((p : Int) - 48)) = D1 * 10 + ((p : Int) - 48) := wrap_in (by omega) (by omega)
            go_wp2
            first | go_end0 | refine bodyPost_ret (results_none rfl _ _ _) rfl ?_
            go_wp2
            go_roundw
            case rel => exact ⟨k + 1, f, addD (D1, D2) ((p : Int) - 48), by omega, by omega, by go_num, H2.out, by rw [Ha.out]; dsimp only; omega, by rw [Ha.out]; dsimp only; omega, (by constructor <;> simp [go_sem, *]), (by rw [Ha.out]; constructor <;> simp [go_sem, *]), by (repeat' (first | with_reducible exact Below.refl _ _ | with_reducible assumption | with_reducible refine Below.drew ?_ | with_reducible refine below_drewN' ?_ _ | with_reducible refine Below.alloc ?_ ?_ _ | with_reducible refine Below.setCell ?_ ?_ _ | with_reducible refine below_step (by assumption) ?_ ?_ | omega | (simp; done) | (simp; omega)))⟩
            case measure => simp [intOf]; omega
        · rw [decide_eq_false (fun h => h57 h.2), if_neg (by decide)] at hE2
          have H2 := Lib.hid hE2
          clear hE2
          go_wp2
          go_region
          all_goals
            (try go_wp2)
            refine bodyPost_ret (v := .tuple #[.agg #[.int .i64 D1, .int .i64 D2, .int .i64 0], .string (s.extract k n)]) (by simp [results, Tryz.results161, go_sem, *]) rfl ⟨by rw [H2.out, hn], by (repeat' (first | with_reducible exact Below.refl _ _ | with_reducible assumption | with_reducible refine Below.drew ?_ | with_reducible refine below_drewN' ?_ _ | with_reducible refine Below.alloc ?_ ?_ _ | with_reducible refine Below.setCell ?_ ?_ _ | with_reducible refine below_step (by assumption) ?_ ?_ | omega | (simp; done) | (simp; omega)))⟩
      · rw [decide_eq_false (fun h => h48 h.1), if_neg (by decide)] at hE2
        have H2 := Lib.hid hE2
        clear hE2
        go_wp2
        go_region
        all_goals
          (try go_wp2)
          refine bodyPost_ret (v := .tuple #[.agg #[.int .i64 D1, .int .i64 D2, .int .i64 0], .string (s.extract k n)]) (by simp [results, Tryz.results161, go_sem, *]) rfl ⟨by rw [H2.out, hn], by (repeat' (first | with_reducible exact Below.refl _ _ | with_reducible assumption | with_reducible refine Below.drew ?_ | with_reducible refine below_drewN' ?_ _ | with_reducible refine Below.alloc ?_ ?_ _ | with_reducible refine Below.setCell ?_ ?_ _ | with_reducible refine below_step (by assumption) ?_ ?_ | omega | (simp; done) | (simp; omega)))⟩
    · have H2 := Lib.hid (HE.out.trans (intF_end f k (D1, D2) (by unfold digB; simp [hlt])))
      have hkn : k = s.size := by omega
      have He := Lib.hid (show s.extract k s.size = ⟨#[]⟩ by rw [hkn]; exact ByteArray.ext (by simp))
      clear hkn
      go_wp2
      refine bodyPost_ret (v := .tuple #[.agg #[.int .i64 D1, .int .i64 D2, .int .i64 0], .string ⟨#[]⟩]) (by simp [results, Tryz.results161, go_sem, *]) rfl ⟨by rw [H2.out, He.out], by (repeat' (first | with_reducible exact Below.refl _ _ | with_reducible assumption | with_reducible refine Below.drew ?_ | with_reducible refine below_drewN' ?_ _ | with_reducible refine Below.alloc ?_ ?_ _ | with_reducible refine Below.setCell ?_ ?_ _ | with_reducible refine below_step (by assumption) ?_ ?_ | omega | (simp; done) | (simp; omega)))⟩
def overB (n : Int) : Int × Int := if 1125899906842624 < n then (0, 10) else (n, 0)
set_option maxRecDepth 100000 in
theorem bounded_any (n : Int) (w : World) :
    Calls Tryz.prog 162 #[.int .i64 n] w fun e w' => e = .returned (.tuple #[.int .i64 (overB n).1, .int .i64 (overB n).2]) ∧ Below w.heap.size w w' := by
  unfold overB
  by_cases h : 1125899906842624 < n
  · rw [if_pos h]
    go_enter Tryz.func162, Tryz.ntmps162
    go_wp2
    go_ret2
    exact ⟨rfl, by (repeat' (first | with_reducible exact Below.refl _ _ | with_reducible assumption | with_reducible refine Below.drew ?_ | with_reducible refine below_drewN' ?_ _ | with_reducible refine Below.alloc ?_ ?_ _ | with_reducible refine Below.setCell ?_ ?_ _ | with_reducible refine below_step (by assumption) ?_ ?_ | omega | (simp; done) | (simp; omega)))⟩
  · rw [if_neg h]
    go_enter Tryz.func162, Tryz.ntmps162
    go_wp2
    go_ret2
    exact ⟨rfl, by (repeat' (first | with_reducible exact Below.refl _ _ | with_reducible assumption | with_reducible refine Below.drew ?_ | with_reducible refine below_drewN' ?_ _ | with_reducible refine Below.alloc ?_ ?_ _ | with_reducible refine Below.setCell ?_ ?_ _ | with_reducible refine below_step (by assumption) ?_ ?_ | omega | (simp; done) | (simp; omega)))⟩
def numV (s : ByteArray) : Int × Int := if s = emp ∨ (intV s).2 < s.size then (0, 8) else overB (intV s).1.1
theorem extract_emp {s : ByteArray} {k : Nat} (hk : k ≤ s.size) : s.extract k s.size = emp ↔ k = s.size := by
  constructor
  · intro h
    have := congrArg ByteArray.size h
    rw [ByteArray.size_extract] at this
    have e : emp.size = 0 := rfl
    omega
  · rintro rfl
    exact ByteArray.ext (by simp [emp])
set_option maxRecDepth 100000 in
set_option maxHeartbeats 4000000 in
theorem number_any (s : ByteArray) (hs : s.size ≤ 1000000000) (w : World) :
    Calls Tryz.prog 160 #[.string s] w fun e w' => e = .returned (.tuple #[.int .i64 (numV s).1, .int .i64 (numV s).2]) ∧ Below w.heap.size w w' := by
  have A := fun V => integer_any s hs V
  have hle : (intV s).2 ≤ s.size := intF_le s _ _ _ (Nat.zero_le _)
  unfold numV
  obtain ⟨⟨⟨D1, D2⟩, k⟩, hd⟩ : ∃ d, intV s = d := ⟨_, rfl⟩
  rw [hd] at hle ⊢
  simp only [hd] at A
  dsimp only at hle ⊢
  have HA := Lib.hid A
  have hx := extract_emp hle
  obtain ⟨r, hr⟩ : ∃ r, s.extract k s.size = r := ⟨_, rfl⟩
  rw [hr] at hx A
  clear hd
  by_cases h1 : s = emp
  · obtain ⟨e1, e2, e3, e4⟩ := emp_lits h1
    rw [if_pos (.inl h1)]
    clear h1 A hx
    go_enter Tryz.func160, Tryz.ntmps160
    go_wp2_with (go_at_call 161; (with_reducible refine (HA.out _).mono ?_); rintro e w1 ⟨rfl, hb1⟩; obtain ⟨hc1, hf1⟩ := bcell hb1; have hz1 := hb1.size)
    go_ret2
    exact ⟨rfl, by (repeat' (first | with_reducible exact Below.refl _ _ | with_reducible assumption | with_reducible refine Below.drew ?_ | with_reducible refine below_drewN' ?_ _ | with_reducible refine Below.alloc ?_ ?_ _ | with_reducible refine Below.setCell ?_ ?_ _ | with_reducible refine below_step (by assumption) ?_ ?_ | omega | (simp; done) | (simp; omega)))⟩
  · obtain ⟨e1, e2, e3, e4⟩ := emp_litn h1
    by_cases h2 : k < s.size
    · obtain ⟨f1, f2, f3, f4⟩ := emp_litn (s := r) (fun h => by have := hx.1 h; omega)
      rw [if_pos (.inr h2)]
      rw [hr] at HA
      clear h1 A hx h2
      go_enter Tryz.func160, Tryz.ntmps160
      go_wp2_with (go_at_call 161; (with_reducible refine (HA.out _).mono ?_); rintro e w1 ⟨rfl, hb1⟩; obtain ⟨hc1, hf1⟩ := bcell hb1; have hz1 := hb1.size)
      go_ret2
      exact ⟨rfl, by (repeat' (first | with_reducible exact Below.refl _ _ | with_reducible assumption | with_reducible refine Below.drew ?_ | with_reducible refine below_drewN' ?_ _ | with_reducible refine Below.alloc ?_ ?_ _ | with_reducible refine Below.setCell ?_ ?_ _ | with_reducible refine below_step (by assumption) ?_ ?_ | omega | (simp; done) | (simp; omega)))⟩
    · obtain ⟨f1, f2, f3, f4⟩ := emp_lits (s := r) (hx.2 (by omega))
      rw [if_neg (fun h => h.elim h1 h2)]
      rw [hr] at HA
      clear h1 A hx h2
      go_enter Tryz.func160, Tryz.ntmps160
      go_wp2_with (first | (go_at_call 161; (with_reducible refine (HA.out _).mono ?_); rintro e w1 ⟨rfl, hb1⟩; obtain ⟨hc1, hf1⟩ := bcell hb1; have hz1 := hb1.size) | (go_at_call 162; (with_reducible refine (bounded_any D1 _).mono ?_); rintro e w2 ⟨rfl, hb2⟩; have hz2 := hb2.size))
      go_ret2
      exact ⟨rfl, by (repeat' (first | with_reducible exact Below.refl _ _ | with_reducible assumption | with_reducible refine Below.drew ?_ | with_reducible refine below_drewN' ?_ _ | with_reducible refine Below.alloc ?_ ?_ _ | with_reducible refine Below.setCell ?_ ?_ _ | with_reducible refine below_step (by assumption) ?_ ?_ | omega | (simp; done) | (simp; omega)))⟩
set_option maxRecDepth 100000 in
theorem digit_any (p : Nat) (w : World) :
    Calls Tryz.prog 116 #[.int .u8 (p : Int)] w fun e w' => e = .returned (.bool (decide (48 ≤ p ∧ p ≤ 57))) ∧ Below w.heap.size w w' := by
  by_cases h48 : 48 ≤ p
  · by_cases h57 : p ≤ 57
    · rw [decide_eq_true (⟨h48, h57⟩ : 48 ≤ p ∧ p ≤ 57)]
      go_enter Tryz.func116, Tryz.ntmps116
      go_wp2
      go_ret
      exact ⟨by first | rfl | (simp; omega), by (repeat' (first | with_reducible exact Below.refl _ _ | with_reducible assumption | with_reducible refine Below.drew ?_ | with_reducible refine below_drewN' ?_ _ | with_reducible refine Below.alloc ?_ ?_ _ | with_reducible refine Below.setCell ?_ ?_ _ | with_reducible refine below_step (by assumption) ?_ ?_ | omega | (simp; done) | (simp; omega)))⟩
    · rw [decide_eq_false (fun h => h57 h.2)]
      go_enter Tryz.func116, Tryz.ntmps116
      go_wp2
      go_ret
      exact ⟨by first | rfl | (simp; omega), by (repeat' (first | with_reducible exact Below.refl _ _ | with_reducible assumption | with_reducible refine Below.drew ?_ | with_reducible refine below_drewN' ?_ _ | with_reducible refine Below.alloc ?_ ?_ _ | with_reducible refine Below.setCell ?_ ?_ _ | with_reducible refine below_step (by assumption) ?_ ?_ | omega | (simp; done) | (simp; omega)))⟩
  · rw [decide_eq_false (fun h => h48 h.1)]
    go_enter Tryz.func116, Tryz.ntmps116
    go_wp2
    go_ret
    exact ⟨by first | rfl | (simp; omega), by (repeat' (first | with_reducible exact Below.refl _ _ | with_reducible assumption | with_reducible refine Below.drew ?_ | with_reducible refine below_drewN' ?_ _ | with_reducible refine Below.alloc ?_ ?_ _ | with_reducible refine Below.setCell ?_ ?_ _ | with_reducible refine below_step (by assumption) ?_ ?_ | omega | (simp; done) | (simp; omega)))⟩
set_option maxRecDepth 100000 in
set_option maxHeartbeats 4000000 in
theorem digits_any (s : ByteArray) (hs : s.size ≤ 1000000000) (w : World) :
    Calls Tryz.prog 96 #[.string s] w fun e w' => e = .returned (.int .i64 (intV s).2) ∧ Below w.heap.size w w' := by
  go_enter Tryz.func96, Tryz.ntmps96
  go_wp2
  go_loopw [3] (fun i wr => ∃ (k f : Nat) (D : Int × Int), k ≤ s.size ∧ s.size ≤ k + f ∧ i = .int .i64 k ∧ intV s = intF s f k D ∧ Below w.heap.size w wr) (fun i _ => s.size - (intOf i).toNat)
  case atStart => exact ⟨0, s.size, (0, 0), Nat.zero_le _, by omega, rfl, rfl, by (repeat' (first | with_reducible exact Below.refl _ _ | with_reducible assumption | with_reducible refine Below.drew ?_ | with_reducible refine below_drewN' ?_ _ | with_reducible refine Below.alloc ?_ ?_ _ | with_reducible refine Below.setCell ?_ ?_ _ | with_reducible refine below_step (by assumption) ?_ ?_ | omega | (simp; done) | (simp; omega)))⟩
  case round =>
    obtain ⟨k, f, D, hk, hf, rfl, hE, hB⟩ := hrel
    have HE := Lib.hid hE
    have HB := Lib.hid hB
    have hbz := hB.size
    clear hE
    by_cases hlt : k < s.size
    · have hx := str_ix s k hlt
      obtain ⟨p, hp⟩ : ∃ p, (s.get! k).toNat = p := ⟨_, rfl⟩
      have hdg : digB s k = decide (48 ≤ p ∧ p ≤ 57) := by unfold digB; rw [hp]; simp [hlt]
      rw [hp] at hx
      obtain ⟨f, rfl⟩ : ∃ g, f = g + 1 := ⟨f - 1, by omega⟩
      have hE2 := HE.out
      rw [intF, hp, hdg] at hE2
      clear hp hdg
      cases hd : decide (48 ≤ p ∧ p ≤ 57)
      · rw [hd, if_neg (by decide)] at hE2
        have H2 := Lib.hid hE2
        have Hd := Lib.hid hd
        clear hE2 hd
        go_wp2_with (go_at_call 116; (with_reducible refine (digit_any p _).mono ?_); rw [Hd.out]; rintro e w1 ⟨rfl, hb1⟩; have hz1 := hb1.size)
        go_ret
        exact ⟨by rw [H2.out]; rfl, by (repeat' (first | with_reducible exact Below.refl _ _ | with_reducible assumption | with_reducible refine Below.drew ?_ | with_reducible refine below_drewN' ?_ _ | with_reducible refine Below.alloc ?_ ?_ _ | with_reducible refine Below.setCell ?_ ?_ _ | with_reducible refine below_step (by assumption) ?_ ?_ | omega | (simp; done) | (simp; omega)))⟩
      · rw [hd, if_pos rfl] at hE2
        have H2 := Lib.hid hE2
        have Hd := Lib.hid hd
        clear hE2 hd
        go_wp2_with (go_at_call 116; (with_reducible refine (digit_any p _).mono ?_); rw [Hd.out]; rintro e w1 ⟨rfl, hb1⟩; have hz1 := hb1.size)
        go_roundw
        case rel => exact ⟨k + 1, f, _, by omega, by omega, by go_num, H2.out, by (repeat' (first | with_reducible exact Below.refl _ _ | with_reducible assumption | with_reducible refine Below.drew ?_ | with_reducible refine below_drewN' ?_ _ | with_reducible refine Below.alloc ?_ ?_ _ | with_reducible refine Below.setCell ?_ ?_ _ | with_reducible refine below_step (by assumption) ?_ ?_ | omega | (simp; done) | (simp; omega)))⟩
        case measure => simp [intOf]; omega
    · have H2 := Lib.hid (HE.out.trans (intF_end f k D (by unfold digB; simp [hlt])))
      go_wp2
      go_ret
      exact ⟨by rw [H2.out]; rfl, by (repeat' (first | with_reducible exact Below.refl _ _ | with_reducible assumption | with_reducible refine Below.drew ?_ | with_reducible refine below_drewN' ?_ _ | with_reducible refine Below.alloc ?_ ?_ _ | with_reducible refine Below.setCell ?_ ?_ _ | with_reducible refine below_step (by assumption) ?_ ?_ | omega | (simp; done) | (simp; omega)))⟩
def capM (x : Int) : Int := if 1125899906842625 < x then 1125899906842625 else x
def allD (s : ByteArray) : Prop := ∀ i, i < s.size → digB s i = true
theorem capM_step {D : Int × Int} {d : Int} (h1 : 0 ≤ D.1 ∧ D.1 ≤ 1127025806749466624) (hd : 0 ≤ d ∧ d ≤ 9) : capM (addD D d).1 = if 1125899906842625 < 10 * capM D.1 + d then 1125899906842625 else 10 * capM D.1 + d := by
  unfold capM addD
  dsimp only
  repeat' split
  all_goals omega
set_option maxRecDepth 100000 in
set_option maxHeartbeats 4000000 in
theorem value_any (s : ByteArray) (hs : s.size ≤ 1000000000) (ha : allD s) (w : World) :
    Calls Tryz.prog 97 #[.string s] w fun e w' => e = .returned (.int .i64 (capM (intV s).1.1)) ∧ Below w.heap.size w w' := by
  have Ha := Lib.hid ha
  clear ha
  go_enter Tryz.func97, Tryz.ntmps97
  go_wp2
  go_loopw [3, 4] (fun v i wr => ∃ (k f : Nat) (D : Int × Int), k ≤ s.size ∧ s.size ≤ k + f ∧ i = .int .i64 k ∧ v = .int .i64 (capM D.1) ∧ intV s = intF s f k D ∧ (0 ≤ D.1 ∧ D.1 ≤ 1127025806749466624) ∧ (0 ≤ D.2 ∧ D.2 < 1000) ∧ Below w.heap.size w wr) (fun _ i _ => s.size - (intOf i).toNat)
  case atStart => exact ⟨0, s.size, (0, 0), Nat.zero_le _, by omega, rfl, rfl, rfl, by decide, by decide, by (repeat' (first | with_reducible exact Below.refl _ _ | with_reducible assumption | with_reducible refine Below.drew ?_ | with_reducible refine below_drewN' ?_ _ | with_reducible refine Below.alloc ?_ ?_ _ | with_reducible refine Below.setCell ?_ ?_ _ | with_reducible refine below_step (by assumption) ?_ ?_ | omega | (simp; done) | (simp; omega)))⟩
  case round =>
    obtain ⟨k, f, D, hk, hf, rfl, rfl, hE, hD1, hD2, hB⟩ := hrel
    have HE := Lib.hid hE
    have HB := Lib.hid hB
    have hbz := hB.size
    clear hE
    by_cases hlt : k < s.size
    · have hx := str_ix s k hlt
      have hdg := Ha.out k hlt
      obtain ⟨f, rfl⟩ : ∃ g, f = g + 1 := ⟨f - 1, by omega⟩
      have hE2 := HE.out
      rw [intF, hdg, if_pos rfl] at hE2
      obtain ⟨p, hp⟩ : ∃ p, (s.get! k).toNat = p := ⟨_, rfl⟩
      have hpd : 48 ≤ p ∧ p ≤ 57 := by unfold digB at hdg; rw [hp] at hdg; simp at hdg; omega
      rw [hp] at hx hE2
      clear hp hdg
      have H2 := Lib.hid hE2
      have hd : 0 ≤ ((p : Int) - 48) ∧ ((p : Int) - 48) ≤ 9 := by omega
      have Hst := Lib.hid (capM_step hD1 hd)
      obtain ⟨b1, b2⟩ := addD_bd hD1 hD2 hd
      have hc : 0 ≤ capM D.1 ∧ capM D.1 ≤ 1125899906842625 := by unfold capM; split <;> omega
      obtain ⟨c, hcc⟩ : ∃ c, capM D.1 = c := ⟨_, rfl⟩
      have Hcc := Lib.hid hcc
      rw [hcc] at hc ⊢
      have w1 : IntKind.u8.wrap ((p : Int) - 48) = (p : Int) - 48 := by simp [IntKind.wrap, IntKind.bits, IntKind.signed]; omega
      have w2 : IntKind.i64.wrap ((p : Int) - 48) = (p : Int) - 48 := wrap_in (by omega) (by omega)
      have w3 : IntKind.i64.wrap (10 * c) = 10 * c := wrap_in (by omega) (by omega)
      have w4 : IntKind.i64.wrap (10 * c + ((p : Int) - 48)) = 10 * c + ((p : Int) - 48) := wrap_in (by omega) (by omega)
      clear hE2 hcc
      by_cases hbig : 1125899906842625 < 10 * c + ((p : Int) - 48)
      · have Hc := Lib.hid (show capM (addD D ((p : Int) - 48)).1 = 1125899906842625 by rw [Hst.out, Hcc.out, if_pos hbig])
        go_wp2
        go_roundw
        case rel => exact ⟨k + 1, f, _, by omega, by omega, by go_num, by rw [Hc.out], H2.out, b1, b2, by (repeat' (first | with_reducible exact Below.refl _ _ | with_reducible assumption | with_reducible refine Below.drew ?_ | with_reducible refine below_drewN' ?_ _ | with_reducible refine Below.alloc ?_ ?_ _ | with_reducible refine Below.setCell ?_ ?_ _ | with_reducible refine below_step (by assumption) ?_ ?_ | omega | (simp; done) | (simp; omega)))⟩
        case measure => simp [intOf]; omega
      · have Hc := Lib.hid (show capM (addD D ((p : Int) - 48)).1 = 10 * c + ((p : Int) - 48) by rw [Hst.out, Hcc.out, if_neg hbig])
        go_wp2
        go_roundw
        case rel => exact ⟨k + 1, f, _, by omega, by omega, by go_num, by rw [Hc.out], H2.out, b1, b2, by (repeat' (first | with_reducible exact Below.refl _ _ | with_reducible assumption | with_reducible refine Below.drew ?_ | with_reducible refine below_drewN' ?_ _ | with_reducible refine Below.alloc ?_ ?_ _ | with_reducible refine Below.setCell ?_ ?_ _ | with_reducible refine below_step (by assumption) ?_ ?_ | omega | (simp; done) | (simp; omega)))⟩
        case measure => simp [intOf]; omega
    · have H2 := Lib.hid (HE.out.trans (intF_end f k D (by unfold digB; simp [hlt])))
      go_wp2
      go_ret
      exact ⟨by rw [H2.out]; rfl, by (repeat' (first | with_reducible exact Below.refl _ _ | with_reducible assumption | with_reducible refine Below.drew ?_ | with_reducible refine below_drewN' ?_ _ | with_reducible refine Below.alloc ?_ ?_ _ | with_reducible refine Below.setCell ?_ ?_ _ | with_reducible refine below_step (by assumption) ?_ ?_ | omega | (simp; done) | (simp; omega)))⟩
theorem intF_all (s : ByteArray) : ∀ f i d, s.size ≤ i + f → (intF s f i d).2 = s.size → ∀ j, i ≤ j → j < s.size → digB s j = true := by
  intro f
  induction f with
  | zero => intro i d h1 h2 j h3 h4; omega
  | succ f ih =>
    intro i d h1 h2 j h3 h4
    rw [intF] at h2
    cases hd : digB s i
    · rw [hd, if_neg (by decide)] at h2
      have h2' : i = s.size := h2
      omega
    · rw [hd, if_pos rfl] at h2
      by_cases e : i = j
      · rw [← e]; exact hd
      · exact ih (i + 1) _ (by omega) h2 j (by omega) h4
set_option maxRecDepth 100000 in
set_option maxHeartbeats 4000000 in
theorem refnumber_any (s : ByteArray) (hs : s.size ≤ 1000000000) (w : World) :
    Calls Tryz.prog 60 #[.string s] w fun e w' => e = .returned (.tuple #[.int .i64 (numV s).1, .int .i64 (numV s).2]) ∧ Below w.heap.size w w' := by
  have hle : (intV s).2 ≤ s.size := intF_le s _ _ _ (Nat.zero_le _)
  have hem : s = emp ↔ s.size = 0 := by
    constructor
    · rintro rfl; rfl
    · intro h; exact ByteArray.ext (by rw [show emp.data = #[] from rfl]; exact Array.eq_empty_of_size_eq_zero h)
  unfold numV
  by_cases h1 : s.size = 0
  · have g1 : ((s.size : Int) == 0) = true := by rw [h1]; rfl
    rw [if_pos (.inl (hem.2 h1))]
    clear hem
    go_enter Tryz.func60, Tryz.ntmps60
    go_wp2
    go_ret2
    exact ⟨rfl, by (repeat' (first | with_reducible exact Below.refl _ _ | with_reducible assumption | with_reducible refine Below.drew ?_ | with_reducible refine below_drewN' ?_ _ | with_reducible refine Below.alloc ?_ ?_ _ | with_reducible refine Below.setCell ?_ ?_ _ | with_reducible refine below_step (by assumption) ?_ ?_ | omega | (simp; done) | (simp; omega)))⟩
  · have g1 : ((s.size : Int) == 0) = false := by rw [beq_eq_false_iff_ne]; omega
    have A := fun V => digits_any s hs V
    by_cases h2 : (intV s).2 < s.size
    · rw [if_pos (.inr h2)]
      obtain ⟨k, hk⟩ : ∃ k, (intV s).2 = k := ⟨_, rfl⟩
      rw [hk] at A h2
      have HA := Lib.hid A
      clear hem A hk hle
      go_enter Tryz.func60, Tryz.ntmps60
      go_wp2_with (go_at_call 96; (with_reducible refine (HA.out _).mono ?_); rintro e w1 ⟨rfl, hb1⟩; have hz1 := hb1.size)
      go_ret2
      exact ⟨rfl, by (repeat' (first | with_reducible exact Below.refl _ _ | with_reducible assumption | with_reducible refine Below.drew ?_ | with_reducible refine below_drewN' ?_ _ | with_reducible refine Below.alloc ?_ ?_ _ | with_reducible refine Below.setCell ?_ ?_ _ | with_reducible refine below_step (by assumption) ?_ ?_ | omega | (simp; done) | (simp; omega)))⟩
    · have hk : (intV s).2 = s.size := by omega
      have B := fun V => value_any s hs (fun i hi => intF_all s s.size 0 (0, 0) (by omega) hk i (Nat.zero_le _) hi) V
      rw [if_neg (fun h => h.elim (fun h => h1 (hem.1 h)) h2)]
      rw [hk] at A
      obtain ⟨x, hx⟩ : ∃ x, (intV s).1.1 = x := ⟨_, rfl⟩
      rw [hx] at B ⊢
      have HA := Lib.hid A
      have HB := Lib.hid B
      clear hem A B hk hle h2 hx
      unfold overB
      by_cases h3 : 1125899906842624 < x
      · have hc : 1125899906842624 < capM x := by unfold capM; split <;> omega
        rw [if_pos h3]
        go_enter Tryz.func60, Tryz.ntmps60
        go_wp2_with (first | (go_at_call 96; (with_reducible refine (HA.out _).mono ?_); rintro e w1 ⟨rfl, hb1⟩; have hz1 := hb1.size) | (go_at_call 97; (with_reducible refine (HB.out _).mono ?_); rintro e w2 ⟨rfl, hb2⟩; have hz2 := hb2.size))
        go_ret2
        exact ⟨rfl, by (repeat' (first | with_reducible exact Below.refl _ _ | with_reducible assumption | with_reducible refine Below.drew ?_ | with_reducible refine below_drewN' ?_ _ | with_reducible refine Below.alloc ?_ ?_ _ | with_reducible refine Below.setCell ?_ ?_ _ | with_reducible refine below_step (by assumption) ?_ ?_ | omega | (simp; done) | (simp; omega)))⟩
      · have hc : capM x = x := by unfold capM; split <;> omega
        rw [hc] at HB
        rw [if_neg h3]
        clear hc
        go_enter Tryz.func60, Tryz.ntmps60
        go_wp2_with (first | (go_at_call 96; (with_reducible refine (HA.out _).mono ?_); rintro e w1 ⟨rfl, hb1⟩; have hz1 := hb1.size) | (go_at_call 97; (with_reducible refine (HB.out _).mono ?_); rintro e w2 ⟨rfl, hb2⟩; have hz2 := hb2.size))
        go_ret2
        exact ⟨rfl, by (repeat' (first | with_reducible exact Below.refl _ _ | with_reducible assumption | with_reducible refine Below.drew ?_ | with_reducible refine below_drewN' ?_ _ | with_reducible refine Below.alloc ?_ ?_ _ | with_reducible refine Below.setCell ?_ ?_ _ | with_reducible refine below_step (by assumption) ?_ ?_ | omega | (simp; done) | (simp; omega)))⟩
end Lb
end Go.Proofs.YtdfadbpepmkicaaGreat
namespace Go.Proofs.YtdfadbpepmkicaaGreat
namespace Lb
open Go.RowKit
set_option linter.unusedSimpArgs false
set_option linter.unusedVariables false
set_option maxRecDepth 100000 in
set_option maxHeartbeats 4000000 in
theorem indexs_any (c : Option Addr) (kc : Nat) (l : List ByteArray) (v : ByteArray) (w : World) (hF : TxtL w c l) (hm : l.length ≤ 1000000) :
    Calls Tryz.prog 146 #[.slice c l.length kc, .string v] w fun e w' => e = .returned (.int .i64 (idxI (strB v) l)) ∧ Below w.heap.size w w' := by
  have HF := Lib.hid hF
  clear hF
  obtain ⟨n, hln⟩ : ∃ n, l.length = n := ⟨_, rfl⟩
  rw [hln] at hm ⊢
  have Hln := Lib.hid hln
  clear hln
  go_enter Tryz.func146, Tryz.ntmps146
  go_wp2
  go_loopw [8] (fun i wr => ∃ k : Nat, k ≤ n ∧ i = .int .i64 k ∧ (l.take k).any (strB v) = false ∧ Below w.heap.size w wr) (fun i _ => n - (intOf i).toNat)
  case atStart => exact ⟨0, by omega, rfl, rfl, by (repeat' (first | with_reducible exact Below.refl _ _ | with_reducible assumption | with_reducible refine Below.drew ?_ | with_reducible refine below_drewN' ?_ _ | with_reducible refine Below.alloc ?_ ?_ _ | with_reducible refine Below.setCell ?_ ?_ _ | with_reducible refine below_step (by assumption) ?_ ?_ | omega | (simp; done) | (simp; omega)))⟩
  case round =>
    obtain ⟨k, hk, rfl, hE, hB⟩ := hrel
    obtain ⟨hcB, hfB⟩ := bcell hB
    have hbz := hB.size
    have HE := Lib.hid hE
    have HB := Lib.hid hB
    clear hE
    by_cases hlt : k < n
    · obtain ⟨x, hx⟩ := mem_at (l := l) (k := k) (by rw [Hln.out]; exact hlt)
      obtain ⟨b, off, rfl, hb, hc⟩ := HF.out (by rw [Hln.out]; omega)
      have hbw : b < wr.heap.size := by omega
      have c0 := txt_cell (hc k x hx)
      rw [Nat.mul_one] at c0
      have Hx := Lib.hid hx
      clear hc hx
      cases hv : strB v x
      · have Hs := Lib.hid (any_take1 (P := strB v) Hx.out hv HE.out)
        have k1 := (strB_list v x).trans hv
        clear hv
        go_wp2
        go_roundw
        case rel => exact ⟨k + 1, by omega, by go_num, Hs.out, by (repeat' (first | with_reducible exact Below.refl _ _ | with_reducible assumption | with_reducible refine Below.drew ?_ | with_reducible refine below_drewN' ?_ _ | with_reducible refine Below.alloc ?_ ?_ _ | with_reducible refine Below.setCell ?_ ?_ _ | with_reducible refine below_step (by assumption) ?_ ?_ | omega | (simp; done) | (simp; omega)))⟩
        case measure => simp [intOf]; omega
      · have Hs := Lib.hid (idx_at (p := strB v) Hx.out HE.out hv)
        have k1 := (strB_list v x).trans hv
        clear hv
        go_wp2
        go_ret
        exact ⟨by rw [Hs.out]; rfl, by (repeat' (first | with_reducible exact Below.refl _ _ | with_reducible assumption | with_reducible refine Below.drew ?_ | with_reducible refine below_drewN' ?_ _ | with_reducible refine Below.alloc ?_ ?_ _ | with_reducible refine Below.setCell ?_ ?_ _ | with_reducible refine below_step (by assumption) ?_ ?_ | omega | (simp; done) | (simp; omega)))⟩
    · obtain rfl : k = n := by omega
      have Hs := Lib.hid (idx_no (p := strB v) Hln.out HE.out)
      go_wp2
      go_ret
      exact ⟨by rw [Hs.out]; rfl, by (repeat' (first | with_reducible exact Below.refl _ _ | with_reducible assumption | with_reducible refine Below.drew ?_ | with_reducible refine below_drewN' ?_ _ | with_reducible refine Below.alloc ?_ ?_ _ | with_reducible refine Below.setCell ?_ ?_ _ | with_reducible refine below_step (by assumption) ?_ ?_ | omega | (simp; done) | (simp; omega)))⟩
set_option maxRecDepth 100000 in
theorem containss_any (c : Option Addr) (kc : Nat) (l : List ByteArray) (v : ByteArray) (w : World) (hF : TxtL w c l) (hm : l.length ≤ 1000000) :
    Calls Tryz.prog 157 #[.slice c l.length kc, .string v] w fun e w' => e = .returned (.bool (l.any (strB v))) ∧ Below w.heap.size w w' := by
  rw [← idx_geq]
  have A := fun V (h : TxtL V c l) => indexs_any c kc l v V h hm
  obtain ⟨i, hi⟩ : ∃ i, idxI (strB v) l = i := ⟨_, rfl⟩
  rw [hi]
  simp only [hi] at A
  clear hi
  have HA := Lib.hid A
  clear A
  go_enter Tryz.func157, Tryz.ntmps157
  go_wp2_with (go_at_call 146; (with_reducible refine (HA.out _ (hF.mono (by (repeat' (first | with_reducible exact Below.refl _ _ | with_reducible assumption | with_reducible refine Below.drew ?_ | with_reducible refine below_drewN' ?_ _ | with_reducible refine Below.alloc ?_ ?_ _ | with_reducible refine Below.setCell ?_ ?_ _ | with_reducible refine below_step (by assumption) ?_ ?_ | omega | (simp; done) | (simp; omega)))))).mono ?_); rintro e w1 ⟨rfl, hb1⟩; have hz1 := hb1.size; (try simp at hz1))
  go_ret
  exact ⟨by first | rfl | simp, by (repeat' (first | with_reducible exact Below.refl _ _ | with_reducible assumption | with_reducible refine Below.drew ?_ | with_reducible refine below_drewN' ?_ _ | with_reducible refine Below.alloc ?_ ?_ _ | with_reducible refine Below.setCell ?_ ?_ _ | with_reducible refine below_step (by assumption) ?_ ?_ | omega | (simp; done) | (simp; omega)))⟩
def excB (a b : ByteArray) (op : Int) : Bool := decide ((numV a).2 = 0) && decide ((numV b).2 = 0) && (if op = 6 then decide ((numV a).1 < (numV b).1) else decide ((numV b).1 < (numV a).1))
set_option maxRecDepth 100000 in
set_option maxHeartbeats 4000000 in
theorem exceeds_any (a b : ByteArray) (op : Int) (ha : a.size ≤ 1000000000) (hb : b.size ≤ 1000000000) (w : World) :
    Calls Tryz.prog 158 #[.string a, .string b, .int .i64 op] w fun e w' => e = .returned (.bool (excB a b op)) ∧ Below w.heap.size w w' := by
  have A := fun V => number_any a ha V
  have B := fun V => number_any b hb V
  unfold excB
  obtain ⟨⟨x, e⟩, hx⟩ : ∃ d, numV a = d := ⟨_, rfl⟩
  obtain ⟨⟨y, f⟩, hy⟩ : ∃ d, numV b = d := ⟨_, rfl⟩
  rw [hx] at A ⊢
  rw [hy] at B ⊢
  dsimp only at A B ⊢
  have HA := Lib.hid A
  have HB := Lib.hid B
  clear A B hx hy
  by_cases h1 : e = 0
  · have g1 : (e != 0) = false := by simpa using h1
    rw [decide_eq_true h1]
    by_cases h2 : f = 0
    · have g2 : (f != 0) = false := by simpa using h2
      rw [decide_eq_true h2]
      by_cases h3 : op = 6
      · have g3 : (op == 6) = true := by simpa using h3
        rw [if_pos h3]
        clear h1 h2 h3
        go_enter Tryz.func158, Tryz.ntmps158
        go_wp2_with (first | (go_at_call 160; (with_reducible refine (number_any a ha _).mono ?_); fail) | ((with_reducible refine (HA.out _).mono ?_); rintro e w1 ⟨rfl, hb1⟩; obtain ⟨hc1, hf1⟩ := bcell hb1; have hz1 := hb1.size) | ((with_reducible refine (HB.out _).mono ?_); rintro e w2 ⟨rfl, hb2⟩; obtain ⟨hc2, hf2⟩ := bcell hb2; have hz2 := hb2.size))
        go_ret
        exact ⟨by simp, by (repeat' (first | with_reducible exact Below.refl _ _ | with_reducible assumption | with_reducible refine Below.drew ?_ | with_reducible refine below_drewN' ?_ _ | with_reducible refine Below.alloc ?_ ?_ _ | with_reducible refine Below.setCell ?_ ?_ _ | with_reducible refine below_step (by assumption) ?_ ?_ | omega | (simp; done) | (simp; omega)))⟩
      · have g3 : (op == 6) = false := by simpa using h3
        rw [if_neg h3]
        clear h1 h2 h3
        go_enter Tryz.func158, Tryz.ntmps158
        go_wp2_with (first | ((with_reducible refine (HA.out _).mono ?_); rintro e w1 ⟨rfl, hb1⟩; obtain ⟨hc1, hf1⟩ := bcell hb1; have hz1 := hb1.size) | ((with_reducible refine (HB.out _).mono ?_); rintro e w2 ⟨rfl, hb2⟩; obtain ⟨hc2, hf2⟩ := bcell hb2; have hz2 := hb2.size))
        go_ret
        exact ⟨by simp, by (repeat' (first | with_reducible exact Below.refl _ _ | with_reducible assumption | with_reducible refine Below.drew ?_ | with_reducible refine below_drewN' ?_ _ | with_reducible refine Below.alloc ?_ ?_ _ | with_reducible refine Below.setCell ?_ ?_ _ | with_reducible refine below_step (by assumption) ?_ ?_ | omega | (simp; done) | (simp; omega)))⟩
    · have g2 : (f != 0) = true := by simpa using h2
      rw [decide_eq_false h2]
      clear h1 h2
      go_enter Tryz.func158, Tryz.ntmps158
      go_wp2_with (first | ((with_reducible refine (HA.out _).mono ?_); rintro e w1 ⟨rfl, hb1⟩; obtain ⟨hc1, hf1⟩ := bcell hb1; have hz1 := hb1.size) | ((with_reducible refine (HB.out _).mono ?_); rintro e w2 ⟨rfl, hb2⟩; obtain ⟨hc2, hf2⟩ := bcell hb2; have hz2 := hb2.size))
      all_goals (go_ret; exact ⟨by simp, by (repeat' (first | with_reducible exact Below.refl _ _ | with_reducible assumption | with_reducible refine Below.drew ?_ | with_reducible refine below_drewN' ?_ _ | with_reducible refine Below.alloc ?_ ?_ _ | with_reducible refine Below.setCell ?_ ?_ _ | with_reducible refine below_step (by assumption) ?_ ?_ | omega | (simp; done) | (simp; omega)))⟩)
  · have g1 : (e != 0) = true := by simpa using h1
    rw [decide_eq_false h1]
    clear h1
    go_enter Tryz.func158, Tryz.ntmps158
    go_wp2_with (first | ((with_reducible refine (HA.out _).mono ?_); rintro e w1 ⟨rfl, hb1⟩; obtain ⟨hc1, hf1⟩ := bcell hb1; have hz1 := hb1.size) | ((with_reducible refine (HB.out _).mono ?_); rintro e w2 ⟨rfl, hb2⟩; obtain ⟨hc2, hf2⟩ := bcell hb2; have hz2 := hb2.size))
    all_goals (go_ret; exact ⟨by simp, by (repeat' (first | with_reducible exact Below.refl _ _ | with_reducible assumption | with_reducible refine Below.drew ?_ | with_reducible refine below_drewN' ?_ _ | with_reducible refine Below.alloc ?_ ?_ _ | with_reducible refine Below.setCell ?_ ?_ _ | with_reducible refine below_step (by assumption) ?_ ?_ | omega | (simp; done) | (simp; omega)))⟩)
structure Trm where
  key : ByteArray
  op : Int
  va : Option Addr
  vk : Nat
  vals : List ByteArray
def trcs (t : Trm) : List Value := [.string t.key, .int .i64 t.op, .slice t.va t.vals.length t.vk]
abbrev TrmL := RowsAt trcs 3
def TrmAt (w : World) (t : Trm) : Prop := TxtL w t.va t.vals ∧ t.vals.length ≤ maxLen
theorem TrmAt.mono {w w' : World} {t : Trm} (h : TrmAt w t) (hb : Below w.heap.size w w') : TrmAt w' t := ⟨h.1.mono hb, h.2⟩
def meetP (l : List Lab) (t : Trm) : Bool :=
  if t.op = 2 then !(getB l t.key && t.vals.any (strB (getV l t.key)))
  else if t.op = 1 then (getB l t.key && t.vals.any (strB (getV l t.key)))
  else if t.op = 4 then !getB l t.key
  else if t.op = 3 then getB l t.key
  else if t.op = 6 ∨ t.op = 5 then getB l t.key && decide (t.vals.length = 1) && excB (getV l t.key) (t.vals[0]?.getD emp) t.op
  else false
theorem getV_size {l : List Lab} {key : ByteArray} (h : ∀ x ∈ l, x.val.size ≤ 1000000000) : (getV l key).size ≤ 1000000000 := by
  unfold getV
  split
  next x hx => exact h x (List.mem_of_find?_eq_some hx)
  next => exact (by decide : emp.size ≤ 1000000000)
theorem op_cases (op : Int) : (op = 2 ∧ (op == 2) = true) ∨ (op = 1 ∧ (op == 2) = false ∧ (op == 1) = true) ∨ (op = 4 ∧ (op == 2) = false ∧ (op == 1) = false ∧ (op == 4) = true) ∨ (op = 3 ∧ (op == 2) = false ∧ (op == 1) = false ∧ (op == 4) = false ∧ (op == 3) = true) ∨
    (op = 6 ∧ (op == 2) = false ∧ (op == 1) = false ∧ (op == 4) = false ∧ (op == 3) = false ∧ (op == 6) = true) ∨ (op = 5 ∧ (op == 2) = false ∧ (op == 1) = false ∧ (op == 4) = false ∧ (op == 3) = false ∧ (op == 6) = false ∧ (op == 5) = true) ∨
    ((op ≠ 2 ∧ op ≠ 1 ∧ op ≠ 4 ∧ op ≠ 3 ∧ op ≠ 6 ∧ op ≠ 5) ∧ (op == 2) = false ∧ (op == 1) = false ∧ (op == 4) = false ∧ (op == 3) = false ∧ (op == 6) = false ∧ (op == 5) = false) := by
  simp only [beq_iff_eq, beq_eq_false_iff_ne]
  omega
set_option maxRecDepth 100000 in
set_option maxHeartbeats 8000000 in
theorem meets_any (c : Option Addr) (kc : Nat) (l : List Lab) (t : Trm) (w : World) (hF : LabL w c l) (hT : TrmAt w t) (hm : l.length ≤ 1000) (hn : t.vals.length ≤ 1000000) (hv : ∀ x ∈ l, x.val.size ≤ 1000000000) (hs : ∀ v ∈ t.vals, v.size ≤ 1000000000) :
    Calls Tryz.prog 149 #[.slice c l.length kc, .agg #[.string t.key, .int .i64 t.op, .slice t.va t.vals.length t.vk]] w fun e w' => e = .returned (.bool (meetP l t)) ∧ Below w.heap.size w w' := by
  obtain ⟨key, op, va, vk, vals⟩ := t
  obtain ⟨hT, -⟩ := hT
  dsimp only at hT hn hs ⊢
  have hsz := getV_size (key := key) hv
  have A := fun V (h : LabL V c l) => get_any c kc l key V h (by unfold maxLen; omega)
  unfold meetP
  dsimp only
  obtain ⟨gv, hgv⟩ : ∃ g, getV l key = g := ⟨_, rfl⟩
  rw [hgv] at hsz ⊢
  simp only [hgv] at A
  have B := fun V (h : TxtL V va vals) => containss_any va vk vals gv V h hn
  obtain ⟨ci, hci⟩ : ∃ g, vals.any (strB gv) = g := ⟨_, rfl⟩
  rw [hci] at B ⊢
  have HB := Lib.hid B
  have HF := Lib.hid hF
  have HT := Lib.hid hT
  clear hF hT hgv hci B hv
  cases hg : getB l key
  all_goals
    simp only [hg] at A
    have HA := Lib.hid A
    clear A hg
    rcases op_cases op with ⟨e0, h⟩ | ⟨e0, h1, h⟩ | ⟨e0, h1, h2, h⟩ | ⟨e0, h1, h2, h3, h⟩ | ⟨e0, h1, h2, h3, h4, h⟩ | ⟨e0, h1, h2, h3, h4, h5, h⟩ | ⟨e0, h1, h2, h3, h4, h5, h⟩
  case false.inl =>
    subst e0
    go_enter Tryz.func149, Tryz.ntmps149
    go_wp2_with (first | (go_at_call 154; (with_reducible refine (HA.out _ (HF.out.mono (by (repeat' (first | with_reducible exact Below.refl _ _ | with_reducible assumption | with_reducible refine Below.drew ?_ | with_reducible refine below_drewN' ?_ _ | with_reducible refine Below.alloc ?_ ?_ _ | with_reducible refine Below.setCell ?_ ?_ _ | with_reducible refine below_step (by assumption) ?_ ?_ | omega | (simp; done) | (simp; omega)))))).mono ?_); rintro e w1 ⟨rfl, hb1⟩; obtain ⟨hc1, hf1⟩ := bcell hb1; have hz1 := hb1.size; (try simp at hz1); have z1_0 : w.heap.size < w1.heap.size := (by omega); have y1_0 : w.heap.size ≤ w1.heap.size := (by omega); have HB1 := Lib.hid (show Below w.heap.size w w1 by (repeat' (first | with_reducible exact Below.refl _ _ | with_reducible assumption | with_reducible refine Below.drew ?_ | with_reducible refine below_drewN' ?_ _ | with_reducible refine Below.alloc ?_ ?_ _ | with_reducible refine Below.setCell ?_ ?_ _ | with_reducible refine below_step (by assumption) ?_ ?_ | omega | (simp; done) | (simp; omega))))) | (go_at_call 157; (with_reducible refine (HB.out _ (HT.out.mono HB1.out)).mono ?_); rintro e w2 ⟨rfl, hb2⟩; have hz2 := hb2.size))
    go_ret
    exact ⟨by simp [*], by (repeat' (first | with_reducible exact Below.refl _ _ | with_reducible assumption | with_reducible refine Below.drew ?_ | with_reducible refine below_drewN' ?_ _ | with_reducible refine Below.alloc ?_ ?_ _ | with_reducible refine Below.setCell ?_ ?_ _ | with_reducible refine below_step (by assumption) ?_ ?_ | omega | (simp; done) | (simp; omega)))⟩
  case false.inr.inl =>
    subst e0
    go_enter Tryz.func149, Tryz.ntmps149
    go_wp2_with (first | (go_at_call 154; (with_reducible refine (HA.out _ (HF.out.mono (by (repeat' (first | with_reducible exact Below.refl _ _ | with_reducible assumption | with_reducible refine Below.drew ?_ | with_reducible refine below_drewN' ?_ _ | with_reducible refine Below.alloc ?_ ?_ _ | with_reducible refine Below.setCell ?_ ?_ _ | with_reducible refine below_step (by assumption) ?_ ?_ | omega | (simp; done) | (simp; omega)))))).mono ?_); rintro e w1 ⟨rfl, hb1⟩; obtain ⟨hc1, hf1⟩ := bcell hb1; have hz1 := hb1.size; (try simp at hz1); have z1_0 : w.heap.size < w1.heap.size := (by omega); have y1_0 : w.heap.size ≤ w1.heap.size := (by omega); have HB1 := Lib.hid (show Below w.heap.size w w1 by (repeat' (first | with_reducible exact Below.refl _ _ | with_reducible assumption | with_reducible refine Below.drew ?_ | with_reducible refine below_drewN' ?_ _ | with_reducible refine Below.alloc ?_ ?_ _ | with_reducible refine Below.setCell ?_ ?_ _ | with_reducible refine below_step (by assumption) ?_ ?_ | omega | (simp; done) | (simp; omega))))) | (go_at_call 157; (with_reducible refine (HB.out _ (HT.out.mono HB1.out)).mono ?_); rintro e w2 ⟨rfl, hb2⟩; have hz2 := hb2.size))
    go_ret
    exact ⟨by simp [*], by (repeat' (first | with_reducible exact Below.refl _ _ | with_reducible assumption | with_reducible refine Below.drew ?_ | with_reducible refine below_drewN' ?_ _ | with_reducible refine Below.alloc ?_ ?_ _ | with_reducible refine Below.setCell ?_ ?_ _ | with_reducible refine below_step (by assumption) ?_ ?_ | omega | (simp; done) | (simp; omega)))⟩
  case false.inr.inr.inl =>
    subst e0
    go_enter Tryz.func149, Tryz.ntmps149
    go_wp2_with (first | (go_at_call 154; (with_reducible refine (HA.out _ (HF.out.mono (by (repeat' (first | with_reducible exact Below.refl _ _ | with_reducible assumption | with_reducible refine Below.drew ?_ | with_reducible refine below_drewN' ?_ _ | with_reducible refine Below.alloc ?_ ?_ _ | with_reducible refine Below.setCell ?_ ?_ _ | with_reducible refine below_step (by assumption) ?_ ?_ | omega | (simp; done) | (simp; omega)))))).mono ?_); rintro e w1 ⟨rfl, hb1⟩; obtain ⟨hc1, hf1⟩ := bcell hb1; have hz1 := hb1.size; (try simp at hz1); have z1_0 : w.heap.size < w1.heap.size := (by omega); have y1_0 : w.heap.size ≤ w1.heap.size := (by omega); have HB1 := Lib.hid (show Below w.heap.size w w1 by (repeat' (first | with_reducible exact Below.refl _ _ | with_reducible assumption | with_reducible refine Below.drew ?_ | with_reducible refine below_drewN' ?_ _ | with_reducible refine Below.alloc ?_ ?_ _ | with_reducible refine Below.setCell ?_ ?_ _ | with_reducible refine below_step (by assumption) ?_ ?_ | omega | (simp; done) | (simp; omega))))) | (go_at_call 157; (with_reducible refine (HB.out _ (HT.out.mono HB1.out)).mono ?_); rintro e w2 ⟨rfl, hb2⟩; have hz2 := hb2.size))
    go_ret
    exact ⟨by simp [*], by (repeat' (first | with_reducible exact Below.refl _ _ | with_reducible assumption | with_reducible refine Below.drew ?_ | with_reducible refine below_drewN' ?_ _ | with_reducible refine Below.alloc ?_ ?_ _ | with_reducible refine Below.setCell ?_ ?_ _ | with_reducible refine below_step (by assumption) ?_ ?_ | omega | (simp; done) | (simp; omega)))⟩
  case false.inr.inr.inr.inl =>
    subst e0
    go_enter Tryz.func149, Tryz.ntmps149
    go_wp2_with (first | (go_at_call 154; (with_reducible refine (HA.out _ (HF.out.mono (by (repeat' (first | with_reducible exact Below.refl _ _ | with_reducible assumption | with_reducible refine Below.drew ?_ | with_reducible refine below_drewN' ?_ _ | with_reducible refine Below.alloc ?_ ?_ _ | with_reducible refine Below.setCell ?_ ?_ _ | with_reducible refine below_step (by assumption) ?_ ?_ | omega | (simp; done) | (simp; omega)))))).mono ?_); rintro e w1 ⟨rfl, hb1⟩; obtain ⟨hc1, hf1⟩ := bcell hb1; have hz1 := hb1.size; (try simp at hz1); have z1_0 : w.heap.size < w1.heap.size := (by omega); have y1_0 : w.heap.size ≤ w1.heap.size := (by omega); have HB1 := Lib.hid (show Below w.heap.size w w1 by (repeat' (first | with_reducible exact Below.refl _ _ | with_reducible assumption | with_reducible refine Below.drew ?_ | with_reducible refine below_drewN' ?_ _ | with_reducible refine Below.alloc ?_ ?_ _ | with_reducible refine Below.setCell ?_ ?_ _ | with_reducible refine below_step (by assumption) ?_ ?_ | omega | (simp; done) | (simp; omega))))) | (go_at_call 157; (with_reducible refine (HB.out _ (HT.out.mono HB1.out)).mono ?_); rintro e w2 ⟨rfl, hb2⟩; have hz2 := hb2.size))
    go_ret
    exact ⟨by simp [*], by (repeat' (first | with_reducible exact Below.refl _ _ | with_reducible assumption | with_reducible refine Below.drew ?_ | with_reducible refine below_drewN' ?_ _ | with_reducible refine Below.alloc ?_ ?_ _ | with_reducible refine Below.setCell ?_ ?_ _ | with_reducible refine below_step (by assumption) ?_ ?_ | omega | (simp; done) | (simp; omega)))⟩
  case true.inl =>
    subst e0
    go_enter Tryz.func149, Tryz.ntmps149
    go_wp2_with (first | (go_at_call 154; (with_reducible refine (HA.out _ (HF.out.mono (by (repeat' (first | with_reducible exact Below.refl _ _ | with_reducible assumption | with_reducible refine Below.drew ?_ | with_reducible refine below_drewN' ?_ _ | with_reducible refine Below.alloc ?_ ?_ _ | with_reducible refine Below.setCell ?_ ?_ _ | with_reducible refine below_step (by assumption) ?_ ?_ | omega | (simp; done) | (simp; omega)))))).mono ?_); rintro e w1 ⟨rfl, hb1⟩; obtain ⟨hc1, hf1⟩ := bcell hb1; have hz1 := hb1.size; (try simp at hz1); have z1_0 : w.heap.size < w1.heap.size := (by omega); have y1_0 : w.heap.size ≤ w1.heap.size := (by omega); have HB1 := Lib.hid (show Below w.heap.size w w1 by (repeat' (first | with_reducible exact Below.refl _ _ | with_reducible assumption | with_reducible refine Below.drew ?_ | with_reducible refine below_drewN' ?_ _ | with_reducible refine Below.alloc ?_ ?_ _ | with_reducible refine Below.setCell ?_ ?_ _ | with_reducible refine below_step (by assumption) ?_ ?_ | omega | (simp; done) | (simp; omega))))) | (go_at_call 157; (with_reducible refine (HB.out _ (HT.out.mono HB1.out)).mono ?_); rintro e w2 ⟨rfl, hb2⟩; have hz2 := hb2.size))
    go_ret
    exact ⟨by simp [*], by (repeat' (first | with_reducible exact Below.refl _ _ | with_reducible assumption | with_reducible refine Below.drew ?_ | with_reducible refine below_drewN' ?_ _ | with_reducible refine Below.alloc ?_ ?_ _ | with_reducible refine Below.setCell ?_ ?_ _ | with_reducible refine below_step (by assumption) ?_ ?_ | omega | (simp; done) | (simp; omega)))⟩
  case true.inr.inl =>
    subst e0
    go_enter Tryz.func149, Tryz.ntmps149
    go_wp2_with (first | (go_at_call 154; (with_reducible refine (HA.out _ (HF.out.mono (by (repeat' (first | with_reducible exact Below.refl _ _ | with_reducible assumption | with_reducible refine Below.drew ?_ | with_reducible refine below_drewN' ?_ _ | with_reducible refine Below.alloc ?_ ?_ _ | with_reducible refine Below.setCell ?_ ?_ _ | with_reducible refine below_step (by assumption) ?_ ?_ | omega | (simp; done) | (simp; omega)))))).mono ?_); rintro e w1 ⟨rfl, hb1⟩; obtain ⟨hc1, hf1⟩ := bcell hb1; have hz1 := hb1.size; (try simp at hz1); have z1_0 : w.heap.size < w1.heap.size := (by omega); have y1_0 : w.heap.size ≤ w1.heap.size := (by omega); have HB1 := Lib.hid (show Below w.heap.size w w1 by (repeat' (first | with_reducible exact Below.refl _ _ | with_reducible assumption | with_reducible refine Below.drew ?_ | with_reducible refine below_drewN' ?_ _ | with_reducible refine Below.alloc ?_ ?_ _ | with_reducible refine Below.setCell ?_ ?_ _ | with_reducible refine below_step (by assumption) ?_ ?_ | omega | (simp; done) | (simp; omega))))) | (go_at_call 157; (with_reducible refine (HB.out _ (HT.out.mono HB1.out)).mono ?_); rintro e w2 ⟨rfl, hb2⟩; have hz2 := hb2.size))
    go_ret
    exact ⟨by simp [*], by (repeat' (first | with_reducible exact Below.refl _ _ | with_reducible assumption | with_reducible refine Below.drew ?_ | with_reducible refine below_drewN' ?_ _ | with_reducible refine Below.alloc ?_ ?_ _ | with_reducible refine Below.setCell ?_ ?_ _ | with_reducible refine below_step (by assumption) ?_ ?_ | omega | (simp; done) | (simp; omega)))⟩
  case true.inr.inr.inl =>
    subst e0
    go_enter Tryz.func149, Tryz.ntmps149
    go_wp2_with (first | (go_at_call 154; (with_reducible refine (HA.out _ (HF.out.mono (by (repeat' (first | with_reducible exact Below.refl _ _ | with_reducible assumption | with_reducible refine Below.drew ?_ | with_reducible refine below_drewN' ?_ _ | with_reducible refine Below.alloc ?_ ?_ _ | with_reducible refine Below.setCell ?_ ?_ _ | with_reducible refine below_step (by assumption) ?_ ?_ | omega | (simp; done) | (simp; omega)))))).mono ?_); rintro e w1 ⟨rfl, hb1⟩; obtain ⟨hc1, hf1⟩ := bcell hb1; have hz1 := hb1.size; (try simp at hz1); have z1_0 : w.heap.size < w1.heap.size := (by omega); have y1_0 : w.heap.size ≤ w1.heap.size := (by omega); have HB1 := Lib.hid (show Below w.heap.size w w1 by (repeat' (first | with_reducible exact Below.refl _ _ | with_reducible assumption | with_reducible refine Below.drew ?_ | with_reducible refine below_drewN' ?_ _ | with_reducible refine Below.alloc ?_ ?_ _ | with_reducible refine Below.setCell ?_ ?_ _ | with_reducible refine below_step (by assumption) ?_ ?_ | omega | (simp; done) | (simp; omega))))) | (go_at_call 157; (with_reducible refine (HB.out _ (HT.out.mono HB1.out)).mono ?_); rintro e w2 ⟨rfl, hb2⟩; have hz2 := hb2.size))
    go_ret
    exact ⟨by simp [*], by (repeat' (first | with_reducible exact Below.refl _ _ | with_reducible assumption | with_reducible refine Below.drew ?_ | with_reducible refine below_drewN' ?_ _ | with_reducible refine Below.alloc ?_ ?_ _ | with_reducible refine Below.setCell ?_ ?_ _ | with_reducible refine below_step (by assumption) ?_ ?_ | omega | (simp; done) | (simp; omega)))⟩
  case true.inr.inr.inr.inl =>
    subst e0
    go_enter Tryz.func149, Tryz.ntmps149
    go_wp2_with (first | (go_at_call 154; (with_reducible refine (HA.out _ (HF.out.mono (by (repeat' (first | with_reducible exact Below.refl _ _ | with_reducible assumption | with_reducible refine Below.drew ?_ | with_reducible refine below_drewN' ?_ _ | with_reducible refine Below.alloc ?_ ?_ _ | with_reducible refine Below.setCell ?_ ?_ _ | with_reducible refine below_step (by assumption) ?_ ?_ | omega | (simp; done) | (simp; omega)))))).mono ?_); rintro e w1 ⟨rfl, hb1⟩; obtain ⟨hc1, hf1⟩ := bcell hb1; have hz1 := hb1.size; (try simp at hz1); have z1_0 : w.heap.size < w1.heap.size := (by omega); have y1_0 : w.heap.size ≤ w1.heap.size := (by omega); have HB1 := Lib.hid (show Below w.heap.size w w1 by (repeat' (first | with_reducible exact Below.refl _ _ | with_reducible assumption | with_reducible refine Below.drew ?_ | with_reducible refine below_drewN' ?_ _ | with_reducible refine Below.alloc ?_ ?_ _ | with_reducible refine Below.setCell ?_ ?_ _ | with_reducible refine below_step (by assumption) ?_ ?_ | omega | (simp; done) | (simp; omega))))) | (go_at_call 157; (with_reducible refine (HB.out _ (HT.out.mono HB1.out)).mono ?_); rintro e w2 ⟨rfl, hb2⟩; have hz2 := hb2.size))
    go_ret
    exact ⟨by simp [*], by (repeat' (first | with_reducible exact Below.refl _ _ | with_reducible assumption | with_reducible refine Below.drew ?_ | with_reducible refine below_drewN' ?_ _ | with_reducible refine Below.alloc ?_ ?_ _ | with_reducible refine Below.setCell ?_ ?_ _ | with_reducible refine below_step (by assumption) ?_ ?_ | omega | (simp; done) | (simp; omega)))⟩
  case false.inr.inr.inr.inr.inr.inr =>
    obtain ⟨e1, e2, e3, e4, e5, e6⟩ := e0
    go_enter Tryz.func149, Tryz.ntmps149
    go_wp2_with (first | (go_at_call 154; (with_reducible refine (HA.out _ (HF.out.mono (by (repeat' (first | with_reducible exact Below.refl _ _ | with_reducible assumption | with_reducible refine Below.drew ?_ | with_reducible refine below_drewN' ?_ _ | with_reducible refine Below.alloc ?_ ?_ _ | with_reducible refine Below.setCell ?_ ?_ _ | with_reducible refine below_step (by assumption) ?_ ?_ | omega | (simp; done) | (simp; omega)))))).mono ?_); rintro e w1 ⟨rfl, hb1⟩; obtain ⟨hc1, hf1⟩ := bcell hb1; have hz1 := hb1.size; (try simp at hz1); have z1_0 : w.heap.size < w1.heap.size := (by omega); have y1_0 : w.heap.size ≤ w1.heap.size := (by omega); have HB1 := Lib.hid (show Below w.heap.size w w1 by (repeat' (first | with_reducible exact Below.refl _ _ | with_reducible assumption | with_reducible refine Below.drew ?_ | with_reducible refine below_drewN' ?_ _ | with_reducible refine Below.alloc ?_ ?_ _ | with_reducible refine Below.setCell ?_ ?_ _ | with_reducible refine below_step (by assumption) ?_ ?_ | omega | (simp; done) | (simp; omega))))) | (go_at_call 157; (with_reducible refine (HB.out _ (HT.out.mono HB1.out)).mono ?_); rintro e w2 ⟨rfl, hb2⟩; have hz2 := hb2.size))
    go_ret
    exact ⟨by simp [*], by (repeat' (first | with_reducible exact Below.refl _ _ | with_reducible assumption | with_reducible refine Below.drew ?_ | with_reducible refine below_drewN' ?_ _ | with_reducible refine Below.alloc ?_ ?_ _ | with_reducible refine Below.setCell ?_ ?_ _ | with_reducible refine below_step (by assumption) ?_ ?_ | omega | (simp; done) | (simp; omega)))⟩
  case true.inr.inr.inr.inr.inr.inr =>
    obtain ⟨e1, e2, e3, e4, e5, e6⟩ := e0
    go_enter Tryz.func149, Tryz.ntmps149
    go_wp2_with (first | (go_at_call 154; (with_reducible refine (HA.out _ (HF.out.mono (by (repeat' (first | with_reducible exact Below.refl _ _ | with_reducible assumption | with_reducible refine Below.drew ?_ | with_reducible refine below_drewN' ?_ _ | with_reducible refine Below.alloc ?_ ?_ _ | with_reducible refine Below.setCell ?_ ?_ _ | with_reducible refine below_step (by assumption) ?_ ?_ | omega | (simp; done) | (simp; omega)))))).mono ?_); rintro e w1 ⟨rfl, hb1⟩; obtain ⟨hc1, hf1⟩ := bcell hb1; have hz1 := hb1.size; (try simp at hz1); have z1_0 : w.heap.size < w1.heap.size := (by omega); have y1_0 : w.heap.size ≤ w1.heap.size := (by omega); have HB1 := Lib.hid (show Below w.heap.size w w1 by (repeat' (first | with_reducible exact Below.refl _ _ | with_reducible assumption | with_reducible refine Below.drew ?_ | with_reducible refine below_drewN' ?_ _ | with_reducible refine Below.alloc ?_ ?_ _ | with_reducible refine Below.setCell ?_ ?_ _ | with_reducible refine below_step (by assumption) ?_ ?_ | omega | (simp; done) | (simp; omega))))) | (go_at_call 157; (with_reducible refine (HB.out _ (HT.out.mono HB1.out)).mono ?_); rintro e w2 ⟨rfl, hb2⟩; have hz2 := hb2.size))
    go_ret
    exact ⟨by simp [*], by (repeat' (first | with_reducible exact Below.refl _ _ | with_reducible assumption | with_reducible refine Below.drew ?_ | with_reducible refine below_drewN' ?_ _ | with_reducible refine Below.alloc ?_ ?_ _ | with_reducible refine Below.setCell ?_ ?_ _ | with_reducible refine below_step (by assumption) ?_ ?_ | omega | (simp; done) | (simp; omega)))⟩
  case false.inr.inr.inr.inr.inl =>
    subst e0
    go_enter Tryz.func149, Tryz.ntmps149
    go_wp2_with (go_at_call 154; (with_reducible refine (HA.out _ (HF.out.mono (by (repeat' (first | with_reducible exact Below.refl _ _ | with_reducible assumption | with_reducible refine Below.drew ?_ | with_reducible refine below_drewN' ?_ _ | with_reducible refine Below.alloc ?_ ?_ _ | with_reducible refine Below.setCell ?_ ?_ _ | with_reducible refine below_step (by assumption) ?_ ?_ | omega | (simp; done) | (simp; omega)))))).mono ?_); rintro e w1 ⟨rfl, hb1⟩; obtain ⟨hc1, hf1⟩ := bcell hb1; have hz1 := hb1.size; (try simp at hz1); have z1_0 : w.heap.size < w1.heap.size := (by omega); have y1_0 : w.heap.size ≤ w1.heap.size := (by omega); have HB1 := Lib.hid (show Below w.heap.size w w1 by (repeat' (first | with_reducible exact Below.refl _ _ | with_reducible assumption | with_reducible refine Below.drew ?_ | with_reducible refine below_drewN' ?_ _ | with_reducible refine Below.alloc ?_ ?_ _ | with_reducible refine Below.setCell ?_ ?_ _ | with_reducible refine below_step (by assumption) ?_ ?_ | omega | (simp; done) | (simp; omega)))))
    have hcH := held_cell
    refine region_below (by kernel_rfl) (by kernel_rfl) ?_
    repeat
      ((with_reducible refine wpQuiet_step (fun K hK => ?_))
       go_simp
       first
         | ((with_reducible refine hK _ ?_); clear hK K)
         | (apply Exists.intro
            (with_reducible refine ⟨fun n => ?_, hK _ ?_⟩)
            (fail)
            clear hK K))
    with_reducible refine wpQuiet_nil ?_
    intro w3 hw2
    clear hcH
    obtain ⟨⟨_, hb3⟩, rfl⟩ := hw2
    (try dsimp only)
    obtain ⟨hc3, hf3⟩ := bcell hb3
    have hz3 := hb3.size
    (try simp at hz3)
    go_wp2
    go_ret
    exact ⟨by simp, by (repeat' (first | with_reducible exact Below.refl _ _ | with_reducible assumption | with_reducible refine Below.drew ?_ | with_reducible refine below_drewN' ?_ _ | with_reducible refine Below.alloc ?_ ?_ _ | with_reducible refine Below.setCell ?_ ?_ _ | with_reducible refine below_step (by assumption) ?_ ?_ | omega | (simp; done) | (simp; omega)))⟩
  case false.inr.inr.inr.inr.inr.inl =>
    subst e0
    go_enter Tryz.func149, Tryz.ntmps149
    go_wp2_with (go_at_call 154; (with_reducible refine (HA.out _ (HF.out.mono (by (repeat' (first | with_reducible exact Below.refl _ _ | with_reducible assumption | with_reducible refine Below.drew ?_ | with_reducible refine below_drewN' ?_ _ | with_reducible refine Below.alloc ?_ ?_ _ | with_reducible refine Below.setCell ?_ ?_ _ | with_reducible refine below_step (by assumption) ?_ ?_ | omega | (simp; done) | (simp; omega)))))).mono ?_); rintro e w1 ⟨rfl, hb1⟩; obtain ⟨hc1, hf1⟩ := bcell hb1; have hz1 := hb1.size; (try simp at hz1); have z1_0 : w.heap.size < w1.heap.size := (by omega); have y1_0 : w.heap.size ≤ w1.heap.size := (by omega); have HB1 := Lib.hid (show Below w.heap.size w w1 by (repeat' (first | with_reducible exact Below.refl _ _ | with_reducible assumption | with_reducible refine Below.drew ?_ | with_reducible refine below_drewN' ?_ _ | with_reducible refine Below.alloc ?_ ?_ _ | with_reducible refine Below.setCell ?_ ?_ _ | with_reducible refine below_step (by assumption) ?_ ?_ | omega | (simp; done) | (simp; omega)))))
    have hcH := held_cell
    refine region_below (by kernel_rfl) (by kernel_rfl) ?_
    repeat
      ((with_reducible refine wpQuiet_step (fun K hK => ?_))
       go_simp
       first
         | ((with_reducible refine hK _ ?_); clear hK K)
         | (apply Exists.intro
            (with_reducible refine ⟨fun n => ?_, hK _ ?_⟩)
            (fail)
            clear hK K))
    with_reducible refine wpQuiet_nil ?_
    intro w3 hw2
    clear hcH
    obtain ⟨⟨_, hb3⟩, rfl⟩ := hw2
    (try dsimp only)
    obtain ⟨hc3, hf3⟩ := bcell hb3
    have hz3 := hb3.size
    (try simp at hz3)
    go_wp2
    go_ret
    exact ⟨by simp, by (repeat' (first | with_reducible exact Below.refl _ _ | with_reducible assumption | with_reducible refine Below.drew ?_ | with_reducible refine below_drewN' ?_ _ | with_reducible refine Below.alloc ?_ ?_ _ | with_reducible refine Below.setCell ?_ ?_ _ | with_reducible refine below_step (by assumption) ?_ ?_ | omega | (simp; done) | (simp; omega)))⟩
  all_goals
    subst e0
    by_cases hone : vals.length = 1
    · obtain ⟨v0, hv0⟩ : ∃ v0, vals = [v0] := by
        match vals, hone with
        | [v0], _ => exact ⟨v0, rfl⟩
      subst hv0
      obtain ⟨b, off, rfl, hb, hc⟩ := HT.out (by simp)
      have c0 := txt_cell (hc 0 v0 rfl)
      simp only [Nat.zero_mul, Nat.add_zero] at c0
      have X := fun op V => exceeds_any gv v0 op hsz (hs v0 List.mem_cons_self) V
      have HX := Lib.hid X
      clear X hc
      go_enter Tryz.func149, Tryz.ntmps149
      go_wp2_with (first | (go_at_call 154; (with_reducible refine (HA.out _ (HF.out.mono (by (repeat' (first | with_reducible exact Below.refl _ _ | with_reducible assumption | with_reducible refine Below.drew ?_ | with_reducible refine below_drewN' ?_ _ | with_reducible refine Below.alloc ?_ ?_ _ | with_reducible refine Below.setCell ?_ ?_ _ | with_reducible refine below_step (by assumption) ?_ ?_ | omega | (simp; done) | (simp; omega)))))).mono ?_); rintro e w1 ⟨rfl, hb1⟩; obtain ⟨hc1, hf1⟩ := bcell hb1; have hz1 := hb1.size; (try simp at hz1); have z1_0 : w.heap.size < w1.heap.size := (by omega); have y1_0 : w.heap.size ≤ w1.heap.size := (by omega); have HB1 := Lib.hid (show Below w.heap.size w w1 by (repeat' (first | with_reducible exact Below.refl _ _ | with_reducible assumption | with_reducible refine Below.drew ?_ | with_reducible refine below_drewN' ?_ _ | with_reducible refine Below.alloc ?_ ?_ _ | with_reducible refine Below.setCell ?_ ?_ _ | with_reducible refine below_step (by assumption) ?_ ?_ | omega | (simp; done) | (simp; omega))))))
      have hbv : b < w1.heap.size := by omega
      have hcH := held_cell
      refine region_below (by kernel_rfl) (by kernel_rfl) ?_
      repeat
        ((with_reducible refine wpQuiet_step (fun K hK => ?_))
         go_simp
         first
           | ((with_reducible refine hK _ ?_); clear hK K)
           | (apply Exists.intro
              (with_reducible refine ⟨fun n => ?_, hK _ ?_⟩)
              ((go_at_call 158; exact held_calls (HX.out _ _)))
              clear hK K))
      with_reducible refine wpQuiet_nil ?_
      intro w3 hw2
      clear hcH
      obtain ⟨⟨_, hb3⟩, rfl⟩ := hw2
      (try dsimp only)
      obtain ⟨hc3, hf3⟩ := bcell hb3
      have hz3 := hb3.size
      (try simp at hz3)
      go_wp2
      go_ret
      exact ⟨by simp, by (repeat' (first | with_reducible exact Below.refl _ _ | with_reducible assumption | with_reducible refine Below.drew ?_ | with_reducible refine below_drewN' ?_ _ | with_reducible refine Below.alloc ?_ ?_ _ | with_reducible refine Below.setCell ?_ ?_ _ | with_reducible refine below_step (by assumption) ?_ ?_ | omega | (simp; done) | (simp; omega)))⟩
    · have hone2 : ((vals.length : Int) == 1) = false := by rw [beq_eq_false_iff_ne]; omega
      go_enter Tryz.func149, Tryz.ntmps149
      go_wp2_with (go_at_call 154; (with_reducible refine (HA.out _ (HF.out.mono (by (repeat' (first | with_reducible exact Below.refl _ _ | with_reducible assumption | with_reducible refine Below.drew ?_ | with_reducible refine below_drewN' ?_ _ | with_reducible refine Below.alloc ?_ ?_ _ | with_reducible refine Below.setCell ?_ ?_ _ | with_reducible refine below_step (by assumption) ?_ ?_ | omega | (simp; done) | (simp; omega)))))).mono ?_); rintro e w1 ⟨rfl, hb1⟩; obtain ⟨hc1, hf1⟩ := bcell hb1; have hz1 := hb1.size; (try simp at hz1); have z1_0 : w.heap.size < w1.heap.size := (by omega); have y1_0 : w.heap.size ≤ w1.heap.size := (by omega); have HB1 := Lib.hid (show Below w.heap.size w w1 by (repeat' (first | with_reducible exact Below.refl _ _ | with_reducible assumption | with_reducible refine Below.drew ?_ | with_reducible refine below_drewN' ?_ _ | with_reducible refine Below.alloc ?_ ?_ _ | with_reducible refine Below.setCell ?_ ?_ _ | with_reducible refine below_step (by assumption) ?_ ?_ | omega | (simp; done) | (simp; omega)))))
      have hcH := held_cell
      refine region_below (by kernel_rfl) (by kernel_rfl) ?_
      repeat
        ((with_reducible refine wpQuiet_step (fun K hK => ?_))
         go_simp
         first
           | ((with_reducible refine hK _ ?_); clear hK K)
           | (apply Exists.intro
              (with_reducible refine ⟨fun n => ?_, hK _ ?_⟩)
              (fail)
              clear hK K))
      with_reducible refine wpQuiet_nil ?_
      intro w3 hw2
      clear hcH
      obtain ⟨⟨_, hb3⟩, rfl⟩ := hw2
      (try dsimp only)
      obtain ⟨hc3, hf3⟩ := bcell hb3
      have hz3 := hb3.size
      (try simp at hz3)
      go_wp2
      go_ret
      exact ⟨by simp [hone], by (repeat' (first | with_reducible exact Below.refl _ _ | with_reducible assumption | with_reducible refine Below.drew ?_ | with_reducible refine below_drewN' ?_ _ | with_reducible refine Below.alloc ?_ ?_ _ | with_reducible refine Below.setCell ?_ ?_ _ | with_reducible refine below_step (by assumption) ?_ ?_ | omega | (simp; done) | (simp; omega)))⟩
def rtrm (t : Trm) : Bool := wordB t.key && (if t.op = 1 ∨ t.op = 2 then decide (1 ≤ t.vals.length) && (decide (t.vals.length ≤ 16) && t.vals.all weB)
  else if t.op = 3 ∨ t.op = 4 then decide (t.vals.length = 0)
  else if t.op = 5 ∨ t.op = 6 then decide (t.vals.length = 1) && decide ((numV (t.vals[0]?.getD emp)).2 = 0) else false)
def hasP (l some : List Lab) : Bool := some.all fun x => l.any (labB x)
set_option maxRecDepth 100000 in
set_option maxHeartbeats 4000000 in
theorem has_any (c a : Option Addr) (kc ka : Nat) (l xs : List Lab) (w : World) (hF : LabL w c l) (hD : LabL w a xs) (hm : l.length ≤ 1000000) (hn : xs.length ≤ 1000000) :
    Calls Tryz.prog 135 #[.slice c l.length kc, .slice a xs.length ka] w fun e w' => e = .returned (.bool (hasP l xs)) ∧ Below w.heap.size w w' := by
  have HF := Lib.hid hF
  have HD := Lib.hid hD
  clear hF hD
  obtain ⟨n, hln⟩ : ∃ n, xs.length = n := ⟨_, rfl⟩
  rw [hln] at hn ⊢
  have Hln := Lib.hid hln
  clear hln
  go_enter Tryz.func135, Tryz.ntmps135
  go_wp2
  go_loopw [9] (fun i wr => ∃ k : Nat, k ≤ n ∧ i = .int .i64 k ∧ (xs.take k).all (fun x => l.any (labB x)) = true ∧ Below w.heap.size w wr) (fun i _ => n - (intOf i).toNat)
  case atStart => exact ⟨0, by omega, rfl, rfl, by (repeat' (first | with_reducible exact Below.refl _ _ | with_reducible assumption | with_reducible refine Below.drew ?_ | with_reducible refine below_drewN' ?_ _ | with_reducible refine Below.alloc ?_ ?_ _ | with_reducible refine Below.setCell ?_ ?_ _ | with_reducible refine below_step (by assumption) ?_ ?_ | omega | (simp; done) | (simp; omega)))⟩
  case round =>
    obtain ⟨k, hk, rfl, hE, hB⟩ := hrel
    obtain ⟨hcB, hfB⟩ := bcell hB
    have hbz := hB.size
    have HE := Lib.hid hE
    have HB := Lib.hid hB
    clear hE
    by_cases hlt : k < n
    · obtain ⟨x, hx⟩ := mem_at (l := xs) (k := k) (by rw [Hln.out]; exact hlt)
      obtain ⟨b, off, rfl, hb, hc⟩ := HD.out (by rw [Hln.out]; omega)
      have hbw : b < wr.heap.size := by omega
      obtain ⟨c0, c1⟩ := lab_cells (hc k x hx)
      have Hx := Lib.hid hx
      clear hc hx
      have A := fun V (h : LabL V c l) => containsl_any c kc l x V h hm
      cases hv : l.any (labB x)
      · have Hs := Lib.hid (show hasP l xs = false from all_bad (P := fun x => l.any (labB x)) Hx.out hv)
        rw [hv] at A
        have HA := Lib.hid A
        clear hv A
        go_wp2_with (go_at_call 148; (with_reducible refine (HA.out _ (HF.out.mono (by (repeat' (first | with_reducible exact Below.refl _ _ | with_reducible assumption | with_reducible refine Below.drew ?_ | with_reducible refine below_drewN' ?_ _ | with_reducible refine Below.alloc ?_ ?_ _ | with_reducible refine Below.setCell ?_ ?_ _ | with_reducible refine below_step (by assumption) ?_ ?_ | omega | (simp; done) | (simp; omega)))))).mono ?_); rintro e w1 ⟨rfl, hb1⟩; have hz1 := hb1.size; (try simp at hz1))
        go_ret
        exact ⟨by rw [Hs.out]; rfl, by (repeat' (first | with_reducible exact Below.refl _ _ | with_reducible assumption | with_reducible refine Below.drew ?_ | with_reducible refine below_drewN' ?_ _ | with_reducible refine Below.alloc ?_ ?_ _ | with_reducible refine Below.setCell ?_ ?_ _ | with_reducible refine below_step (by assumption) ?_ ?_ | omega | (simp; done) | (simp; omega)))⟩
      · have Hs := Lib.hid (all_take1 (P := fun x => l.any (labB x)) Hx.out hv HE.out)
        rw [hv] at A
        have HA := Lib.hid A
        clear hv A
        go_wp2_with (go_at_call 148; (with_reducible refine (HA.out _ (HF.out.mono (by (repeat' (first | with_reducible exact Below.refl _ _ | with_reducible assumption | with_reducible refine Below.drew ?_ | with_reducible refine below_drewN' ?_ _ | with_reducible refine Below.alloc ?_ ?_ _ | with_reducible refine Below.setCell ?_ ?_ _ | with_reducible refine below_step (by assumption) ?_ ?_ | omega | (simp; done) | (simp; omega)))))).mono ?_); rintro e w1 ⟨rfl, hb1⟩; have hz1 := hb1.size; (try simp at hz1))
        go_roundw
        case rel => exact ⟨k + 1, by omega, by go_num, Hs.out, by (repeat' (first | with_reducible exact Below.refl _ _ | with_reducible assumption | with_reducible refine Below.drew ?_ | with_reducible refine below_drewN' ?_ _ | with_reducible refine Below.alloc ?_ ?_ _ | with_reducible refine Below.setCell ?_ ?_ _ | with_reducible refine below_step (by assumption) ?_ ?_ | omega | (simp; done) | (simp; omega)))⟩
        case measure => simp [intOf]; omega
    · obtain rfl : k = n := by omega
      have Hs := Lib.hid (show hasP l xs = true from all_done Hln.out HE.out)
      go_wp2
      go_ret
      exact ⟨by rw [Hs.out]; rfl, by (repeat' (first | with_reducible exact Below.refl _ _ | with_reducible assumption | with_reducible refine Below.drew ?_ | with_reducible refine below_drewN' ?_ _ | with_reducible refine Below.alloc ?_ ?_ _ | with_reducible refine Below.setCell ?_ ?_ _ | with_reducible refine below_step (by assumption) ?_ ?_ | omega | (simp; done) | (simp; omega)))⟩
theorem trm_cells {w : World} {b o : Nat} {t : Trm} (h : ∀ r, r < 3 → w.cell? ⟨b, o + r, none⟩ = (trcs t)[r]?) :
    w.cell? ⟨b, o, none⟩ = some (.string t.key) ∧ w.cell? ⟨b, o + 1, none⟩ = some (.int .i64 t.op) ∧ w.cell? ⟨b, o + 2, none⟩ = some (.slice t.va t.vals.length t.vk) := ⟨h 0 (by decide), h 1 (by decide), h 2 (by decide)⟩
set_option maxRecDepth 100000 in
set_option maxHeartbeats 4000000 in
theorem all_any2 (c a : Option Addr) (kc ka : Nat) (l : List Lab) (ts : List Trm) (w : World) (hF : LabL w c l) (hT : TrmL w a ts) (hA : ∀ t ∈ ts, TrmAt w t) (hm : l.length ≤ 1000) (hn : ts.length ≤ 1000000) (hn2 : ∀ t ∈ ts, t.vals.length ≤ 1000000)
    (hv : ∀ x ∈ l, x.val.size ≤ 1000000000) (hs : ∀ t ∈ ts, ∀ v ∈ t.vals, v.size ≤ 1000000000) :
    Calls Tryz.prog 136 #[.slice c l.length kc, .slice a ts.length ka] w fun e w' => e = .returned (.bool (ts.all (meetP l))) ∧ Below w.heap.size w w' := by
  have HF := Lib.hid hF
  have HT := Lib.hid hT
  have HA := Lib.hid hA
  have Hn2 := Lib.hid hn2
  have Hv := Lib.hid hv
  have Hsz := Lib.hid hs
  clear hF hT hA hn2 hv hs
  obtain ⟨n, hln⟩ : ∃ n, ts.length = n := ⟨_, rfl⟩
  rw [hln] at hn ⊢
  have Hln := Lib.hid hln
  clear hln
  go_enter Tryz.func136, Tryz.ntmps136
  go_wp2
  go_loopw [9] (fun i wr => ∃ k : Nat, k ≤ n ∧ i = .int .i64 k ∧ (ts.take k).all (meetP l) = true ∧ Below w.heap.size w wr) (fun i _ => n - (intOf i).toNat)
  case atStart => exact ⟨0, by omega, rfl, rfl, by (repeat' (first | with_reducible exact Below.refl _ _ | with_reducible assumption | with_reducible refine Below.drew ?_ | with_reducible refine below_drewN' ?_ _ | with_reducible refine Below.alloc ?_ ?_ _ | with_reducible refine Below.setCell ?_ ?_ _ | with_reducible refine below_step (by assumption) ?_ ?_ | omega | (simp; done) | (simp; omega)))⟩
  case round =>
    obtain ⟨k, hk, rfl, hE, hB⟩ := hrel
    obtain ⟨hcB, hfB⟩ := bcell hB
    have hbz := hB.size
    have HE := Lib.hid hE
    have HB := Lib.hid hB
    clear hE
    by_cases hlt : k < n
    · obtain ⟨t, hx⟩ := mem_at (l := ts) (k := k) (by rw [Hln.out]; exact hlt)
      obtain ⟨b, off, rfl, hb, hc⟩ := HT.out (by rw [Hln.out]; omega)
      have hbw : b < wr.heap.size := by omega
      obtain ⟨c0, c1, c2⟩ := trm_cells (hc k t hx)
      have hmem := List.mem_of_getElem? hx
      have A := fun V (h : LabL V c l) (h2 : TrmAt V t) => meets_any c kc l t V h h2 hm (Hn2.out t hmem) Hv.out (Hsz.out t hmem)
      have HAt := Lib.hid (HA.out t hmem)
      have Hx := Lib.hid hx
      clear hc hx hmem
      cases hv : meetP l t
      · have Hs := Lib.hid (show ts.all (meetP l) = false from all_bad Hx.out hv)
        simp only [hv] at A
        have HM := Lib.hid A
        clear hv A
        go_wp2_with (go_at_call 149; (with_reducible refine (HM.out _ (HF.out.mono (by (repeat' (first | with_reducible exact Below.refl _ _ | with_reducible assumption | with_reducible refine Below.drew ?_ | with_reducible refine below_drewN' ?_ _ | with_reducible refine Below.alloc ?_ ?_ _ | with_reducible refine Below.setCell ?_ ?_ _ | with_reducible refine below_step (by assumption) ?_ ?_ | omega | (simp; done) | (simp; omega))))) (HAt.out.mono (by (repeat' (first | with_reducible exact Below.refl _ _ | with_reducible assumption | with_reducible refine Below.drew ?_ | with_reducible refine below_drewN' ?_ _ | with_reducible refine Below.alloc ?_ ?_ _ | with_reducible refine Below.setCell ?_ ?_ _ | with_reducible refine below_step (by assumption) ?_ ?_ | omega | (simp; done) | (simp; omega)))))).mono ?_); rintro e w1 ⟨rfl, hb1⟩; have hz1 := hb1.size; (try simp at hz1))
        go_ret
        exact ⟨by rw [Hs.out]; rfl, by (repeat' (first | with_reducible exact Below.refl _ _ | with_reducible assumption | with_reducible refine Below.drew ?_ | with_reducible refine below_drewN' ?_ _ | with_reducible refine Below.alloc ?_ ?_ _ | with_reducible refine Below.setCell ?_ ?_ _ | with_reducible refine below_step (by assumption) ?_ ?_ | omega | (simp; done) | (simp; omega)))⟩
      · have Hs := Lib.hid (all_take1 Hx.out hv HE.out)
        simp only [hv] at A
        have HM := Lib.hid A
        clear hv A
        go_wp2_with (go_at_call 149; (with_reducible refine (HM.out _ (HF.out.mono (by (repeat' (first | with_reducible exact Below.refl _ _ | with_reducible assumption | with_reducible refine Below.drew ?_ | with_reducible refine below_drewN' ?_ _ | with_reducible refine Below.alloc ?_ ?_ _ | with_reducible refine Below.setCell ?_ ?_ _ | with_reducible refine below_step (by assumption) ?_ ?_ | omega | (simp; done) | (simp; omega))))) (HAt.out.mono (by (repeat' (first | with_reducible exact Below.refl _ _ | with_reducible assumption | with_reducible refine Below.drew ?_ | with_reducible refine below_drewN' ?_ _ | with_reducible refine Below.alloc ?_ ?_ _ | with_reducible refine Below.setCell ?_ ?_ _ | with_reducible refine below_step (by assumption) ?_ ?_ | omega | (simp; done) | (simp; omega)))))).mono ?_); rintro e w1 ⟨rfl, hb1⟩; have hz1 := hb1.size; (try simp at hz1))
        go_roundw
        case rel => exact ⟨k + 1, by omega, by go_num, Hs.out, by (repeat' (first | with_reducible exact Below.refl _ _ | with_reducible assumption | with_reducible refine Below.drew ?_ | with_reducible refine below_drewN' ?_ _ | with_reducible refine Below.alloc ?_ ?_ _ | with_reducible refine Below.setCell ?_ ?_ _ | with_reducible refine below_step (by assumption) ?_ ?_ | omega | (simp; done) | (simp; omega)))⟩
        case measure => simp [intOf]; omega
    · obtain rfl : k = n := by omega
      have Hs := Lib.hid (show ts.all (meetP l) = true from all_done Hln.out HE.out)
      go_wp2
      go_ret
      exact ⟨by rw [Hs.out]; rfl, by (repeat' (first | with_reducible exact Below.refl _ _ | with_reducible assumption | with_reducible refine Below.drew ?_ | with_reducible refine below_drewN' ?_ _ | with_reducible refine Below.alloc ?_ ?_ _ | with_reducible refine Below.setCell ?_ ?_ _ | with_reducible refine below_step (by assumption) ?_ ?_ | omega | (simp; done) | (simp; omega)))⟩
def tZ : ByteArray := ⟨#[122, 111, 110, 101]⟩
def tA : ByteArray := ⟨#[97]⟩
def kz : List Lab := [⟨tZ, tA⟩]
end Lb
end Go.Proofs.YtdfadbpepmkicaaGreat
