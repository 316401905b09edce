/-
  The contracts of triremeref05.Same, slices.Index and Contains over labels and texts, labels.Has, triremeref05.Has.
-/
import Derived.Test.YthbpnfpalcgfeaaLab5
namespace Go.Proofs.Ythbpnfpalcgfeaa
namespace Lb
set_option linter.unusedSimpArgs false
open Go.RowKit
set_option linter.unusedVariables false

def labB (x y : Lab) : Bool := decide (x = y)
theorem guard_lab (op : BinOp) (x y : Operand) (xs ys : Array Value) (w : World) : (eqGuard op 71 x y (.agg xs) (.agg ys)).run Try.prog w = .ok () w := run_eqGuard_agg w op _ x y xs ys (by kernel_rfl)
theorem eql_lab0 (x y : Lab) (w : World) : (Op.equalIn 10000 71 (.agg #[.string x.key, .string x.val]) (.agg #[.string y.key, .string y.val])).run Try.prog w = .ok (labB x y) w := by
  have hus := Try.underlying9
  have has := Try.isAgg9
  have hzs := Try.sizeOf9
  have hS : Try.prog.underlying 71 = some (.struct (Try.prog.fieldsOf 71)) := by kernel_rfl
  have hp : Try.prog.stoodInHeld 71 = false := by kernel_rfl
  rw [show (10000 : Nat) = 9999 + 1 from rfl, run_equalIn_agg w 9999 71 _ _ hS hp]
  simp only [Program.fieldsOf, Try.underlying71]
  go_simp
  obtain ⟨x1, x2⟩ := x
  obtain ⟨y1, y2⟩ := y
  unfold labB
  by_cases h1 : x1 = y1 <;> by_cases h2 : x2 = y2 <;> simp [h1, h2, str_inj]
theorem eql_lab (x y : Lab) (w : World) : (binOp .eql 71 (.agg #[.string x.key, .string x.val]) (.agg #[.string y.key, .string y.val])).run Try.prog w = .ok (.bool (labB x y)) w := by
  rw [run_eql_struct, eql_lab0]; rfl
theorem neq_lab (x y : Lab) (w : World) : (binOp .neq 71 (.agg #[.string x.key, .string x.val]) (.agg #[.string y.key, .string y.val])).run Try.prog w = .ok (.bool (!labB x y)) w := by
  rw [run_neq_struct, eql_lab0]; rfl

def sameL (xs ys : List Lab) : Bool := decide (xs = ys)
theorem sameL_at {xs ys : List Lab} {k : Nat} {x y : Lab} (hx : xs[k]? = some x) (hy : ys[k]? = some y) (h : labB x y = false) : sameL xs ys = false := by
  refine decide_eq_false fun e => ?_
  subst e
  rw [hx] at hy
  obtain rfl : x = y := by simpa using hy
  unfold labB at h
  simp at h
theorem takeL_eq {xs ys : List Lab} {k : Nat} {x y : Lab} (hx : xs[k]? = some x) (hy : ys[k]? = some y) (h : labB x y = true) (ht : xs.take k = ys.take k) : xs.take (k + 1) = ys.take (k + 1) := by
  rw [take_at hx, take_at hy, ht, of_decide_eq_true h]

/-- The first place where it holds, or -1. -/
def idxI {α : Type} (p : α → Bool) (l : List α) : Int := if l.any p then (l.findIdx p : Int) else -1
theorem idx_at {α : Type} {p : α → Bool} : ∀ {l : List α} {k : Nat} {x : α}, l[k]? = some x → (l.take k).any p = false → p x = true → idxI p l = k := by
  intro l k x hx hn h
  have e : l = l.take k ++ x :: l.drop (k + 1) := by
    obtain ⟨hk, rfl⟩ := List.getElem?_eq_some_iff.1 hx
    rw [List.getElem_cons_drop, List.take_append_drop]
  have hk := lt_at hx
  have h1 : l.any p = true := by rw [e, List.any_append]; simp [h]
  have h2 : l.findIdx p = k := by
    rw [e, List.findIdx_append]
    have h3 : ¬ (l.take k).findIdx p < (l.take k).length := by
      intro hlt
      have := List.findIdx_getElem (w := hlt)
      rw [List.any_eq_false] at hn
      exact hn _ (List.getElem_mem hlt) this
    rw [if_neg h3, List.findIdx_cons, h]
    simp
    omega
  unfold idxI
  rw [h1, h2]
  rfl
theorem idx_no {α : Type} {p : α → Bool} {l : List α} {n : Nat} (hl : l.length = n) (hn : (l.take n).any p = false) : idxI p l = -1 := by
  rw [List.take_of_length_le (Nat.le_of_eq hl)] at hn
  unfold idxI
  rw [hn]
  rfl
theorem idx_geq {α : Type} (p : α → Bool) (l : List α) : decide (0 ≤ idxI p l) = l.any p := by
  unfold idxI
  cases h : l.any p
  · rfl
  · simp

set_option maxRecDepth 100000 in
set_option maxHeartbeats 4000000 in
theorem indexl_any (c : Option Addr) (kc : Nat) (l : List Lab) (v : Lab) (w : World) (hF : LabL w c l) (hm : l.length ≤ 1000000) :
    Calls Try.prog 116 #[.slice c l.length kc, .agg #[.string v.key, .string v.val]] w fun e w' => e = .returned (.int .i64 (idxI (labB v) l)) ∧ Below w.heap.size w w' := by
  have HF := Lib.hid hF
  clear hF
  obtain ⟨n, hln⟩ : ∃ n, l.length = n := ⟨_, rfl⟩
  rw [hln] at hm ⊢
  have Hln := Lib.hid hln
  clear hln
  have hq := eql_lab
  have hg := guard_lab
  go_enter Try.func116, Try.ntmps116
  go_wp2
  obtain ⟨W, hW⟩ : ∃ W, W = w.alloc (.cells #[.string v.key, .string v.val] 71) := ⟨_, rfl⟩
  have HW := Lib.hid (show Below w.heap.size w W by rw [hW]; (repeat' (first | with_reducible exact Below.refl _ _ | with_reducible assumption | with_reducible refine Below.drew ?_ | with_reducible refine below_drewN' ?_ _ | with_reducible refine Below.alloc ?_ ?_ _ | with_reducible refine Below.setCell ?_ ?_ _ | with_reducible refine below_step (by assumption) ?_ ?_ | omega | (simp; done) | (simp; omega))))
  have hWz : w.heap.size < W.heap.size := by rw [hW]; simp
  have s0 : W.cell? ⟨w.heap.size, 0, none⟩ = some (.string v.key) := by rw [hW]; simp [go_sem]
  have s1 : W.cell? ⟨w.heap.size, 1, none⟩ = some (.string v.val) := by rw [hW]; simp [go_sem]
  have HFW := Lib.hid (HF.out.mono HW.out)
  rw [← hW]
  clear hW
  go_loopw [8] (fun i wr => ∃ k : Nat, k ≤ n ∧ i = .int .i64 k ∧ (l.take k).any (labB v) = false ∧ Below W.heap.size W wr) (fun i _ => n - (intOf i).toNat)
  case atStart => exact ⟨0, by omega, rfl, rfl, by (repeat' (first | with_reducible exact Below.refl _ _ | with_reducible assumption | with_reducible refine Below.drew ?_ | with_reducible refine below_drewN' ?_ _ | with_reducible refine Below.alloc ?_ ?_ _ | with_reducible refine Below.setCell ?_ ?_ _ | with_reducible refine below_step (by assumption) ?_ ?_ | omega | (simp; done) | (simp; omega)))⟩
  case round =>
    obtain ⟨k, hk, rfl, hE, hB⟩ := hrel
    obtain ⟨hcB, hfB⟩ := bcell hB
    have hbz := hB.size
    have HE := Lib.hid hE
    have HB := Lib.hid hB
    clear hE
    by_cases hlt : k < n
    · obtain ⟨x, hx⟩ := mem_at (l := l) (k := k) (by rw [Hln.out]; exact hlt)
      obtain ⟨b, off, rfl, hb, hc⟩ := HFW.out (by rw [Hln.out]; omega)
      have hbw : b < wr.heap.size := by omega
      have hww : w.heap.size < wr.heap.size := by omega
      obtain ⟨c0, c1⟩ := lab_cells (hc k x hx)
      have Hx := Lib.hid hx
      clear hc hx
      cases hv : labB v x
      · have Hs := Lib.hid (any_take1 (P := labB v) Hx.out hv HE.out)
        have hq1 := fun w => (hq v x w).trans (by rw [hv])
        clear hq hv
        go_wp2
        have hcH := held_cell
        refine region_rel (by kernel_rfl) (by kernel_rfl) ?_
        repeat
          ((with_reducible refine relStep (fun K hK => ?_))
           (have HK := Lib.hid hK)
           clear hK
           (first
             | (apply relInl
                · intro r n hf
                  have Hf := Lib.hid hf
                  clear hf
                  unfold relAt
                  go_simp
                  (first | (refine relUpon_val ?_ (Below.refl _ _); exact rfl) | exact rfl | (refine relUpon_enter ?_; fail))
                (simp only [Act.put, List.setIfInBounds_toArray, List.set_cons_zero, List.set_cons_succ])
                (with_reducible refine HK.out _ _ ?_)
                clear HK K)
             | (fail)))
        refine relNil ?_
        intro r5 n5 hx5
        clear hcH
        (try simp only [List.nil_append, List.cons_append, List.mem_cons, List.not_mem_nil, or_false, forall_eq_or_imp, forall_eq, false_implies, implies_true] at hx5)
        obtain ⟨w5, hb5⟩ := n5
        (try dsimp only)
        obtain ⟨hc5, hf5⟩ := bcell hb5
        have hz5 := hb5.size
        (try simp at hz5)
        go_wp2
        go_roundw
        case rel => exact ⟨k + 1, by omega, by go_num, Hs.out, by (repeat' (first | with_reducible exact Below.refl _ _ | with_reducible assumption | with_reducible refine Below.drew ?_ | with_reducible refine below_drewN' ?_ _ | with_reducible refine Below.alloc ?_ ?_ _ | with_reducible refine Below.setCell ?_ ?_ _ | with_reducible refine below_step (by assumption) ?_ ?_ | omega | (simp; done) | (simp; omega)))⟩
        case measure => simp [intOf]; omega
      · have Hs := Lib.hid (idx_at (p := labB v) Hx.out HE.out hv)
        have hq1 := fun w => (hq v x w).trans (by rw [hv])
        clear hq hv
        go_wp2
        have hcH := held_cell
        refine region_rel (by kernel_rfl) (by kernel_rfl) ?_
        repeat
          ((with_reducible refine relStep (fun K hK => ?_))
           (have HK := Lib.hid hK)
           clear hK
           (first
             | (apply relInl
                · intro r n hf
                  have Hf := Lib.hid hf
                  clear hf
                  unfold relAt
                  go_simp
                  (first | (refine relUpon_val ?_ (Below.refl _ _); exact rfl) | exact rfl | (refine relUpon_enter ?_; fail))
                (simp only [Act.put, List.setIfInBounds_toArray, List.set_cons_zero, List.set_cons_succ])
                (with_reducible refine HK.out _ _ ?_)
                clear HK K)
             | (fail)))
        refine relNil ?_
        intro r5 n5 hx5
        clear hcH
        (try simp only [List.nil_append, List.cons_append, List.mem_cons, List.not_mem_nil, or_false, forall_eq_or_imp, forall_eq, false_implies, implies_true] at hx5)
        obtain ⟨w5, hb5⟩ := n5
        (try dsimp only)
        obtain ⟨hc5, hf5⟩ := bcell hb5
        have hz5 := hb5.size
        (try simp at hz5)
        go_wp2
        go_ret
        exact ⟨by rw [Hs.out]; rfl, HW.out.trans (Below.mono (by (repeat' (first | with_reducible exact Below.refl _ _ | with_reducible assumption | with_reducible refine Below.drew ?_ | with_reducible refine below_drewN' ?_ _ | with_reducible refine Below.alloc ?_ ?_ _ | with_reducible refine Below.setCell ?_ ?_ _ | with_reducible refine below_step (by assumption) ?_ ?_ | omega | (simp; done) | (simp; omega)))) (Nat.le_of_lt hWz))⟩
    · obtain rfl : k = n := by omega
      have Hs := Lib.hid (idx_no (p := labB v) Hln.out HE.out)
      go_wp2
      go_ret
      exact ⟨by rw [Hs.out]; rfl, HW.out.trans (HB.out.mono (Nat.le_of_lt hWz))⟩

set_option maxRecDepth 100000 in
theorem containsl_any (c : Option Addr) (kc : Nat) (l : List Lab) (v : Lab) (w : World) (hF : LabL w c l) (hm : l.length ≤ 1000000) :
    Calls Try.prog 93 #[.slice c l.length kc, .agg #[.string v.key, .string v.val]] w fun e w' => e = .returned (.bool (l.any (labB v))) ∧ Below w.heap.size w w' := by
  rw [← idx_geq]
  have A := fun V (h : LabL V c l) => indexl_any c kc l v V h hm
  obtain ⟨i, hi⟩ : ∃ i, idxI (labB v) l = i := ⟨_, rfl⟩
  rw [hi]
  simp only [hi] at A
  clear hi
  have HA := Lib.hid A
  clear A
  go_enter Try.func93, Try.ntmps93
  go_wp2_with (go_at_call 116; (with_reducible refine (HA.out _ (hF.mono (by (repeat' (first | with_reducible exact Below.refl _ _ | with_reducible assumption | with_reducible refine Below.drew ?_ | with_reducible refine below_drewN' ?_ _ | with_reducible refine Below.alloc ?_ ?_ _ | with_reducible refine Below.setCell ?_ ?_ _ | with_reducible refine below_step (by assumption) ?_ ?_ | omega | (simp; done) | (simp; omega)))))).mono ?_); rintro e w1 ⟨rfl, hb1⟩; have hz1 := hb1.size; (try simp at hz1))
  go_ret
  exact ⟨by first | rfl | simp, by (repeat' (first | with_reducible exact Below.refl _ _ | with_reducible assumption | with_reducible refine Below.drew ?_ | with_reducible refine below_drewN' ?_ _ | with_reducible refine Below.alloc ?_ ?_ _ | with_reducible refine Below.setCell ?_ ?_ _ | with_reducible refine below_step (by assumption) ?_ ?_ | omega | (simp; done) | (simp; omega)))⟩
end Lb
end Go.Proofs.Ythbpnfpalcgfeaa
