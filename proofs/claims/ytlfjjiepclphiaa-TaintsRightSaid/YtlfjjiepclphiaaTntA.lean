/-
  The contracts of taints.wordOrEmpty, taints.rightEffect, taints.Right, taints.RightBears.
-/
import Derived.Test.YtlfjjiepclphiaaTnt9
import Derived.Test.YtlfjjiepclphiaaLex2
namespace Go.Proofs.Ytlfjjiepclphiaa
open Go.RowKit
set_option linter.unusedVariables false

def weB (s : ByteArray) : Bool := decide (s = emp) || wordB s
def reB (e : Int) : Bool := decide (e = 0 ∨ e = 1 ∨ e = 2 ∨ e = 3)
theorem emp_lits {s : ByteArray} (h : s = emp) : (s.toList == []) = true ∧ s.toList.isEmpty = true ∧ ((s.toList = []) = True) ∧ (!s.toList.isEmpty) = false := by
  subst h
  rw [emp_list]
  exact ⟨rfl, rfl, eq_true rfl, rfl⟩
theorem emp_litn {s : ByteArray} (h : ¬ s = emp) : (s.toList == []) = false ∧ s.toList.isEmpty = false ∧ ((s.toList = []) = False) ∧ (!s.toList.isEmpty) = true := by
  obtain ⟨a, b, c⟩ := emp_no h
  refine ⟨?_, c, a, b⟩
  rw [beq_eq_false_iff_ne]
  intro e
  rw [e] at c
  cases c

set_option maxRecDepth 100000 in
theorem wordorempty_any (s : ByteArray) (w : World) :
    Calls Try.prog 32 #[.string s] w fun e w' => e = .returned (.bool (weB s)) ∧ Below w.heap.size w w' := by
  unfold weB
  by_cases h : s = emp
  · obtain ⟨h1, h2, h3, h4⟩ := emp_lits h
    rw [decide_eq_true h]
    clear h
    go_enter Try.func32, Try.ntmps32
    go_wp2
    go_ret
    exact ⟨rfl, by (repeat' (first | with_reducible exact Below.refl _ _ | with_reducible assumption | with_reducible refine Below.drew ?_ | with_reducible refine below_drewN' ?_ _ | with_reducible refine Below.alloc ?_ ?_ _ | with_reducible refine Below.setCell ?_ ?_ _ | with_reducible refine below_step (by assumption) ?_ ?_ | omega | (simp; done) | (simp; omega)))⟩
  · obtain ⟨h1, h2, h3, h4⟩ := emp_litn h
    rw [decide_eq_false h]
    clear h
    go_enter Try.func32, Try.ntmps32
    go_wp2_with (go_at_call 31; refine (word_any _ _).mono ?_; rintro e w1 ⟨rfl, hb1⟩; obtain ⟨hc1, hf1⟩ := bcell hb1; have hz1 := hb1.size; (try simp at hz1); (try have hza : w.heap.size < w1.heap.size := by omega); (try have hzb : w.heap.size + 1 < w1.heap.size := by omega); (try have hzc : w.heap.size + 1 + 1 < w1.heap.size := by omega); (try have hzd : w.heap.size + 1 + 1 + 1 < w1.heap.size := by omega))
    go_ret
    exact ⟨rfl, by (repeat' (first | with_reducible exact Below.refl _ _ | with_reducible assumption | with_reducible refine Below.drew ?_ | with_reducible refine below_drewN' ?_ _ | with_reducible refine Below.alloc ?_ ?_ _ | with_reducible refine Below.setCell ?_ ?_ _ | with_reducible refine below_step (by assumption) ?_ ?_ | omega | (simp; done) | (simp; omega)))⟩
theorem reB_cases (e : Int) : ((e == 0) = true ∧ reB e = true) ∨ ((e == 0) = false ∧ (e == 1) = true ∧ reB e = true) ∨ ((e == 0) = false ∧ (e == 1) = false ∧ (e == 2) = true ∧ reB e = true) ∨ ((e == 0) = false ∧ (e == 1) = false ∧ (e == 2) = false ∧ (e == 3) = true ∧ reB e = true) ∨ ((e == 0) = false ∧ (e == 1) = false ∧ (e == 2) = false ∧ (e == 3) = false ∧ reB e = false) := by
  unfold reB
  by_cases h0 : e = 0 <;> by_cases h1 : e = 1 <;> by_cases h2 : e = 2 <;> by_cases h3 : e = 3 <;> simp [h0, h1, h2, h3]
set_option maxRecDepth 100000 in
theorem righteffect_any (x : Int) (w : World) :
    Calls Try.prog 33 #[.int .i64 x] w fun e w' => e = .returned (.bool (reB x)) ∧ Below w.heap.size w w' := by
  rcases reB_cases x with ⟨h0, h⟩ | ⟨h0, h1, h⟩ | ⟨h0, h1, h2, h⟩ | ⟨h0, h1, h2, h3, h⟩ | ⟨h0, h1, h2, h3, h⟩
  all_goals
    rw [h]
    clear h
    go_enter Try.func33, Try.ntmps33
    go_wp2
    go_ret
    exact ⟨rfl, by (repeat' (first | with_reducible exact Below.refl _ _ | with_reducible assumption | with_reducible refine Below.drew ?_ | with_reducible refine below_drewN' ?_ _ | with_reducible refine Below.alloc ?_ ?_ _ | with_reducible refine Below.setCell ?_ ?_ _ | with_reducible refine below_step (by assumption) ?_ ?_ | omega | (simp; done) | (simp; omega)))⟩

def slotE (y x : Tnt) : Bool := decide (x.key = y.key ∧ x.eff = y.eff)
def okT (x : Tnt) : Bool := wordB x.key && weB x.val && !decide (x.eff = 0) && reB x.eff
def okAt (xs : List Tnt) (i : Nat) : Bool := match xs[i]? with
  | some x => okT x && (xs.take i).all fun y => !slotE y x
  | none => true
def okTo (xs : List Tnt) (k : Nat) : Bool := (List.range k).all (okAt xs)
def rightT (xs : List Tnt) : Bool := decide (xs.length ≤ 16) && okTo xs xs.length
theorem okTo_succ (xs : List Tnt) (k : Nat) : okTo xs (k + 1) = (okTo xs k && okAt xs k) := by
  unfold okTo; rw [List.range_succ, List.all_append]; simp
theorem okTo_bad {xs : List Tnt} {k : Nat} (hk : k < xs.length) (h : okAt xs k = false) : rightT xs = false := by
  unfold rightT
  have : okTo xs xs.length = false := by
    unfold okTo
    rw [Bool.eq_false_iff]
    intro he
    have := List.all_eq_true.1 he k (List.mem_range.2 hk)
    rw [h] at this
    cases this
  rw [this, Bool.and_false]
theorem okAt_tnt {xs : List Tnt} {k : Nat} {x : Tnt} (hx : xs[k]? = some x) (h : okT x = false) : okAt xs k = false := by
  unfold okAt; rw [hx]; simp [h]
theorem okAt_slot {xs : List Tnt} {k j : Nat} {x y : Tnt} (hx : xs[k]? = some x) (hy : xs[j]? = some y) (hj : j < k) (h : slotE y x = true) : okAt xs k = false := by
  unfold okAt
  rw [hx]
  have : ((xs.take k).all fun y => !slotE y x) = false := by
    rw [Bool.eq_false_iff]
    intro he
    have hm : y ∈ xs.take k := List.mem_of_getElem? (i := j) (by rw [List.getElem?_take, if_pos hj]; exact hy)
    have := List.all_eq_true.1 he y hm
    rw [h] at this
    cases this
  simp [this]
theorem okAt_yes {xs : List Tnt} {k : Nat} {x : Tnt} (hx : xs[k]? = some x) (h : okT x = true) (hs : ((xs.take k).all fun y => !slotE y x) = true) : okAt xs k = true := by
  unfold okAt; rw [hx]; simp only [h, hs]; rfl
theorem all_take {xs : List Tnt} {j : Nat} {x y : Tnt} (hy : xs[j]? = some y) (h : ((xs.take j).all fun y => !slotE y x) = true) (h1 : slotE y x = false) : ((xs.take (j + 1)).all fun y => !slotE y x) = true := by
  rw [take_at hy, List.all_append, h]; simp [h1]
theorem okT_cases (x : Tnt) : (wordB x.key = false ∧ okT x = false) ∨ (wordB x.key = true ∧ weB x.val = false ∧ okT x = false) ∨ (wordB x.key = true ∧ weB x.val = true ∧ (x.eff == 0) = true ∧ okT x = false) ∨
    (wordB x.key = true ∧ weB x.val = true ∧ (x.eff == 0) = false ∧ reB x.eff = false ∧ okT x = false) ∨ (wordB x.key = true ∧ weB x.val = true ∧ (x.eff == 0) = false ∧ reB x.eff = true ∧ okT x = true) := by
  unfold okT
  cases wordB x.key <;> cases weB x.val <;> by_cases h : x.eff = 0 <;> cases hr : reB x.eff <;> simp [h, hr]
theorem eql_slot (x1 y1 : ByteArray) (x2 y2 : Int) (w : World) : (binOp .eql 44 (.agg #[.string x1, .int .i64 x2]) (.agg #[.string y1, .int .i64 y2])).run Try.prog w = .ok (.bool (decide (x1 = y1 ∧ x2 = y2))) w := by
  rw [run_eql_struct, eql_slot0]; rfl

def CellsX (x : Tnt) (b : Nat) (w : World) : Prop := b < w.heap.size ∧ w.cell? ⟨b, 0, none⟩ = some (.string x.key) ∧ w.cell? ⟨b, 1, none⟩ = some (.string x.val) ∧ w.cell? ⟨b, 2, none⟩ = some (.int .i64 x.eff)
theorem CellsX.mono {x : Tnt} {b : Nat} {w w' : World} (h : CellsX x b w) (hb : Below w.heap.size w w') : CellsX x b w' := by
  obtain ⟨h0, h1, h2, h3⟩ := h
  have := hb.size
  exact ⟨by omega, by rw [hb.cell (p := ⟨b, 0, none⟩) h0]; exact h1, by rw [hb.cell (p := ⟨b, 1, none⟩) h0]; exact h2, by rw [hb.cell (p := ⟨b, 2, none⟩) h0]; exact h3⟩
theorem CellsX.new (x : Tnt) (w : World) (t : TypeId) : CellsX x w.heap.size (w.alloc (.cells #[.string x.key, .string x.val, .int .i64 x.eff] t)) := ⟨by simp, by simp [go_sem], by simp [go_sem], by simp [go_sem]⟩

set_option maxRecDepth 100000 in
set_option maxHeartbeats 4000000 in
theorem right_any (c : Option Addr) (kc : Nat) (xs : List Tnt) (w : World) (hF : TntsAt w c xs) (hm : xs.length ≤ 1000000) (hok : NilOk c xs.length kc) (hcap : xs.length ≤ kc) :
    Calls Try.prog 23 #[.slice c xs.length kc] w fun e w' => e = .returned (.bool (rightT xs)) ∧ Below w.heap.size w w' := by
  have HF := Lib.hid hF
  clear hF
  by_cases h16 : 16 < xs.length
  · have hr : rightT xs = false := by unfold rightT; rw [decide_eq_false (by omega)]; rfl
    rw [hr]
    clear hr
    go_enter Try.func23, Try.ntmps23
    go_wp2
    go_ret
    exact ⟨rfl, by (repeat' (first | with_reducible exact Below.refl _ _ | with_reducible assumption | with_reducible refine Below.drew ?_ | with_reducible refine below_drewN' ?_ _ | with_reducible refine Below.alloc ?_ ?_ _ | with_reducible refine Below.setCell ?_ ?_ _ | with_reducible refine below_step (by assumption) ?_ ?_ | omega | (simp; done) | (simp; omega)))⟩
  · have hrt : rightT xs = okTo xs xs.length := by unfold rightT; rw [decide_eq_true (by omega)]; rfl
    have Hrt := Lib.hid hrt
    have Hbad := Lib.hid (fun k hk h => okTo_bad (xs := xs) (k := k) hk h)
    clear hrt
    replace hm : xs.length ≤ 16 := by omega
    clear h16
    obtain ⟨n, hln⟩ : ∃ n, xs.length = n := ⟨_, rfl⟩
    rw [hln] at hm hcap ⊢
    have Hln := Lib.hid hln
    clear hln hok
    have hg := guard_slot
    have hq := eql_slot
    go_enter Try.func23, Try.ntmps23
    go_wp2
    go_loopw [12] (fun i wr => ∃ k : Nat, k ≤ n ∧ i = .int .i64 k ∧ okTo xs k = true ∧ Below w.heap.size w wr) (fun i _ => n - (intOf i).toNat)
    case atStart => exact ⟨0, by omega, rfl, rfl, by (repeat' (first | with_reducible exact Below.refl _ _ | with_reducible assumption | with_reducible refine Below.drew ?_ | with_reducible refine below_drewN' ?_ _ | with_reducible refine Below.alloc ?_ ?_ _ | with_reducible refine Below.setCell ?_ ?_ _ | with_reducible refine below_step (by assumption) ?_ ?_ | omega | (simp; done) | (simp; omega)))⟩
    case round =>
      obtain ⟨k, hk, rfl, hE, hB⟩ := hrel
      obtain ⟨hcB, hfB⟩ := bcell hB
      have hbz := hB.size
      have HE := Lib.hid hE
      clear hE
      by_cases hlt : k < n
      · obtain ⟨x, hx⟩ := mem_at (l := xs) (k := k) (by rw [Hln.out]; exact hlt)
        obtain ⟨b, off, rfl, hb, hc⟩ := HF.out (by rw [Hln.out]; omega)
        have hbw : b < wr.heap.size := by omega
        obtain ⟨c0, c1, c2⟩ := tnt_cells (hc k x hx)
        have Hx := Lib.hid hx
        have Hc := Lib.hid hc
        have HB := Lib.hid hB
        clear hc hx
        rcases okT_cases x with ⟨k1, hv⟩ | ⟨k1, k2, hv⟩ | ⟨k1, k2, k3, hv⟩ | ⟨k1, k2, k3, k4, hv⟩ | ⟨k1, k2, k3, k4, hv⟩
        rotate_right
        · have Hok := Lib.hid hv
          have K1 := Lib.hid k1
          have K2 := Lib.hid k2
          have K4 := Lib.hid k4
          clear hv k1 k2 k4
          go_wp2_with (first | (go_at_call 31; (with_reducible refine (word_any _ _).mono ?_); rintro e w5 ⟨rfl, hb5⟩; rw [K1.out]; have hX5 := (CellsX.new x wr 30).mono hb5; have HX5 := Lib.hid hX5; obtain ⟨x50, x51, x52, x53⟩ := hX5; obtain ⟨hc5, hf5⟩ := bcell hb5; have hz5 := hb5.size; (try simp at hz5)) | (go_at_call 32; (with_reducible refine (wordorempty_any _ _).mono ?_); rintro e w6 ⟨rfl, hb6⟩; rw [K2.out]; have hX6 := HX5.out.mono hb6; have HX6 := Lib.hid hX6; obtain ⟨x60, x61, x62, x63⟩ := hX6; obtain ⟨hc6, hf6⟩ := bcell hb6; have hz6 := hb6.size; (try simp at hz6)) | (go_at_call 33; (with_reducible refine (righteffect_any _ _).mono ?_); rintro e w7 ⟨rfl, hb7⟩; rw [K4.out]; have hX7 := HX6.out.mono hb7; have HX7 := Lib.hid hX7; obtain ⟨x70, x71, x72, x73⟩ := hX7; obtain ⟨hc7, hf7⟩ := bcell hb7; have hz7 := hb7.size; (try simp at hz7)))
          have HX := HX7
          have HB7 := Lib.hid (show Below wr.heap.size wr w7 by (repeat' (first | with_reducible exact Below.refl _ _ | with_reducible assumption | with_reducible refine Below.drew ?_ | with_reducible refine below_drewN' ?_ _ | with_reducible refine Below.alloc ?_ ?_ _ | with_reducible refine Below.setCell ?_ ?_ _ | with_reducible refine below_step (by assumption) ?_ ?_ | omega | (simp; done) | (simp; omega))))
          obtain ⟨w3, hw3⟩ : ∃ w3, w3 = wr := ⟨_, rfl⟩
          subst hw3
          clear hB
          have hB := HB.out
          go_loopw [42] (fun i wy => ∃ j : Nat, j ≤ k ∧ i = .int .i64 j ∧ ((xs.take j).all fun y => !slotE y x) = true ∧ CellsX x w3.heap.size wy ∧ Below w3.heap.size w3 wy) (fun i _ => k - (intOf i).toNat)
          case atStart => exact ⟨0, by omega, rfl, rfl, HX.out, HB7.out⟩
          case round =>
            obtain ⟨j, hj, rfl, hS, ⟨hX0, hX1, hX2, hX3⟩, hC⟩ := hrel
            obtain ⟨hcC, hfC⟩ := bcell hC
            have hzC := hC.size
            have HX := Lib.hid (show CellsX x w3.heap.size wr from ⟨hX0, hX1, hX2, hX3⟩)
            have HS := Lib.hid hS
            clear hS
            by_cases hlj : j < k
            · obtain ⟨y, hy⟩ := mem_at (l := xs) (k := j) (by rw [Hln.out]; omega)
              obtain ⟨d0, d1, d2⟩ := tnt_cells (Hc.out j y hy)
              have Hy := Lib.hid hy
              clear hy
              have hbx : b < wr.heap.size := by omega
              cases hv : slotE y x
              · have hq1 := fun w => (hq x.key y.key x.eff y.eff w).trans (by rw [show decide (x.key = y.key ∧ x.eff = y.eff) = false from hv])
                have Hs := Lib.hid (all_take Hy.out HS.out hv)
                clear hq hv
                go_wp2
                have hcH := held_cell
                refine region_rel (by kernel_rfl) (by kernel_rfl) ?_
                repeat
                  ((with_reducible refine relStep (fun K hK => ?_))
                   (have HK := Lib.hid hK)
                   clear hK
                   (first
                     | (apply relInl
                        · intro r n hf
                          have Hf := Lib.hid hf
                          clear hf
                          unfold relAt
                          go_simp
                          (first | (refine relUpon_val ?_ (Below.refl _ _); exact rfl) | exact rfl | (refine relUpon_enter ?_; (go_at_call 29; (with_reducible refine (slotof_any _ _).mono ?_); rintro e w1 ⟨rfl, hb⟩; exact ⟨⟨_, rfl, rfl⟩, hb⟩)))
                        (simp only [Act.put, List.setIfInBounds_toArray, List.set_cons_zero, List.set_cons_succ])
                        (with_reducible refine HK.out _ _ ?_)
                        clear HK K)
                     | (fail)))
                refine relNil ?_
                intro r5 n5 hx5
                clear hcH
                (try simp only [List.nil_append, List.cons_append, List.mem_cons, List.not_mem_nil, or_false, forall_eq_or_imp, forall_eq, false_implies, implies_true] at hx5)
                obtain ⟨w5, hb5⟩ := n5
                (try dsimp only)
                obtain ⟨hc5, hf5⟩ := bcell hb5
                have hz5 := hb5.size
                (try simp at hz5)
                have HX5 := Lib.hid ((HX.out.mono ((Below.refl _ wr).alloc (Nat.le_refl _) _)).mono hb5)
                go_wp2
                go_roundw
                case rel => exact ⟨j + 1, by omega, by go_num, Hs.out, HX5.out, by (repeat' (first | with_reducible exact Below.refl _ _ | with_reducible assumption | with_reducible refine Below.drew ?_ | with_reducible refine below_drewN' ?_ _ | with_reducible refine Below.alloc ?_ ?_ _ | with_reducible refine Below.setCell ?_ ?_ _ | with_reducible refine below_step (by assumption) ?_ ?_ | omega | (simp; done) | (simp; omega)))⟩
                case measure => simp [intOf]; omega
              · have hq1 := fun w => (hq x.key y.key x.eff y.eff w).trans (by rw [show decide (x.key = y.key ∧ x.eff = y.eff) = true from hv])
                have Hs := Lib.hid (Hbad.out k (by rw [Hln.out]; exact hlt) (okAt_slot Hx.out Hy.out hlj hv))
                clear hq hv
                go_wp2
                have hcH := held_cell
                refine region_rel (by kernel_rfl) (by kernel_rfl) ?_
                repeat
                  ((with_reducible refine relStep (fun K hK => ?_))
                   (have HK := Lib.hid hK)
                   clear hK
                   (first
                     | (apply relInl
                        · intro r n hf
                          have Hf := Lib.hid hf
                          clear hf
                          unfold relAt
                          go_simp
                          (first | (refine relUpon_val ?_ (Below.refl _ _); exact rfl) | exact rfl | (refine relUpon_enter ?_; (go_at_call 29; (with_reducible refine (slotof_any _ _).mono ?_); rintro e w1 ⟨rfl, hb⟩; exact ⟨⟨_, rfl, rfl⟩, hb⟩)))
                        (simp only [Act.put, List.setIfInBounds_toArray, List.set_cons_zero, List.set_cons_succ])
                        (with_reducible refine HK.out _ _ ?_)
                        clear HK K)
                     | (fail)))
                refine relNil ?_
                intro r5 n5 hx5
                clear hcH
                (try simp only [List.nil_append, List.cons_append, List.mem_cons, List.not_mem_nil, or_false, forall_eq_or_imp, forall_eq, false_implies, implies_true] at hx5)
                obtain ⟨w5, hb5⟩ := n5
                (try dsimp only)
                obtain ⟨hc5, hf5⟩ := bcell hb5
                have hz5 := hb5.size
                (try simp at hz5)
                go_wp2
                go_ret
                exact ⟨by rw [Hs.out]; rfl, by (repeat' (first | with_reducible exact Below.refl _ _ | with_reducible assumption | with_reducible refine Below.drew ?_ | with_reducible refine below_drewN' ?_ _ | with_reducible refine Below.alloc ?_ ?_ _ | with_reducible refine Below.setCell ?_ ?_ _ | with_reducible refine below_step (by assumption) ?_ ?_ | omega | (simp; done) | (simp; omega)))⟩
            · obtain rfl : j = k := by omega
              have Hs := Lib.hid (show okTo xs (j + 1) = true by rw [okTo_succ, HE.out, okAt_yes Hx.out Hok.out HS.out]; rfl)
              have HBB := Lib.hid (hB.trans (hC.mono hbz))
              go_wp2
              go_roundw
              case rel => exact ⟨j + 1, by omega, by go_num, Hs.out, HBB.out⟩
              case measure => simp [intOf]; omega
        all_goals
          have Hs := Lib.hid (Hbad.out k (by rw [Hln.out]; exact hlt) (okAt_tnt Hx.out hv))
          have K1 := Lib.hid k1
          first | (have K2 := Lib.hid k2) | skip
          first | (have K4 := Lib.hid k4) | skip
          clear hv k1
          first | clear k2 | skip
          first | clear k4 | skip
          go_wp2_with (first | (go_at_call 31; (with_reducible refine (word_any _ _).mono ?_); rintro e w5 ⟨rfl, hb5⟩; rw [K1.out]; have hX5 := (CellsX.new x wr 30).mono hb5; have HX5 := Lib.hid hX5; obtain ⟨x50, x51, x52, x53⟩ := hX5; obtain ⟨hc5, hf5⟩ := bcell hb5; have hz5 := hb5.size; (try simp at hz5)) | (go_at_call 32; (with_reducible refine (wordorempty_any _ _).mono ?_); rintro e w6 ⟨rfl, hb6⟩; rw [K2.out]; have hX6 := HX5.out.mono hb6; have HX6 := Lib.hid hX6; obtain ⟨x60, x61, x62, x63⟩ := hX6; obtain ⟨hc6, hf6⟩ := bcell hb6; have hz6 := hb6.size; (try simp at hz6)) | (go_at_call 33; (with_reducible refine (righteffect_any _ _).mono ?_); rintro e w7 ⟨rfl, hb7⟩; rw [K4.out]; have hX7 := HX6.out.mono hb7; have HX7 := Lib.hid hX7; obtain ⟨x70, x71, x72, x73⟩ := hX7; obtain ⟨hc7, hf7⟩ := bcell hb7; have hz7 := hb7.size; (try simp at hz7)))
          go_ret
          exact ⟨by rw [Hs.out]; rfl, by (repeat' (first | with_reducible exact Below.refl _ _ | with_reducible assumption | with_reducible refine Below.drew ?_ | with_reducible refine below_drewN' ?_ _ | with_reducible refine Below.alloc ?_ ?_ _ | with_reducible refine Below.setCell ?_ ?_ _ | with_reducible refine below_step (by assumption) ?_ ?_ | omega | (simp; done) | (simp; omega)))⟩
      · obtain rfl : k = n := by omega
        have Hs := Lib.hid (show rightT xs = true from Hrt.out.trans ((congrArg (okTo xs) Hln.out).trans HE.out))
        go_wp2
        go_ret
        exact ⟨by rw [Hs.out]; rfl, by (repeat' (first | with_reducible exact Below.refl _ _ | with_reducible assumption | with_reducible refine Below.drew ?_ | with_reducible refine below_drewN' ?_ _ | with_reducible refine Below.alloc ?_ ?_ _ | with_reducible refine Below.setCell ?_ ?_ _ | with_reducible refine below_step (by assumption) ?_ ?_ | omega | (simp; done) | (simp; omega)))⟩
end Go.Proofs.Ytlfjjiepclphiaa
