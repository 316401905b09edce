/-
  Taints, labels, machines of the program.
-/
import Derived.Test.YtmkdfcggjlhcpaaGreatDoorMDx
import Derived.Test.YtmkdfcggjlhcpaaGreatDoorMBx
import Derived.Test.YtmkdfcggjlhcpaaGreatDoorMAx
import Derived.Maps.OwnSet
import Derived.StringKeys
import Derived.Test.YtmkdfcggjlhcpaaGreatDoorMEx
namespace Go.Proofs.YtmkdfcggjlhcpaaGreatDoor
open Go.RowKit
set_option linter.unusedVariables false
set_option linter.unusedSimpArgs false
theorem toList_inj (a b : ByteArray) : a.toList = b.toList ↔ a = b := str_inj a b
set_option maxRecDepth 100000 in
theorem wordorempty_any (s : ByteArray) (w : World) :
    Calls Tryz.prog 98 #[.string s] w fun e w' => e = .returned (.bool (weB s)) ∧ Below w.heap.size w w' := by
  unfold weB
  by_cases h : s = emp
  · obtain ⟨h1, h2, h3, h4⟩ := emp_lits h
    rw [decide_eq_true h]
    clear h
    go_enter Tryz.func98, Tryz.ntmps98
    go_wp2
    go_ret
    exact ⟨rfl, by (repeat' (first | with_reducible exact Below.refl _ _ | with_reducible assumption | with_reducible refine Below.drew ?_ | with_reducible refine below_drewN' ?_ _ | with_reducible refine Below.alloc ?_ ?_ _ | with_reducible refine Below.setCell ?_ ?_ _ | with_reducible refine below_step (by assumption) ?_ ?_ | omega | (simp; done) | (simp; omega)))⟩
  · obtain ⟨h1, h2, h3, h4⟩ := emp_litn h
    rw [decide_eq_false h]
    clear h
    go_enter Tryz.func98, Tryz.ntmps98
    go_wp2_with (go_at_call 71; refine (word_any _ _).mono ?_; rintro e w1 ⟨rfl, hb1⟩; obtain ⟨hc1, hf1⟩ := bcell hb1; have hz1 := hb1.size; (try simp at hz1); (try have hza : w.heap.size < w1.heap.size := by omega); (try have hzb : w.heap.size + 1 < w1.heap.size := by omega); (try have hzc : w.heap.size + 1 + 1 < w1.heap.size := by omega); (try have hzd : w.heap.size + 1 + 1 + 1 < w1.heap.size := by omega))
    go_ret
    exact ⟨rfl, by (repeat' (first | with_reducible exact Below.refl _ _ | with_reducible assumption | with_reducible refine Below.drew ?_ | with_reducible refine below_drewN' ?_ _ | with_reducible refine Below.alloc ?_ ?_ _ | with_reducible refine Below.setCell ?_ ?_ _ | with_reducible refine below_step (by assumption) ?_ ?_ | omega | (simp; done) | (simp; omega)))⟩
set_option maxRecDepth 100000 in
theorem righteffect_any (x : Int) (w : World) :
    Calls Tryz.prog 99 #[.int .i64 x] w fun e w' => e = .returned (.bool (reB x)) ∧ Below w.heap.size w w' := by
  rcases reB_cases x with ⟨h0, h⟩ | ⟨h0, h1, h⟩ | ⟨h0, h1, h2, h⟩ | ⟨h0, h1, h2, h3, h⟩ | ⟨h0, h1, h2, h3, h⟩
  all_goals
    rw [h]
    clear h
    go_enter Tryz.func99, Tryz.ntmps99
    go_wp2
    go_ret
    exact ⟨rfl, by (repeat' (first | with_reducible exact Below.refl _ _ | with_reducible assumption | with_reducible refine Below.drew ?_ | with_reducible refine below_drewN' ?_ _ | with_reducible refine Below.alloc ?_ ?_ _ | with_reducible refine Below.setCell ?_ ?_ _ | with_reducible refine below_step (by assumption) ?_ ?_ | omega | (simp; done) | (simp; omega)))⟩
theorem guard_slot (op : BinOp) (x y : Operand) (xs ys : Array Value) (w : World) : (eqGuard op 150 x y (.agg xs) (.agg ys)).run Tryz.prog w = .ok () w := run_eqGuard_agg w op _ x y xs ys (by kernel_rfl)
theorem eql_slot0 (x1 y1 : ByteArray) (x2 y2 : Int) (w : World) : (Op.equalIn 10000 150 (.agg #[.string x1, .int .i64 x2]) (.agg #[.string y1, .int .i64 y2])).run Tryz.prog w = .ok (decide (x1 = y1 ∧ x2 = y2)) w := by
  have hus := Tryz.underlying9
  have has := Tryz.isAgg9
  have hzs := Tryz.sizeOf9
  have hui := Tryz.underlying3
  have hai := Tryz.isAgg3
  have hzi := Tryz.sizeOf3
  have hS : Tryz.prog.underlying 150 = some (.struct (Tryz.prog.fieldsOf 150)) := by kernel_rfl
  have hp : Tryz.prog.stoodInHeld 150 = false := by kernel_rfl
  rw [show (10000 : Nat) = 9999 + 1 from rfl, run_equalIn_agg w 9999 150 _ _ hS hp]
  simp only [Program.fieldsOf, Tryz.underlying150]
  go_simp
  by_cases h1 : x1 = y1 <;> by_cases h2 : x2 = y2 <;> simp [h1, h2, toList_inj]
set_option maxRecDepth 100000 in
theorem slotof_any (x : Tnt) (w : World) :
    Calls Tryz.prog 100 #[.agg #[.string (x).key, .string (x).val, .int .i64 (x).eff]] w fun e w' => e = .returned (.agg #[.string x.key, .int .i64 x.eff]) ∧ Below w.heap.size w w' := by
  go_enter Tryz.func100, Tryz.ntmps100
  go_wp2
  refine bodyPost_ret (v := .agg #[.string x.key, .int .i64 x.eff]) (by simp [results, Tryz.results100, go_sem]) rfl ⟨rfl, ?_⟩
  (repeat' (first | with_reducible exact Below.refl _ _ | with_reducible assumption | with_reducible refine Below.drew ?_ | with_reducible refine below_drewN' ?_ _ | with_reducible refine Below.alloc ?_ ?_ _ | with_reducible refine Below.setCell ?_ ?_ _ | with_reducible refine below_step (by assumption) ?_ ?_ | omega | (simp; done) | (simp; omega)))
theorem eql_slot (x1 y1 : ByteArray) (x2 y2 : Int) (w : World) : (binOp .eql 150 (.agg #[.string x1, .int .i64 x2]) (.agg #[.string y1, .int .i64 y2])).run Tryz.prog w = .ok (.bool (decide (x1 = y1 ∧ x2 = y2))) w := by
  rw [run_eql_struct, eql_slot0]; rfl
def CellsX (x : Tnt) (b : Nat) (w : World) : Prop := b < w.heap.size ∧ w.cell? ⟨b, 0, none⟩ = some (.string x.key) ∧ w.cell? ⟨b, 1, none⟩ = some (.string x.val) ∧ w.cell? ⟨b, 2, none⟩ = some (.int .i64 x.eff)
theorem CellsX.mono {x : Tnt} {b : Nat} {w w' : World} (h : CellsX x b w) (hb : Below w.heap.size w w') : CellsX x b w' := by
  obtain ⟨h0, h1, h2, h3⟩ := h
  have := hb.size
  exact ⟨by omega, by rw [hb.cell (p := ⟨b, 0, none⟩) h0]; exact h1, by rw [hb.cell (p := ⟨b, 1, none⟩) h0]; exact h2, by rw [hb.cell (p := ⟨b, 2, none⟩) h0]; exact h3⟩
theorem CellsX.new (x : Tnt) (w : World) (t : TypeId) : CellsX x w.heap.size (w.alloc (.cells #[.string x.key, .string x.val, .int .i64 x.eff] t)) := ⟨by simp, by simp [go_sem], by simp [go_sem], by simp [go_sem]⟩
set_option maxRecDepth 100000 in
set_option maxHeartbeats 4000000 in
theorem tright_any (c : Option Addr) (kc : Nat) (xs : List Tnt) (w : World) (hF : TntsAt w c xs) (hm : xs.length ≤ 1000000) (hok : NilOk c xs.length kc) (hcap : xs.length ≤ kc) :
    Calls Tryz.prog 91 #[.slice c xs.length kc] w fun e w' => e = .returned (.bool (rightT xs)) ∧ Below w.heap.size w w' := by
  have HF := Lib.hid hF
  clear hF
  by_cases h16 : 16 < xs.length
  · have hr : rightT xs = false := by unfold rightT; rw [decide_eq_false (by omega)]; rfl
    rw [hr]
    clear hr
    go_enter Tryz.func91, Tryz.ntmps91
    go_wp2
    go_ret
    exact ⟨rfl, by (repeat' (first | with_reducible exact Below.refl _ _ | with_reducible assumption | with_reducible refine Below.drew ?_ | with_reducible refine below_drewN' ?_ _ | with_reducible refine Below.alloc ?_ ?_ _ | with_reducible refine Below.setCell ?_ ?_ _ | with_reducible refine below_step (by assumption) ?_ ?_ | omega | (simp; done) | (simp; omega)))⟩
  · have hrt : rightT xs = okTo xs xs.length := by unfold rightT; rw [decide_eq_true (by omega)]; rfl
    have Hrt := Lib.hid hrt
    have Hbad := Lib.hid (fun k hk h => okTo_bad (xs := xs) (k := k) hk h)
    clear hrt
    replace hm : xs.length ≤ 16 := by omega
    clear h16
    obtain ⟨n, hln⟩ : ∃ n, xs.length = n := ⟨_, rfl⟩
    rw [hln] at hm hcap ⊢
    have Hln := Lib.hid hln
    clear hln hok
    have hg := guard_slot
    have hq := eql_slot
    go_enter Tryz.func91, Tryz.ntmps91
    go_wp2
    go_loopw [12] (fun i wr => ∃ k : Nat, k ≤ n ∧ i = .int .i64 k ∧ okTo xs k = true ∧ Below w.heap.size w wr) (fun i _ => n - (intOf i).toNat)
    case atStart => exact ⟨0, by omega, rfl, rfl, by (repeat' (first | with_reducible exact Below.refl _ _ | with_reducible assumption | with_reducible refine Below.drew ?_ | with_reducible refine below_drewN' ?_ _ | with_reducible refine Below.alloc ?_ ?_ _ | with_reducible refine Below.setCell ?_ ?_ _ | with_reducible refine below_step (by assumption) ?_ ?_ | omega | (simp; done) | (simp; omega)))⟩
    case round =>
      obtain ⟨k, hk, rfl, hE, hB⟩ := hrel
      obtain ⟨hcB, hfB⟩ := bcell hB
      have hbz := hB.size
      have HE := Lib.hid hE
      clear hE
      by_cases hlt : k < n
      · obtain ⟨x, hx⟩ := mem_at (l := xs) (k := k) (by rw [Hln.out]; exact hlt)
        obtain ⟨b, off, rfl, hb, hc⟩ := HF.out (by rw [Hln.out]; omega)
        have hbw : b < wr.heap.size := by omega
        obtain ⟨c0, c1, c2⟩ := tnt_cells (hc k x hx)
        have Hx := Lib.hid hx
        have Hc := Lib.hid hc
        have HB := Lib.hid hB
        clear hc hx
        rcases okT_cases x with ⟨k1, hv⟩ | ⟨k1, k2, hv⟩ | ⟨k1, k2, k3, hv⟩ | ⟨k1, k2, k3, k4, hv⟩ | ⟨k1, k2, k3, k4, hv⟩
        rotate_right
        · have Hok := Lib.hid hv
          have K1 := Lib.hid k1
          have K2 := Lib.hid k2
          have K4 := Lib.hid k4
          clear hv k1 k2 k4
          go_wp2_with (first | (go_at_call 71; (with_reducible refine (word_any _ _).mono ?_); rintro e w5 ⟨rfl, hb5⟩; rw [K1.out]; have hX5 := (CellsX.new x wr 119).mono hb5; have HX5 := Lib.hid hX5; obtain ⟨x50, x51, x52, x53⟩ := hX5; obtain ⟨hc5, hf5⟩ := bcell hb5; have hz5 := hb5.size; (try simp at hz5)) | (go_at_call 98; (with_reducible refine (wordorempty_any _ _).mono ?_); rintro e w6 ⟨rfl, hb6⟩; rw [K2.out]; have hX6 := HX5.out.mono hb6; have HX6 := Lib.hid hX6; obtain ⟨x60, x61, x62, x63⟩ := hX6; obtain ⟨hc6, hf6⟩ := bcell hb6; have hz6 := hb6.size; (try simp at hz6)) | (go_at_call 99; (with_reducible refine (righteffect_any _ _).mono ?_); rintro e w7 ⟨rfl, hb7⟩; rw [K4.out]; have hX7 := HX6.out.mono hb7; have HX7 := Lib.hid hX7; obtain ⟨x70, x71, x72, x73⟩ := hX7; obtain ⟨hc7, hf7⟩ := bcell hb7; have hz7 := hb7.size; (try simp at hz7)))
          have HX := HX7
          have HB7 := Lib.hid (show Below wr.heap.size wr w7 by (repeat' (first | with_reducible exact Below.refl _ _ | with_reducible assumption | with_reducible refine Below.drew ?_ | with_reducible refine below_drewN' ?_ _ | with_reducible refine Below.alloc ?_ ?_ _ | with_reducible refine Below.setCell ?_ ?_ _ | with_reducible refine below_step (by assumption) ?_ ?_ | omega | (simp; done) | (simp; omega))))
          obtain ⟨w3, hw3⟩ : ∃ w3, w3 = wr := ⟨_, rfl⟩
          subst hw3
          clear hB
          have hB := HB.out
          go_loopw [42] (fun i wy => ∃ j : Nat, j ≤ k ∧ i = .int .i64 j ∧ ((xs.take j).all fun y => !slotE y x) = true ∧ CellsX x w3.heap.size wy ∧ Below w3.heap.size w3 wy) (fun i _ => k - (intOf i).toNat)
          case atStart => exact ⟨0, by omega, rfl, rfl, HX.out, HB7.out⟩
          case round =>
            obtain ⟨j, hj, rfl, hS, ⟨hX0, hX1, hX2, hX3⟩, hC⟩ := hrel
            obtain ⟨hcC, hfC⟩ := bcell hC
            have hzC := hC.size
            have HX := Lib.hid (show CellsX x w3.heap.size wr from ⟨hX0, hX1, hX2, hX3⟩)
            have HS := Lib.hid hS
            clear hS
            by_cases hlj : j < k
            · obtain ⟨y, hy⟩ := mem_at (l := xs) (k := j) (by rw [Hln.out]; omega)
              obtain ⟨d0, d1, d2⟩ := tnt_cells (Hc.out j y hy)
              have Hy := Lib.hid hy
              clear hy
              have hbx : b < wr.heap.size := by omega
              cases hv : slotE y x
              · have hq1 := fun w => (hq x.key y.key x.eff y.eff w).trans (by rw [show decide (x.key = y.key ∧ x.eff = y.eff) = false from hv])
                have Hs := Lib.hid (all_take Hy.out HS.out hv)
                clear hq hv
                go_wp2
                have hcH := held_cell
                refine region_rel (by kernel_rfl) (by kernel_rfl) ?_
                repeat
                  ((with_reducible refine relStep (fun K hK => ?_))
                   (have HK := Lib.hid hK)
                   clear hK
                   (first
                     | (apply relInl
                        · intro r n hf
                          have Hf := Lib.hid hf
                          clear hf
                          unfold relAt
                          go_simp
                          (first | (refine relUpon_val ?_ (Below.refl _ _); exact rfl) | exact rfl | (refine relUpon_enter ?_; (go_at_call 100; (with_reducible refine (slotof_any _ _).mono ?_); rintro e w1 ⟨rfl, hb⟩; exact ⟨⟨_, rfl, rfl⟩, hb⟩)))
                        (simp only [Act.put, List.setIfInBounds_toArray, List.set_cons_zero, List.set_cons_succ])
                        (with_reducible refine HK.out _ _ ?_)
                        clear HK K)
                     | (fail)))
                refine relNil ?_
                intro r5 n5 hx5
                clear hcH
                (try simp only [List.nil_append, List.cons_append, List.mem_cons, List.not_mem_nil, or_false, forall_eq_or_imp, forall_eq, false_implies, implies_true] at hx5)
                obtain ⟨w5, hb5⟩ := n5
                (try dsimp only)
                obtain ⟨hc5, hf5⟩ := bcell hb5
                have hz5 := hb5.size
                (try simp at hz5)
                have HX5 := Lib.hid ((HX.out.mono ((Below.refl _ wr).alloc (Nat.le_refl _) _)).mono hb5)
                go_wp2
                go_roundw
                case rel => exact ⟨j + 1, by omega, by go_num, Hs.out, HX5.out, by (repeat' (first | with_reducible exact Below.refl _ _ | with_reducible assumption | with_reducible refine Below.drew ?_ | with_reducible refine below_drewN' ?_ _ | with_reducible refine Below.alloc ?_ ?_ _ | with_reducible refine Below.setCell ?_ ?_ _ | with_reducible refine below_step (by assumption) ?_ ?_ | omega | (simp; done) | (simp; omega)))⟩
                case measure => simp [intOf]; omega
              · have hq1 := fun w => (hq x.key y.key x.eff y.eff w).trans (by rw [show decide (x.key = y.key ∧ x.eff = y.eff) = true from hv])
                have Hs := Lib.hid (Hbad.out k (by rw [Hln.out]; exact hlt) (okAt_slot Hx.out Hy.out hlj hv))
                clear hq hv
                go_wp2
                have hcH := held_cell
                refine region_rel (by kernel_rfl) (by kernel_rfl) ?_
                repeat
                  ((with_reducible refine relStep (fun K hK => ?_))
                   (have HK := Lib.hid hK)
                   clear hK
                   (first
                     | (apply relInl
                        · intro r n hf
                          have Hf := Lib.hid hf
                          clear hf
                          unfold relAt
                          go_simp
                          (first | (refine relUpon_val ?_ (Below.refl _ _); exact rfl) | exact rfl | (refine relUpon_enter ?_; (go_at_call 100; (with_reducible refine (slotof_any _ _).mono ?_); rintro e w1 ⟨rfl, hb⟩; exact ⟨⟨_, rfl, rfl⟩, hb⟩)))
                        (simp only [Act.put, List.setIfInBounds_toArray, List.set_cons_zero, List.set_cons_succ])
                        (with_reducible refine HK.out _ _ ?_)
                        clear HK K)
                     | (fail)))
                refine relNil ?_
                intro r5 n5 hx5
                clear hcH
                (try simp only [List.nil_append, List.cons_append, List.mem_cons, List.not_mem_nil, or_false, forall_eq_or_imp, forall_eq, false_implies, implies_true] at hx5)
                obtain ⟨w5, hb5⟩ := n5
                (try dsimp only)
                obtain ⟨hc5, hf5⟩ := bcell hb5
                have hz5 := hb5.size
                (try simp at hz5)
                go_wp2
                go_ret
                exact ⟨by rw [Hs.out]; rfl, by (repeat' (first | with_reducible exact Below.refl _ _ | with_reducible assumption | with_reducible refine Below.drew ?_ | with_reducible refine below_drewN' ?_ _ | with_reducible refine Below.alloc ?_ ?_ _ | with_reducible refine Below.setCell ?_ ?_ _ | with_reducible refine below_step (by assumption) ?_ ?_ | omega | (simp; done) | (simp; omega)))⟩
            · obtain rfl : j = k := by omega
              have Hs := Lib.hid (show okTo xs (j + 1) = true by rw [okTo_succ, HE.out, okAt_yes Hx.out Hok.out HS.out]; rfl)
              have HBB := Lib.hid (hB.trans (hC.mono hbz))
              go_wp2
              go_roundw
              case rel => exact ⟨j + 1, by omega, by go_num, Hs.out, HBB.out⟩
              case measure => simp [intOf]; omega
        all_goals
          have Hs := Lib.hid (Hbad.out k (by rw [Hln.out]; exact hlt) (okAt_tnt Hx.out hv))
          have K1 := Lib.hid k1
          first | (have K2 := Lib.hid k2) | skip
          first | (have K4 := Lib.hid k4) | skip
          clear hv k1
          first | clear k2 | skip
          first | clear k4 | skip
          go_wp2_with (first | (go_at_call 71; (with_reducible refine (word_any _ _).mono ?_); rintro e w5 ⟨rfl, hb5⟩; rw [K1.out]; have hX5 := (CellsX.new x wr 119).mono hb5; have HX5 := Lib.hid hX5; obtain ⟨x50, x51, x52, x53⟩ := hX5; obtain ⟨hc5, hf5⟩ := bcell hb5; have hz5 := hb5.size; (try simp at hz5)) | (go_at_call 98; (with_reducible refine (wordorempty_any _ _).mono ?_); rintro e w6 ⟨rfl, hb6⟩; rw [K2.out]; have hX6 := HX5.out.mono hb6; have HX6 := Lib.hid hX6; obtain ⟨x60, x61, x62, x63⟩ := hX6; obtain ⟨hc6, hf6⟩ := bcell hb6; have hz6 := hb6.size; (try simp at hz6)) | (go_at_call 99; (with_reducible refine (righteffect_any _ _).mono ?_); rintro e w7 ⟨rfl, hb7⟩; rw [K4.out]; have hX7 := HX6.out.mono hb7; have HX7 := Lib.hid hX7; obtain ⟨x70, x71, x72, x73⟩ := hX7; obtain ⟨hc7, hf7⟩ := bcell hb7; have hz7 := hb7.size; (try simp at hz7)))
          go_ret
          exact ⟨by rw [Hs.out]; rfl, by (repeat' (first | with_reducible exact Below.refl _ _ | with_reducible assumption | with_reducible refine Below.drew ?_ | with_reducible refine below_drewN' ?_ _ | with_reducible refine Below.alloc ?_ ?_ _ | with_reducible refine Below.setCell ?_ ?_ _ | with_reducible refine below_step (by assumption) ?_ ?_ | omega | (simp; done) | (simp; omega)))⟩
      · obtain rfl : k = n := by omega
        have Hs := Lib.hid (show rightT xs = true from Hrt.out.trans ((congrArg (okTo xs) Hln.out).trans HE.out))
        go_wp2
        go_ret
        exact ⟨by rw [Hs.out]; rfl, by (repeat' (first | with_reducible exact Below.refl _ _ | with_reducible assumption | with_reducible refine Below.drew ?_ | with_reducible refine below_drewN' ?_ _ | with_reducible refine Below.alloc ?_ ?_ _ | with_reducible refine Below.setCell ?_ ?_ _ | with_reducible refine below_step (by assumption) ?_ ?_ | omega | (simp; done) | (simp; omega)))⟩
theorem bl_irrefl : ∀ x : List UInt8, Op.bytesLess x x = false
  | [] => rfl
  | a :: x => by
    rw [Op.bytesLess, bl_irrefl x]
    simp [UInt8.lt_irrefl]
theorem bl_trans : ∀ x y z : List UInt8, Op.bytesLess x y = true → Op.bytesLess y z = true → Op.bytesLess x z = true
  | _, [], _, h, _ => by cases h' : (‹List UInt8›) <;> simp [Op.bytesLess] at h
  | _, _ :: _, [], _, h => by simp [Op.bytesLess] at h
  | [], _ :: _, _ :: _, _, _ => rfl
  | a :: x, b :: y, c :: z, h1, h2 => by
    simp only [Op.bytesLess, Bool.or_eq_true, Bool.and_eq_true, decide_eq_true_eq, beq_iff_eq] at h1 h2 ⊢
    rcases h1 with h1 | ⟨rfl, h1⟩
    · rcases h2 with h2 | ⟨rfl, h2⟩
      · exact .inl (UInt8.lt_trans h1 h2)
      · exact .inl h1
    · rcases h2 with h2 | ⟨rfl, h2⟩
      · exact .inl h2
      · exact .inr ⟨rfl, bl_trans x y z h1 h2⟩
theorem bl_tri : ∀ x y : List UInt8, Op.bytesLess x y = false → Op.bytesLess y x = false → x = y
  | [], [], _, _ => rfl
  | [], _ :: _, h, _ => by simp [Op.bytesLess] at h
  | _ :: _, [], _, h => by simp [Op.bytesLess] at h
  | a :: x, b :: y, h1, h2 => by
    simp only [Op.bytesLess, Bool.or_eq_false_iff, Bool.and_eq_false_iff, decide_eq_false_iff_not, beq_eq_false_iff_ne] at h1 h2
    have e : a = b := by
      have := h1.1
      have := h2.1
      exact UInt8.le_antisymm (UInt8.not_lt.1 h2.1) (UInt8.not_lt.1 h1.1)
    subst e
    have h3 := h1.2.resolve_left (fun h => h rfl)
    have h4 := h2.2.resolve_left (fun h => h rfl)
    rw [bl_tri x y h3 h4]
theorem data_drop (a : ByteArray) (i : Nat) (h : i < a.size) : ∃ u : UInt8, u.toNat = (a.get! i).toNat ∧ a.toList.drop i = u :: a.toList.drop (i + 1) := by
  rw [ByteArray.toList_eq]
  have h' : i < a.data.toList.length := by rw [Array.length_toList]; exact h
  refine ⟨a.data.toList[i], ?_, List.drop_eq_getElem_cons h'⟩
  rw [get_bang a i h]
  rfl
theorem data_end (a : ByteArray) (i : Nat) (h : a.size ≤ i) : a.toList.drop i = [] := by
  rw [ByteArray.toList_eq]
  exact List.drop_eq_nil_of_le (by rw [Array.length_toList]; exact h)
theorem less_drop (a b : ByteArray) : ∀ f i, a.size ≤ i + f → i ≤ a.size → i ≤ b.size → lessF a b f i = Op.bytesLess (a.toList.drop i) (b.toList.drop i) := by
  intro f
  have hend : ∀ i, i ≤ a.size → i ≤ b.size → ¬ (i < a.size ∧ i < b.size) → decide (a.size < b.size) = Op.bytesLess (a.toList.drop i) (b.toList.drop i) := by
    intro i h1 h2 h3
    by_cases h4 : i < b.size
    · obtain ⟨u, _, e⟩ := data_drop b i h4
      rw [data_end a i (by omega), e, decide_eq_true (by omega)]
      rfl
    · rw [data_end b i (by omega), decide_eq_false (by omega)]
      cases a.toList.drop i <;> rfl
  induction f with
  | zero =>
    intro i h1 h2 h3
    rw [lessF_end 0 i (by omega)]
    exact hend i h2 h3 (by omega)
  | succ f ih =>
    intro i h1 h2 h3
    by_cases h : i < a.size ∧ i < b.size
    · obtain ⟨u, hu, eu⟩ := data_drop a i h.1
      obtain ⟨v, hv, ev⟩ := data_drop b i h.2
      rw [lessF, if_pos h, eu, ev, Op.bytesLess, ← hu, ← hv]
      by_cases e : u.toNat = v.toNat
      · have e2 : u = v := UInt8.toNat_inj.1 e
        rw [if_pos e, ih (i + 1) (by omega) (by omega) (by omega)]
        subst e2
        simp [UInt8.lt_irrefl]
      · rw [if_neg e]
        have e2 : (u == v) = false := by rw [beq_eq_false_iff_ne]; exact fun h => e (by rw [h])
        rw [e2, Bool.false_and, Bool.or_false]
        exact decide_eq_decide.2 UInt8.lt_iff_toNat_lt.symm
    · rw [lessF_end _ i h]
      exact hend i h2 h3 h
theorem less_eq (a b : ByteArray) : lessB a b = Op.bytesLess a.toList b.toList := by
  have := less_drop a b a.size 0 (by omega) (Nat.zero_le _) (Nat.zero_le _)
  simpa [lessB] using this
theorem less_irrefl (a : ByteArray) : lessB a a = false := by rw [less_eq]; exact bl_irrefl _
theorem less_trans {a b c : ByteArray} (h1 : lessB a b = true) (h2 : lessB b c = true) : lessB a c = true := by
  rw [less_eq] at h1 h2 ⊢
  exact bl_trans _ _ _ h1 h2
theorem less_tri {a b : ByteArray} (h1 : lessB a b = false) (h2 : lessB b a = false) : a = b := by
  rw [less_eq] at h1 h2
  exact (str_inj _ _).1 (bl_tri _ _ h1 h2)
set_option maxRecDepth 100000 in
theorem lwordorempty_any (s : ByteArray) (w : World) :
    Calls Tryz.prog 97 #[.string s] w fun e w' => e = .returned (.bool (weB s)) ∧ Below w.heap.size w w' := by
  unfold weB
  by_cases h : s = emp
  · obtain ⟨h1, h2, h3, h4⟩ := emp_lits h
    rw [decide_eq_true h]
    clear h
    go_enter Tryz.func97, Tryz.ntmps97
    go_wp2
    go_ret
    exact ⟨rfl, by (repeat' (first | with_reducible exact Below.refl _ _ | with_reducible assumption | with_reducible refine Below.drew ?_ | with_reducible refine below_drewN' ?_ _ | with_reducible refine Below.alloc ?_ ?_ _ | with_reducible refine Below.setCell ?_ ?_ _ | with_reducible refine below_step (by assumption) ?_ ?_ | omega | (simp; done) | (simp; omega)))⟩
  · obtain ⟨h1, h2, h3, h4⟩ := emp_litn h
    rw [decide_eq_false h]
    clear h
    go_enter Tryz.func97, Tryz.ntmps97
    go_wp2_with (go_at_call 71; refine (word_any _ _).mono ?_; rintro e w1 ⟨rfl, hb1⟩; obtain ⟨hc1, hf1⟩ := bcell hb1; have hz1 := hb1.size; (try simp at hz1); (try have hza : w.heap.size < w1.heap.size := by omega); (try have hzb : w.heap.size + 1 < w1.heap.size := by omega); (try have hzc : w.heap.size + 1 + 1 < w1.heap.size := by omega); (try have hzd : w.heap.size + 1 + 1 + 1 < w1.heap.size := by omega))
    go_ret
    exact ⟨rfl, by (repeat' (first | with_reducible exact Below.refl _ _ | with_reducible assumption | with_reducible refine Below.drew ?_ | with_reducible refine below_drewN' ?_ _ | with_reducible refine Below.alloc ?_ ?_ _ | with_reducible refine Below.setCell ?_ ?_ _ | with_reducible refine below_step (by assumption) ?_ ?_ | omega | (simp; done) | (simp; omega)))⟩
theorem map_kept {H : Type} {P : Program} {k : TypeId} {R : Value → Option (DataW H × List MemPlace)} {w w1 : World} {b n : Nat} {D : DataW H} (h : w.ownsMap P k R b n D) (hb : Below w.heap.size w w1) : w1.ownsMap P k R b n D := by
  obtain ⟨es, clock, hh, r⟩ := h
  refine ⟨es, clock, ?_, r⟩
  rw [hb.block b]
  · exact hh
  · exact (Array.getElem?_eq_some_iff.1 hh).1
def seenS (l : List Lab) (k : Nat) : DataW Unit := Go.Maps.setOf (.agg []) ((l.take k).map fun x => Lit.string x.key.data.toList)
theorem seen_succ {l : List Lab} {k : Nat} {x : Lab} (hx : l[k]? = some x) : seenS l (k + 1) = (seenS l k).put (.string x.key.data.toList) (.agg []) := by
  unfold seenS
  rw [take_at hx, List.map_append]
  exact Go.Maps.setOf_snoc _ _ _
theorem key_same (a b : ByteArray) : (Lit.string a.data.toList).sameKey (.string b.data.toList) = strB a b := by
  unfold strB
  by_cases h : a = b
  · subst h
    rw [decide_eq_true rfl]
    exact WideAt.sameKey_self (by trivial)
  · rw [decide_eq_false h]
    refine Go.Maps.sameKey_ne fun e => h ?_
    simp only [Lit.string.injEq] at e
    exact ByteArray.ext (Array.toList_inj.1 e)
theorem has_seen (l : List Lab) (k : Nat) (s : ByteArray) : Go.Maps.has (seenS l k) (.string s.data.toList) = (l.take k).any fun y => strB y.key s := by
  unfold seenS
  rw [Go.Maps.has_setOf _ _ _ (fun y hy => by obtain ⟨_, _, rfl⟩ := List.mem_map.1 hy; trivial), List.any_map]
  congr 1
  funext y
  exact key_same _ _
theorem labsTo_at {l : List Lab} {k j : Nat} (h : labsTo l k = true) (hj : j < k) : okL l j = true := List.all_eq_true.1 h j (List.mem_range.2 hj)
theorem labsTo_le {l : List Lab} {k j : Nat} (h : labsTo l k = true) (hj : j ≤ k) : labsTo l j = true := List.all_eq_true.2 fun i hi => labsTo_at h (by have := List.mem_range.1 hi; omega)
theorem all_less {l : List Lab} : ∀ {k : Nat} {x : Lab}, labsTo l (k + 1) = true → l[k]? = some x → ∀ y ∈ l.take k, lessB y.key x.key = true
  | 0, x, _, _, y, hy => by simp at hy
  | j + 1, x, h, hx, y, hy => by
    obtain ⟨z, hz⟩ := mem_at (l := l) (k := j) (by have := lt_at hx; omega)
    have h1 := labsTo_at h (Nat.lt_succ_self (j + 1))
    rw [okL_succ hx hz] at h1
    simp only [Bool.and_eq_true] at h1
    rw [take_at hz] at hy
    rcases List.mem_append.1 hy with hy | hy
    · exact less_trans (all_less (labsTo_le h (Nat.le_succ _)) hz y hy) h1.2
    · obtain rfl : y = z := by simpa using hy
      exact h1.2
theorem twice_bad {l : List Lab} {k : Nat} {x : Lab} (h : labsTo l k = true) (hx : l[k]? = some x) (ht : (l.take k).any (fun y => strB y.key x.key) = true) : okL l k = false := by
  cases ho : okL l k with
  | false => rfl
  | true =>
    obtain ⟨y, hy, he⟩ := List.any_eq_true.1 ht
    have h1 : labsTo l (k + 1) = true := by rw [labsTo_succ, h, ho]; rfl
    have := all_less h1 hx y hy
    have e : y.key = x.key := of_decide_eq_true he
    rw [e, less_irrefl] at this
    cases this
theorem less_asymm {a b : ByteArray} (h : lessB a b = true) : lessB b a = false := by
  cases h2 : lessB b a with
  | false => rfl
  | true =>
    have := less_trans h h2
    rw [less_irrefl] at this
    cases this
theorem labs_end {l : List Lab} {n : Nat} (hl : l.length = n) (h16 : n ≤ 16) (h : labsTo l n = true) : labsB l = true := by
  unfold labsB
  rw [hl, h, decide_eq_true h16]
  rfl
theorem zero_unit (w : World) : (zeroValue 104).run Tryz.prog w = .ok (.agg #[]) w := by kernel_rfl
theorem law_str : Go.Maps.Keyed Tryz.prog 9 := Go.Maps.string_keyed Tryz.underlying9
set_option maxRecDepth 100000 in
set_option maxHeartbeats 8000000 in
theorem lright_any (c : Option Addr) (kc : Nat) (l : List Lab) (w : World) (hF : LabL w c l) (hm : l.length ≤ maxLen) (hs : ∀ x ∈ l, x.key.size ≤ 1000000000) :
    Calls Tryz.prog 90 #[.slice c l.length kc] w fun e w' => e = .returned (.bool (labsB l)) ∧ Below w.heap.size w w' := by
  have HF := Lib.hid hF
  have Hs := Lib.hid hs
  clear hF hs
  by_cases h16 : 16 < l.length
  · have hr : labsB l = false := by unfold labsB; rw [decide_eq_false (by omega)]; rfl
    rw [hr]
    clear hr
    unfold maxLen at hm
    go_enter Tryz.func90, Tryz.ntmps90
    go_wp2
    go_ret
    exact ⟨rfl, by (repeat' (first | with_reducible exact Below.refl _ _ | with_reducible assumption | with_reducible refine Below.drew ?_ | with_reducible refine below_drewN' ?_ _ | with_reducible refine Below.alloc ?_ ?_ _ | with_reducible refine Below.setCell ?_ ?_ _ | with_reducible refine below_step (by assumption) ?_ ?_ | omega | (simp; done) | (simp; omega)))⟩
  · obtain ⟨n, hln⟩ : ∃ n, l.length = n := ⟨_, rfl⟩
    rw [hln] at hm h16 ⊢
    have Hln := Lib.hid hln
    clear hln hm
    have hmm := @run_makeMap Tryz.prog
    go_enter Tryz.func90, Tryz.ntmps90
    go_wp2
    go_loopw [14] (fun i wr => ∃ k : Nat, k ≤ n ∧ i = .int .i64 k ∧ labsTo l k = true ∧ wr.ownsMap Tryz.prog 9 (unitElem (H := Unit)) w.heap.size k (seenS l k) ∧ Below w.heap.size w wr) (fun i _ => n - (intOf i).toNat)
    case atStart => exact ⟨0, by omega, rfl, rfl, World.ownsMap_made _ _ _ _, by (repeat' (first | with_reducible exact Below.refl _ _ | with_reducible assumption | with_reducible refine Below.drew ?_ | with_reducible refine below_drewN' ?_ _ | with_reducible refine Below.alloc ?_ ?_ _ | with_reducible refine Below.setCell ?_ ?_ _ | with_reducible refine below_step (by assumption) ?_ ?_ | omega | (simp; done) | (simp; omega)))⟩
    case round =>
      obtain ⟨k, hk, rfl, hE, hown, hB⟩ := hrel
      obtain ⟨hcB, hfB⟩ := bcell hB
      have hbz := hB.size
      have HE := Lib.hid hE
      have HB := Lib.hid hB
      have HM := Lib.hid hown
      clear hE hown
      by_cases hlt : k < n
      · obtain ⟨x, hx⟩ := mem_at (l := l) (k := k) (by rw [Hln.out]; exact hlt)
        obtain ⟨b, off, rfl, hb, hc⟩ := HF.out (by rw [Hln.out]; omega)
        have hbw : b < wr.heap.size := by omega
        obtain ⟨c0, c1⟩ := lab_cells (hc k x hx)
        have Hx := Lib.hid hx
        have hsx := Hs.out x (List.mem_of_getElem? hx)
        have Hkey := Lib.hid (Go.WideMaps.keyOf_string_mk (P := Tryz.prog) (k := 9) Tryz.underlying9 (s := x.key) (by unfold maxLen; omega))
        have Hhas := Lib.hid (has_seen l k x.key)
        clear hx
        have q0 : wr.heap.size < wr.heap.size + 1 + 1 := by omega
        have q1 : wr.heap.size < wr.heap.size + 2 := by omega
        have q2 : wr.heap.size + 1 < wr.heap.size + 2 := by omega
        have q3 : b < wr.heap.size + 1 + 1 := by omega
        have q4 : b < wr.heap.size + 2 := by omega
        have q5 : b < wr.heap.size + 1 := by omega
        have q6 : b ≤ wr.heap.size := by omega
        cases ht : (l.take k).any (fun y => strB y.key x.key)
        · rcases k with _ | j
          · rw [Nat.zero_mul, Nat.add_zero] at c0 c1
            have Hok := Lib.hid (okL_zero Hx.out)
            have Ht := Lib.hid ht
            clear ht hc
            cases k1 : wordB x.key
            · have Hs := Lib.hid (labs_bad (lt_at Hx.out) (by rw [Hok.out, k1]; rfl))
              have K1 := Lib.hid k1
              clear k1
              go_wp2_with (at_lookup; refine wpList_lookup_own_unit _ rfl _ _ 147 rfl 9 104 law_str Tryz.underlying147 (zero_unit _) w.heap.size (0) _ rfl (HM.out.alloc _) _ _ rfl Hkey.out ?_; rw [Hhas.out, Ht.out])
              have hcH := held_cell
              refine region_rel (by kernel_rfl) (by kernel_rfl) ?_
              repeat
                ((with_reducible refine relStep (fun K hK => ?_))
                 (have HK := Lib.hid hK)
                 clear hK
                 (first
                   | (apply relInl
                      · intro r n hf
                        have Hf := Lib.hid hf
                        clear hf
                        unfold relAt
                        go_simp
                        (first | (refine relUpon_val ?_ (Below.refl _ _); exact rfl) | exact rfl | (refine relUpon_enter ?_; fail))
                      (simp only [Act.put, List.setIfInBounds_toArray, List.set_cons_zero, List.set_cons_succ])
                      (with_reducible refine HK.out _ _ ?_)
                      clear HK K)
                   | (fail)))
              refine relNil ?_
              intro r5 n5 hx5
              clear hcH
              (try simp only [List.nil_append, List.cons_append, List.mem_cons, List.not_mem_nil, or_false, forall_eq_or_imp, forall_eq, false_implies, implies_true] at hx5)
              obtain ⟨w5, hb5⟩ := n5
              (try dsimp only)
              obtain ⟨hc5, hf5⟩ := bcell hb5
              have hz5 := hb5.size
              (try simp at hz5)
              have HB5 := Lib.hid (show Below wr.heap.size wr w5 by (repeat' (first | with_reducible exact Below.refl _ _ | with_reducible assumption | with_reducible refine Below.drew ?_ | with_reducible refine below_drewN' ?_ _ | with_reducible refine Below.alloc ?_ ?_ _ | with_reducible refine Below.setCell ?_ ?_ _ | with_reducible refine below_step (by assumption) ?_ ?_ | omega | (simp; done) | (simp; omega))))
              have z5_0 : wr.heap.size < w5.heap.size := (by omega); have y5_0 : wr.heap.size ≤ w5.heap.size := (by omega); have z5_1 : wr.heap.size + 1 < w5.heap.size := (by omega); have y5_1 : wr.heap.size + 1 ≤ w5.heap.size := (by omega)
              go_wp2_with (go_at_call 71; (with_reducible refine (word_any x.key _).mono ?_); rw [K1.out]; rintro e w6 ⟨rfl, hb6⟩; obtain ⟨hc6, hf6⟩ := bcell hb6; have hz6 := hb6.size; have z6_0 : wr.heap.size < w6.heap.size := (by omega); have y6_0 : wr.heap.size ≤ w6.heap.size := (by omega); have z6_1 : wr.heap.size + 1 < w6.heap.size := (by omega); have y6_1 : wr.heap.size + 1 ≤ w6.heap.size := (by omega); have HB6 := Lib.hid (HB5.out.trans (hb6.mono HB5.out.size)))
              go_ret
              exact ⟨by rw [Hs.out]; rfl, HB.out.trans (HB6.out.mono HB.out.size)⟩
            · cases k2 : weB x.val
              · have Hs := Lib.hid (labs_bad (lt_at Hx.out) (by rw [Hok.out, k1, k2]; rfl))
                have K1 := Lib.hid k1
                have K2 := Lib.hid k2
                clear k1 k2
                go_wp2_with (at_lookup; refine wpList_lookup_own_unit _ rfl _ _ 147 rfl 9 104 law_str Tryz.underlying147 (zero_unit _) w.heap.size (0) _ rfl (HM.out.alloc _) _ _ rfl Hkey.out ?_; rw [Hhas.out, Ht.out])
                have hcH := held_cell
                refine region_rel (by kernel_rfl) (by kernel_rfl) ?_
                repeat
                  ((with_reducible refine relStep (fun K hK => ?_))
                   (have HK := Lib.hid hK)
                   clear hK
                   (first
                     | (apply relInl
                        · intro r n hf
                          have Hf := Lib.hid hf
                          clear hf
                          unfold relAt
                          go_simp
                          (first | (refine relUpon_val ?_ (Below.refl _ _); exact rfl) | exact rfl | (refine relUpon_enter ?_; fail))
                        (simp only [Act.put, List.setIfInBounds_toArray, List.set_cons_zero, List.set_cons_succ])
                        (with_reducible refine HK.out _ _ ?_)
                        clear HK K)
                     | (fail)))
                refine relNil ?_
                intro r5 n5 hx5
                clear hcH
                (try simp only [List.nil_append, List.cons_append, List.mem_cons, List.not_mem_nil, or_false, forall_eq_or_imp, forall_eq, false_implies, implies_true] at hx5)
                obtain ⟨w5, hb5⟩ := n5
                (try dsimp only)
                obtain ⟨hc5, hf5⟩ := bcell hb5
                have hz5 := hb5.size
                (try simp at hz5)
                have HB5 := Lib.hid (show Below wr.heap.size wr w5 by (repeat' (first | with_reducible exact Below.refl _ _ | with_reducible assumption | with_reducible refine Below.drew ?_ | with_reducible refine below_drewN' ?_ _ | with_reducible refine Below.alloc ?_ ?_ _ | with_reducible refine Below.setCell ?_ ?_ _ | with_reducible refine below_step (by assumption) ?_ ?_ | omega | (simp; done) | (simp; omega))))
                have z5_0 : wr.heap.size < w5.heap.size := (by omega); have y5_0 : wr.heap.size ≤ w5.heap.size := (by omega); have z5_1 : wr.heap.size + 1 < w5.heap.size := (by omega); have y5_1 : wr.heap.size + 1 ≤ w5.heap.size := (by omega)
                go_wp2_with (first | (go_at_call 71; (with_reducible refine (word_any x.key _).mono ?_); rw [K1.out]; rintro e w6 ⟨rfl, hb6⟩; obtain ⟨hc6, hf6⟩ := bcell hb6; have hz6 := hb6.size; have z6_0 : wr.heap.size < w6.heap.size := (by omega); have y6_0 : wr.heap.size ≤ w6.heap.size := (by omega); have z6_1 : wr.heap.size + 1 < w6.heap.size := (by omega); have y6_1 : wr.heap.size + 1 ≤ w6.heap.size := (by omega); have HB6 := Lib.hid (HB5.out.trans (hb6.mono HB5.out.size))) | (go_at_call 97; (with_reducible refine (lwordorempty_any x.val _).mono ?_); rw [K2.out]; rintro e w7 ⟨rfl, hb7⟩; obtain ⟨hc7, hf7⟩ := bcell hb7; have hz7 := hb7.size; have z7_0 : wr.heap.size < w7.heap.size := (by omega); have y7_0 : wr.heap.size ≤ w7.heap.size := (by omega); have z7_1 : wr.heap.size + 1 < w7.heap.size := (by omega); have y7_1 : wr.heap.size + 1 ≤ w7.heap.size := (by omega); have HB7 := Lib.hid (HB6.out.trans (hb7.mono HB6.out.size)); have HM7 := Lib.hid (map_kept HM.out HB7.out)))
                go_ret
                exact ⟨by rw [Hs.out]; rfl, HB.out.trans (HB7.out.mono HB.out.size)⟩
              · have Hs := Lib.hid (show labsTo l (0 + 1) = true by rw [labsTo_succ, HE.out, Hok.out, k1, k2]; rfl)
                have Hsn := Lib.hid (seen_succ Hx.out)
                have K1 := Lib.hid k1
                have K2 := Lib.hid k2
                clear k1 k2
                go_wp2_with (at_lookup; refine wpList_lookup_own_unit _ rfl _ _ 147 rfl 9 104 law_str Tryz.underlying147 (zero_unit _) w.heap.size (0) _ rfl (HM.out.alloc _) _ _ rfl Hkey.out ?_; rw [Hhas.out, Ht.out])
                have hcH := held_cell
                refine region_rel (by kernel_rfl) (by kernel_rfl) ?_
                repeat
                  ((with_reducible refine relStep (fun K hK => ?_))
                   (have HK := Lib.hid hK)
                   clear hK
                   (first
                     | (apply relInl
                        · intro r n hf
                          have Hf := Lib.hid hf
                          clear hf
                          unfold relAt
                          go_simp
                          (first | (refine relUpon_val ?_ (Below.refl _ _); exact rfl) | exact rfl | (refine relUpon_enter ?_; fail))
                        (simp only [Act.put, List.setIfInBounds_toArray, List.set_cons_zero, List.set_cons_succ])
                        (with_reducible refine HK.out _ _ ?_)
                        clear HK K)
                     | (fail)))
                refine relNil ?_
                intro r5 n5 hx5
                clear hcH
                (try simp only [List.nil_append, List.cons_append, List.mem_cons, List.not_mem_nil, or_false, forall_eq_or_imp, forall_eq, false_implies, implies_true] at hx5)
                obtain ⟨w5, hb5⟩ := n5
                (try dsimp only)
                obtain ⟨hc5, hf5⟩ := bcell hb5
                have hz5 := hb5.size
                (try simp at hz5)
                have HB5 := Lib.hid (show Below wr.heap.size wr w5 by (repeat' (first | with_reducible exact Below.refl _ _ | with_reducible assumption | with_reducible refine Below.drew ?_ | with_reducible refine below_drewN' ?_ _ | with_reducible refine Below.alloc ?_ ?_ _ | with_reducible refine Below.setCell ?_ ?_ _ | with_reducible refine below_step (by assumption) ?_ ?_ | omega | (simp; done) | (simp; omega))))
                have z5_0 : wr.heap.size < w5.heap.size := (by omega); have y5_0 : wr.heap.size ≤ w5.heap.size := (by omega); have z5_1 : wr.heap.size + 1 < w5.heap.size := (by omega); have y5_1 : wr.heap.size + 1 ≤ w5.heap.size := (by omega)
                go_wp2_with (first | (go_at_call 71; (with_reducible refine (word_any x.key _).mono ?_); rw [K1.out]; rintro e w6 ⟨rfl, hb6⟩; obtain ⟨hc6, hf6⟩ := bcell hb6; have hz6 := hb6.size; have z6_0 : wr.heap.size < w6.heap.size := (by omega); have y6_0 : wr.heap.size ≤ w6.heap.size := (by omega); have z6_1 : wr.heap.size + 1 < w6.heap.size := (by omega); have y6_1 : wr.heap.size + 1 ≤ w6.heap.size := (by omega); have HB6 := Lib.hid (HB5.out.trans (hb6.mono HB5.out.size))) | (go_at_call 97; (with_reducible refine (lwordorempty_any x.val _).mono ?_); rw [K2.out]; rintro e w7 ⟨rfl, hb7⟩; obtain ⟨hc7, hf7⟩ := bcell hb7; have hz7 := hb7.size; have z7_0 : wr.heap.size < w7.heap.size := (by omega); have y7_0 : wr.heap.size ≤ w7.heap.size := (by omega); have z7_1 : wr.heap.size + 1 < w7.heap.size := (by omega); have y7_1 : wr.heap.size + 1 ≤ w7.heap.size := (by omega); have HB7 := Lib.hid (HB6.out.trans (hb7.mono HB6.out.size)); have HM7 := Lib.hid (map_kept HM.out HB7.out)) | (at_mapUpdate; refine wpList_mapUpdate_own _ rfl _ _ _ 147 rfl 9 104 law_str Tryz.underlying147 (unitElem (H := Unit)) w.heap.size (0) _ rfl HM7.out (by unfold maxLen; omega) _ _ _ rfl rfl Hkey.out _ [] unitElem_mk ?_; intro w8 hown8 hgrow8; rw [← Hsn.out] at hown8; have HM8 := Lib.hid hown8; have HB8 := Lib.hid ((HB.out.trans (HB7.out.mono HB.out.size)).grown hgrow8 (Nat.le_trans HB.out.size HB7.out.size) (fun j hj => by cases hj; exact Nat.le_refl _)); clear hown8 hgrow8))
                go_roundw
                case rel => exact ⟨0 + 1, by omega, by go_num, Hs.out, HM8.out, HB8.out⟩
                case measure => simp [intOf]; omega
          · obtain ⟨y, hy⟩ := mem_at (l := l) (k := j) (by rw [Hln.out]; omega)
            obtain ⟨d0, d1⟩ := lab_cells (hc j y hy)
            have hyx : strB y.key x.key = false := by
              have h := ht
              rw [take_at hy, List.any_append] at h
              simpa using (Bool.or_eq_false_iff.1 h).2
            have Hy := Lib.hid hy
            have hjn : j < n := by omega
            have f1 := wrap_in (x := (j : Int)) (by omega) (by omega)
            have f2 := wrap_in (x := (j : Int) + 1 - 1) (by omega) (by omega)
            have f3 : (j : Int) + 1 - 1 = (j : Int) := by omega
            cases hl : lessB x.key y.key
            · have hyl : lessB y.key x.key = true := by
                cases h : lessB y.key x.key with
                | true => rfl
                | false =>
                  have e := less_tri h hl
                  unfold strB at hyx
                  rw [decide_eq_true e] at hyx
                  cases hyx
              have Hok := Lib.hid (show okL l (j + 1) = (wordB x.key && weB x.val) by rw [okL_succ Hx.out Hy.out, hyl, Bool.and_true])
              have hbl : Op.bytesLess x.key.toList y.key.toList = false := (less_eq _ _).symm.trans hl
              have Ht := Lib.hid ht
              clear ht hc hy hyx hl hyl
              cases k1 : wordB x.key
              · have Hs := Lib.hid (labs_bad (lt_at Hx.out) (by rw [Hok.out, k1]; rfl))
                have K1 := Lib.hid k1
                clear k1
                go_wp2_with (at_lookup; refine wpList_lookup_own_unit _ rfl _ _ 147 rfl 9 104 law_str Tryz.underlying147 (zero_unit _) w.heap.size (j + 1) _ rfl (HM.out.alloc _) _ _ rfl Hkey.out ?_; rw [Hhas.out, Ht.out])
                have hcH := held_cell
                refine region_rel (by kernel_rfl) (by kernel_rfl) ?_
                repeat
                  ((with_reducible refine relStep (fun K hK => ?_))
                   (have HK := Lib.hid hK)
                   clear hK
                   (first
                     | (apply relInl
                        · intro r n hf
                          have Hf := Lib.hid hf
                          clear hf
                          unfold relAt
                          go_simp
                          (first | (refine relUpon_val ?_ (Below.refl _ _); exact rfl) | exact rfl | (refine relUpon_enter ?_; fail))
                        (simp only [Act.put, List.setIfInBounds_toArray, List.set_cons_zero, List.set_cons_succ])
                        (with_reducible refine HK.out _ _ ?_)
                        clear HK K)
                     | (fail)))
                refine relNil ?_
                intro r5 n5 hx5
                clear hcH
                (try simp only [List.nil_append, List.cons_append, List.mem_cons, List.not_mem_nil, or_false, forall_eq_or_imp, forall_eq, false_implies, implies_true] at hx5)
                obtain ⟨w5, hb5⟩ := n5
                (try dsimp only)
                obtain ⟨hc5, hf5⟩ := bcell hb5
                have hz5 := hb5.size
                (try simp at hz5)
                have HB5 := Lib.hid (show Below wr.heap.size wr w5 by (repeat' (first | with_reducible exact Below.refl _ _ | with_reducible assumption | with_reducible refine Below.drew ?_ | with_reducible refine below_drewN' ?_ _ | with_reducible refine Below.alloc ?_ ?_ _ | with_reducible refine Below.setCell ?_ ?_ _ | with_reducible refine below_step (by assumption) ?_ ?_ | omega | (simp; done) | (simp; omega))))
                have z5_0 : wr.heap.size < w5.heap.size := (by omega); have y5_0 : wr.heap.size ≤ w5.heap.size := (by omega); have z5_1 : wr.heap.size + 1 < w5.heap.size := (by omega); have y5_1 : wr.heap.size + 1 ≤ w5.heap.size := (by omega)
                go_wp2_with (go_at_call 71; (with_reducible refine (word_any x.key _).mono ?_); rw [K1.out]; rintro e w6 ⟨rfl, hb6⟩; obtain ⟨hc6, hf6⟩ := bcell hb6; have hz6 := hb6.size; have z6_0 : wr.heap.size < w6.heap.size := (by omega); have y6_0 : wr.heap.size ≤ w6.heap.size := (by omega); have z6_1 : wr.heap.size + 1 < w6.heap.size := (by omega); have y6_1 : wr.heap.size + 1 ≤ w6.heap.size := (by omega); have HB6 := Lib.hid (HB5.out.trans (hb6.mono HB5.out.size)))
                go_ret
                exact ⟨by rw [Hs.out]; rfl, HB.out.trans (HB6.out.mono HB.out.size)⟩
              · cases k2 : weB x.val
                · have Hs := Lib.hid (labs_bad (lt_at Hx.out) (by rw [Hok.out, k1, k2]; rfl))
                  have K1 := Lib.hid k1
                  have K2 := Lib.hid k2
                  clear k1 k2
                  go_wp2_with (at_lookup; refine wpList_lookup_own_unit _ rfl _ _ 147 rfl 9 104 law_str Tryz.underlying147 (zero_unit _) w.heap.size (j + 1) _ rfl (HM.out.alloc _) _ _ rfl Hkey.out ?_; rw [Hhas.out, Ht.out])
                  have hcH := held_cell
                  refine region_rel (by kernel_rfl) (by kernel_rfl) ?_
                  repeat
                    ((with_reducible refine relStep (fun K hK => ?_))
                     (have HK := Lib.hid hK)
                     clear hK
                     (first
                       | (apply relInl
                          · intro r n hf
                            have Hf := Lib.hid hf
                            clear hf
                            unfold relAt
                            go_simp
                            (first | (refine relUpon_val ?_ (Below.refl _ _); exact rfl) | exact rfl | (refine relUpon_enter ?_; fail))
                          (simp only [Act.put, List.setIfInBounds_toArray, List.set_cons_zero, List.set_cons_succ])
                          (with_reducible refine HK.out _ _ ?_)
                          clear HK K)
                       | (fail)))
                  refine relNil ?_
                  intro r5 n5 hx5
                  clear hcH
                  (try simp only [List.nil_append, List.cons_append, List.mem_cons, List.not_mem_nil, or_false, forall_eq_or_imp, forall_eq, false_implies, implies_true] at hx5)
                  obtain ⟨w5, hb5⟩ := n5
                  (try dsimp only)
                  obtain ⟨hc5, hf5⟩ := bcell hb5
                  have hz5 := hb5.size
                  (try simp at hz5)
                  have HB5 := Lib.hid (show Below wr.heap.size wr w5 by (repeat' (first | with_reducible exact Below.refl _ _ | with_reducible assumption | with_reducible refine Below.drew ?_ | with_reducible refine below_drewN' ?_ _ | with_reducible refine Below.alloc ?_ ?_ _ | with_reducible refine Below.setCell ?_ ?_ _ | with_reducible refine below_step (by assumption) ?_ ?_ | omega | (simp; done) | (simp; omega))))
                  have z5_0 : wr.heap.size < w5.heap.size := (by omega); have y5_0 : wr.heap.size ≤ w5.heap.size := (by omega); have z5_1 : wr.heap.size + 1 < w5.heap.size := (by omega); have y5_1 : wr.heap.size + 1 ≤ w5.heap.size := (by omega)
                  go_wp2_with (first | (go_at_call 71; (with_reducible refine (word_any x.key _).mono ?_); rw [K1.out]; rintro e w6 ⟨rfl, hb6⟩; obtain ⟨hc6, hf6⟩ := bcell hb6; have hz6 := hb6.size; have z6_0 : wr.heap.size < w6.heap.size := (by omega); have y6_0 : wr.heap.size ≤ w6.heap.size := (by omega); have z6_1 : wr.heap.size + 1 < w6.heap.size := (by omega); have y6_1 : wr.heap.size + 1 ≤ w6.heap.size := (by omega); have HB6 := Lib.hid (HB5.out.trans (hb6.mono HB5.out.size))) | (go_at_call 97; (with_reducible refine (lwordorempty_any x.val _).mono ?_); rw [K2.out]; rintro e w7 ⟨rfl, hb7⟩; obtain ⟨hc7, hf7⟩ := bcell hb7; have hz7 := hb7.size; have z7_0 : wr.heap.size < w7.heap.size := (by omega); have y7_0 : wr.heap.size ≤ w7.heap.size := (by omega); have z7_1 : wr.heap.size + 1 < w7.heap.size := (by omega); have y7_1 : wr.heap.size + 1 ≤ w7.heap.size := (by omega); have HB7 := Lib.hid (HB6.out.trans (hb7.mono HB6.out.size)); have HM7 := Lib.hid (map_kept HM.out HB7.out)))
                  go_ret
                  exact ⟨by rw [Hs.out]; rfl, HB.out.trans (HB7.out.mono HB.out.size)⟩
                · have Hs := Lib.hid (show labsTo l (j + 1 + 1) = true by rw [labsTo_succ, HE.out, Hok.out, k1, k2]; rfl)
                  have Hsn := Lib.hid (seen_succ Hx.out)
                  have K1 := Lib.hid k1
                  have K2 := Lib.hid k2
                  clear k1 k2
                  go_wp2_with (at_lookup; refine wpList_lookup_own_unit _ rfl _ _ 147 rfl 9 104 law_str Tryz.underlying147 (zero_unit _) w.heap.size (j + 1) _ rfl (HM.out.alloc _) _ _ rfl Hkey.out ?_; rw [Hhas.out, Ht.out])
                  have hcH := held_cell
                  refine region_rel (by kernel_rfl) (by kernel_rfl) ?_
                  repeat
                    ((with_reducible refine relStep (fun K hK => ?_))
                     (have HK := Lib.hid hK)
                     clear hK
                     (first
                       | (apply relInl
                          · intro r n hf
                            have Hf := Lib.hid hf
                            clear hf
                            unfold relAt
                            go_simp
                            (first | (refine relUpon_val ?_ (Below.refl _ _); exact rfl) | exact rfl | (refine relUpon_enter ?_; fail))
                          (simp only [Act.put, List.setIfInBounds_toArray, List.set_cons_zero, List.set_cons_succ])
                          (with_reducible refine HK.out _ _ ?_)
                          clear HK K)
                       | (fail)))
                  refine relNil ?_
                  intro r5 n5 hx5
                  clear hcH
                  (try simp only [List.nil_append, List.cons_append, List.mem_cons, List.not_mem_nil, or_false, forall_eq_or_imp, forall_eq, false_implies, implies_true] at hx5)
                  obtain ⟨w5, hb5⟩ := n5
                  (try dsimp only)
                  obtain ⟨hc5, hf5⟩ := bcell hb5
                  have hz5 := hb5.size
                  (try simp at hz5)
                  have HB5 := Lib.hid (show Below wr.heap.size wr w5 by (repeat' (first | with_reducible exact Below.refl _ _ | with_reducible assumption | with_reducible refine Below.drew ?_ | with_reducible refine below_drewN' ?_ _ | with_reducible refine Below.alloc ?_ ?_ _ | with_reducible refine Below.setCell ?_ ?_ _ | with_reducible refine below_step (by assumption) ?_ ?_ | omega | (simp; done) | (simp; omega))))
                  have z5_0 : wr.heap.size < w5.heap.size := (by omega); have y5_0 : wr.heap.size ≤ w5.heap.size := (by omega); have z5_1 : wr.heap.size + 1 < w5.heap.size := (by omega); have y5_1 : wr.heap.size + 1 ≤ w5.heap.size := (by omega)
                  go_wp2_with (first | (go_at_call 71; (with_reducible refine (word_any x.key _).mono ?_); rw [K1.out]; rintro e w6 ⟨rfl, hb6⟩; obtain ⟨hc6, hf6⟩ := bcell hb6; have hz6 := hb6.size; have z6_0 : wr.heap.size < w6.heap.size := (by omega); have y6_0 : wr.heap.size ≤ w6.heap.size := (by omega); have z6_1 : wr.heap.size + 1 < w6.heap.size := (by omega); have y6_1 : wr.heap.size + 1 ≤ w6.heap.size := (by omega); have HB6 := Lib.hid (HB5.out.trans (hb6.mono HB5.out.size))) | (go_at_call 97; (with_reducible refine (lwordorempty_any x.val _).mono ?_); rw [K2.out]; rintro e w7 ⟨rfl, hb7⟩; obtain ⟨hc7, hf7⟩ := bcell hb7; have hz7 := hb7.size; have z7_0 : wr.heap.size < w7.heap.size := (by omega); have y7_0 : wr.heap.size ≤ w7.heap.size := (by omega); have z7_1 : wr.heap.size + 1 < w7.heap.size := (by omega); have y7_1 : wr.heap.size + 1 ≤ w7.heap.size := (by omega); have HB7 := Lib.hid (HB6.out.trans (hb7.mono HB6.out.size)); have HM7 := Lib.hid (map_kept HM.out HB7.out)) | (at_mapUpdate; refine wpList_mapUpdate_own _ rfl _ _ _ 147 rfl 9 104 law_str Tryz.underlying147 (unitElem (H := Unit)) w.heap.size (j + 1) _ rfl HM7.out (by unfold maxLen; omega) _ _ _ rfl rfl Hkey.out _ [] unitElem_mk ?_; intro w8 hown8 hgrow8; rw [← Hsn.out] at hown8; have HM8 := Lib.hid hown8; have HB8 := Lib.hid ((HB.out.trans (HB7.out.mono HB.out.size)).grown hgrow8 (Nat.le_trans HB.out.size HB7.out.size) (fun j hj => by cases hj; exact Nat.le_refl _)); clear hown8 hgrow8))
                  go_roundw
                  case rel => exact ⟨j + 1 + 1, by omega, by go_num, Hs.out, HM8.out, HB8.out⟩
                  case measure => simp [intOf]; omega
            · have Hbad := Lib.hid (labs_bad (lt_at Hx.out) (show okL l (j + 1) = false by rw [okL_succ Hx.out Hy.out, less_asymm hl, Bool.and_false]))
              have hbl : Op.bytesLess x.key.toList y.key.toList = true := (less_eq _ _).symm.trans hl
              have Ht := Lib.hid ht
              clear ht hc hy hyx hl
              go_wp2_with (at_lookup; refine wpList_lookup_own_unit _ rfl _ _ 147 rfl 9 104 law_str Tryz.underlying147 (zero_unit _) w.heap.size (j + 1) _ rfl (HM.out.alloc _) _ _ rfl Hkey.out ?_; rw [Hhas.out, Ht.out])
              have hcH := held_cell
              refine region_rel (by kernel_rfl) (by kernel_rfl) ?_
              repeat
                ((with_reducible refine relStep (fun K hK => ?_))
                 (have HK := Lib.hid hK)
                 clear hK
                 (first
                   | (apply relInl
                      · intro r n hf
                        have Hf := Lib.hid hf
                        clear hf
                        unfold relAt
                        go_simp
                        (first | (refine relUpon_val ?_ (Below.refl _ _); exact rfl) | exact rfl | (refine relUpon_enter ?_; fail))
                      (simp only [Act.put, List.setIfInBounds_toArray, List.set_cons_zero, List.set_cons_succ])
                      (with_reducible refine HK.out _ _ ?_)
                      clear HK K)
                   | (fail)))
              refine relNil ?_
              intro r5 n5 hx5
              clear hcH
              (try simp only [List.nil_append, List.cons_append, List.mem_cons, List.not_mem_nil, or_false, forall_eq_or_imp, forall_eq, false_implies, implies_true] at hx5)
              obtain ⟨w5, hb5⟩ := n5
              (try dsimp only)
              obtain ⟨hc5, hf5⟩ := bcell hb5
              have hz5 := hb5.size
              (try simp at hz5)
              go_wp2
              go_ret
              exact ⟨by rw [Hbad.out]; rfl, by (repeat' (first | with_reducible exact Below.refl _ _ | with_reducible assumption | with_reducible refine Below.drew ?_ | with_reducible refine below_drewN' ?_ _ | with_reducible refine Below.alloc ?_ ?_ _ | with_reducible refine Below.setCell ?_ ?_ _ | with_reducible refine below_step (by assumption) ?_ ?_ | omega | (simp; done) | (simp; omega)))⟩
        · have Hbad := Lib.hid (labs_bad (lt_at Hx.out) (twice_bad HE.out Hx.out ht))
          have Ht := Lib.hid ht
          clear ht
          go_wp2_with (at_lookup; refine wpList_lookup_own_unit _ rfl _ _ 147 rfl 9 104 law_str Tryz.underlying147 (zero_unit _) w.heap.size (k) _ rfl (HM.out.alloc _) _ _ rfl Hkey.out ?_; rw [Hhas.out, Ht.out])
          have hcH := held_cell
          refine region_rel (by kernel_rfl) (by kernel_rfl) ?_
          repeat
            ((with_reducible refine relStep (fun K hK => ?_))
             (have HK := Lib.hid hK)
             clear hK
             (first
               | (apply relInl
                  · intro r n hf
                    have Hf := Lib.hid hf
                    clear hf
                    unfold relAt
                    go_simp
                    (first | (refine relUpon_val ?_ (Below.refl _ _); exact rfl) | exact rfl | (refine relUpon_enter ?_; fail))
                  (simp only [Act.put, List.setIfInBounds_toArray, List.set_cons_zero, List.set_cons_succ])
                  (with_reducible refine HK.out _ _ ?_)
                  clear HK K)
               | (fail)))
          refine relNil ?_
          intro r5 n5 hx5
          clear hcH
          (try simp only [List.nil_append, List.cons_append, List.mem_cons, List.not_mem_nil, or_false, forall_eq_or_imp, forall_eq, false_implies, implies_true] at hx5)
          obtain ⟨w5, hb5⟩ := n5
          (try dsimp only)
          obtain ⟨hc5, hf5⟩ := bcell hb5
          have hz5 := hb5.size
          (try simp at hz5)
          go_wp2
          go_ret
          exact ⟨by rw [Hbad.out]; rfl, by (repeat' (first | with_reducible exact Below.refl _ _ | with_reducible assumption | with_reducible refine Below.drew ?_ | with_reducible refine below_drewN' ?_ _ | with_reducible refine Below.alloc ?_ ?_ _ | with_reducible refine Below.setCell ?_ ?_ _ | with_reducible refine below_step (by assumption) ?_ ?_ | omega | (simp; done) | (simp; omega)))⟩
      · obtain rfl : k = n := by omega
        have Hend := Lib.hid (labs_end Hln.out (by omega) HE.out)
        go_wp2
        go_ret
        exact ⟨by rw [Hend.out]; rfl, by (repeat' (first | with_reducible exact Below.refl _ _ | with_reducible assumption | with_reducible refine Below.drew ?_ | with_reducible refine below_drewN' ?_ _ | with_reducible refine Below.alloc ?_ ?_ _ | with_reducible refine Below.setCell ?_ ?_ _ | with_reducible refine below_step (by assumption) ?_ ?_ | omega | (simp; done) | (simp; omega)))⟩
set_option maxRecDepth 100000 in
theorem parts_any (a0 a1 a2 a3 a4 : Int) (w : World) :
    Calls Tryz.prog 96 #[.agg #[.int .i64 a0, .int .i64 a1, .int .i64 a2, .int .i64 a3, .int .i64 a4]] w fun e w' => e = .returned (.agg #[.int .i64 a0, .int .i64 a1, .int .i64 a2, .int .i64 a3, .int .i64 a4]) ∧ Below w.heap.size w w' := by
  go_enter Tryz.func96, Tryz.ntmps96
  go_wp2
  refine bodyPost_ret (v := .agg #[.int .i64 a0, .int .i64 a1, .int .i64 a2, .int .i64 a3, .int .i64 a4]) (by simp [results, Tryz.results96, go_sem]) rfl ⟨rfl, ?_⟩
  (repeat' (first | with_reducible exact Below.refl _ _ | with_reducible assumption | with_reducible refine Below.drew ?_ | with_reducible refine below_drewN' ?_ _ | with_reducible refine Below.alloc ?_ ?_ _ | with_reducible refine Below.setCell ?_ ?_ _ | with_reducible refine below_step (by assumption) ?_ ?_ | omega | (simp; done) | (simp; omega)))
set_option maxHeartbeats 1000000 in
theorem resright_any (a0 a1 a2 a3 a4 : Int) (w : World) :
    Calls Tryz.prog 89 #[.agg #[.int .i64 a0, .int .i64 a1, .int .i64 a2, .int .i64 a3, .int .i64 a4]] w fun e w' => e = .returned (.bool (rtB a0 a1 a2 a3 a4)) ∧ Below w.heap.size w w' := by
  have i0 : ∀ w : World, (Instr.index 145 (.agg #[.int .i64 a0, .int .i64 a1, .int .i64 a2, .int .i64 a3, .int .i64 a4]) (.int .i64 0)).run Tryz.prog w = .ok (.int .i64 a0) w := fun _ => by kernel_rfl
  have i1 : ∀ w : World, (Instr.index 145 (.agg #[.int .i64 a0, .int .i64 a1, .int .i64 a2, .int .i64 a3, .int .i64 a4]) (.int .i64 1)).run Tryz.prog w = .ok (.int .i64 a1) w := fun _ => by kernel_rfl
  have i2 : ∀ w : World, (Instr.index 145 (.agg #[.int .i64 a0, .int .i64 a1, .int .i64 a2, .int .i64 a3, .int .i64 a4]) (.int .i64 2)).run Tryz.prog w = .ok (.int .i64 a2) w := fun _ => by kernel_rfl
  have i3 : ∀ w : World, (Instr.index 145 (.agg #[.int .i64 a0, .int .i64 a1, .int .i64 a2, .int .i64 a3, .int .i64 a4]) (.int .i64 3)).run Tryz.prog w = .ok (.int .i64 a3) w := fun _ => by kernel_rfl
  have i4 : ∀ w : World, (Instr.index 145 (.agg #[.int .i64 a0, .int .i64 a1, .int .i64 a2, .int .i64 a3, .int .i64 a4]) (.int .i64 4)).run Tryz.prog w = .ok (.int .i64 a4) w := fun _ => by kernel_rfl
  go_enter Tryz.func89, Tryz.ntmps89
  go_wp2_with (go_at_call 96; refine (parts_any _ _ _ _ _ _).mono ?_; rintro e w1 ⟨rfl, hb1⟩; obtain ⟨hc1, hf1⟩ := bcell hb1; have hz1 := hb1.size; (try simp at hz1); (try have hza : w.heap.size < w1.heap.size := by omega); (try have hzb : w.heap.size + 1 < w1.heap.size := by omega); (try have hzc : w.heap.size + 1 + 1 < w1.heap.size := by omega); (try have hzd : w.heap.size + 1 + 1 + 1 < w1.heap.size := by omega))
  refine wp_loop_rounds 6 ?_
  iterate 6
    all_goals (try rw [rounds_succ])
    all_goals (try go_wp2)
  all_goals (go_ret; exact ⟨by simp [rtB, okB]; omega, by (repeat' (first | with_reducible exact Below.refl _ _ | with_reducible assumption | with_reducible refine Below.drew ?_ | with_reducible refine below_drewN' ?_ _ | with_reducible refine Below.alloc ?_ ?_ _ | with_reducible refine Below.setCell ?_ ?_ _ | with_reducible refine below_step (by assumption) ?_ ?_ | omega | (simp; done) | (simp; omega)))⟩)
set_option maxRecDepth 100000 in
theorem swordorempty_any (s : ByteArray) (w : World) :
    Calls Tryz.prog 88 #[.string s] w fun e w' => e = .returned (.bool (weB s)) ∧ Below w.heap.size w w' := by
  unfold weB
  by_cases h : s = emp
  · obtain ⟨h1, h2, h3, h4⟩ := emp_lits h
    rw [decide_eq_true h]
    clear h
    go_enter Tryz.func88, Tryz.ntmps88
    go_wp2
    go_ret
    exact ⟨rfl, by (repeat' (first | with_reducible exact Below.refl _ _ | with_reducible assumption | with_reducible refine Below.drew ?_ | with_reducible refine below_drewN' ?_ _ | with_reducible refine Below.alloc ?_ ?_ _ | with_reducible refine Below.setCell ?_ ?_ _ | with_reducible refine below_step (by assumption) ?_ ?_ | omega | (simp; done) | (simp; omega)))⟩
  · obtain ⟨h1, h2, h3, h4⟩ := emp_litn h
    rw [decide_eq_false h]
    clear h
    go_enter Tryz.func88, Tryz.ntmps88
    go_wp2_with (go_at_call 71; refine (word_any _ _).mono ?_; rintro e w1 ⟨rfl, hb1⟩; obtain ⟨hc1, hf1⟩ := bcell hb1; have hz1 := hb1.size; (try simp at hz1); (try have hza : w.heap.size < w1.heap.size := by omega); (try have hzb : w.heap.size + 1 < w1.heap.size := by omega); (try have hzc : w.heap.size + 1 + 1 < w1.heap.size := by omega); (try have hzd : w.heap.size + 1 + 1 + 1 < w1.heap.size := by omega))
    go_ret
    exact ⟨rfl, by (repeat' (first | with_reducible exact Below.refl _ _ | with_reducible assumption | with_reducible refine Below.drew ?_ | with_reducible refine below_drewN' ?_ _ | with_reducible refine Below.alloc ?_ ?_ _ | with_reducible refine Below.setCell ?_ ?_ _ | with_reducible refine below_step (by assumption) ?_ ?_ | omega | (simp; done) | (simp; omega)))⟩
set_option maxRecDepth 100000 in
set_option maxHeartbeats 8000000 in
theorem srightm_any (m : Mac) (w : World) (hA : MacIn w m) (hLt : lightM m = true) :
    Calls Tryz.prog 73 #[.agg #[.string (m).nm, .string (m).gp, .int .i64 (m).r0, .int .i64 (m).r1, .int .i64 (m).r2, .int .i64 (m).r3, .int .i64 (m).r4, .slice (m).la (m).labs.length (m).lk, .slice (m).ta (m).tnts.length (m).tk, .bool (m).rd]] w fun e w' => e = .returned (.bool (rightM m)) ∧ Below w.heap.size w w' := by
  obtain ⟨nm, gp, r0, r1, r2, r3, r4, la, lk, L, ta, tk, T, rd⟩ := m
  obtain ⟨⟨hL, hT, hl, ht⟩, hln, hlc, htn, htc⟩ := hA
  simp only at hL hT hl ht hln hlc htn htc
  have hx : (decide (nm.size ≤ 300) && decide (gp.size ≤ 300) && lightL L && lightB [] T) = true := hLt
  rw [Bool.and_eq_true, Bool.and_eq_true, Bool.and_eq_true, decide_eq_true_eq, decide_eq_true_eq] at hx
  obtain ⟨⟨⟨hn, hg⟩, hlL⟩, hlT⟩ := hx
  have HsL := Lib.hid (show ∀ x ∈ L, x.key.size ≤ 1000000000 from fun x hx => by
    have := ((lightL_iff L).1 hlL).2 x hx
    omega)
  have htT : T.length ≤ 1000000 := by
    unfold lightB at hlT
    rw [Bool.and_eq_true, decide_eq_true_eq] at hlT
    have := hlT.1.2
    omega
  clear hlL hlT hLt ht
  have HL := Lib.hid (hL.mono ((Below.refl _ w).alloc (Nat.le_refl _) (.cells #[.string nm, .string gp, .int .i64 r0, .int .i64 r1, .int .i64 r2, .int .i64 r3, .int .i64 r4, .slice la L.length lk, .slice ta T.length tk, .bool rd] 35)))
  have HT := Lib.hid (hT.mono ((Below.refl _ w).alloc (Nat.le_refl _) (.cells #[.string nm, .string gp, .int .i64 r0, .int .i64 r1, .int .i64 r2, .int .i64 r3, .int .i64 r4, .slice la L.length lk, .slice ta T.length tk, .bool rd] 35)))
  have Htn := Lib.hid htn
  have Htc := Lib.hid htc
  clear hL hT hln hlc htn htc
  have hv : rightM ⟨nm, gp, r0, r1, r2, r3, r4, la, lk, L, ta, tk, T, rd⟩ = (weB nm && weB gp && rtB r0 r1 r2 r3 r4 && labsB L && rightT T) := rfl
  rw [hv]
  clear hv
  cases h1 : weB nm
  rotate_left
  cases h2 : weB gp
  rotate_left
  cases h3 : rtB r0 r1 r2 r3 r4
  rotate_left
  cases h4 : labsB L
  rotate_left
  all_goals
    have H1 := Lib.hid h1
    first | (have H2 := Lib.hid h2) | skip
    first | (have H3 := Lib.hid h3) | skip
    first | (have H4 := Lib.hid h4) | skip
    clear h1
    first | clear h2 | skip
    first | clear h3 | skip
    first | clear h4 | skip
    go_enter Tryz.func73, Tryz.ntmps73
    go_wp2_with (first
      | (go_at_call 88; (with_reducible refine (swordorempty_any nm _).mono ?_); rw [H1.out]; rintro e w1 ⟨rfl, hb1⟩; obtain ⟨hc1, hf1⟩ := bcell hb1; have hz1 := hb1.size; (try simp at hz1); have hw1 : w.heap.size < w1.heap.size := by omega)
      | (go_at_call 88; (with_reducible refine (swordorempty_any gp _).mono ?_); rw [H2.out]; rintro e w2 ⟨rfl, hb2⟩; obtain ⟨hc2, hf2⟩ := bcell hb2; have hz2 := hb2.size; have hw2 : w.heap.size < w2.heap.size := by omega)
      | (go_at_call 89; (with_reducible refine (resright_any r0 r1 r2 r3 r4 _).mono ?_); rw [H3.out]; rintro e w3 ⟨rfl, hb3⟩; obtain ⟨hc3, hf3⟩ := bcell hb3; have hz3 := hb3.size; have hw3 : w.heap.size < w3.heap.size := by omega)
      | (go_at_call 90; (with_reducible refine (lright_any la lk L _ (((HL.out.mono hb1).mono hb2).mono hb3) hl HsL.out).mono ?_); rw [H4.out]; rintro e w4 ⟨rfl, hb4⟩; obtain ⟨hc4, hf4⟩ := bcell hb4; have hz4 := hb4.size; have hw4 : w.heap.size < w4.heap.size := by omega)
      | (go_at_call 91; (with_reducible refine (tright_any ta tk T _ ((((HT.out.mono hb1).mono hb2).mono hb3).mono hb4) htT Htn.out Htc.out).mono ?_); rintro e w5 ⟨rfl, hb5⟩; have hz5 := hb5.size))
    go_ret
    exact ⟨by simp, by (repeat' (first | with_reducible exact Below.refl _ _ | with_reducible assumption | with_reducible refine Below.drew ?_ | with_reducible refine below_drewN' ?_ _ | with_reducible refine Below.alloc ?_ ?_ _ | with_reducible refine Below.setCell ?_ ?_ _ | with_reducible refine below_step (by assumption) ?_ ?_ | omega | (simp; done) | (simp; omega)))⟩
def inB (n lo hi : Int) : Bool := decide (lo ≤ n ∧ n ≤ hi)
set_option maxRecDepth 100000 in
theorem in_any (n lo hi : Int) (w : World) :
    Calls Tryz.prog 44 #[.int .i64 n, .int .i64 lo, .int .i64 hi] w fun e w' => e = .returned (.bool (inB n lo hi)) ∧ Below w.heap.size w w' := by
  unfold inB
  by_cases h1 : lo ≤ n
  · by_cases h2 : n ≤ hi
    · rw [decide_eq_true ⟨h1, h2⟩]
      go_enter Tryz.func44, Tryz.ntmps44
      go_wp2
      go_ret
      exact ⟨by first | rfl | (simp; omega), by (repeat' (first | with_reducible exact Below.refl _ _ | with_reducible assumption | with_reducible refine Below.drew ?_ | with_reducible refine below_drewN' ?_ _ | with_reducible refine Below.alloc ?_ ?_ _ | with_reducible refine Below.setCell ?_ ?_ _ | with_reducible refine below_step (by assumption) ?_ ?_ | omega | (simp; done) | (simp; omega)))⟩
    · rw [decide_eq_false (fun h => h2 h.2)]
      go_enter Tryz.func44, Tryz.ntmps44
      go_wp2
      go_ret
      exact ⟨by first | rfl | (simp; omega), by (repeat' (first | with_reducible exact Below.refl _ _ | with_reducible assumption | with_reducible refine Below.drew ?_ | with_reducible refine below_drewN' ?_ _ | with_reducible refine Below.alloc ?_ ?_ _ | with_reducible refine Below.setCell ?_ ?_ _ | with_reducible refine below_step (by assumption) ?_ ?_ | omega | (simp; done) | (simp; omega)))⟩
  · have h1' : n < lo := by omega
    rw [decide_eq_false (fun h => h1 h.1)]
    go_enter Tryz.func44, Tryz.ntmps44
    go_wp2
    go_ret
    exact ⟨by first | rfl | (simp; omega), by (repeat' (first | with_reducible exact Below.refl _ _ | with_reducible assumption | with_reducible refine Below.drew ?_ | with_reducible refine below_drewN' ?_ _ | with_reducible refine Below.alloc ?_ ?_ _ | with_reducible refine Below.setCell ?_ ?_ _ | with_reducible refine below_step (by assumption) ?_ ?_ | omega | (simp; done) | (simp; omega)))⟩
set_option maxRecDepth 100000 in
theorem within_any (n lo hi : Int) (w : World) :
    Calls Tryz.prog 72 #[.int .i64 n, .int .i64 lo, .int .i64 hi] w fun e w' => e = .returned (.bool (inB n lo hi)) ∧ Below w.heap.size w w' := by
  unfold inB
  by_cases h1 : lo ≤ n
  · by_cases h2 : n ≤ hi
    · rw [decide_eq_true ⟨h1, h2⟩]
      go_enter Tryz.func72, Tryz.ntmps72
      go_wp2
      go_ret
      exact ⟨by first | rfl | (simp; omega), by (repeat' (first | with_reducible exact Below.refl _ _ | with_reducible assumption | with_reducible refine Below.drew ?_ | with_reducible refine below_drewN' ?_ _ | with_reducible refine Below.alloc ?_ ?_ _ | with_reducible refine Below.setCell ?_ ?_ _ | with_reducible refine below_step (by assumption) ?_ ?_ | omega | (simp; done) | (simp; omega)))⟩
    · rw [decide_eq_false (fun h => h2 h.2)]
      go_enter Tryz.func72, Tryz.ntmps72
      go_wp2
      go_ret
      exact ⟨by first | rfl | (simp; omega), by (repeat' (first | with_reducible exact Below.refl _ _ | with_reducible assumption | with_reducible refine Below.drew ?_ | with_reducible refine below_drewN' ?_ _ | with_reducible refine Below.alloc ?_ ?_ _ | with_reducible refine Below.setCell ?_ ?_ _ | with_reducible refine below_step (by assumption) ?_ ?_ | omega | (simp; done) | (simp; omega)))⟩
  · have h1' : n < lo := by omega
    rw [decide_eq_false (fun h => h1 h.1)]
    go_enter Tryz.func72, Tryz.ntmps72
    go_wp2
    go_ret
    exact ⟨by first | rfl | (simp; omega), by (repeat' (first | with_reducible exact Below.refl _ _ | with_reducible assumption | with_reducible refine Below.drew ?_ | with_reducible refine below_drewN' ?_ _ | with_reducible refine Below.alloc ?_ ?_ _ | with_reducible refine Below.setCell ?_ ?_ _ | with_reducible refine below_step (by assumption) ?_ ?_ | omega | (simp; done) | (simp; omega)))⟩
def rightG (g : Gp) : Bool := wordB g.nm && inB g.mx 1 200 && inB g.mn 0 g.mx && inB g.pr 0 1125899906842624 && inB g.rk 0 1000 && rightM g.like && decide (g.like.nm = emp) && decide (g.like.gp = g.nm) && g.like.rd
set_option maxRecDepth 100000 in
set_option maxHeartbeats 16000000 in
theorem refrightgroup_any (g : Gp) (w : World) (hA : MacAt w g.like) (hs : g.nm.size ≤ 300) (hLt : lightM g.like = true) :
    Calls Tryz.prog 22 #[.agg #[.string (g).nm, .int .i64 (g).mn, .int .i64 (g).mx, .string (g).like.nm, .string (g).like.gp, .int .i64 (g).like.r0, .int .i64 (g).like.r1, .int .i64 (g).like.r2, .int .i64 (g).like.r3, .int .i64 (g).like.r4, .slice (g).like.la (g).like.labs.length (g).like.lk, .slice (g).like.ta (g).like.tnts.length (g).like.tk, .bool (g).like.rd, .int .i64 (g).pr, .int .i64 (g).rk]] w fun e w' => e = .returned (.bool (rightG g)) ∧ Below w.heap.size w w' := by
  obtain ⟨nm, mn, mx, M, pr, rk⟩ := g
  dsimp only at hA hs hLt ⊢
  have hs1 : nm.size ≤ 1000000000 := by omega
  have HM : ∀ V : World, Below w.heap.size w V → Calls Tryz.prog 45 #[.agg #[.string (M).nm, .string (M).gp, .int .i64 (M).r0, .int .i64 (M).r1, .int .i64 (M).r2, .int .i64 (M).r3, .int .i64 (M).r4, .slice (M).la (M).labs.length (M).lk, .slice (M).ta (M).tnts.length (M).tk, .bool (M).rd]] V fun e w' => e = .returned (.bool (rightM M)) ∧ Below V.heap.size V w' := fun V hV => rightm_any M V (hA.mono hV) hLt
  have HMM := Lib.hid HM
  clear HM hA hLt hs
  cases h1 : wordB nm
  · have hv : rightG ⟨nm, mn, mx, M, pr, rk⟩ = false := by simp [rightG, h1]
    rw [hv]
    have H1 := Lib.hid h1
    clear hv h1
    go_enter Tryz.func22, Tryz.ntmps22
    go_wp2_with (first
      | (go_at_call 43; (with_reducible refine (refword_any nm hs1 _).mono ?_); rw [H1.out]; rintro e w1 ⟨rfl, hb1⟩; obtain ⟨hc1, hf1⟩ := bcell hb1; have hz1 := hb1.size; (try simp at hz1); have hw1 : w.heap.size < w1.heap.size := (by omega))
      | (go_at_call 44; (with_reducible refine (in_any mx 1 200 _).mono ?_); rw [H2.out]; rintro e w2 ⟨rfl, hb2⟩; obtain ⟨hc2, hf2⟩ := bcell hb2; have hz2 := hb2.size; have hw2 : w.heap.size < w2.heap.size := (by omega))
      | (go_at_call 44; (with_reducible refine (in_any mn 0 mx _).mono ?_); rw [H3.out]; rintro e w3 ⟨rfl, hb3⟩; obtain ⟨hc3, hf3⟩ := bcell hb3; have hz3 := hb3.size; have hw3 : w.heap.size < w3.heap.size := (by omega))
      | (go_at_call 44; (with_reducible refine (in_any pr 0 1125899906842624 _).mono ?_); rw [H4.out]; rintro e w4 ⟨rfl, hb4⟩; obtain ⟨hc4, hf4⟩ := bcell hb4; have hz4 := hb4.size; have hw4 : w.heap.size < w4.heap.size := (by omega))
      | (go_at_call 44; (with_reducible refine (in_any rk 0 1000 _).mono ?_); rw [H5.out]; rintro e w5 ⟨rfl, hb5⟩; obtain ⟨hc5, hf5⟩ := bcell hb5; have hz5 := hb5.size; have hw5 : w.heap.size < w5.heap.size := (by omega))
      | (go_at_call 45; (with_reducible refine (HMM.out _ (by (repeat' (first | with_reducible exact Below.refl _ _ | with_reducible assumption | with_reducible refine Below.drew ?_ | with_reducible refine below_drewN' ?_ _ | with_reducible refine Below.alloc ?_ ?_ _ | with_reducible refine Below.setCell ?_ ?_ _ | with_reducible refine below_step (by assumption) ?_ ?_ | omega | (simp; done) | (simp; omega))))).mono ?_); rw [H6.out]; rintro e w6 ⟨rfl, hb6⟩; obtain ⟨hc6, hf6⟩ := bcell hb6; have hz6 := hb6.size; have hw6 : w.heap.size < w6.heap.size := (by omega)))
    go_ret
    exact ⟨by first | rfl | (simp; done), by (repeat' (first | with_reducible exact Below.refl _ _ | with_reducible assumption | with_reducible refine Below.drew ?_ | with_reducible refine below_drewN' ?_ _ | with_reducible refine Below.alloc ?_ ?_ _ | with_reducible refine Below.setCell ?_ ?_ _ | with_reducible refine below_step (by assumption) ?_ ?_ | omega | (simp; done) | (simp; omega)))⟩
  cases h2 : inB mx 1 200
  · have hv : rightG ⟨nm, mn, mx, M, pr, rk⟩ = false := by simp [rightG, h1, h2]
    rw [hv]
    have H1 := Lib.hid h1
    have H2 := Lib.hid h2
    clear hv h1 h2
    go_enter Tryz.func22, Tryz.ntmps22
    go_wp2_with (first
      | (go_at_call 43; (with_reducible refine (refword_any nm hs1 _).mono ?_); rw [H1.out]; rintro e w1 ⟨rfl, hb1⟩; obtain ⟨hc1, hf1⟩ := bcell hb1; have hz1 := hb1.size; (try simp at hz1); have hw1 : w.heap.size < w1.heap.size := (by omega))
      | (go_at_call 44; (with_reducible refine (in_any mx 1 200 _).mono ?_); rw [H2.out]; rintro e w2 ⟨rfl, hb2⟩; obtain ⟨hc2, hf2⟩ := bcell hb2; have hz2 := hb2.size; have hw2 : w.heap.size < w2.heap.size := (by omega))
      | (go_at_call 44; (with_reducible refine (in_any mn 0 mx _).mono ?_); rw [H3.out]; rintro e w3 ⟨rfl, hb3⟩; obtain ⟨hc3, hf3⟩ := bcell hb3; have hz3 := hb3.size; have hw3 : w.heap.size < w3.heap.size := (by omega))
      | (go_at_call 44; (with_reducible refine (in_any pr 0 1125899906842624 _).mono ?_); rw [H4.out]; rintro e w4 ⟨rfl, hb4⟩; obtain ⟨hc4, hf4⟩ := bcell hb4; have hz4 := hb4.size; have hw4 : w.heap.size < w4.heap.size := (by omega))
      | (go_at_call 44; (with_reducible refine (in_any rk 0 1000 _).mono ?_); rw [H5.out]; rintro e w5 ⟨rfl, hb5⟩; obtain ⟨hc5, hf5⟩ := bcell hb5; have hz5 := hb5.size; have hw5 : w.heap.size < w5.heap.size := (by omega))
      | (go_at_call 45; (with_reducible refine (HMM.out _ (by (repeat' (first | with_reducible exact Below.refl _ _ | with_reducible assumption | with_reducible refine Below.drew ?_ | with_reducible refine below_drewN' ?_ _ | with_reducible refine Below.alloc ?_ ?_ _ | with_reducible refine Below.setCell ?_ ?_ _ | with_reducible refine below_step (by assumption) ?_ ?_ | omega | (simp; done) | (simp; omega))))).mono ?_); rw [H6.out]; rintro e w6 ⟨rfl, hb6⟩; obtain ⟨hc6, hf6⟩ := bcell hb6; have hz6 := hb6.size; have hw6 : w.heap.size < w6.heap.size := (by omega)))
    go_ret
    exact ⟨by first | rfl | (simp; done), by (repeat' (first | with_reducible exact Below.refl _ _ | with_reducible assumption | with_reducible refine Below.drew ?_ | with_reducible refine below_drewN' ?_ _ | with_reducible refine Below.alloc ?_ ?_ _ | with_reducible refine Below.setCell ?_ ?_ _ | with_reducible refine below_step (by assumption) ?_ ?_ | omega | (simp; done) | (simp; omega)))⟩
  cases h3 : inB mn 0 mx
  · have hv : rightG ⟨nm, mn, mx, M, pr, rk⟩ = false := by simp [rightG, h1, h2, h3]
    rw [hv]
    have H1 := Lib.hid h1
    have H2 := Lib.hid h2
    have H3 := Lib.hid h3
    clear hv h1 h2 h3
    go_enter Tryz.func22, Tryz.ntmps22
    go_wp2_with (first
      | (go_at_call 43; (with_reducible refine (refword_any nm hs1 _).mono ?_); rw [H1.out]; rintro e w1 ⟨rfl, hb1⟩; obtain ⟨hc1, hf1⟩ := bcell hb1; have hz1 := hb1.size; (try simp at hz1); have hw1 : w.heap.size < w1.heap.size := (by omega))
      | (go_at_call 44; (with_reducible refine (in_any mx 1 200 _).mono ?_); rw [H2.out]; rintro e w2 ⟨rfl, hb2⟩; obtain ⟨hc2, hf2⟩ := bcell hb2; have hz2 := hb2.size; have hw2 : w.heap.size < w2.heap.size := (by omega))
      | (go_at_call 44; (with_reducible refine (in_any mn 0 mx _).mono ?_); rw [H3.out]; rintro e w3 ⟨rfl, hb3⟩; obtain ⟨hc3, hf3⟩ := bcell hb3; have hz3 := hb3.size; have hw3 : w.heap.size < w3.heap.size := (by omega))
      | (go_at_call 44; (with_reducible refine (in_any pr 0 1125899906842624 _).mono ?_); rw [H4.out]; rintro e w4 ⟨rfl, hb4⟩; obtain ⟨hc4, hf4⟩ := bcell hb4; have hz4 := hb4.size; have hw4 : w.heap.size < w4.heap.size := (by omega))
      | (go_at_call 44; (with_reducible refine (in_any rk 0 1000 _).mono ?_); rw [H5.out]; rintro e w5 ⟨rfl, hb5⟩; obtain ⟨hc5, hf5⟩ := bcell hb5; have hz5 := hb5.size; have hw5 : w.heap.size < w5.heap.size := (by omega))
      | (go_at_call 45; (with_reducible refine (HMM.out _ (by (repeat' (first | with_reducible exact Below.refl _ _ | with_reducible assumption | with_reducible refine Below.drew ?_ | with_reducible refine below_drewN' ?_ _ | with_reducible refine Below.alloc ?_ ?_ _ | with_reducible refine Below.setCell ?_ ?_ _ | with_reducible refine below_step (by assumption) ?_ ?_ | omega | (simp; done) | (simp; omega))))).mono ?_); rw [H6.out]; rintro e w6 ⟨rfl, hb6⟩; obtain ⟨hc6, hf6⟩ := bcell hb6; have hz6 := hb6.size; have hw6 : w.heap.size < w6.heap.size := (by omega)))
    go_ret
    exact ⟨by first | rfl | (simp; done), by (repeat' (first | with_reducible exact Below.refl _ _ | with_reducible assumption | with_reducible refine Below.drew ?_ | with_reducible refine below_drewN' ?_ _ | with_reducible refine Below.alloc ?_ ?_ _ | with_reducible refine Below.setCell ?_ ?_ _ | with_reducible refine below_step (by assumption) ?_ ?_ | omega | (simp; done) | (simp; omega)))⟩
  cases h4 : inB pr 0 1125899906842624
  · have hv : rightG ⟨nm, mn, mx, M, pr, rk⟩ = false := by simp [rightG, h1, h2, h3, h4]
    rw [hv]
    have H1 := Lib.hid h1
    have H2 := Lib.hid h2
    have H3 := Lib.hid h3
    have H4 := Lib.hid h4
    clear hv h1 h2 h3 h4
    go_enter Tryz.func22, Tryz.ntmps22
    go_wp2_with (first
      | (go_at_call 43; (with_reducible refine (refword_any nm hs1 _).mono ?_); rw [H1.out]; rintro e w1 ⟨rfl, hb1⟩; obtain ⟨hc1, hf1⟩ := bcell hb1; have hz1 := hb1.size; (try simp at hz1); have hw1 : w.heap.size < w1.heap.size := (by omega))
      | (go_at_call 44; (with_reducible refine (in_any mx 1 200 _).mono ?_); rw [H2.out]; rintro e w2 ⟨rfl, hb2⟩; obtain ⟨hc2, hf2⟩ := bcell hb2; have hz2 := hb2.size; have hw2 : w.heap.size < w2.heap.size := (by omega))
      | (go_at_call 44; (with_reducible refine (in_any mn 0 mx _).mono ?_); rw [H3.out]; rintro e w3 ⟨rfl, hb3⟩; obtain ⟨hc3, hf3⟩ := bcell hb3; have hz3 := hb3.size; have hw3 : w.heap.size < w3.heap.size := (by omega))
      | (go_at_call 44; (with_reducible refine (in_any pr 0 1125899906842624 _).mono ?_); rw [H4.out]; rintro e w4 ⟨rfl, hb4⟩; obtain ⟨hc4, hf4⟩ := bcell hb4; have hz4 := hb4.size; have hw4 : w.heap.size < w4.heap.size := (by omega))
      | (go_at_call 44; (with_reducible refine (in_any rk 0 1000 _).mono ?_); rw [H5.out]; rintro e w5 ⟨rfl, hb5⟩; obtain ⟨hc5, hf5⟩ := bcell hb5; have hz5 := hb5.size; have hw5 : w.heap.size < w5.heap.size := (by omega))
      | (go_at_call 45; (with_reducible refine (HMM.out _ (by (repeat' (first | with_reducible exact Below.refl _ _ | with_reducible assumption | with_reducible refine Below.drew ?_ | with_reducible refine below_drewN' ?_ _ | with_reducible refine Below.alloc ?_ ?_ _ | with_reducible refine Below.setCell ?_ ?_ _ | with_reducible refine below_step (by assumption) ?_ ?_ | omega | (simp; done) | (simp; omega))))).mono ?_); rw [H6.out]; rintro e w6 ⟨rfl, hb6⟩; obtain ⟨hc6, hf6⟩ := bcell hb6; have hz6 := hb6.size; have hw6 : w.heap.size < w6.heap.size := (by omega)))
    go_ret
    exact ⟨by first | rfl | (simp; done), by (repeat' (first | with_reducible exact Below.refl _ _ | with_reducible assumption | with_reducible refine Below.drew ?_ | with_reducible refine below_drewN' ?_ _ | with_reducible refine Below.alloc ?_ ?_ _ | with_reducible refine Below.setCell ?_ ?_ _ | with_reducible refine below_step (by assumption) ?_ ?_ | omega | (simp; done) | (simp; omega)))⟩
  cases h5 : inB rk 0 1000
  · have hv : rightG ⟨nm, mn, mx, M, pr, rk⟩ = false := by simp [rightG, h1, h2, h3, h4, h5]
    rw [hv]
    have H1 := Lib.hid h1
    have H2 := Lib.hid h2
    have H3 := Lib.hid h3
    have H4 := Lib.hid h4
    have H5 := Lib.hid h5
    clear hv h1 h2 h3 h4 h5
    go_enter Tryz.func22, Tryz.ntmps22
    go_wp2_with (first
      | (go_at_call 43; (with_reducible refine (refword_any nm hs1 _).mono ?_); rw [H1.out]; rintro e w1 ⟨rfl, hb1⟩; obtain ⟨hc1, hf1⟩ := bcell hb1; have hz1 := hb1.size; (try simp at hz1); have hw1 : w.heap.size < w1.heap.size := (by omega))
      | (go_at_call 44; (with_reducible refine (in_any mx 1 200 _).mono ?_); rw [H2.out]; rintro e w2 ⟨rfl, hb2⟩; obtain ⟨hc2, hf2⟩ := bcell hb2; have hz2 := hb2.size; have hw2 : w.heap.size < w2.heap.size := (by omega))
      | (go_at_call 44; (with_reducible refine (in_any mn 0 mx _).mono ?_); rw [H3.out]; rintro e w3 ⟨rfl, hb3⟩; obtain ⟨hc3, hf3⟩ := bcell hb3; have hz3 := hb3.size; have hw3 : w.heap.size < w3.heap.size := (by omega))
      | (go_at_call 44; (with_reducible refine (in_any pr 0 1125899906842624 _).mono ?_); rw [H4.out]; rintro e w4 ⟨rfl, hb4⟩; obtain ⟨hc4, hf4⟩ := bcell hb4; have hz4 := hb4.size; have hw4 : w.heap.size < w4.heap.size := (by omega))
      | (go_at_call 44; (with_reducible refine (in_any rk 0 1000 _).mono ?_); rw [H5.out]; rintro e w5 ⟨rfl, hb5⟩; obtain ⟨hc5, hf5⟩ := bcell hb5; have hz5 := hb5.size; have hw5 : w.heap.size < w5.heap.size := (by omega))
      | (go_at_call 45; (with_reducible refine (HMM.out _ (by (repeat' (first | with_reducible exact Below.refl _ _ | with_reducible assumption | with_reducible refine Below.drew ?_ | with_reducible refine below_drewN' ?_ _ | with_reducible refine Below.alloc ?_ ?_ _ | with_reducible refine Below.setCell ?_ ?_ _ | with_reducible refine below_step (by assumption) ?_ ?_ | omega | (simp; done) | (simp; omega))))).mono ?_); rw [H6.out]; rintro e w6 ⟨rfl, hb6⟩; obtain ⟨hc6, hf6⟩ := bcell hb6; have hz6 := hb6.size; have hw6 : w.heap.size < w6.heap.size := (by omega)))
    go_ret
    exact ⟨by first | rfl | (simp; done), by (repeat' (first | with_reducible exact Below.refl _ _ | with_reducible assumption | with_reducible refine Below.drew ?_ | with_reducible refine below_drewN' ?_ _ | with_reducible refine Below.alloc ?_ ?_ _ | with_reducible refine Below.setCell ?_ ?_ _ | with_reducible refine below_step (by assumption) ?_ ?_ | omega | (simp; done) | (simp; omega)))⟩
  cases h6 : rightM M
  · have hv : rightG ⟨nm, mn, mx, M, pr, rk⟩ = false := by simp [rightG, h1, h2, h3, h4, h5, h6]
    rw [hv]
    have H1 := Lib.hid h1
    have H2 := Lib.hid h2
    have H3 := Lib.hid h3
    have H4 := Lib.hid h4
    have H5 := Lib.hid h5
    have H6 := Lib.hid h6
    clear hv h1 h2 h3 h4 h5 h6
    go_enter Tryz.func22, Tryz.ntmps22
    go_wp2_with (first
      | (go_at_call 43; (with_reducible refine (refword_any nm hs1 _).mono ?_); rw [H1.out]; rintro e w1 ⟨rfl, hb1⟩; obtain ⟨hc1, hf1⟩ := bcell hb1; have hz1 := hb1.size; (try simp at hz1); have hw1 : w.heap.size < w1.heap.size := (by omega))
      | (go_at_call 44; (with_reducible refine (in_any mx 1 200 _).mono ?_); rw [H2.out]; rintro e w2 ⟨rfl, hb2⟩; obtain ⟨hc2, hf2⟩ := bcell hb2; have hz2 := hb2.size; have hw2 : w.heap.size < w2.heap.size := (by omega))
      | (go_at_call 44; (with_reducible refine (in_any mn 0 mx _).mono ?_); rw [H3.out]; rintro e w3 ⟨rfl, hb3⟩; obtain ⟨hc3, hf3⟩ := bcell hb3; have hz3 := hb3.size; have hw3 : w.heap.size < w3.heap.size := (by omega))
      | (go_at_call 44; (with_reducible refine (in_any pr 0 1125899906842624 _).mono ?_); rw [H4.out]; rintro e w4 ⟨rfl, hb4⟩; obtain ⟨hc4, hf4⟩ := bcell hb4; have hz4 := hb4.size; have hw4 : w.heap.size < w4.heap.size := (by omega))
      | (go_at_call 44; (with_reducible refine (in_any rk 0 1000 _).mono ?_); rw [H5.out]; rintro e w5 ⟨rfl, hb5⟩; obtain ⟨hc5, hf5⟩ := bcell hb5; have hz5 := hb5.size; have hw5 : w.heap.size < w5.heap.size := (by omega))
      | (go_at_call 45; (with_reducible refine (HMM.out _ (by (repeat' (first | with_reducible exact Below.refl _ _ | with_reducible assumption | with_reducible refine Below.drew ?_ | with_reducible refine below_drewN' ?_ _ | with_reducible refine Below.alloc ?_ ?_ _ | with_reducible refine Below.setCell ?_ ?_ _ | with_reducible refine below_step (by assumption) ?_ ?_ | omega | (simp; done) | (simp; omega))))).mono ?_); rw [H6.out]; rintro e w6 ⟨rfl, hb6⟩; obtain ⟨hc6, hf6⟩ := bcell hb6; have hz6 := hb6.size; have hw6 : w.heap.size < w6.heap.size := (by omega)))
    go_ret
    exact ⟨by first | rfl | (simp; done), by (repeat' (first | with_reducible exact Below.refl _ _ | with_reducible assumption | with_reducible refine Below.drew ?_ | with_reducible refine below_drewN' ?_ _ | with_reducible refine Below.alloc ?_ ?_ _ | with_reducible refine Below.setCell ?_ ?_ _ | with_reducible refine below_step (by assumption) ?_ ?_ | omega | (simp; done) | (simp; omega)))⟩
  have hv0 : rightG ⟨nm, mn, mx, M, pr, rk⟩ = (decide (M.nm = emp) && decide (M.gp = nm) && M.rd) := by simp [rightG, h1, h2, h3, h4, h5, h6]
  rw [hv0]
  have H1 := Lib.hid h1
  have H2 := Lib.hid h2
  have H3 := Lib.hid h3
  have H4 := Lib.hid h4
  have H5 := Lib.hid h5
  have H6 := Lib.hid h6
  clear hv0 h1 h2 h3 h4 h5 h6
  obtain ⟨mm, mg, r0, r1, r2, r3, r4, la, lk, L, ta, tk, T, rd⟩ := M
  dsimp only
  by_cases h7 : mm = emp
  · obtain ⟨p1, p2, p3, p4⟩ := emp_lits h7
    rw [decide_eq_true h7]
    clear h7
    by_cases h8 : mg = nm
    · have k8 := tnt_str h8
      rw [decide_eq_true h8]
      clear h8
      cases rd
      · skip
        go_enter Tryz.func22, Tryz.ntmps22
        go_wp2_with (first
          | (go_at_call 43; (with_reducible refine (refword_any nm hs1 _).mono ?_); rw [H1.out]; rintro e w1 ⟨rfl, hb1⟩; obtain ⟨hc1, hf1⟩ := bcell hb1; have hz1 := hb1.size; (try simp at hz1); have hw1 : w.heap.size < w1.heap.size := (by omega))
          | (go_at_call 44; (with_reducible refine (in_any mx 1 200 _).mono ?_); rw [H2.out]; rintro e w2 ⟨rfl, hb2⟩; obtain ⟨hc2, hf2⟩ := bcell hb2; have hz2 := hb2.size; have hw2 : w.heap.size < w2.heap.size := (by omega))
          | (go_at_call 44; (with_reducible refine (in_any mn 0 mx _).mono ?_); rw [H3.out]; rintro e w3 ⟨rfl, hb3⟩; obtain ⟨hc3, hf3⟩ := bcell hb3; have hz3 := hb3.size; have hw3 : w.heap.size < w3.heap.size := (by omega))
          | (go_at_call 44; (with_reducible refine (in_any pr 0 1125899906842624 _).mono ?_); rw [H4.out]; rintro e w4 ⟨rfl, hb4⟩; obtain ⟨hc4, hf4⟩ := bcell hb4; have hz4 := hb4.size; have hw4 : w.heap.size < w4.heap.size := (by omega))
          | (go_at_call 44; (with_reducible refine (in_any rk 0 1000 _).mono ?_); rw [H5.out]; rintro e w5 ⟨rfl, hb5⟩; obtain ⟨hc5, hf5⟩ := bcell hb5; have hz5 := hb5.size; have hw5 : w.heap.size < w5.heap.size := (by omega))
          | (go_at_call 45; (with_reducible refine (HMM.out _ (by (repeat' (first | with_reducible exact Below.refl _ _ | with_reducible assumption | with_reducible refine Below.drew ?_ | with_reducible refine below_drewN' ?_ _ | with_reducible refine Below.alloc ?_ ?_ _ | with_reducible refine Below.setCell ?_ ?_ _ | with_reducible refine below_step (by assumption) ?_ ?_ | omega | (simp; done) | (simp; omega))))).mono ?_); rw [H6.out]; rintro e w6 ⟨rfl, hb6⟩; obtain ⟨hc6, hf6⟩ := bcell hb6; have hz6 := hb6.size; have hw6 : w.heap.size < w6.heap.size := (by omega)))
        go_ret
        exact ⟨by first | rfl | (simp; done), by (repeat' (first | with_reducible exact Below.refl _ _ | with_reducible assumption | with_reducible refine Below.drew ?_ | with_reducible refine below_drewN' ?_ _ | with_reducible refine Below.alloc ?_ ?_ _ | with_reducible refine Below.setCell ?_ ?_ _ | with_reducible refine below_step (by assumption) ?_ ?_ | omega | (simp; done) | (simp; omega)))⟩
      · skip
        go_enter Tryz.func22, Tryz.ntmps22
        go_wp2_with (first
          | (go_at_call 43; (with_reducible refine (refword_any nm hs1 _).mono ?_); rw [H1.out]; rintro e w1 ⟨rfl, hb1⟩; obtain ⟨hc1, hf1⟩ := bcell hb1; have hz1 := hb1.size; (try simp at hz1); have hw1 : w.heap.size < w1.heap.size := (by omega))
          | (go_at_call 44; (with_reducible refine (in_any mx 1 200 _).mono ?_); rw [H2.out]; rintro e w2 ⟨rfl, hb2⟩; obtain ⟨hc2, hf2⟩ := bcell hb2; have hz2 := hb2.size; have hw2 : w.heap.size < w2.heap.size := (by omega))
          | (go_at_call 44; (with_reducible refine (in_any mn 0 mx _).mono ?_); rw [H3.out]; rintro e w3 ⟨rfl, hb3⟩; obtain ⟨hc3, hf3⟩ := bcell hb3; have hz3 := hb3.size; have hw3 : w.heap.size < w3.heap.size := (by omega))
          | (go_at_call 44; (with_reducible refine (in_any pr 0 1125899906842624 _).mono ?_); rw [H4.out]; rintro e w4 ⟨rfl, hb4⟩; obtain ⟨hc4, hf4⟩ := bcell hb4; have hz4 := hb4.size; have hw4 : w.heap.size < w4.heap.size := (by omega))
          | (go_at_call 44; (with_reducible refine (in_any rk 0 1000 _).mono ?_); rw [H5.out]; rintro e w5 ⟨rfl, hb5⟩; obtain ⟨hc5, hf5⟩ := bcell hb5; have hz5 := hb5.size; have hw5 : w.heap.size < w5.heap.size := (by omega))
          | (go_at_call 45; (with_reducible refine (HMM.out _ (by (repeat' (first | with_reducible exact Below.refl _ _ | with_reducible assumption | with_reducible refine Below.drew ?_ | with_reducible refine below_drewN' ?_ _ | with_reducible refine Below.alloc ?_ ?_ _ | with_reducible refine Below.setCell ?_ ?_ _ | with_reducible refine below_step (by assumption) ?_ ?_ | omega | (simp; done) | (simp; omega))))).mono ?_); rw [H6.out]; rintro e w6 ⟨rfl, hb6⟩; obtain ⟨hc6, hf6⟩ := bcell hb6; have hz6 := hb6.size; have hw6 : w.heap.size < w6.heap.size := (by omega)))
        go_ret
        exact ⟨by first | rfl | (simp; done), by (repeat' (first | with_reducible exact Below.refl _ _ | with_reducible assumption | with_reducible refine Below.drew ?_ | with_reducible refine below_drewN' ?_ _ | with_reducible refine Below.alloc ?_ ?_ _ | with_reducible refine Below.setCell ?_ ?_ _ | with_reducible refine below_step (by assumption) ?_ ?_ | omega | (simp; done) | (simp; omega)))⟩
    · have k8 := tnt_strn h8
      rw [decide_eq_false h8]
      clear h8
      cases rd
      · skip
        go_enter Tryz.func22, Tryz.ntmps22
        go_wp2_with (first
          | (go_at_call 43; (with_reducible refine (refword_any nm hs1 _).mono ?_); rw [H1.out]; rintro e w1 ⟨rfl, hb1⟩; obtain ⟨hc1, hf1⟩ := bcell hb1; have hz1 := hb1.size; (try simp at hz1); have hw1 : w.heap.size < w1.heap.size := (by omega))
          | (go_at_call 44; (with_reducible refine (in_any mx 1 200 _).mono ?_); rw [H2.out]; rintro e w2 ⟨rfl, hb2⟩; obtain ⟨hc2, hf2⟩ := bcell hb2; have hz2 := hb2.size; have hw2 : w.heap.size < w2.heap.size := (by omega))
          | (go_at_call 44; (with_reducible refine (in_any mn 0 mx _).mono ?_); rw [H3.out]; rintro e w3 ⟨rfl, hb3⟩; obtain ⟨hc3, hf3⟩ := bcell hb3; have hz3 := hb3.size; have hw3 : w.heap.size < w3.heap.size := (by omega))
          | (go_at_call 44; (with_reducible refine (in_any pr 0 1125899906842624 _).mono ?_); rw [H4.out]; rintro e w4 ⟨rfl, hb4⟩; obtain ⟨hc4, hf4⟩ := bcell hb4; have hz4 := hb4.size; have hw4 : w.heap.size < w4.heap.size := (by omega))
          | (go_at_call 44; (with_reducible refine (in_any rk 0 1000 _).mono ?_); rw [H5.out]; rintro e w5 ⟨rfl, hb5⟩; obtain ⟨hc5, hf5⟩ := bcell hb5; have hz5 := hb5.size; have hw5 : w.heap.size < w5.heap.size := (by omega))
          | (go_at_call 45; (with_reducible refine (HMM.out _ (by (repeat' (first | with_reducible exact Below.refl _ _ | with_reducible assumption | with_reducible refine Below.drew ?_ | with_reducible refine below_drewN' ?_ _ | with_reducible refine Below.alloc ?_ ?_ _ | with_reducible refine Below.setCell ?_ ?_ _ | with_reducible refine below_step (by assumption) ?_ ?_ | omega | (simp; done) | (simp; omega))))).mono ?_); rw [H6.out]; rintro e w6 ⟨rfl, hb6⟩; obtain ⟨hc6, hf6⟩ := bcell hb6; have hz6 := hb6.size; have hw6 : w.heap.size < w6.heap.size := (by omega)))
        go_ret
        exact ⟨by first | rfl | (simp; done), by (repeat' (first | with_reducible exact Below.refl _ _ | with_reducible assumption | with_reducible refine Below.drew ?_ | with_reducible refine below_drewN' ?_ _ | with_reducible refine Below.alloc ?_ ?_ _ | with_reducible refine Below.setCell ?_ ?_ _ | with_reducible refine below_step (by assumption) ?_ ?_ | omega | (simp; done) | (simp; omega)))⟩
      · skip
        go_enter Tryz.func22, Tryz.ntmps22
        go_wp2_with (first
          | (go_at_call 43; (with_reducible refine (refword_any nm hs1 _).mono ?_); rw [H1.out]; rintro e w1 ⟨rfl, hb1⟩; obtain ⟨hc1, hf1⟩ := bcell hb1; have hz1 := hb1.size; (try simp at hz1); have hw1 : w.heap.size < w1.heap.size := (by omega))
          | (go_at_call 44; (with_reducible refine (in_any mx 1 200 _).mono ?_); rw [H2.out]; rintro e w2 ⟨rfl, hb2⟩; obtain ⟨hc2, hf2⟩ := bcell hb2; have hz2 := hb2.size; have hw2 : w.heap.size < w2.heap.size := (by omega))
          | (go_at_call 44; (with_reducible refine (in_any mn 0 mx _).mono ?_); rw [H3.out]; rintro e w3 ⟨rfl, hb3⟩; obtain ⟨hc3, hf3⟩ := bcell hb3; have hz3 := hb3.size; have hw3 : w.heap.size < w3.heap.size := (by omega))
          | (go_at_call 44; (with_reducible refine (in_any pr 0 1125899906842624 _).mono ?_); rw [H4.out]; rintro e w4 ⟨rfl, hb4⟩; obtain ⟨hc4, hf4⟩ := bcell hb4; have hz4 := hb4.size; have hw4 : w.heap.size < w4.heap.size := (by omega))
          | (go_at_call 44; (with_reducible refine (in_any rk 0 1000 _).mono ?_); rw [H5.out]; rintro e w5 ⟨rfl, hb5⟩; obtain ⟨hc5, hf5⟩ := bcell hb5; have hz5 := hb5.size; have hw5 : w.heap.size < w5.heap.size := (by omega))
          | (go_at_call 45; (with_reducible refine (HMM.out _ (by (repeat' (first | with_reducible exact Below.refl _ _ | with_reducible assumption | with_reducible refine Below.drew ?_ | with_reducible refine below_drewN' ?_ _ | with_reducible refine Below.alloc ?_ ?_ _ | with_reducible refine Below.setCell ?_ ?_ _ | with_reducible refine below_step (by assumption) ?_ ?_ | omega | (simp; done) | (simp; omega))))).mono ?_); rw [H6.out]; rintro e w6 ⟨rfl, hb6⟩; obtain ⟨hc6, hf6⟩ := bcell hb6; have hz6 := hb6.size; have hw6 : w.heap.size < w6.heap.size := (by omega)))
        go_ret
        exact ⟨by first | rfl | (simp; done), by (repeat' (first | with_reducible exact Below.refl _ _ | with_reducible assumption | with_reducible refine Below.drew ?_ | with_reducible refine below_drewN' ?_ _ | with_reducible refine Below.alloc ?_ ?_ _ | with_reducible refine Below.setCell ?_ ?_ _ | with_reducible refine below_step (by assumption) ?_ ?_ | omega | (simp; done) | (simp; omega)))⟩
  · obtain ⟨p1, p2, p3, p4⟩ := emp_litn h7
    rw [decide_eq_false h7]
    clear h7
    go_enter Tryz.func22, Tryz.ntmps22
    go_wp2_with (first
      | (go_at_call 43; (with_reducible refine (refword_any nm hs1 _).mono ?_); rw [H1.out]; rintro e w1 ⟨rfl, hb1⟩; obtain ⟨hc1, hf1⟩ := bcell hb1; have hz1 := hb1.size; (try simp at hz1); have hw1 : w.heap.size < w1.heap.size := (by omega))
      | (go_at_call 44; (with_reducible refine (in_any mx 1 200 _).mono ?_); rw [H2.out]; rintro e w2 ⟨rfl, hb2⟩; obtain ⟨hc2, hf2⟩ := bcell hb2; have hz2 := hb2.size; have hw2 : w.heap.size < w2.heap.size := (by omega))
      | (go_at_call 44; (with_reducible refine (in_any mn 0 mx _).mono ?_); rw [H3.out]; rintro e w3 ⟨rfl, hb3⟩; obtain ⟨hc3, hf3⟩ := bcell hb3; have hz3 := hb3.size; have hw3 : w.heap.size < w3.heap.size := (by omega))
      | (go_at_call 44; (with_reducible refine (in_any pr 0 1125899906842624 _).mono ?_); rw [H4.out]; rintro e w4 ⟨rfl, hb4⟩; obtain ⟨hc4, hf4⟩ := bcell hb4; have hz4 := hb4.size; have hw4 : w.heap.size < w4.heap.size := (by omega))
      | (go_at_call 44; (with_reducible refine (in_any rk 0 1000 _).mono ?_); rw [H5.out]; rintro e w5 ⟨rfl, hb5⟩; obtain ⟨hc5, hf5⟩ := bcell hb5; have hz5 := hb5.size; have hw5 : w.heap.size < w5.heap.size := (by omega))
      | (go_at_call 45; (with_reducible refine (HMM.out _ (by (repeat' (first | with_reducible exact Below.refl _ _ | with_reducible assumption | with_reducible refine Below.drew ?_ | with_reducible refine below_drewN' ?_ _ | with_reducible refine Below.alloc ?_ ?_ _ | with_reducible refine Below.setCell ?_ ?_ _ | with_reducible refine below_step (by assumption) ?_ ?_ | omega | (simp; done) | (simp; omega))))).mono ?_); rw [H6.out]; rintro e w6 ⟨rfl, hb6⟩; obtain ⟨hc6, hf6⟩ := bcell hb6; have hz6 := hb6.size; have hw6 : w.heap.size < w6.heap.size := (by omega)))
    go_ret
    exact ⟨by first | rfl | (simp; done), by (repeat' (first | with_reducible exact Below.refl _ _ | with_reducible assumption | with_reducible refine Below.drew ?_ | with_reducible refine below_drewN' ?_ _ | with_reducible refine Below.alloc ?_ ?_ _ | with_reducible refine Below.setCell ?_ ?_ _ | with_reducible refine below_step (by assumption) ?_ ?_ | omega | (simp; done) | (simp; omega)))⟩
set_option maxRecDepth 100000 in
set_option maxHeartbeats 16000000 in
theorem srightgroup_any (g : Gp) (w : World) (hA : MacIn w g.like) (hs : g.nm.size ≤ 300) (hLt : lightM g.like = true) :
    Calls Tryz.prog 48 #[.agg #[.string (g).nm, .int .i64 (g).mn, .int .i64 (g).mx, .string (g).like.nm, .string (g).like.gp, .int .i64 (g).like.r0, .int .i64 (g).like.r1, .int .i64 (g).like.r2, .int .i64 (g).like.r3, .int .i64 (g).like.r4, .slice (g).like.la (g).like.labs.length (g).like.lk, .slice (g).like.ta (g).like.tnts.length (g).like.tk, .bool (g).like.rd, .int .i64 (g).pr, .int .i64 (g).rk]] w fun e w' => e = .returned (.bool (rightG g)) ∧ Below w.heap.size w w' := by
  obtain ⟨nm, mn, mx, M, pr, rk⟩ := g
  dsimp only at hA hs hLt ⊢
  have hs1 : nm.size ≤ 1000000000 := by omega
  have HM : ∀ V : World, Below w.heap.size w V → Calls Tryz.prog 73 #[.agg #[.string (M).nm, .string (M).gp, .int .i64 (M).r0, .int .i64 (M).r1, .int .i64 (M).r2, .int .i64 (M).r3, .int .i64 (M).r4, .slice (M).la (M).labs.length (M).lk, .slice (M).ta (M).tnts.length (M).tk, .bool (M).rd]] V fun e w' => e = .returned (.bool (rightM M)) ∧ Below V.heap.size V w' := fun V hV => srightm_any M V (hA.mono hV) hLt
  have HMM := Lib.hid HM
  clear HM hA hLt hs
  cases h1 : wordB nm
  · have hv : rightG ⟨nm, mn, mx, M, pr, rk⟩ = false := by simp [rightG, h1]
    rw [hv]
    have H1 := Lib.hid h1
    clear hv h1
    go_enter Tryz.func48, Tryz.ntmps48
    go_wp2_with (first
      | (go_at_call 71; (with_reducible refine (word_any nm _).mono ?_); rw [H1.out]; rintro e w1 ⟨rfl, hb1⟩; obtain ⟨hc1, hf1⟩ := bcell hb1; have hz1 := hb1.size; (try simp at hz1); have hw1 : w.heap.size < w1.heap.size := (by omega))
      | (go_at_call 72; (with_reducible refine (within_any mx 1 200 _).mono ?_); rw [H2.out]; rintro e w2 ⟨rfl, hb2⟩; obtain ⟨hc2, hf2⟩ := bcell hb2; have hz2 := hb2.size; have hw2 : w.heap.size < w2.heap.size := (by omega))
      | (go_at_call 72; (with_reducible refine (within_any mn 0 mx _).mono ?_); rw [H3.out]; rintro e w3 ⟨rfl, hb3⟩; obtain ⟨hc3, hf3⟩ := bcell hb3; have hz3 := hb3.size; have hw3 : w.heap.size < w3.heap.size := (by omega))
      | (go_at_call 72; (with_reducible refine (within_any pr 0 1125899906842624 _).mono ?_); rw [H4.out]; rintro e w4 ⟨rfl, hb4⟩; obtain ⟨hc4, hf4⟩ := bcell hb4; have hz4 := hb4.size; have hw4 : w.heap.size < w4.heap.size := (by omega))
      | (go_at_call 72; (with_reducible refine (within_any rk 0 1000 _).mono ?_); rw [H5.out]; rintro e w5 ⟨rfl, hb5⟩; obtain ⟨hc5, hf5⟩ := bcell hb5; have hz5 := hb5.size; have hw5 : w.heap.size < w5.heap.size := (by omega))
      | (go_at_call 73; (with_reducible refine (HMM.out _ (by (repeat' (first | with_reducible exact Below.refl _ _ | with_reducible assumption | with_reducible refine Below.drew ?_ | with_reducible refine below_drewN' ?_ _ | with_reducible refine Below.alloc ?_ ?_ _ | with_reducible refine Below.setCell ?_ ?_ _ | with_reducible refine below_step (by assumption) ?_ ?_ | omega | (simp; done) | (simp; omega))))).mono ?_); rw [H6.out]; rintro e w6 ⟨rfl, hb6⟩; obtain ⟨hc6, hf6⟩ := bcell hb6; have hz6 := hb6.size; have hw6 : w.heap.size < w6.heap.size := (by omega)))
    go_ret
    exact ⟨by first | rfl | (simp; done), by (repeat' (first | with_reducible exact Below.refl _ _ | with_reducible assumption | with_reducible refine Below.drew ?_ | with_reducible refine below_drewN' ?_ _ | with_reducible refine Below.alloc ?_ ?_ _ | with_reducible refine Below.setCell ?_ ?_ _ | with_reducible refine below_step (by assumption) ?_ ?_ | omega | (simp; done) | (simp; omega)))⟩
  cases h2 : inB mx 1 200
  · have hv : rightG ⟨nm, mn, mx, M, pr, rk⟩ = false := by simp [rightG, h1, h2]
    rw [hv]
    have H1 := Lib.hid h1
    have H2 := Lib.hid h2
    clear hv h1 h2
    go_enter Tryz.func48, Tryz.ntmps48
    go_wp2_with (first
      | (go_at_call 71; (with_reducible refine (word_any nm _).mono ?_); rw [H1.out]; rintro e w1 ⟨rfl, hb1⟩; obtain ⟨hc1, hf1⟩ := bcell hb1; have hz1 := hb1.size; (try simp at hz1); have hw1 : w.heap.size < w1.heap.size := (by omega))
      | (go_at_call 72; (with_reducible refine (within_any mx 1 200 _).mono ?_); rw [H2.out]; rintro e w2 ⟨rfl, hb2⟩; obtain ⟨hc2, hf2⟩ := bcell hb2; have hz2 := hb2.size; have hw2 : w.heap.size < w2.heap.size := (by omega))
      | (go_at_call 72; (with_reducible refine (within_any mn 0 mx _).mono ?_); rw [H3.out]; rintro e w3 ⟨rfl, hb3⟩; obtain ⟨hc3, hf3⟩ := bcell hb3; have hz3 := hb3.size; have hw3 : w.heap.size < w3.heap.size := (by omega))
      | (go_at_call 72; (with_reducible refine (within_any pr 0 1125899906842624 _).mono ?_); rw [H4.out]; rintro e w4 ⟨rfl, hb4⟩; obtain ⟨hc4, hf4⟩ := bcell hb4; have hz4 := hb4.size; have hw4 : w.heap.size < w4.heap.size := (by omega))
      | (go_at_call 72; (with_reducible refine (within_any rk 0 1000 _).mono ?_); rw [H5.out]; rintro e w5 ⟨rfl, hb5⟩; obtain ⟨hc5, hf5⟩ := bcell hb5; have hz5 := hb5.size; have hw5 : w.heap.size < w5.heap.size := (by omega))
      | (go_at_call 73; (with_reducible refine (HMM.out _ (by (repeat' (first | with_reducible exact Below.refl _ _ | with_reducible assumption | with_reducible refine Below.drew ?_ | with_reducible refine below_drewN' ?_ _ | with_reducible refine Below.alloc ?_ ?_ _ | with_reducible refine Below.setCell ?_ ?_ _ | with_reducible refine below_step (by assumption) ?_ ?_ | omega | (simp; done) | (simp; omega))))).mono ?_); rw [H6.out]; rintro e w6 ⟨rfl, hb6⟩; obtain ⟨hc6, hf6⟩ := bcell hb6; have hz6 := hb6.size; have hw6 : w.heap.size < w6.heap.size := (by omega)))
    go_ret
    exact ⟨by first | rfl | (simp; done), by (repeat' (first | with_reducible exact Below.refl _ _ | with_reducible assumption | with_reducible refine Below.drew ?_ | with_reducible refine below_drewN' ?_ _ | with_reducible refine Below.alloc ?_ ?_ _ | with_reducible refine Below.setCell ?_ ?_ _ | with_reducible refine below_step (by assumption) ?_ ?_ | omega | (simp; done) | (simp; omega)))⟩
  cases h3 : inB mn 0 mx
  · have hv : rightG ⟨nm, mn, mx, M, pr, rk⟩ = false := by simp [rightG, h1, h2, h3]
    rw [hv]
    have H1 := Lib.hid h1
    have H2 := Lib.hid h2
    have H3 := Lib.hid h3
    clear hv h1 h2 h3
    go_enter Tryz.func48, Tryz.ntmps48
    go_wp2_with (first
      | (go_at_call 71; (with_reducible refine (word_any nm _).mono ?_); rw [H1.out]; rintro e w1 ⟨rfl, hb1⟩; obtain ⟨hc1, hf1⟩ := bcell hb1; have hz1 := hb1.size; (try simp at hz1); have hw1 : w.heap.size < w1.heap.size := (by omega))
      | (go_at_call 72; (with_reducible refine (within_any mx 1 200 _).mono ?_); rw [H2.out]; rintro e w2 ⟨rfl, hb2⟩; obtain ⟨hc2, hf2⟩ := bcell hb2; have hz2 := hb2.size; have hw2 : w.heap.size < w2.heap.size := (by omega))
      | (go_at_call 72; (with_reducible refine (within_any mn 0 mx _).mono ?_); rw [H3.out]; rintro e w3 ⟨rfl, hb3⟩; obtain ⟨hc3, hf3⟩ := bcell hb3; have hz3 := hb3.size; have hw3 : w.heap.size < w3.heap.size := (by omega))
      | (go_at_call 72; (with_reducible refine (within_any pr 0 1125899906842624 _).mono ?_); rw [H4.out]; rintro e w4 ⟨rfl, hb4⟩; obtain ⟨hc4, hf4⟩ := bcell hb4; have hz4 := hb4.size; have hw4 : w.heap.size < w4.heap.size := (by omega))
      | (go_at_call 72; (with_reducible refine (within_any rk 0 1000 _).mono ?_); rw [H5.out]; rintro e w5 ⟨rfl, hb5⟩; obtain ⟨hc5, hf5⟩ := bcell hb5; have hz5 := hb5.size; have hw5 : w.heap.size < w5.heap.size := (by omega))
      | (go_at_call 73; (with_reducible refine (HMM.out _ (by (repeat' (first | with_reducible exact Below.refl _ _ | with_reducible assumption | with_reducible refine Below.drew ?_ | with_reducible refine below_drewN' ?_ _ | with_reducible refine Below.alloc ?_ ?_ _ | with_reducible refine Below.setCell ?_ ?_ _ | with_reducible refine below_step (by assumption) ?_ ?_ | omega | (simp; done) | (simp; omega))))).mono ?_); rw [H6.out]; rintro e w6 ⟨rfl, hb6⟩; obtain ⟨hc6, hf6⟩ := bcell hb6; have hz6 := hb6.size; have hw6 : w.heap.size < w6.heap.size := (by omega)))
    go_ret
    exact ⟨by first | rfl | (simp; done), by (repeat' (first | with_reducible exact Below.refl _ _ | with_reducible assumption | with_reducible refine Below.drew ?_ | with_reducible refine below_drewN' ?_ _ | with_reducible refine Below.alloc ?_ ?_ _ | with_reducible refine Below.setCell ?_ ?_ _ | with_reducible refine below_step (by assumption) ?_ ?_ | omega | (simp; done) | (simp; omega)))⟩
  cases h4 : inB pr 0 1125899906842624
  · have hv : rightG ⟨nm, mn, mx, M, pr, rk⟩ = false := by simp [rightG, h1, h2, h3, h4]
    rw [hv]
    have H1 := Lib.hid h1
    have H2 := Lib.hid h2
    have H3 := Lib.hid h3
    have H4 := Lib.hid h4
    clear hv h1 h2 h3 h4
    go_enter Tryz.func48, Tryz.ntmps48
    go_wp2_with (first
      | (go_at_call 71; (with_reducible refine (word_any nm _).mono ?_); rw [H1.out]; rintro e w1 ⟨rfl, hb1⟩; obtain ⟨hc1, hf1⟩ := bcell hb1; have hz1 := hb1.size; (try simp at hz1); have hw1 : w.heap.size < w1.heap.size := (by omega))
      | (go_at_call 72; (with_reducible refine (within_any mx 1 200 _).mono ?_); rw [H2.out]; rintro e w2 ⟨rfl, hb2⟩; obtain ⟨hc2, hf2⟩ := bcell hb2; have hz2 := hb2.size; have hw2 : w.heap.size < w2.heap.size := (by omega))
      | (go_at_call 72; (with_reducible refine (within_any mn 0 mx _).mono ?_); rw [H3.out]; rintro e w3 ⟨rfl, hb3⟩; obtain ⟨hc3, hf3⟩ := bcell hb3; have hz3 := hb3.size; have hw3 : w.heap.size < w3.heap.size := (by omega))
      | (go_at_call 72; (with_reducible refine (within_any pr 0 1125899906842624 _).mono ?_); rw [H4.out]; rintro e w4 ⟨rfl, hb4⟩; obtain ⟨hc4, hf4⟩ := bcell hb4; have hz4 := hb4.size; have hw4 : w.heap.size < w4.heap.size := (by omega))
      | (go_at_call 72; (with_reducible refine (within_any rk 0 1000 _).mono ?_); rw [H5.out]; rintro e w5 ⟨rfl, hb5⟩; obtain ⟨hc5, hf5⟩ := bcell hb5; have hz5 := hb5.size; have hw5 : w.heap.size < w5.heap.size := (by omega))
      | (go_at_call 73; (with_reducible refine (HMM.out _ (by (repeat' (first | with_reducible exact Below.refl _ _ | with_reducible assumption | with_reducible refine Below.drew ?_ | with_reducible refine below_drewN' ?_ _ | with_reducible refine Below.alloc ?_ ?_ _ | with_reducible refine Below.setCell ?_ ?_ _ | with_reducible refine below_step (by assumption) ?_ ?_ | omega | (simp; done) | (simp; omega))))).mono ?_); rw [H6.out]; rintro e w6 ⟨rfl, hb6⟩; obtain ⟨hc6, hf6⟩ := bcell hb6; have hz6 := hb6.size; have hw6 : w.heap.size < w6.heap.size := (by omega)))
    go_ret
    exact ⟨by first | rfl | (simp; done), by (repeat' (first | with_reducible exact Below.refl _ _ | with_reducible assumption | with_reducible refine Below.drew ?_ | with_reducible refine below_drewN' ?_ _ | with_reducible refine Below.alloc ?_ ?_ _ | with_reducible refine Below.setCell ?_ ?_ _ | with_reducible refine below_step (by assumption) ?_ ?_ | omega | (simp; done) | (simp; omega)))⟩
  cases h5 : inB rk 0 1000
  · have hv : rightG ⟨nm, mn, mx, M, pr, rk⟩ = false := by simp [rightG, h1, h2, h3, h4, h5]
    rw [hv]
    have H1 := Lib.hid h1
    have H2 := Lib.hid h2
    have H3 := Lib.hid h3
    have H4 := Lib.hid h4
    have H5 := Lib.hid h5
    clear hv h1 h2 h3 h4 h5
    go_enter Tryz.func48, Tryz.ntmps48
    go_wp2_with (first
      | (go_at_call 71; (with_reducible refine (word_any nm _).mono ?_); rw [H1.out]; rintro e w1 ⟨rfl, hb1⟩; obtain ⟨hc1, hf1⟩ := bcell hb1; have hz1 := hb1.size; (try simp at hz1); have hw1 : w.heap.size < w1.heap.size := (by omega))
      | (go_at_call 72; (with_reducible refine (within_any mx 1 200 _).mono ?_); rw [H2.out]; rintro e w2 ⟨rfl, hb2⟩; obtain ⟨hc2, hf2⟩ := bcell hb2; have hz2 := hb2.size; have hw2 : w.heap.size < w2.heap.size := (by omega))
      | (go_at_call 72; (with_reducible refine (within_any mn 0 mx _).mono ?_); rw [H3.out]; rintro e w3 ⟨rfl, hb3⟩; obtain ⟨hc3, hf3⟩ := bcell hb3; have hz3 := hb3.size; have hw3 : w.heap.size < w3.heap.size := (by omega))
      | (go_at_call 72; (with_reducible refine (within_any pr 0 1125899906842624 _).mono ?_); rw [H4.out]; rintro e w4 ⟨rfl, hb4⟩; obtain ⟨hc4, hf4⟩ := bcell hb4; have hz4 := hb4.size; have hw4 : w.heap.size < w4.heap.size := (by omega))
      | (go_at_call 72; (with_reducible refine (within_any rk 0 1000 _).mono ?_); rw [H5.out]; rintro e w5 ⟨rfl, hb5⟩; obtain ⟨hc5, hf5⟩ := bcell hb5; have hz5 := hb5.size; have hw5 : w.heap.size < w5.heap.size := (by omega))
      | (go_at_call 73; (with_reducible refine (HMM.out _ (by (repeat' (first | with_reducible exact Below.refl _ _ | with_reducible assumption | with_reducible refine Below.drew ?_ | with_reducible refine below_drewN' ?_ _ | with_reducible refine Below.alloc ?_ ?_ _ | with_reducible refine Below.setCell ?_ ?_ _ | with_reducible refine below_step (by assumption) ?_ ?_ | omega | (simp; done) | (simp; omega))))).mono ?_); rw [H6.out]; rintro e w6 ⟨rfl, hb6⟩; obtain ⟨hc6, hf6⟩ := bcell hb6; have hz6 := hb6.size; have hw6 : w.heap.size < w6.heap.size := (by omega)))
    go_ret
    exact ⟨by first | rfl | (simp; done), by (repeat' (first | with_reducible exact Below.refl _ _ | with_reducible assumption | with_reducible refine Below.drew ?_ | with_reducible refine below_drewN' ?_ _ | with_reducible refine Below.alloc ?_ ?_ _ | with_reducible refine Below.setCell ?_ ?_ _ | with_reducible refine below_step (by assumption) ?_ ?_ | omega | (simp; done) | (simp; omega)))⟩
  cases h6 : rightM M
  · have hv : rightG ⟨nm, mn, mx, M, pr, rk⟩ = false := by simp [rightG, h1, h2, h3, h4, h5, h6]
    rw [hv]
    have H1 := Lib.hid h1
    have H2 := Lib.hid h2
    have H3 := Lib.hid h3
    have H4 := Lib.hid h4
    have H5 := Lib.hid h5
    have H6 := Lib.hid h6
    clear hv h1 h2 h3 h4 h5 h6
    go_enter Tryz.func48, Tryz.ntmps48
    go_wp2_with (first
      | (go_at_call 71; (with_reducible refine (word_any nm _).mono ?_); rw [H1.out]; rintro e w1 ⟨rfl, hb1⟩; obtain ⟨hc1, hf1⟩ := bcell hb1; have hz1 := hb1.size; (try simp at hz1); have hw1 : w.heap.size < w1.heap.size := (by omega))
      | (go_at_call 72; (with_reducible refine (within_any mx 1 200 _).mono ?_); rw [H2.out]; rintro e w2 ⟨rfl, hb2⟩; obtain ⟨hc2, hf2⟩ := bcell hb2; have hz2 := hb2.size; have hw2 : w.heap.size < w2.heap.size := (by omega))
      | (go_at_call 72; (with_reducible refine (within_any mn 0 mx _).mono ?_); rw [H3.out]; rintro e w3 ⟨rfl, hb3⟩; obtain ⟨hc3, hf3⟩ := bcell hb3; have hz3 := hb3.size; have hw3 : w.heap.size < w3.heap.size := (by omega))
      | (go_at_call 72; (with_reducible refine (within_any pr 0 1125899906842624 _).mono ?_); rw [H4.out]; rintro e w4 ⟨rfl, hb4⟩; obtain ⟨hc4, hf4⟩ := bcell hb4; have hz4 := hb4.size; have hw4 : w.heap.size < w4.heap.size := (by omega))
      | (go_at_call 72; (with_reducible refine (within_any rk 0 1000 _).mono ?_); rw [H5.out]; rintro e w5 ⟨rfl, hb5⟩; obtain ⟨hc5, hf5⟩ := bcell hb5; have hz5 := hb5.size; have hw5 : w.heap.size < w5.heap.size := (by omega))
      | (go_at_call 73; (with_reducible refine (HMM.out _ (by (repeat' (first | with_reducible exact Below.refl _ _ | with_reducible assumption | with_reducible refine Below.drew ?_ | with_reducible refine below_drewN' ?_ _ | with_reducible refine Below.alloc ?_ ?_ _ | with_reducible refine Below.setCell ?_ ?_ _ | with_reducible refine below_step (by assumption) ?_ ?_ | omega | (simp; done) | (simp; omega))))).mono ?_); rw [H6.out]; rintro e w6 ⟨rfl, hb6⟩; obtain ⟨hc6, hf6⟩ := bcell hb6; have hz6 := hb6.size; have hw6 : w.heap.size < w6.heap.size := (by omega)))
    go_ret
    exact ⟨by first | rfl | (simp; done), by (repeat' (first | with_reducible exact Below.refl _ _ | with_reducible assumption | with_reducible refine Below.drew ?_ | with_reducible refine below_drewN' ?_ _ | with_reducible refine Below.alloc ?_ ?_ _ | with_reducible refine Below.setCell ?_ ?_ _ | with_reducible refine below_step (by assumption) ?_ ?_ | omega | (simp; done) | (simp; omega)))⟩
  have hv0 : rightG ⟨nm, mn, mx, M, pr, rk⟩ = (decide (M.nm = emp) && decide (M.gp = nm) && M.rd) := by simp [rightG, h1, h2, h3, h4, h5, h6]
  rw [hv0]
  have H1 := Lib.hid h1
  have H2 := Lib.hid h2
  have H3 := Lib.hid h3
  have H4 := Lib.hid h4
  have H5 := Lib.hid h5
  have H6 := Lib.hid h6
  clear hv0 h1 h2 h3 h4 h5 h6
  obtain ⟨mm, mg, r0, r1, r2, r3, r4, la, lk, L, ta, tk, T, rd⟩ := M
  dsimp only
  by_cases h7 : mm = emp
  · obtain ⟨p1, p2, p3, p4⟩ := emp_lits h7
    rw [decide_eq_true h7]
    clear h7
    by_cases h8 : mg = nm
    · have k8 := tnt_str h8
      rw [decide_eq_true h8]
      clear h8
      cases rd
      · skip
        go_enter Tryz.func48, Tryz.ntmps48
        go_wp2_with (first
          | (go_at_call 71; (with_reducible refine (word_any nm _).mono ?_); rw [H1.out]; rintro e w1 ⟨rfl, hb1⟩; obtain ⟨hc1, hf1⟩ := bcell hb1; have hz1 := hb1.size; (try simp at hz1); have hw1 : w.heap.size < w1.heap.size := (by omega))
          | (go_at_call 72; (with_reducible refine (within_any mx 1 200 _).mono ?_); rw [H2.out]; rintro e w2 ⟨rfl, hb2⟩; obtain ⟨hc2, hf2⟩ := bcell hb2; have hz2 := hb2.size; have hw2 : w.heap.size < w2.heap.size := (by omega))
          | (go_at_call 72; (with_reducible refine (within_any mn 0 mx _).mono ?_); rw [H3.out]; rintro e w3 ⟨rfl, hb3⟩; obtain ⟨hc3, hf3⟩ := bcell hb3; have hz3 := hb3.size; have hw3 : w.heap.size < w3.heap.size := (by omega))
          | (go_at_call 72; (with_reducible refine (within_any pr 0 1125899906842624 _).mono ?_); rw [H4.out]; rintro e w4 ⟨rfl, hb4⟩; obtain ⟨hc4, hf4⟩ := bcell hb4; have hz4 := hb4.size; have hw4 : w.heap.size < w4.heap.size := (by omega))
          | (go_at_call 72; (with_reducible refine (within_any rk 0 1000 _).mono ?_); rw [H5.out]; rintro e w5 ⟨rfl, hb5⟩; obtain ⟨hc5, hf5⟩ := bcell hb5; have hz5 := hb5.size; have hw5 : w.heap.size < w5.heap.size := (by omega))
          | (go_at_call 73; (with_reducible refine (HMM.out _ (by (repeat' (first | with_reducible exact Below.refl _ _ | with_reducible assumption | with_reducible refine Below.drew ?_ | with_reducible refine below_drewN' ?_ _ | with_reducible refine Below.alloc ?_ ?_ _ | with_reducible refine Below.setCell ?_ ?_ _ | with_reducible refine below_step (by assumption) ?_ ?_ | omega | (simp; done) | (simp; omega))))).mono ?_); rw [H6.out]; rintro e w6 ⟨rfl, hb6⟩; obtain ⟨hc6, hf6⟩ := bcell hb6; have hz6 := hb6.size; have hw6 : w.heap.size < w6.heap.size := (by omega)))
        go_ret
        exact ⟨by first | rfl | (simp; done), by (repeat' (first | with_reducible exact Below.refl _ _ | with_reducible assumption | with_reducible refine Below.drew ?_ | with_reducible refine below_drewN' ?_ _ | with_reducible refine Below.alloc ?_ ?_ _ | with_reducible refine Below.setCell ?_ ?_ _ | with_reducible refine below_step (by assumption) ?_ ?_ | omega | (simp; done) | (simp; omega)))⟩
      · skip
        go_enter Tryz.func48, Tryz.ntmps48
        go_wp2_with (first
          | (go_at_call 71; (with_reducible refine (word_any nm _).mono ?_); rw [H1.out]; rintro e w1 ⟨rfl, hb1⟩; obtain ⟨hc1, hf1⟩ := bcell hb1; have hz1 := hb1.size; (try simp at hz1); have hw1 : w.heap.size < w1.heap.size := (by omega))
          | (go_at_call 72; (with_reducible refine (within_any mx 1 200 _).mono ?_); rw [H2.out]; rintro e w2 ⟨rfl, hb2⟩; obtain ⟨hc2, hf2⟩ := bcell hb2; have hz2 := hb2.size; have hw2 : w.heap.size < w2.heap.size := (by omega))
          | (go_at_call 72; (with_reducible refine (within_any mn 0 mx _).mono ?_); rw [H3.out]; rintro e w3 ⟨rfl, hb3⟩; obtain ⟨hc3, hf3⟩ := bcell hb3; have hz3 := hb3.size; have hw3 : w.heap.size < w3.heap.size := (by omega))
          | (go_at_call 72; (with_reducible refine (within_any pr 0 1125899906842624 _).mono ?_); rw [H4.out]; rintro e w4 ⟨rfl, hb4⟩; obtain ⟨hc4, hf4⟩ := bcell hb4; have hz4 := hb4.size; have hw4 : w.heap.size < w4.heap.size := (by omega))
          | (go_at_call 72; (with_reducible refine (within_any rk 0 1000 _).mono ?_); rw [H5.out]; rintro e w5 ⟨rfl, hb5⟩; obtain ⟨hc5, hf5⟩ := bcell hb5; have hz5 := hb5.size; have hw5 : w.heap.size < w5.heap.size := (by omega))
          | (go_at_call 73; (with_reducible refine (HMM.out _ (by (repeat' (first | with_reducible exact Below.refl _ _ | with_reducible assumption | with_reducible refine Below.drew ?_ | with_reducible refine below_drewN' ?_ _ | with_reducible refine Below.alloc ?_ ?_ _ | with_reducible refine Below.setCell ?_ ?_ _ | with_reducible refine below_step (by assumption) ?_ ?_ | omega | (simp; done) | (simp; omega))))).mono ?_); rw [H6.out]; rintro e w6 ⟨rfl, hb6⟩; obtain ⟨hc6, hf6⟩ := bcell hb6; have hz6 := hb6.size; have hw6 : w.heap.size < w6.heap.size := (by omega)))
        go_ret
        exact ⟨by first | rfl | (simp; done), by (repeat' (first | with_reducible exact Below.refl _ _ | with_reducible assumption | with_reducible refine Below.drew ?_ | with_reducible refine below_drewN' ?_ _ | with_reducible refine Below.alloc ?_ ?_ _ | with_reducible refine Below.setCell ?_ ?_ _ | with_reducible refine below_step (by assumption) ?_ ?_ | omega | (simp; done) | (simp; omega)))⟩
    · have k8 := tnt_strn h8
      rw [decide_eq_false h8]
      clear h8
      cases rd
      · skip
        go_enter Tryz.func48, Tryz.ntmps48
        go_wp2_with (first
          | (go_at_call 71; (with_reducible refine (word_any nm _).mono ?_); rw [H1.out]; rintro e w1 ⟨rfl, hb1⟩; obtain ⟨hc1, hf1⟩ := bcell hb1; have hz1 := hb1.size; (try simp at hz1); have hw1 : w.heap.size < w1.heap.size := (by omega))
          | (go_at_call 72; (with_reducible refine (within_any mx 1 200 _).mono ?_); rw [H2.out]; rintro e w2 ⟨rfl, hb2⟩; obtain ⟨hc2, hf2⟩ := bcell hb2; have hz2 := hb2.size; have hw2 : w.heap.size < w2.heap.size := (by omega))
          | (go_at_call 72; (with_reducible refine (within_any mn 0 mx _).mono ?_); rw [H3.out]; rintro e w3 ⟨rfl, hb3⟩; obtain ⟨hc3, hf3⟩ := bcell hb3; have hz3 := hb3.size; have hw3 : w.heap.size < w3.heap.size := (by omega))
          | (go_at_call 72; (with_reducible refine (within_any pr 0 1125899906842624 _).mono ?_); rw [H4.out]; rintro e w4 ⟨rfl, hb4⟩; obtain ⟨hc4, hf4⟩ := bcell hb4; have hz4 := hb4.size; have hw4 : w.heap.size < w4.heap.size := (by omega))
          | (go_at_call 72; (with_reducible refine (within_any rk 0 1000 _).mono ?_); rw [H5.out]; rintro e w5 ⟨rfl, hb5⟩; obtain ⟨hc5, hf5⟩ := bcell hb5; have hz5 := hb5.size; have hw5 : w.heap.size < w5.heap.size := (by omega))
          | (go_at_call 73; (with_reducible refine (HMM.out _ (by (repeat' (first | with_reducible exact Below.refl _ _ | with_reducible assumption | with_reducible refine Below.drew ?_ | with_reducible refine below_drewN' ?_ _ | with_reducible refine Below.alloc ?_ ?_ _ | with_reducible refine Below.setCell ?_ ?_ _ | with_reducible refine below_step (by assumption) ?_ ?_ | omega | (simp; done) | (simp; omega))))).mono ?_); rw [H6.out]; rintro e w6 ⟨rfl, hb6⟩; obtain ⟨hc6, hf6⟩ := bcell hb6; have hz6 := hb6.size; have hw6 : w.heap.size < w6.heap.size := (by omega)))
        go_ret
        exact ⟨by first | rfl | (simp; done), by (repeat' (first | with_reducible exact Below.refl _ _ | with_reducible assumption | with_reducible refine Below.drew ?_ | with_reducible refine below_drewN' ?_ _ | with_reducible refine Below.alloc ?_ ?_ _ | with_reducible refine Below.setCell ?_ ?_ _ | with_reducible refine below_step (by assumption) ?_ ?_ | omega | (simp; done) | (simp; omega)))⟩
      · skip
        go_enter Tryz.func48, Tryz.ntmps48
        go_wp2_with (first
          | (go_at_call 71; (with_reducible refine (word_any nm _).mono ?_); rw [H1.out]; rintro e w1 ⟨rfl, hb1⟩; obtain ⟨hc1, hf1⟩ := bcell hb1; have hz1 := hb1.size; (try simp at hz1); have hw1 : w.heap.size < w1.heap.size := (by omega))
          | (go_at_call 72; (with_reducible refine (within_any mx 1 200 _).mono ?_); rw [H2.out]; rintro e w2 ⟨rfl, hb2⟩; obtain ⟨hc2, hf2⟩ := bcell hb2; have hz2 := hb2.size; have hw2 : w.heap.size < w2.heap.size := (by omega))
          | (go_at_call 72; (with_reducible refine (within_any mn 0 mx _).mono ?_); rw [H3.out]; rintro e w3 ⟨rfl, hb3⟩; obtain ⟨hc3, hf3⟩ := bcell hb3; have hz3 := hb3.size; have hw3 : w.heap.size < w3.heap.size := (by omega))
          | (go_at_call 72; (with_reducible refine (within_any pr 0 1125899906842624 _).mono ?_); rw [H4.out]; rintro e w4 ⟨rfl, hb4⟩; obtain ⟨hc4, hf4⟩ := bcell hb4; have hz4 := hb4.size; have hw4 : w.heap.size < w4.heap.size := (by omega))
          | (go_at_call 72; (with_reducible refine (within_any rk 0 1000 _).mono ?_); rw [H5.out]; rintro e w5 ⟨rfl, hb5⟩; obtain ⟨hc5, hf5⟩ := bcell hb5; have hz5 := hb5.size; have hw5 : w.heap.size < w5.heap.size := (by omega))
          | (go_at_call 73; (with_reducible refine (HMM.out _ (by (repeat' (first | with_reducible exact Below.refl _ _ | with_reducible assumption | with_reducible refine Below.drew ?_ | with_reducible refine below_drewN' ?_ _ | with_reducible refine Below.alloc ?_ ?_ _ | with_reducible refine Below.setCell ?_ ?_ _ | with_reducible refine below_step (by assumption) ?_ ?_ | omega | (simp; done) | (simp; omega))))).mono ?_); rw [H6.out]; rintro e w6 ⟨rfl, hb6⟩; obtain ⟨hc6, hf6⟩ := bcell hb6; have hz6 := hb6.size; have hw6 : w.heap.size < w6.heap.size := (by omega)))
        go_ret
        exact ⟨by first | rfl | (simp; done), by (repeat' (first | with_reducible exact Below.refl _ _ | with_reducible assumption | with_reducible refine Below.drew ?_ | with_reducible refine below_drewN' ?_ _ | with_reducible refine Below.alloc ?_ ?_ _ | with_reducible refine Below.setCell ?_ ?_ _ | with_reducible refine below_step (by assumption) ?_ ?_ | omega | (simp; done) | (simp; omega)))⟩
  · obtain ⟨p1, p2, p3, p4⟩ := emp_litn h7
    rw [decide_eq_false h7]
    clear h7
    go_enter Tryz.func48, Tryz.ntmps48
    go_wp2_with (first
      | (go_at_call 71; (with_reducible refine (word_any nm _).mono ?_); rw [H1.out]; rintro e w1 ⟨rfl, hb1⟩; obtain ⟨hc1, hf1⟩ := bcell hb1; have hz1 := hb1.size; (try simp at hz1); have hw1 : w.heap.size < w1.heap.size := (by omega))
      | (go_at_call 72; (with_reducible refine (within_any mx 1 200 _).mono ?_); rw [H2.out]; rintro e w2 ⟨rfl, hb2⟩; obtain ⟨hc2, hf2⟩ := bcell hb2; have hz2 := hb2.size; have hw2 : w.heap.size < w2.heap.size := (by omega))
      | (go_at_call 72; (with_reducible refine (within_any mn 0 mx _).mono ?_); rw [H3.out]; rintro e w3 ⟨rfl, hb3⟩; obtain ⟨hc3, hf3⟩ := bcell hb3; have hz3 := hb3.size; have hw3 : w.heap.size < w3.heap.size := (by omega))
      | (go_at_call 72; (with_reducible refine (within_any pr 0 1125899906842624 _).mono ?_); rw [H4.out]; rintro e w4 ⟨rfl, hb4⟩; obtain ⟨hc4, hf4⟩ := bcell hb4; have hz4 := hb4.size; have hw4 : w.heap.size < w4.heap.size := (by omega))
      | (go_at_call 72; (with_reducible refine (within_any rk 0 1000 _).mono ?_); rw [H5.out]; rintro e w5 ⟨rfl, hb5⟩; obtain ⟨hc5, hf5⟩ := bcell hb5; have hz5 := hb5.size; have hw5 : w.heap.size < w5.heap.size := (by omega))
      | (go_at_call 73; (with_reducible refine (HMM.out _ (by (repeat' (first | with_reducible exact Below.refl _ _ | with_reducible assumption | with_reducible refine Below.drew ?_ | with_reducible refine below_drewN' ?_ _ | with_reducible refine Below.alloc ?_ ?_ _ | with_reducible refine Below.setCell ?_ ?_ _ | with_reducible refine below_step (by assumption) ?_ ?_ | omega | (simp; done) | (simp; omega))))).mono ?_); rw [H6.out]; rintro e w6 ⟨rfl, hb6⟩; obtain ⟨hc6, hf6⟩ := bcell hb6; have hz6 := hb6.size; have hw6 : w.heap.size < w6.heap.size := (by omega)))
    go_ret
    exact ⟨by first | rfl | (simp; done), by (repeat' (first | with_reducible exact Below.refl _ _ | with_reducible assumption | with_reducible refine Below.drew ?_ | with_reducible refine below_drewN' ?_ _ | with_reducible refine Below.alloc ?_ ?_ _ | with_reducible refine Below.setCell ?_ ?_ _ | with_reducible refine below_step (by assumption) ?_ ?_ | omega | (simp; done) | (simp; omega)))⟩
end Go.Proofs.YtmkdfcggjlhcpaaGreatDoor
