/-
  TaintsOrder: in which order tolerations stand makes no difference to what they leave unborne. For any tolerations, any taints and any effect; no condition.
-/
import Derived.Test.YtlfjjiepclphiaaTntM
namespace Go.Proofs.Ytlfjjiepclphiaa
open Go.ChangeShapes Go.WideShapes Go.ChangeAt Go.RowKit
set_option linter.unusedVariables false
namespace taintsOrder

theorem rev_drop {α : Type} {l : List α} {j : Nat} {x : α} (h : l[j]? = some x) : (l.drop j).reverse = (l.drop (j + 1)).reverse ++ [x] := by
  obtain ⟨hj, rfl⟩ := List.getElem?_eq_some_iff.1 h
  rw [List.drop_eq_getElem_cons hj, List.reverse_cons]
theorem borne_rev (l : List Tol) (x : Tnt) : borneB l.reverse x = borneB l x := by
  unfold borneB; rw [List.any_reverse]
theorem unborne_rev (l : List Tol) (xs : List Tnt) (eff : Int) : unborneL l.reverse xs eff = unborneL l xs eff := by
  unfold unborneL
  congr 1
  funext x
  unfold leftB
  rw [borne_rev]
theorem unborne_rev2 (l : List Tol) (xs : List Tnt) (eff : Int) : (unborneL l.reverse xs.reverse eff).length = (unborneL l xs eff).length := by
  rw [unborne_rev]
  unfold unborneL
  rw [List.filter_reverse, List.length_reverse]
theorem allows_rev (l : List Tol) (xs : List Tnt) : allowsB l.reverse xs.reverse = allowsB l xs := by
  unfold allowsB
  rw [unborne_rev2, unborne_rev2]

set_option maxRecDepth 100000 in
set_option maxHeartbeats 4000000 in
theorem walk_no (a c : Option Addr) (ka kc : Nat) (l : List Tol) (xs : List Tnt) (eff : Int) (w : World) (hD : TolsAt w a l) (hn : l.length ≤ maxLen) (hF : TntsAt w c xs) (hm : xs.length ≤ maxLen) (hL : lightB l xs = false) :
    Calls Try.prog 4 #[.slice a l.length ka, .slice c xs.length kc, .int .i64 eff] w fun e w' => e = .returned (.bool true) ∧ Below w.heap.size w w' := by
  have HL := Lib.hid hL
  clear hL
  go_enter Try.func4, Try.ntmps4
  go_wp2_with (first | (go_at_call 8; (with_reducible refine (light_any a c ka kc l xs _ hD hn hF hm).mono ?_); rintro e w1 ⟨rfl, hb1⟩; rw [HL.out]; have hz1 := hb1.size) | (go_at_call 9; (with_reducible refine (known_any _).mono ?_); rintro e w2 ⟨rfl, hb2⟩))
  go_ret
  exact ⟨rfl, by (repeat' (first | with_reducible exact Below.refl _ _ | with_reducible assumption | with_reducible refine Below.drew ?_ | with_reducible refine below_drewN' ?_ _ | with_reducible refine Below.alloc ?_ ?_ _ | with_reducible refine Below.setCell ?_ ?_ _ | with_reducible refine below_step (by assumption) ?_ ?_ | omega | (simp; done) | (simp; omega)))⟩

set_option maxRecDepth 100000 in
set_option maxHeartbeats 4000000 in
theorem walk_yes (a c : Option Addr) (ka kc : Nat) (l : List Tol) (xs : List Tnt) (eff : Int) (w : World) (hD : TolsAt w a l) (hn : l.length ≤ 40) (hF : TntsAt w c xs) (hm : xs.length ≤ 40) (hL : lightB l xs = true) :
    Calls Try.prog 4 #[.slice a l.length ka, .slice c xs.length kc, .int .i64 eff] w fun e w' => e = .returned (.bool true) ∧ Below w.heap.size w w' := by
  have HL := Lib.hid hL
  have HD := Lib.hid hD
  have HF := Lib.hid hF
  clear hL hD hF
  obtain ⟨i0, hi, hz0, hz1, hz2⟩ := info_parts Try.info25
  have Hi := Lib.hid hi
  have Hz0 := Lib.hid hz0
  have Hz1 := Lib.hid hz1
  have Hz2 := Lib.hid hz2
  clear hi hz0 hz1 hz2
  go_enter Try.func4, Try.ntmps4
  go_wp2_with (go_at_call 8; (with_reducible refine (light_any a c ka kc l xs _ HD.out (by unfold maxLen; omega) HF.out (by unfold maxLen; omega)).mono ?_); rintro e W ⟨rfl, hbW⟩; rw [HL.out])
  have hzW := hbW.size
  have HDW := Lib.hid (HD.out.mono hbW)
  have HFW := Lib.hid (HF.out.mono hbW)
  have HW := Lib.hid hbW
  go_loopw [7, 8] (fun v i wr => ∃ k : Nat, k ≤ l.length ∧ i = .int .i64 ((k : Int) - 1) ∧ wr.ownsRow W.heap.size 25 4 v (l.drop k).reverse.length ((l.drop k).reverse.flatMap ocs) ∧ Below W.heap.size W wr) (fun _ i _ => (intOf i + 1).toNat)
  case atStart => exact ⟨l.length, Nat.le_refl _, by go_num, by rw [List.drop_of_length_le (Nat.le_refl _)]; exact World.ownsRow_nil _ _ _ _, by (repeat' (first | with_reducible exact Below.refl _ _ | with_reducible assumption | with_reducible refine Below.drew ?_ | with_reducible refine below_drewN' ?_ _ | with_reducible refine Below.alloc ?_ ?_ _ | with_reducible refine Below.setCell ?_ ?_ _ | with_reducible refine below_step (by assumption) ?_ ?_ | omega | (simp; done) | (simp; omega)))⟩
  case round =>
    obtain ⟨k, hk, rfl, hown, hB⟩ := hrel
    obtain ⟨hcB, hfB⟩ := bcell hB
    have hbz := hB.size
    have Hown := Lib.hid hown
    have HB := Lib.hid hB
    clear hown
    rcases k with _ | j
    rotate_left
    · skip
      have hj1 : (((j + 1 : Nat) : Int) - 1) = (j : Int) := by omega
      (try rw [hj1])
      obtain ⟨x, hx⟩ := mem_at (l := l) (k := j) (by omega)
      have Hx := Lib.hid hx
      obtain ⟨b, off, e0, hb, hc⟩ := HDW.out (by omega)
      subst e0
      have hbw : b < wr.heap.size := by omega
      obtain ⟨c0, c1, c2, c3⟩ := tol_cells (hc j x hx)
      clear hc hx
      have hrev := rev_drop Hx.out
      have hrl : (l.drop (j + 1)).reverse.length ≤ 40 := by rw [List.length_reverse, List.length_drop]; omega
      have hc3 : (l.drop (j + 1)).reverse.length + 1 ≤ maxLen := by unfold maxLen; omega
      have hc4 : ((l.drop (j + 1)).reverse.length + 1) * 48 ≤ 140737488355328 := by omega
      have Hrow := Lib.hid (show (l.drop (j + 1)).reverse.flatMap ocs ++ ocs x = (l.drop j).reverse.flatMap ocs by rw [hrev]; simp)
      have Hlen := Lib.hid (show (l.drop (j + 1)).reverse.length + 1 = (l.drop j).reverse.length by rw [hrev]; simp)
      have HOx := Hown
      have HBx := HB
      have hbx := HB.out.size
      go_wp2_with (at_builtin; refine wpList_append_own _ rfl (.tmp 23) (.tmp 28) 22 rfl W.heap.size 25 i0 _ 4 48 Try.underlying22 Hi.out Hz0.out Hz1.out Hz2.out rfl (by decide) _ (l.drop (j + 1)).reverse.length ((l.drop (j + 1)).reverse.flatMap ocs) rfl (HOx.out.alloc _) ⟨wr.heap.size, 0, none⟩ 1 1 (ocs x) rfl rfl (news_at _ _ _) (ocs_one _) hc3 hc4 (le_alloc hbx _) ?_; intro v1 w1 hown1 hgrow1 _; rw [Hrow.out, Hlen.out] at hown1; have hB1 := own_below (HOx.out.alloc _) (HBx.out.alloc hbx _) (le_alloc hbx _) hgrow1; have HO1 := Lib.hid hown1; clear hown1 hgrow1)
      go_roundw
      case rel => exact ⟨j, by omega, by go_num, HO1.out, hB1⟩
      case measure => simp [intOf]
    · skip
      have h01 : (((0 : Nat) : Int) - 1) = -1 := rfl
      rw [h01]
      clear h01
      have h9 := Hown.out
      rw [List.drop_zero] at h9
      have hback : OwnL ocs 4 W.heap.size 25 l.reverse _ wr := h9
      clear h9
      obtain ⟨a7, k7, e7, n7, r7⟩ := hback.isL ocs_len (by decide)
      clear hback Hown
      rw [List.length_reverse] at e7
      subst e7
      have R7 := Lib.hid r7
      have HFW2 := Lib.hid (HFW.out.mono HB.out)
      have HDW2 := Lib.hid (HDW.out.mono HB.out)
      have HW2 := Lib.hid (HW.out.trans (HB.out.mono hzW))
      have hzW2 : w.heap.size ≤ wr.heap.size := by omega
      clear r7 n7 HB hcB hfB hB hbz HDW HFW HW
      obtain ⟨W, hW9⟩ : ∃ W9, W9 = wr := ⟨_, rfl⟩
      subst hW9
      clear HL hbW hzW
      obtain ⟨i0, hi, hz0, hz1, hz2⟩ := info_parts Try.info30
      have Hi := Lib.hid hi
      have Hz0 := Lib.hid hz0
      have Hz1 := Lib.hid hz1
      have Hz2 := Lib.hid hz2
      clear hi hz0 hz1 hz2
      go_wp2
      go_loopw [9, 10] (fun v i wr => ∃ k : Nat, k ≤ xs.length ∧ i = .int .i64 ((k : Int) - 1) ∧ wr.ownsRow W.heap.size 30 3 v (xs.drop k).reverse.length ((xs.drop k).reverse.flatMap tcs) ∧ Below W.heap.size W wr) (fun _ i _ => (intOf i + 1).toNat)
      case atStart => exact ⟨xs.length, Nat.le_refl _, by go_num, by rw [List.drop_of_length_le (Nat.le_refl _)]; exact World.ownsRow_nil _ _ _ _, by (repeat' (first | with_reducible exact Below.refl _ _ | with_reducible assumption | with_reducible refine Below.drew ?_ | with_reducible refine below_drewN' ?_ _ | with_reducible refine Below.alloc ?_ ?_ _ | with_reducible refine Below.setCell ?_ ?_ _ | with_reducible refine below_step (by assumption) ?_ ?_ | omega | (simp; done) | (simp; omega)))⟩
      case round =>
        obtain ⟨k, hk, rfl, hown, hB⟩ := hrel
        obtain ⟨hcB, hfB⟩ := bcell hB
        have hbz := hB.size
        have Hown := Lib.hid hown
        have HB := Lib.hid hB
        clear hown
        rcases k with _ | j
        rotate_left
        · skip
          have hj1 : (((j + 1 : Nat) : Int) - 1) = (j : Int) := by omega
          (try rw [hj1])
          obtain ⟨x, hx⟩ := mem_at (l := xs) (k := j) (by omega)
          have Hx := Lib.hid hx
          obtain ⟨b, off, e0, hb, hc⟩ := HFW2.out (by omega)
          subst e0
          have hbw : b < wr.heap.size := by omega
          obtain ⟨c0, c1, c2⟩ := tnt_cells (hc j x hx)
          clear hc hx
          have hrev := rev_drop Hx.out
          have hrl : (xs.drop (j + 1)).reverse.length ≤ 40 := by rw [List.length_reverse, List.length_drop]; omega
          have hc3 : (xs.drop (j + 1)).reverse.length + 1 ≤ maxLen := by unfold maxLen; omega
          have hc4 : ((xs.drop (j + 1)).reverse.length + 1) * 40 ≤ 140737488355328 := by omega
          have Hrow := Lib.hid (show (xs.drop (j + 1)).reverse.flatMap tcs ++ tcs x = (xs.drop j).reverse.flatMap tcs by rw [hrev]; simp)
          have Hlen := Lib.hid (show (xs.drop (j + 1)).reverse.length + 1 = (xs.drop j).reverse.length by rw [hrev]; simp)
          have HOx := Hown
          have HBx := HB
          have hbx := HB.out.size
          go_wp2_with (at_builtin; refine wpList_append_own _ rfl (.tmp 37) (.tmp 42) 23 rfl W.heap.size 30 i0 _ 3 40 Try.underlying23 Hi.out Hz0.out Hz1.out Hz2.out rfl (by decide) _ (xs.drop (j + 1)).reverse.length ((xs.drop (j + 1)).reverse.flatMap tcs) rfl (HOx.out.alloc _) ⟨wr.heap.size, 0, none⟩ 1 1 (tcs x) rfl rfl (news_at _ _ _) (tcs_one _) hc3 hc4 (le_alloc hbx _) ?_; intro v1 w1 hown1 hgrow1 _; rw [Hrow.out, Hlen.out] at hown1; have hB1 := own_below (HOx.out.alloc _) (HBx.out.alloc hbx _) (le_alloc hbx _) hgrow1; have HO1 := Lib.hid hown1; clear hown1 hgrow1)
          go_roundw
          case rel => exact ⟨j, by omega, by go_num, HO1.out, hB1⟩
          case measure => simp [intOf]
        · skip
          have h01 : (((0 : Nat) : Int) - 1) = -1 := rfl
          rw [h01]
          clear h01
          have h9 := Hown.out
          rw [List.drop_zero] at h9
          have hback : OwnL tcs 3 W.heap.size 30 xs.reverse _ wr := h9
          clear h9
          obtain ⟨a9, k9, e9, n9, r9⟩ := hback.isL tcs_len (by decide)
          clear hback Hown
          rw [List.length_reverse] at e9
          subst e9
          have RA := Lib.hid (HDW2.out.mono HB.out)
          have RB := Lib.hid (HFW2.out.mono HB.out)
          have RC := Lib.hid (R7.out.mono HB.out)
          have RD := Lib.hid r9
          have HBB := Lib.hid (HW2.out.trans (HB.out.mono hzW2))
          clear r9 n9 HB hcB hfB hB hbz HDW2 HFW2 HW2 R7
          obtain ⟨V, hV9⟩ : ∃ W9, W9 = wr := ⟨_, rfl⟩
          subst hV9
          have hn' : l.length ≤ 1000000 := by omega
          have hm' : xs.length ≤ 1000000 := by omega
          have hnr : l.reverse.length ≤ 1000000 := by rw [List.length_reverse]; omega
          have hmr : xs.reverse.length ≤ 1000000 := by rw [List.length_reverse]; omega
          have hU : (unborneL l xs eff).length ≤ 1000000 := Nat.le_trans (List.length_filter_le _ _) hm'
          have HA1 := Lib.hid fun n : Held V => allows_any a c ka kc l xs n.w (RA.out.mono n.below) hn' (RB.out.mono n.below) hm'
          have HA2 := Lib.hid fun n : Held V => by have h := allows_any a7 a9 k7 k9 l.reverse xs.reverse n.w (RC.out.mono n.below) hnr (RD.out.mono n.below) hmr; rw [allows_rev, List.length_reverse, List.length_reverse] at h; exact h
          have HA3 := Lib.hid fun n : Held V => prefers_any a c ka kc l xs n.w (RA.out.mono n.below) hn' (RB.out.mono n.below) hm'
          have HA4 := Lib.hid fun n : Held V => by have h := prefers_any a7 a9 k7 k9 l.reverse xs.reverse n.w (RC.out.mono n.below) hnr (RD.out.mono n.below) hmr; rw [unborne_rev2, List.length_reverse, List.length_reverse] at h; exact h
          have HA5 := Lib.hid fun n : Held V => unborne_any a c ka kc l xs eff n.w (RA.out.mono n.below) hn' (RB.out.mono n.below) hm'
          have HA6 := Lib.hid fun n : Held V => by have h := unborne_any a7 c k7 kc l.reverse xs eff n.w (RC.out.mono n.below) hnr (RB.out.mono n.below) hm'; rw [unborne_rev, List.length_reverse] at h; exact h
          have HU := Lib.hid hU
          clear hU
          have hzV := HBB.out.size
          go_wp2_with (first
            | ((with_reducible refine (HA1.out ⟨_, ?_⟩).mono ?_); rotate_left; (rintro e w1 ⟨rfl, hb1⟩; have hz1 := hb1.size); rotate_left; ((repeat' (first | with_reducible exact Below.refl _ _ | with_reducible assumption | with_reducible refine Below.drew ?_ | with_reducible refine below_drewN' ?_ _ | with_reducible refine Below.alloc ?_ ?_ _ | with_reducible refine Below.setCell ?_ ?_ _ | with_reducible refine below_step (by assumption) ?_ ?_ | omega | (simp; done) | (simp; omega)))))
            | ((with_reducible refine (HA2.out ⟨_, ?_⟩).mono ?_); rotate_left; (rintro e w2 ⟨rfl, hb2⟩; have hz2 := hb2.size); rotate_left; ((repeat' (first | with_reducible exact Below.refl _ _ | with_reducible assumption | with_reducible refine Below.drew ?_ | with_reducible refine below_drewN' ?_ _ | with_reducible refine Below.alloc ?_ ?_ _ | with_reducible refine Below.setCell ?_ ?_ _ | with_reducible refine below_step (by assumption) ?_ ?_ | omega | (simp; done) | (simp; omega)))))
            | ((with_reducible refine (HA3.out ⟨_, ?_⟩).mono ?_); rotate_left; (rintro e w3 ⟨rfl, hb3⟩; have hz3 := hb3.size); rotate_left; ((repeat' (first | with_reducible exact Below.refl _ _ | with_reducible assumption | with_reducible refine Below.drew ?_ | with_reducible refine below_drewN' ?_ _ | with_reducible refine Below.alloc ?_ ?_ _ | with_reducible refine Below.setCell ?_ ?_ _ | with_reducible refine below_step (by assumption) ?_ ?_ | omega | (simp; done) | (simp; omega)))))
            | ((with_reducible refine (HA4.out ⟨_, ?_⟩).mono ?_); rotate_left; (rintro e w4 ⟨rfl, hb4⟩; have hz4 := hb4.size); rotate_left; ((repeat' (first | with_reducible exact Below.refl _ _ | with_reducible assumption | with_reducible refine Below.drew ?_ | with_reducible refine below_drewN' ?_ _ | with_reducible refine Below.alloc ?_ ?_ _ | with_reducible refine Below.setCell ?_ ?_ _ | with_reducible refine below_step (by assumption) ?_ ?_ | omega | (simp; done) | (simp; omega)))))
            | ((with_reducible refine (HA5.out ⟨_, ?_⟩).mono ?_); rotate_left; (rintro e w5 ⟨⟨v5, rfl, hv5⟩, hb5⟩; have hz5 := hb5.size; obtain ⟨q5, kq5, rfl, _, hr5⟩ := hv5.isL tcs_len (by decide); have HR5 := Lib.hid hr5; clear hr5 hv5); rotate_left; ((repeat' (first | with_reducible exact Below.refl _ _ | with_reducible assumption | with_reducible refine Below.drew ?_ | with_reducible refine below_drewN' ?_ _ | with_reducible refine Below.alloc ?_ ?_ _ | with_reducible refine Below.setCell ?_ ?_ _ | with_reducible refine below_step (by assumption) ?_ ?_ | omega | (simp; done) | (simp; omega)))))
            | ((with_reducible refine (HA6.out ⟨_, ?_⟩).mono ?_); rotate_left; (rintro e w6 ⟨⟨v6, rfl, hv6⟩, hb6⟩; have hz6 := hb6.size; obtain ⟨q6, kq6, rfl, _, hr6⟩ := hv6.isL tcs_len (by decide); have HR6 := Lib.hid hr6; clear hr6 hv6); rotate_left; ((repeat' (first | with_reducible exact Below.refl _ _ | with_reducible assumption | with_reducible refine Below.drew ?_ | with_reducible refine below_drewN' ?_ _ | with_reducible refine Below.alloc ?_ ?_ _ | with_reducible refine Below.setCell ?_ ?_ _ | with_reducible refine below_step (by assumption) ?_ ?_ | omega | (simp; done) | (simp; omega)))))
            | (go_at_call 13; (with_reducible refine (same_any q5 q6 kq5 kq6 _ _ _ (HR5.out.mono (by (repeat' (first | with_reducible exact Below.refl _ _ | with_reducible assumption | with_reducible refine Below.drew ?_ | with_reducible refine below_drewN' ?_ _ | with_reducible refine Below.alloc ?_ ?_ _ | with_reducible refine Below.setCell ?_ ?_ _ | with_reducible refine below_step (by assumption) ?_ ?_ | omega | (simp; done) | (simp; omega))))) HR6.out HU.out HU.out).mono ?_); rw [kvS]; rintro e w7 ⟨rfl, hb7⟩; have hz7 := hb7.size)
            | (go_at_call 9; (with_reducible refine (known_any _).mono ?_); rintro e w8 ⟨rfl, hb8⟩))
          all_goals
            go_ret
            exact ⟨by simp, HBB.out.trans (by (repeat' (first | with_reducible exact Below.refl _ _ | with_reducible assumption | with_reducible refine Below.drew ?_ | with_reducible refine below_drewN' ?_ _ | with_reducible refine Below.alloc ?_ ?_ _ | with_reducible refine Below.setCell ?_ ?_ _ | with_reducible refine below_step (by assumption) ?_ ?_ | omega | (simp; done) | (simp; omega))))⟩

theorem walk {H : Type} {enc : TypeId × Value → H} {W : World} {base : Nat} {v u : Value} {d f : DataW H} {p q : List MemPlace} (N : Int)
    (hv : Value.okWide Try.prog W .any base 22 v) (h : DataW.Trod enc Try.prog W 0 (fun _ => true) true 22 v d p)
    (hu : Value.okWide Try.prog W .any base 23 u) (k : DataW.Trod enc Try.prog W 0 (fun _ => true) true 23 u f q) :
    Calls Try.prog 4 #[v, u, .int .i64 N] W fun e W' => e = .returned (.bool true) ∧ Below W.heap.size W W' := by
  obtain ⟨a, l, ka, rfl, _, hD, hn, _⟩ := open_tols hv h
  obtain ⟨c, xs, kc, rfl, _, hF, hm, _⟩ := open_tnts hu k
  cases hL : lightB l xs
  · exact walk_no a c ka kc l xs N W hD hn hF hm hL
  · have h2 := hL
    unfold lightB at h2
    rw [Bool.and_eq_true, decide_eq_true_eq] at h2
    exact walk_yes a c ka kc l xs N W hD h2.1.1 hF h2.1.2 hL

set_option maxRecDepth 100000 in
theorem lifted (os : Os) (started : os.Started) (H : Type) (enc : TypeId × Value → H) :
    ReturnsInHanded {} Try.checked os 4 .any (Rows.taintsOrderSpec.pre6 enc Try.prog Try.f4 Rows.taintsOrderRow.domain false) (Rows.taintsOrderSpec.post enc Try.prog Try.f4 false true false false) := by
  refine returnsInHanded_of_change (C := Try.checked) Try.own started (by kernel_rfl) Try.func4
    (ChangeSpec.witness6 (enc := enc) (C := Try.checked) false ⟨#[], #[.slice none 0 0, .slice none 0 0, .int .i64 0], []⟩ 8 (by kernel_rfl) (by kernel_rfl) (by kernel_rfl) (by kernel_rfl)) ?_
  intro W base args ds gs before hval hW _ _
  have hW' := hW
  obtain ⟨p, q, hA, hV, rfl, hfz, hnd⟩ := hW
  rw [Try.params4] at hA hval
  obtain ⟨v0, v1, v2, d0, d1, d2, p0, p1, p2, rfl, rfl, rfl, h0, h1, h2⟩ := trodAll_three hA
  obtain ⟨n, rfl, _, _, w2⟩ := open_int Try.underlying3 (hval 2 3 v2 rfl rfl) h2
  refine (walk n (hval 0 22 v0 rfl rfl) h0 (hval 1 23 v1 rfl rfl) h1).mono fun e W' ⟨he, hb⟩ => ?_
  exact ⟨_, he, law_post Try.laidOut hW' rfl (by kernel_rfl) (by kernel_rfl) Try.underlying4 rfl rfl rfl hb⟩

theorem over : Rows.taintsOrderRow.holds Try.pinned (OpenSpec.ofChange Rows.taintsOrderSpec) :=
  OpenClaim.holds_of_wide 4 Try.f4 rfl rfl rfl rfl rfl rfl rfl ⟨rfl, rfl, rfl, rfl, rfl⟩ rfl rfl rfl rfl rfl (by kernel_rfl) Try.func4 (by kernel_rfl)
    (of_decide_eq_true (by kernel_rfl)) (by unfold Func.isWrapper; first | (rw [if_pos (by decide +kernel)]; kernel_rfl) | (rw [if_neg (by decide +kernel)]; exact ⟨rfl, rfl⟩))
    (fun os started H enc _ => lifted os started H enc)

/-- The statement. -/
theorem proved : Rows.TaintsOrderSaid := over
end taintsOrder
end Go.Proofs.Ytlfjjiepclphiaa
