/-
  The contract of labels.Set.
-/
import Derived.Test.YtemeocgmlhmooaaLab3
import Derived.OwnWalk
namespace Go.Proofs.Ytemeocgmlhmooaa
open Go.RowKit
set_option linter.unusedVariables false

theorem tail_zero (key : ByteArray) (l : List Lab) (k : Nat) : tailK key l k k = [] := by
  unfold tailK
  simp

set_option maxRecDepth 100000 in
set_option maxHeartbeats 8000000 in
theorem set_any (c : Option Addr) (kc : Nat) (xs : List Lab) (key val : ByteArray) (W : World) (hF : LabL W c xs) (hm : xs.length ≤ 1000) :
    Calls Try.prog 15 #[.slice c xs.length kc, .string key, .string val] W (Gives W (OwnL kcs 2 W.heap.size 36 (setP xs key val))) := by
  have HF := Lib.hid hF
  clear hF
  obtain ⟨i0, hi, hz0, hz1, hz2⟩ := info_parts Try.info36
  have Hi := Lib.hid hi
  have Hz0 := Lib.hid hz0
  have Hz1 := Lib.hid hz1
  have Hz2 := Lib.hid hz2
  clear hi hz0 hz1 hz2
  obtain ⟨n, hln⟩ : ∃ n, xs.length = n := ⟨_, rfl⟩
  rw [hln] at hm ⊢
  have Hln := Lib.hid hln
  clear hln
  have hw1 : IntKind.i64.wrap ((n : Int) + 1) = (n : Int) + 1 := wrap_in (by omega) (by omega)
  go_enter Try.func15, Try.ntmps15
  go_wp2_with (at_make; refine wpList_make_own W rfl (.const (.int .i64 0)) (.tmp 11) 22 rfl W.heap.size 36 i0 _ 2 Try.underlying22 Hi.out Hz0.out Hz1.out .i64 .i64 _ (n + 1) rfl rfl (by omega) (by rw [Hz2.out]; omega) (by unfold maxLen; omega) (Nat.le_refl _) ?_; intro W0 hown0 hgrow0; have HO0 := Lib.hid hown0; have HB0 := Lib.hid (own_below (World.ownsRow_nil _ _ _ _ : W.ownsRow W.heap.size 36 2 (.slice none 0 0) 0 []) (Below.refl _ W) (Nat.le_refl _) hgrow0); clear hown0 hgrow0)
  go_loopw [7, 8] (fun v i wr => ∃ k : Nat, k ≤ n ∧ i = .int .i64 k ∧ (xs.take k).all (aheadB key) = true ∧ wr.ownsRow W.heap.size 36 2 v (xs.take k).length ((xs.take k).flatMap kcs) ∧ Below W.heap.size W wr) (fun _ i _ => n - (intOf i).toNat)
  case atStart => exact ⟨0, Nat.zero_le _, rfl, rfl, HO0.out, HB0.out⟩
  case round =>
    obtain ⟨k, hk, rfl, hE, hown, hB⟩ := hrel
    obtain ⟨hcB, hfB⟩ := bcell hB
    have hbz := hB.size
    have Hown := Lib.hid hown
    have HB := Lib.hid hB
    have HE := Lib.hid hE
    clear hown hE
    by_cases hlt : k < n
    · obtain ⟨x, hx⟩ := mem_at (l := xs) (k := k) (by rw [Hln.out]; exact hlt)
      obtain ⟨b, off, rfl, hb, hc⟩ := HF.out (by rw [Hln.out]; omega)
      have hbw : b < wr.heap.size := by omega
      obtain ⟨c0, c1⟩ := lab_cells (hc k x hx)
      have Hx := Lib.hid hx
      clear hc hx
      cases ha : aheadB key x
      · have Hend := Lib.hid (while_at HE.out (.inr ⟨x, Hx.out, ha⟩))
        have k1 : Op.bytesLess x.key.toList key.toList = false := (less_eq _ _).symm.trans ha
        clear ha
        obtain ⟨w5, h5⟩ : ∃ w5, w5 = wr := ⟨_, rfl⟩
        subst h5
        have HOx := Hown
        have HBx := HB
        have hbx := HB.out.size
        have hL : (xs.take k).length ≤ k := List.length_take_le _ _
        have hc3 : (xs.take k).length + 1 ≤ maxLen := by unfold maxLen; omega
        have hc4 : ((xs.take k).length + 1) * 32 ≤ 140737488355328 := by omega
        have Hrow := Lib.hid (show (xs.take k).flatMap kcs ++ kcs (Lab.mk key val) = ((xs.take k ++ [Lab.mk key val]) ++ tailK key xs k k).flatMap kcs by rw [tail_zero]; simp)
        have Hlen := Lib.hid (show (xs.take k).length + 1 = ((xs.take k ++ [Lab.mk key val]) ++ tailK key xs k k).length by rw [tail_zero]; simp)
        clear hL
        go_wp2_with (at_builtin; refine wpList_append_own _ rfl (.tmp 35) (.tmp 39) 22 rfl W.heap.size 36 i0 _ 2 32 Try.underlying22 Hi.out Hz0.out Hz1.out Hz2.out rfl (by decide) _ (xs.take k).length ((xs.take k).flatMap kcs) rfl (HOx.out.alloc _) ⟨w5.heap.size, 0, none⟩ 1 1 (kcs (Lab.mk key val)) rfl rfl (news_at _ _ _) (kcs_one _) hc3 hc4 (le_alloc hbx _) ?_; intro v1 w1 hown1 hgrow1 _; rw [Hrow.out, Hlen.out] at hown1; have hB1 := own_below (HOx.out.alloc _) (HBx.out.alloc hbx _) (le_alloc hbx _) hgrow1; have HO1 := Lib.hid hown1; clear hown1 hgrow1)
        have HB1 := Lib.hid hB1
        clear hB1 hc3 hc4 Hrow Hlen HOx HBx hbx hcB hfB hbz Hown HB hB
        go_loopw [7, 8] (fun v i wr => ∃ j : Nat, k ≤ j ∧ j ≤ n ∧ i = .int .i64 j ∧ wr.ownsRow W.heap.size 36 2 v ((xs.take k ++ [Lab.mk key val]) ++ tailK key xs k j).length (((xs.take k ++ [Lab.mk key val]) ++ tailK key xs k j).flatMap kcs) ∧ Below W.heap.size W wr) (fun _ i _ => n - (intOf i).toNat)
        case atStart => exact ⟨k, Nat.le_refl _, hk, rfl, HO1.out, HB1.out⟩
        case round =>
          obtain ⟨j, hkj, hj, rfl, hown, hB⟩ := hrel
          obtain ⟨hcB, hfB⟩ := bcell hB
          have hbz := hB.size
          have Hown := Lib.hid hown
          have HB := Lib.hid hB
          clear hown
          by_cases hlj : j < n
          · obtain ⟨y, hy⟩ := mem_at (l := xs) (k := j) (by rw [Hln.out]; exact hlj)
            obtain ⟨b, off, e8, hb, hc⟩ := HF.out (by rw [Hln.out]; omega)
            first | subst e8 | (cases e8)
            have hbw : b < wr.heap.size := by omega
            obtain ⟨d0, d1⟩ := lab_cells (hc j y hy)
            have Hy := Lib.hid hy
            clear hc hy
            have hL : ((xs.take k ++ [Lab.mk key val]) ++ tailK key xs k j).length ≤ 2 * n + 1 := by
              have := tail_len key xs k j
              have := List.length_take_le k xs
              simp only [List.length_append, List.length_cons, List.length_nil]
              omega
            cases hv : otherB key y
            · have Hs := Lib.hid (tail_no hkj Hy.out hv)
              have hs1 := other_no hv
              clear hv hL
              go_wp2
              go_roundw
              case rel => exact ⟨j + 1, by omega, by omega, by go_num, by rw [Hs.out]; exact Hown.out, by (repeat' (first | with_reducible exact Below.refl _ _ | with_reducible assumption | with_reducible refine Below.drew ?_ | with_reducible refine below_drewN' ?_ _ | with_reducible refine Below.alloc ?_ ?_ _ | with_reducible refine Below.setCell ?_ ?_ _ | with_reducible refine below_step (by assumption) ?_ ?_ | omega | (simp; done) | (simp; omega)))⟩
              case measure => simp [intOf]; omega
            · have Hs := Lib.hid (tail_yes hkj Hy.out hv)
              have hs1 := other_yes hv
              have hc3 : ((xs.take k ++ [Lab.mk key val]) ++ tailK key xs k j).length + 1 ≤ maxLen := by unfold maxLen; omega
              have hc4 : (((xs.take k ++ [Lab.mk key val]) ++ tailK key xs k j).length + 1) * 32 ≤ 140737488355328 := by omega
              have Hrow := Lib.hid (show ((xs.take k ++ [Lab.mk key val]) ++ tailK key xs k j).flatMap kcs ++ kcs y = ((xs.take k ++ [Lab.mk key val]) ++ tailK key xs k (j + 1)).flatMap kcs by rw [Hs.out]; simp)
              have Hlen := Lib.hid (show ((xs.take k ++ [Lab.mk key val]) ++ tailK key xs k j).length + 1 = ((xs.take k ++ [Lab.mk key val]) ++ tailK key xs k (j + 1)).length by rw [Hs.out]; simp; omega)
              have HOx := Hown
              have HBx := HB
              have hbx := HB.out.size
              obtain ⟨m9, hm9⟩ : ∃ m9, ((xs.take k ++ [Lab.mk key val]) ++ tailK key xs k j).length = m9 := ⟨_, rfl⟩
              clear hv hL
              go_wp2_with (at_builtin; refine wpList_append_own _ rfl (.tmp 54) (.tmp 59) 22 rfl W.heap.size 36 i0 _ 2 32 Try.underlying22 Hi.out Hz0.out Hz1.out Hz2.out rfl (by decide) _ ((xs.take k ++ [Lab.mk key val]) ++ tailK key xs k j).length (((xs.take k ++ [Lab.mk key val]) ++ tailK key xs k j).flatMap kcs) rfl (HOx.out.alloc _) ⟨wr.heap.size, 0, none⟩ 1 1 (kcs y) rfl rfl (news_at _ _ _) (kcs_one _) hc3 hc4 (le_alloc hbx _) ?_; intro v1 w1 hown1 hgrow1 _; rw [Hrow.out, Hlen.out] at hown1; have hB1 := own_below (HOx.out.alloc _) (HBx.out.alloc hbx _) (le_alloc hbx _) hgrow1; have HO1 := Lib.hid hown1; clear hown1 hgrow1)
              go_roundw
              case rel => exact ⟨j + 1, by omega, by omega, by go_num, HO1.out, hB1⟩
              case measure => simp [intOf]; omega
          · obtain rfl : j = n := by omega
            have He := Lib.hid (show (xs.take k ++ [Lab.mk key val]) ++ tailK key xs k j = setP xs key val by rw [tail_end Hln.out]; unfold setP; rw [Hend.out.1, Hend.out.2]; simp)
            have HP := Lib.hid (show ∀ v, wr.ownsRow W.heap.size 36 2 v ((xs.take k ++ [Lab.mk key val]) ++ tailK key xs k j).length (((xs.take k ++ [Lab.mk key val]) ++ tailK key xs k j).flatMap kcs) → Gives W (OwnL kcs 2 W.heap.size 36 (setP xs key val)) (.returned v) wr from fun v h => ⟨⟨v, rfl, by rw [He.out] at h; exact h⟩, HB.out⟩)
            go_wp2
            refine bodyPost_ret (by simp [results, Try.results15, go_sem]) rfl (HP.out _ Hown.out)
      · have Hall := Lib.hid (all_take1 Hx.out ha HE.out)
        have k1 : Op.bytesLess x.key.toList key.toList = true := (less_eq _ _).symm.trans ha
        have HOx := Hown
        have HBx := HB
        have hbx := HB.out.size
        have hL : (xs.take k).length ≤ k := List.length_take_le _ _
        have hc3 : (xs.take k).length + 1 ≤ maxLen := by unfold maxLen; omega
        have hc4 : ((xs.take k).length + 1) * 32 ≤ 140737488355328 := by omega
        have Hrow := Lib.hid (show (xs.take k).flatMap kcs ++ kcs x = (xs.take (k + 1)).flatMap kcs by rw [take_at Hx.out]; simp)
        have Hlen := Lib.hid (show (xs.take k).length + 1 = (xs.take (k + 1)).length by rw [take_at Hx.out]; simp)
        clear hL ha
        go_wp2_with (at_builtin; refine wpList_append_own _ rfl (.tmp 28) (.tmp 33) 22 rfl W.heap.size 36 i0 _ 2 32 Try.underlying22 Hi.out Hz0.out Hz1.out Hz2.out rfl (by decide) _ (xs.take k).length ((xs.take k).flatMap kcs) rfl (HOx.out.alloc _) ⟨wr.heap.size, 0, none⟩ 1 1 (kcs x) rfl rfl (news_at _ _ _) (kcs_one _) hc3 hc4 (le_alloc hbx _) ?_; intro v1 w1 hown1 hgrow1 _; rw [Hrow.out, Hlen.out] at hown1; have hB1 := own_below (HOx.out.alloc _) (HBx.out.alloc hbx _) (le_alloc hbx _) hgrow1; have HO1 := Lib.hid hown1; clear hown1 hgrow1)
        go_roundw
        case rel => exact ⟨k + 1, by omega, by go_num, Hall.out, HO1.out, hB1⟩
        case measure => simp [intOf]; omega
    · have hkn : k = n := by omega
      have Hend := Lib.hid (while_at HE.out (.inl (hkn.trans Hln.out.symm)))
      have Hkn := Lib.hid hkn
      clear hkn
      obtain ⟨w5, h5⟩ : ∃ w5, w5 = wr := ⟨_, rfl⟩
      subst h5
      have HOx := Hown
      have HBx := HB
      have hbx := HB.out.size
      have hL : (xs.take k).length ≤ k := List.length_take_le _ _
      have hc3 : (xs.take k).length + 1 ≤ maxLen := by unfold maxLen; omega
      have hc4 : ((xs.take k).length + 1) * 32 ≤ 140737488355328 := by omega
      have Hrow := Lib.hid (show (xs.take k).flatMap kcs ++ kcs (Lab.mk key val) = ((xs.take k ++ [Lab.mk key val]) ++ tailK key xs k k).flatMap kcs by rw [tail_zero]; simp)
      have Hlen := Lib.hid (show (xs.take k).length + 1 = ((xs.take k ++ [Lab.mk key val]) ++ tailK key xs k k).length by rw [tail_zero]; simp)
      clear hL
      go_wp2_with (at_builtin; refine wpList_append_own _ rfl (.tmp 35) (.tmp 39) 22 rfl W.heap.size 36 i0 _ 2 32 Try.underlying22 Hi.out Hz0.out Hz1.out Hz2.out rfl (by decide) _ (xs.take k).length ((xs.take k).flatMap kcs) rfl (HOx.out.alloc _) ⟨w5.heap.size, 0, none⟩ 1 1 (kcs (Lab.mk key val)) rfl rfl (news_at _ _ _) (kcs_one _) hc3 hc4 (le_alloc hbx _) ?_; intro v1 w1 hown1 hgrow1 _; rw [Hrow.out, Hlen.out] at hown1; have hB1 := own_below (HOx.out.alloc _) (HBx.out.alloc hbx _) (le_alloc hbx _) hgrow1; have HO1 := Lib.hid hown1; clear hown1 hgrow1)
      have HB1 := Lib.hid hB1
      clear hB1 hc3 hc4 Hrow Hlen HOx HBx hbx hcB hfB hbz Hown HB hB
      go_loopw [7, 8] (fun v i wr => ∃ j : Nat, k ≤ j ∧ j ≤ n ∧ i = .int .i64 j ∧ wr.ownsRow W.heap.size 36 2 v ((xs.take k ++ [Lab.mk key val]) ++ tailK key xs k j).length (((xs.take k ++ [Lab.mk key val]) ++ tailK key xs k j).flatMap kcs) ∧ Below W.heap.size W wr) (fun _ i _ => n - (intOf i).toNat)
      case atStart => exact ⟨k, Nat.le_refl _, hk, rfl, HO1.out, HB1.out⟩
      case round =>
        obtain ⟨j, hkj, hj, rfl, hown, hB⟩ := hrel
        obtain ⟨hcB, hfB⟩ := bcell hB
        have hbz := hB.size
        have Hown := Lib.hid hown
        have HB := Lib.hid hB
        clear hown
        by_cases hlj : j < n
        · exfalso
          have := Hkn.out
          omega
        · obtain rfl : j = n := by omega
          have He := Lib.hid (show (xs.take k ++ [Lab.mk key val]) ++ tailK key xs k j = setP xs key val by rw [tail_end Hln.out]; unfold setP; rw [Hend.out.1, Hend.out.2]; simp)
          have HP := Lib.hid (show ∀ v, wr.ownsRow W.heap.size 36 2 v ((xs.take k ++ [Lab.mk key val]) ++ tailK key xs k j).length (((xs.take k ++ [Lab.mk key val]) ++ tailK key xs k j).flatMap kcs) → Gives W (OwnL kcs 2 W.heap.size 36 (setP xs key val)) (.returned v) wr from fun v h => ⟨⟨v, rfl, by rw [He.out] at h; exact h⟩, HB.out⟩)
          go_wp2
          refine bodyPost_ret (by simp [results, Try.results15, go_sem]) rfl (HP.out _ Hown.out)
end Go.Proofs.Ytemeocgmlhmooaa
