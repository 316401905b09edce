/-
  The contracts of labels.Drop, triremeref05.Drop.
-/
import Derived.Test.YtemeocgmlhmooaaLab1
namespace Go.Proofs.Ytemeocgmlhmooaa
open Go.RowKit
set_option linter.unusedVariables false

theorem OwnL.eq {α : Type} {enc : α → List Value} {K base : Nat} {t : TypeId} {l m : List α} {v : Value} {w : World} (hl : l = m) (h : w.ownsRow base t K v m.length (m.flatMap enc)) : OwnL enc K base t l v w := hl ▸ h
theorem filt_yes {α : Type} {P : α → Bool} {xs : List α} {k : Nat} {x : α} (h : xs[k]? = some x) (hp : P x = true) : (xs.take (k + 1)).filter P = (xs.take k).filter P ++ [x] := by
  rw [take_at h, List.filter_append]; simp [hp]
theorem filt_no {α : Type} {P : α → Bool} {xs : List α} {k : Nat} {x : α} (h : xs[k]? = some x) (hp : P x = false) : (xs.take (k + 1)).filter P = (xs.take k).filter P := by
  rw [take_at h, List.filter_append]; simp [hp]
theorem filt_len {α : Type} (P : α → Bool) (xs : List α) (k : Nat) : ((xs.take k).filter P).length ≤ k := Nat.le_trans (List.length_filter_le _ _) (List.length_take_le _ _)
theorem filt_all {α : Type} (P : α → Bool) {xs : List α} {n : Nat} (h : xs.length = n) : (xs.take n).filter P = xs.filter P := by rw [← h, List.take_length]

/-- Labels without one. -/
def otherB (key : ByteArray) (x : Lab) : Bool := !strB x.key key
def dropL (l : List Lab) (key : ByteArray) : List Lab := l.filter (otherB key)
theorem other_no {key : ByteArray} {x : Lab} (h : otherB key x = false) : (x.key.toList == key.toList) = true := by
  rw [strB_list]; unfold otherB at h; simpa using h
theorem other_yes {key : ByteArray} {x : Lab} (h : otherB key x = true) : (x.key.toList == key.toList) = false := by
  rw [strB_list]; unfold otherB at h; simpa using h

set_option maxRecDepth 100000 in
set_option maxHeartbeats 4000000 in
theorem drop_any (c : Option Addr) (kc : Nat) (xs : List Lab) (key : ByteArray) (w : World) (hF : LabL w c xs) (hm : xs.length ≤ 1000000) :
    Calls Try.prog 16 #[.slice c xs.length kc, .string key] w (Gives w (OwnL kcs 2 w.heap.size 36 (dropL xs key))) := by
  have HF := Lib.hid hF
  clear hF
  obtain ⟨i0, hi, hz0, hz1, hz2⟩ := info_parts Try.info36
  have Hi := Lib.hid hi
  have Hz0 := Lib.hid hz0
  have Hz1 := Lib.hid hz1
  have Hz2 := Lib.hid hz2
  clear hi hz0 hz1 hz2
  obtain ⟨n, hln⟩ : ∃ n, xs.length = n := ⟨_, rfl⟩
  rw [hln] at hm ⊢
  have Hln := Lib.hid hln
  clear hln
  go_enter Try.func16, Try.ntmps16
  go_wp2
  obtain ⟨W, hW⟩ : ∃ W, W = w := ⟨_, rfl⟩
  have HW := Lib.hid (show Below w.heap.size w W by rw [hW]; (repeat' (first | with_reducible exact Below.refl _ _ | with_reducible assumption | with_reducible refine Below.drew ?_ | with_reducible refine below_drewN' ?_ _ | with_reducible refine Below.alloc ?_ ?_ _ | with_reducible refine Below.setCell ?_ ?_ _ | with_reducible refine below_step (by assumption) ?_ ?_ | omega | (simp; done) | (simp; omega))))
  have hWz : w.heap.size ≤ W.heap.size := HW.out.size
  have HFW := Lib.hid (HF.out.mono HW.out)
  (try rw [← hW])
  clear hW
  go_loopw [5, 10] (fun v i wr => ∃ k : Nat, k ≤ n ∧ i = .int .i64 k ∧ wr.ownsRow W.heap.size 36 2 v ((xs.take k).filter (otherB key)).length (((xs.take k).filter (otherB key)).flatMap kcs) ∧ Below W.heap.size W wr) (fun _ i _ => n - (intOf i).toNat)
  case atStart => exact ⟨0, by omega, rfl, World.ownsRow_nil _ _ _ _, by (repeat' (first | with_reducible exact Below.refl _ _ | with_reducible assumption | with_reducible refine Below.drew ?_ | with_reducible refine below_drewN' ?_ _ | with_reducible refine Below.alloc ?_ ?_ _ | with_reducible refine Below.setCell ?_ ?_ _ | with_reducible refine below_step (by assumption) ?_ ?_ | omega | (simp; done) | (simp; omega)))⟩
  case round =>
    obtain ⟨k, hk, rfl, hown, hB⟩ := hrel
    obtain ⟨hcB, hfB⟩ := bcell hB
    have hbz := hB.size
    have Hown := Lib.hid hown
    have HB := Lib.hid hB
    clear hown
    by_cases hlt : k < n
    · skip
      obtain ⟨x, hx⟩ := mem_at (l := xs) (k := k) (by rw [Hln.out]; exact hlt)
      have Hx := Lib.hid hx
      obtain ⟨b, off, rfl, hb, hc⟩ := HFW.out (by rw [Hln.out]; omega)
      have hbw : b < wr.heap.size := by omega
      obtain ⟨c0, c1⟩ := lab_cells (hc k x hx)
      clear hc hx
      cases hv : otherB key x
      · skip
        have Hs := Lib.hid (filt_no Hx.out (P := (otherB key)) (show (otherB key) x = false from hv))
        have hs1 := other_no hv
        clear hv
        go_wp2
        go_roundw
        case rel => exact ⟨k + 1, by omega, by go_num, by rw [Hs.out]; exact Hown.out.alloc _, by (repeat' (first | with_reducible exact Below.refl _ _ | with_reducible assumption | with_reducible refine Below.drew ?_ | with_reducible refine below_drewN' ?_ _ | with_reducible refine Below.alloc ?_ ?_ _ | with_reducible refine Below.setCell ?_ ?_ _ | with_reducible refine below_step (by assumption) ?_ ?_ | omega | (simp; done) | (simp; omega)))⟩
        case measure => simp [intOf]; omega
      · skip
        have Hs := Lib.hid (filt_yes Hx.out (P := (otherB key)) (show (otherB key) x = true from hv))
        have hL := filt_len (otherB key) xs k
        have hc3 : ((xs.take k).filter (otherB key)).length + 1 ≤ maxLen := by unfold maxLen; omega
        have hc4 : (((xs.take k).filter (otherB key)).length + 1) * 32 ≤ 140737488355328 := by omega
        have Hrow := Lib.hid (show ((xs.take k).filter (otherB key)).flatMap kcs ++ kcs x = ((xs.take (k + 1)).filter (otherB key)).flatMap kcs by rw [Hs.out]; simp)
        have Hlen := Lib.hid (show ((xs.take k).filter (otherB key)).length + 1 = ((xs.take (k + 1)).filter (otherB key)).length by rw [Hs.out]; simp)
        clear hL
        have hs1 := other_yes hv
        have HOx := Lib.hid (Hown.out.alloc (.cells #[.string x.key, .string x.val] 36))
        have HBx := Lib.hid (HB.out.alloc HB.out.size (.cells #[.string x.key, .string x.val] 36))
        have hbx := le_alloc HB.out.size (.cells #[.string x.key, .string x.val] 36)
        clear hv
        go_wp2_with (at_builtin; refine wpList_append_own _ rfl (.tmp 18) (.tmp 20) 22 rfl W.heap.size 36 i0 _ 2 32 Try.underlying22 Hi.out Hz0.out Hz1.out Hz2.out rfl (by decide) _ ((xs.take k).filter (otherB key)).length (((xs.take k).filter (otherB key)).flatMap kcs) rfl (HOx.out.alloc _) ⟨wr.heap.size + 1, 0, none⟩ 1 1 (kcs x) rfl rfl (news_at2 _ _ _ _) (kcs_one _) hc3 hc4 (le_alloc hbx _) ?_; intro v1 w1 hown1 hgrow1 _; rw [Hrow.out, Hlen.out] at hown1; have hB1 := own_below (HOx.out.alloc _) (HBx.out.alloc hbx _) (le_alloc hbx _) hgrow1; have HO1 := Lib.hid hown1; clear hown1 hgrow1)
        go_roundw
        case rel => exact ⟨k + 1, by omega, by go_num, HO1.out, hB1⟩
        case measure => simp [intOf]; omega
    · skip
      obtain rfl : k = n := by omega
      have HP := Lib.hid (show ∀ v, wr.ownsRow W.heap.size 36 2 v ((xs.take k).filter (otherB key)).length (((xs.take k).filter (otherB key)).flatMap kcs) → Gives w (OwnL kcs 2 w.heap.size 36 (dropL xs key)) (.returned v) wr from fun v h => ⟨⟨v, rfl, OwnL.mono (OwnL.eq (filt_all _ Hln.out).symm h) hWz⟩, HW.out.trans (HB.out.mono hWz)⟩)
      go_wp2
      refine bodyPost_ret (by simp [results, Try.results16, go_sem]) rfl (HP.out _ Hown.out)

set_option maxRecDepth 100000 in
set_option maxHeartbeats 4000000 in
theorem refdrop_any (c : Option Addr) (kc : Nat) (xs : List Lab) (key : ByteArray) (w : World) (hF : LabL w c xs) (hm : xs.length ≤ 1000000) :
    Calls Try.prog 19 #[.slice c xs.length kc, .string key] w (Gives w (OwnL kcs 2 w.heap.size 36 (dropL xs key))) := by
  have HF := Lib.hid hF
  clear hF
  obtain ⟨i0, hi, hz0, hz1, hz2⟩ := info_parts Try.info36
  have Hi := Lib.hid hi
  have Hz0 := Lib.hid hz0
  have Hz1 := Lib.hid hz1
  have Hz2 := Lib.hid hz2
  clear hi hz0 hz1 hz2
  obtain ⟨n, hln⟩ : ∃ n, xs.length = n := ⟨_, rfl⟩
  rw [hln] at hm ⊢
  have Hln := Lib.hid hln
  clear hln
  go_enter Try.func19, Try.ntmps19
  go_wp2
  obtain ⟨W, hW⟩ : ∃ W, W = w := ⟨_, rfl⟩
  have HW := Lib.hid (show Below w.heap.size w W by rw [hW]; (repeat' (first | with_reducible exact Below.refl _ _ | with_reducible assumption | with_reducible refine Below.drew ?_ | with_reducible refine below_drewN' ?_ _ | with_reducible refine Below.alloc ?_ ?_ _ | with_reducible refine Below.setCell ?_ ?_ _ | with_reducible refine below_step (by assumption) ?_ ?_ | omega | (simp; done) | (simp; omega))))
  have hWz : w.heap.size ≤ W.heap.size := HW.out.size
  have HFW := Lib.hid (HF.out.mono HW.out)
  (try rw [← hW])
  clear hW
  go_loopw [5, 6] (fun v i wr => ∃ k : Nat, k ≤ n ∧ i = .int .i64 k ∧ wr.ownsRow W.heap.size 36 2 v ((xs.take k).filter (otherB key)).length (((xs.take k).filter (otherB key)).flatMap kcs) ∧ Below W.heap.size W wr) (fun _ i _ => n - (intOf i).toNat)
  case atStart => exact ⟨0, by omega, rfl, World.ownsRow_nil _ _ _ _, by (repeat' (first | with_reducible exact Below.refl _ _ | with_reducible assumption | with_reducible refine Below.drew ?_ | with_reducible refine below_drewN' ?_ _ | with_reducible refine Below.alloc ?_ ?_ _ | with_reducible refine Below.setCell ?_ ?_ _ | with_reducible refine below_step (by assumption) ?_ ?_ | omega | (simp; done) | (simp; omega)))⟩
  case round =>
    obtain ⟨k, hk, rfl, hown, hB⟩ := hrel
    obtain ⟨hcB, hfB⟩ := bcell hB
    have hbz := hB.size
    have Hown := Lib.hid hown
    have HB := Lib.hid hB
    clear hown
    by_cases hlt : k < n
    · skip
      obtain ⟨x, hx⟩ := mem_at (l := xs) (k := k) (by rw [Hln.out]; exact hlt)
      have Hx := Lib.hid hx
      obtain ⟨b, off, rfl, hb, hc⟩ := HFW.out (by rw [Hln.out]; omega)
      have hbw : b < wr.heap.size := by omega
      obtain ⟨c0, c1⟩ := lab_cells (hc k x hx)
      clear hc hx
      cases hv : otherB key x
      · skip
        have Hs := Lib.hid (filt_no Hx.out (P := (otherB key)) (show (otherB key) x = false from hv))
        have hs1 := other_no hv
        clear hv
        go_wp2
        go_roundw
        case rel => exact ⟨k + 1, by omega, by go_num, by rw [Hs.out]; exact Hown.out, by (repeat' (first | with_reducible exact Below.refl _ _ | with_reducible assumption | with_reducible refine Below.drew ?_ | with_reducible refine below_drewN' ?_ _ | with_reducible refine Below.alloc ?_ ?_ _ | with_reducible refine Below.setCell ?_ ?_ _ | with_reducible refine below_step (by assumption) ?_ ?_ | omega | (simp; done) | (simp; omega)))⟩
        case measure => simp [intOf]; omega
      · skip
        have Hs := Lib.hid (filt_yes Hx.out (P := (otherB key)) (show (otherB key) x = true from hv))
        have hL := filt_len (otherB key) xs k
        have hc3 : ((xs.take k).filter (otherB key)).length + 1 ≤ maxLen := by unfold maxLen; omega
        have hc4 : (((xs.take k).filter (otherB key)).length + 1) * 32 ≤ 140737488355328 := by omega
        have Hrow := Lib.hid (show ((xs.take k).filter (otherB key)).flatMap kcs ++ kcs x = ((xs.take (k + 1)).filter (otherB key)).flatMap kcs by rw [Hs.out]; simp)
        have Hlen := Lib.hid (show ((xs.take k).filter (otherB key)).length + 1 = ((xs.take (k + 1)).filter (otherB key)).length by rw [Hs.out]; simp)
        clear hL
        have hs1 := other_yes hv
        have HOx := Hown
        have HBx := HB
        have hbx := HB.out.size
        clear hv
        go_wp2_with (at_builtin; refine wpList_append_own _ rfl (.tmp 20) (.tmp 25) 22 rfl W.heap.size 36 i0 _ 2 32 Try.underlying22 Hi.out Hz0.out Hz1.out Hz2.out rfl (by decide) _ ((xs.take k).filter (otherB key)).length (((xs.take k).filter (otherB key)).flatMap kcs) rfl (HOx.out.alloc _) ⟨wr.heap.size, 0, none⟩ 1 1 (kcs x) rfl rfl (news_at _ _ _) (kcs_one _) hc3 hc4 (le_alloc hbx _) ?_; intro v1 w1 hown1 hgrow1 _; rw [Hrow.out, Hlen.out] at hown1; have hB1 := own_below (HOx.out.alloc _) (HBx.out.alloc hbx _) (le_alloc hbx _) hgrow1; have HO1 := Lib.hid hown1; clear hown1 hgrow1)
        go_roundw
        case rel => exact ⟨k + 1, by omega, by go_num, HO1.out, hB1⟩
        case measure => simp [intOf]; omega
    · skip
      obtain rfl : k = n := by omega
      have HP := Lib.hid (show ∀ v, wr.ownsRow W.heap.size 36 2 v ((xs.take k).filter (otherB key)).length (((xs.take k).filter (otherB key)).flatMap kcs) → Gives w (OwnL kcs 2 w.heap.size 36 (dropL xs key)) (.returned v) wr from fun v h => ⟨⟨v, rfl, OwnL.mono (OwnL.eq (filt_all _ Hln.out).symm h) hWz⟩, HW.out.trans (HB.out.mono hWz)⟩)
      go_wp2
      refine bodyPost_ret (by simp [results, Try.results19, go_sem]) rfl (HP.out _ Hown.out)
end Go.Proofs.Ytemeocgmlhmooaa
