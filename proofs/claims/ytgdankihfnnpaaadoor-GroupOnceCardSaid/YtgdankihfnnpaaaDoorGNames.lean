/-
  The contracts of group.Names, triremeref16.Names, group.Of, triremeref16.Of.
-/
import Derived.Test.YtgdankihfnnpaaaDoorGFind
import Derived.Test.YtgdankihfnnpaaaDoorTxt
import Derived.Test.YtgdankihfnnpaaaDoorFilt
namespace Go.Proofs.YtgdankihfnnpaaaDoor
open Go.RowKit
set_option linter.unusedVariables false

def gnE (g : Gp) : List Value := scs g.nm
theorem gnE_one (g : Gp) : ∀ u ∈ gnE g, u.oneCell' = true := scs_one _
def allG (g : Gp) : Bool := true
theorem filt_allG (l : List Gp) : l.filter allG = l := by
  rw [List.filter_eq_self]
  exact fun _ _ => rfl

set_option maxRecDepth 100000 in
set_option maxHeartbeats 4000000 in
theorem refnames_any (c : Option Addr) (kc : Nat) (xs : List Gp) (w : World) (hF : GpL w c xs) (hm : xs.length ≤ 1000000) :
    Calls Tryd.prog 16 #[.slice c xs.length kc] w (Gives w (OwnL gnE 1 w.heap.size 9 (xs.filter allG))) := by
  have HF := Lib.hid hF
  clear hF
  obtain ⟨i0, hi, hz0, hz1, hz2⟩ := info_parts Tryd.info9
  have Hi := Lib.hid hi
  have Hz0 := Lib.hid hz0
  have Hz1 := Lib.hid hz1
  have Hz2 := Lib.hid hz2
  clear hi hz0 hz1 hz2
  obtain ⟨n, hln⟩ : ∃ n, xs.length = n := ⟨_, rfl⟩
  rw [hln] at hm ⊢
  have Hln := Lib.hid hln
  clear hln
  go_enter Tryd.func16, Tryd.ntmps16
  go_wp2
  obtain ⟨W, hW⟩ : ∃ W, W = w := ⟨_, rfl⟩
  have HW := Lib.hid (show Below w.heap.size w W by rw [hW]; (repeat' (first | with_reducible exact Below.refl _ _ | with_reducible assumption | with_reducible refine Below.drew ?_ | with_reducible refine below_drewN' ?_ _ | with_reducible refine Below.alloc ?_ ?_ _ | with_reducible refine Below.setCell ?_ ?_ _ | with_reducible refine below_step (by assumption) ?_ ?_ | omega | (simp; done) | (simp; omega))))
  have hWz : w.heap.size ≤ W.heap.size := HW.out.size
  have HFW := Lib.hid (HF.out.mono HW.out)
  (try rw [← hW])
  clear hW
  go_loopw [3, 4] (fun v i wr => ∃ k : Nat, k ≤ n ∧ i = .int .i64 k ∧ wr.ownsRow W.heap.size 9 1 v ((xs.take k).filter allG).length (((xs.take k).filter allG).flatMap gnE) ∧ Below W.heap.size W wr) (fun _ i _ => n - (intOf i).toNat)
  case atStart => exact ⟨0, by omega, rfl, World.ownsRow_nil _ _ _ _, by (repeat' (first | with_reducible exact Below.refl _ _ | with_reducible assumption | with_reducible refine Below.drew ?_ | with_reducible refine below_drewN' ?_ _ | with_reducible refine Below.alloc ?_ ?_ _ | with_reducible refine Below.setCell ?_ ?_ _ | with_reducible refine below_step (by assumption) ?_ ?_ | omega | (simp; done) | (simp; omega)))⟩
  case round =>
    obtain ⟨k, hk, rfl, hown, hB⟩ := hrel
    obtain ⟨hcB, hfB⟩ := bcell hB
    have hbz := hB.size
    have Hown := Lib.hid hown
    have HB := Lib.hid hB
    clear hown
    by_cases hlt : k < n
    · skip
      obtain ⟨x, hx⟩ := mem_at (l := xs) (k := k) (by rw [Hln.out]; exact hlt)
      have Hx := Lib.hid hx
      obtain ⟨b, off, rfl, hb, hc⟩ := HFW.out (by rw [Hln.out]; omega)
      have hbw : b < wr.heap.size := by omega
      obtain ⟨c0, -⟩ := grow_cells (hc k x hx)
      clear hc hx
      have hv : allG x = true := rfl
      have Hs := Lib.hid (filt_yes Hx.out (P := allG) (show allG x = true from hv))
      have hL := filt_len allG xs k
      have hc3 : ((xs.take k).filter allG).length + 1 ≤ maxLen := by unfold maxLen; omega
      have hc4 : (((xs.take k).filter allG).length + 1) * 16 ≤ 140737488355328 := by omega
      have Hrow := Lib.hid (show ((xs.take k).filter allG).flatMap gnE ++ gnE x = ((xs.take (k + 1)).filter allG).flatMap gnE by rw [Hs.out]; simp)
      have Hlen := Lib.hid (show ((xs.take k).filter allG).length + 1 = ((xs.take (k + 1)).filter allG).length by rw [Hs.out]; simp)
      clear hL
      have HOx := Hown
      have HBx := HB
      have hbx := HB.out.size
      clear hv
      go_wp2_with (at_builtin; refine wpList_append_own _ rfl (.tmp 11) (.tmp 17) 29 rfl W.heap.size 9 i0 _ 1 16 Tryd.underlying29 Hi.out Hz0.out Hz1.out Hz2.out rfl (by decide) _ ((xs.take k).filter allG).length (((xs.take k).filter allG).flatMap gnE) rfl (HOx.out.alloc _) ⟨wr.heap.size, 0, none⟩ 1 1 (gnE x) rfl rfl (news_at _ _ _) (gnE_one _) hc3 hc4 (le_alloc hbx _) ?_; intro v1 w1 hown1 hgrow1 _; rw [Hrow.out, Hlen.out] at hown1; have hB1 := own_below (HOx.out.alloc _) (HBx.out.alloc hbx _) (le_alloc hbx _) hgrow1; have HO1 := Lib.hid hown1; clear hown1 hgrow1)
      go_roundw
      case rel => exact ⟨k + 1, by omega, by go_num, HO1.out, hB1⟩
      case measure => simp [intOf]; omega
    · skip
      obtain rfl : k = n := by omega
      have HP := Lib.hid (show ∀ v, wr.ownsRow W.heap.size 9 1 v ((xs.take k).filter allG).length (((xs.take k).filter allG).flatMap gnE) → Gives w (OwnL gnE 1 w.heap.size 9 (xs.filter allG)) (.returned v) wr from fun v h => ⟨⟨v, rfl, OwnL.mono (OwnL.eq (filt_all _ Hln.out).symm h) hWz⟩, HW.out.trans (HB.out.mono hWz)⟩)
      go_wp2
      refine bodyPost_ret (by simp [results, Tryd.results16, go_sem]) rfl (HP.out _ Hown.out)
end Go.Proofs.YtgdankihfnnpaaaDoor
