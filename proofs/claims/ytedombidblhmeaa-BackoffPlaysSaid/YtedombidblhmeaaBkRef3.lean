/-
  The document's table: Groups and Fine.
-/
import Derived.Test.YtedombidblhmeaaBkRef2
import Derived.Test.YtedombidblhmeaaFilt
namespace Go.Proofs.Ytedombidblhmeaa
open Go.RowKit
set_option linter.unusedVariables false
set_option linter.unusedSimpArgs false

theorem Try.info57 : (Try.prog.info? 57).map (fun i => (i.zero, i.size, i.bytes)) = some (some (.agg #[.string ⟨#[]⟩, .int .i64 0, .int .i64 0]), 3, 32) := by kernel_rfl
abbrev NtL := RowsAt ntc 3
theorem nt_cells {w : World} {b o : Nat} {x : Nt} (h : ∀ r, r < 3 → w.cell? ⟨b, o + r, none⟩ = (ntc x)[r]?) : w.cell? ⟨b, o, none⟩ = some (.string x.1) ∧ w.cell? ⟨b, o + 1, none⟩ = some (.int .i64 x.2.l) ∧ w.cell? ⟨b, o + 2, none⟩ = some (.int .i64 x.2.u) :=
  ⟨h 0 (by decide), h 1 (by decide), h 2 (by decide)⟩
def nmE (x : Nt) : List Value := scs x.1
theorem nmE_one (x : Nt) : ∀ u ∈ nmE x, u.oneCell' = true := scs_one _
def allN (x : Nt) : Bool := true
theorem filt_allN (l : List Nt) : l.filter allN = l := by
  rw [List.filter_eq_self]
  exact fun _ _ => rfl

set_option maxRecDepth 100000 in
set_option maxHeartbeats 4000000 in
theorem rgroups_any (base p : Nat) (fi mo re : Int) (xs : List Nt) (v : Value) (w : World) (h : RT w base p fi mo re xs v) (hm : xs.length ≤ 1000000) :
    Calls Try.prog 23 #[.pointer (some ⟨p, 0, none⟩)] w (Gives w (OwnL nmE 1 w.heap.size 9 (xs.filter allN))) := by
  obtain ⟨c, kc, rfl, hF, _⟩ : ∃ c kc, v = .slice c xs.length kc ∧ NtL w c xs ∧ True := by
    obtain ⟨a, k, e, _, hR⟩ := IsL.of_own ntc_len (by decide) h.own
    exact ⟨a, _, e, hR, trivial⟩
  have HF := Lib.hid hF
  clear hF
  have cp := h.row.cell 0
  dsimp only [List.getElem?_cons_zero] at cp
  have hp := h.row.lt
  clear h
  obtain ⟨i0, hi, hz0, hz1, hz2⟩ := info_parts Try.info9
  have Hi := Lib.hid hi
  have Hz0 := Lib.hid hz0
  have Hz1 := Lib.hid hz1
  have Hz2 := Lib.hid hz2
  clear hi hz0 hz1 hz2
  obtain ⟨n, hln⟩ : ∃ n, xs.length = n := ⟨_, rfl⟩
  rw [hln] at hm cp
  have Hln := Lib.hid hln
  clear hln
  go_enter Try.func23, Try.ntmps23
  go_wp2
  obtain ⟨W, hW⟩ : ∃ W, W = w := ⟨_, rfl⟩
  have HW := Lib.hid (show Below w.heap.size w W by rw [hW]; (repeat' (first | with_reducible exact Below.refl _ _ | with_reducible assumption | with_reducible refine Below.drew ?_ | with_reducible refine below_drewN' ?_ _ | with_reducible refine Below.alloc ?_ ?_ _ | with_reducible refine Below.setCell ?_ ?_ _ | with_reducible refine below_step (by assumption) ?_ ?_ | omega | (simp; done) | (simp; omega))))
  have hWz : w.heap.size ≤ W.heap.size := HW.out.size
  have HFW := Lib.hid (HF.out.mono HW.out)
  (try rw [← hW])
  rw [← hW] at cp hp
  clear hW
  go_loopw [3, 4] (fun v i wr => ∃ k : Nat, k ≤ n ∧ i = .int .i64 k ∧ wr.ownsRow W.heap.size 9 1 v ((xs.take k).filter allN).length (((xs.take k).filter allN).flatMap nmE) ∧ Below W.heap.size W wr) (fun _ i _ => n - (intOf i).toNat)
  case atStart => exact ⟨0, by omega, rfl, World.ownsRow_nil _ _ _ _, by (repeat' (first | with_reducible exact Below.refl _ _ | with_reducible assumption | with_reducible refine Below.drew ?_ | with_reducible refine below_drewN' ?_ _ | with_reducible refine Below.alloc ?_ ?_ _ | with_reducible refine Below.setCell ?_ ?_ _ | with_reducible refine below_step (by assumption) ?_ ?_ | omega | (simp; done) | (simp; omega)))⟩
  case round =>
    obtain ⟨k, hk, rfl, hown, hB⟩ := hrel
    obtain ⟨hcB, hfB⟩ := bcell hB
    have hbz := hB.size
    have Hown := Lib.hid hown
    have HB := Lib.hid hB
    clear hown
    by_cases hlt : k < n
    · skip
      obtain ⟨x, hx⟩ := mem_at (l := xs) (k := k) (by rw [Hln.out]; exact hlt)
      have Hx := Lib.hid hx
      obtain ⟨b, off, rfl, hb, hc⟩ := HFW.out (by rw [Hln.out]; omega)
      have hbw : b < wr.heap.size := by omega
      obtain ⟨x0, x1, x2⟩ := nt_cells (hc k x hx)
      clear hc hx
      have hv : allN x = true := rfl
      have Hs := Lib.hid (filt_yes Hx.out (P := allN) (show allN x = true from hv))
      have hL := filt_len allN xs k
      have hc3 : ((xs.take k).filter allN).length + 1 ≤ maxLen := by unfold maxLen; omega
      have hc4 : (((xs.take k).filter allN).length + 1) * 16 ≤ 140737488355328 := by omega
      have Hrow := Lib.hid (show ((xs.take k).filter allN).flatMap nmE ++ nmE x = ((xs.take (k + 1)).filter allN).flatMap nmE by rw [Hs.out]; simp)
      have Hlen := Lib.hid (show ((xs.take k).filter allN).length + 1 = ((xs.take (k + 1)).filter allN).length by rw [Hs.out]; simp)
      clear hL
      have HOx := Hown
      have HBx := HB
      have hbx := HB.out.size
      clear hv
      go_wp2_with (at_builtin; refine wpList_append_own _ rfl (.tmp 14) (.tmp 23) 42 rfl W.heap.size 9 i0 _ 1 16 Try.underlying42 Hi.out Hz0.out Hz1.out Hz2.out rfl (by decide) _ ((xs.take k).filter allN).length (((xs.take k).filter allN).flatMap nmE) rfl (HOx.out.alloc _) ⟨wr.heap.size, 0, none⟩ 1 1 (nmE x) rfl rfl (news_at _ _ _) (nmE_one _) hc3 hc4 (le_alloc hbx _) ?_; intro v1 w1 hown1 hgrow1 _; rw [Hrow.out, Hlen.out] at hown1; have hB1 := own_below (HOx.out.alloc _) (HBx.out.alloc hbx _) (le_alloc hbx _) hgrow1; have HO1 := Lib.hid hown1; clear hown1 hgrow1)
      go_roundw
      case rel => exact ⟨k + 1, by omega, by go_num, HO1.out, hB1⟩
      case measure => simp [intOf]; omega
    · skip
      obtain rfl : k = n := by omega
      have HP := Lib.hid (show ∀ v, wr.ownsRow W.heap.size 9 1 v ((xs.take k).filter allN).length (((xs.take k).filter allN).flatMap nmE) → Gives w (OwnL nmE 1 w.heap.size 9 (xs.filter allN)) (.returned v) wr from fun v h => ⟨⟨v, rfl, OwnL.mono (OwnL.eq (filt_all _ Hln.out).symm h) hWz⟩, HW.out.trans (HB.out.mono hWz)⟩)
      go_wp2
      refine bodyPost_ret (by simp [results, Try.results23, go_sem]) rfl (HP.out _ Hown.out)
end Go.Proofs.Ytedombidblhmeaa
