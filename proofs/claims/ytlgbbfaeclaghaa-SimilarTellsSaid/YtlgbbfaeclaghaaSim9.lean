/-
  The contract of triremeref05.Drop.
-/
import Derived.Test.YtlgbbfaeclaghaaSim8
namespace Go.Proofs.Ytlgbbfaeclaghaa
open Go.RowKit
set_option linter.unusedVariables false

set_option maxRecDepth 100000 in
set_option maxHeartbeats 2000000 in
theorem refdrop_any (key : ByteArray) (a : Option Addr) (n ka : Nat) (D : Nat → ByteArray × ByteArray) (w : World) (hD : LabsAt w a n D) (hn : n ≤ 1000000) :
    Calls Try.prog 26 #[.slice a n ka, .string key] w fun e w' => ∃ v, e = .returned v ∧ w'.ownsRow w.heap.size 44 2 v (dropL D key n).length ((dropL D key n).flatMap lcs) ∧ Below w.heap.size w w' := by
  have HD := Lib.hid hD
  clear hD
  obtain ⟨i0, hi, hz0, hz1, hz2⟩ := info_parts Try.info44
  have Hi := Lib.hid hi
  have Hz0 := Lib.hid hz0
  have Hz1 := Lib.hid hz1
  have Hz2 := Lib.hid hz2
  clear hi hz0 hz1 hz2
  go_enter Try.func26, Try.ntmps26
  go_wp2
  go_loopw [5, 6] (fun v i wr => ∃ k : Nat, k ≤ n ∧ i = .int .i64 k ∧ wr.ownsRow w.heap.size 44 2 v (dropL D key k).length ((dropL D key k).flatMap lcs) ∧ Below w.heap.size w wr) (fun _ i _ => n - (intOf i).toNat)
  case atStart => exact ⟨0, by omega, rfl, World.ownsRow_nil _ _ _ _, by (repeat' (first | with_reducible exact Below.refl _ _ | with_reducible assumption | with_reducible refine Below.drew ?_ | with_reducible refine below_drewN' ?_ _ | with_reducible refine Below.alloc ?_ ?_ _ | with_reducible refine Below.setCell ?_ ?_ _ | with_reducible refine below_step (by assumption) ?_ ?_ | omega | (simp; done) | (simp; omega)))⟩
  case round =>
    obtain ⟨k, hk, rfl, hown, hB⟩ := hrel
    obtain ⟨hcB, hfB⟩ := bcell hB
    have hbz := hB.size
    have Hown := Lib.hid hown
    have HB := Lib.hid hB
    clear hown
    by_cases hlt : k < n
    · obtain ⟨b, off, rfl, hb, hc⟩ := HD.out (by omega)
      have hbw : b < wr.heap.size := by omega
      obtain ⟨c1, c2⟩ := hc k hlt
      clear hc
      by_cases he : (D k).1 = key
      · have hd : ((D k).1.toList == key.toList) = true := by rw [he]; simp
        have Hs := Lib.hid (show dropL D key (k + 1) = dropL D key k by rw [dropL_succ, if_pos he]; simp)
        clear he
        go_wp2
        go_roundw
        case rel => exact ⟨k + 1, by omega, by go_num, by rw [Hs.out]; exact Hown.out, by (repeat' (first | with_reducible exact Below.refl _ _ | with_reducible assumption | with_reducible refine Below.drew ?_ | with_reducible refine below_drewN' ?_ _ | with_reducible refine Below.alloc ?_ ?_ _ | with_reducible refine Below.setCell ?_ ?_ _ | with_reducible refine below_step (by assumption) ?_ ?_ | omega | (simp; done) | (simp; omega)))⟩
        case measure => simp [intOf]; omega
      · have hd : ((D k).1.toList == key.toList) = false := by rw [beq_eq_false_iff_ne]; exact fun h => he ((toList_inj _ _).1 h)
        have Hs := Lib.hid (show dropL D key (k + 1) = dropL D key k ++ [D k] by rw [dropL_succ, if_neg he])
        clear he
        have hL := dropL_len D key k
        have hc3 : (dropL D key k).length + 1 ≤ maxLen := by unfold maxLen; omega
        have hc4 : ((dropL D key k).length + 1) * 32 ≤ 140737488355328 := by omega
        have Hrow := Lib.hid (show (dropL D key k).flatMap lcs ++ lcs (D k) = (dropL D key (k + 1)).flatMap lcs by rw [Hs.out]; simp)
        have Hlen := Lib.hid (show (dropL D key k).length + 1 = (dropL D key (k + 1)).length by rw [Hs.out]; simp)
        clear hL
        go_wp2_with (first | (at_builtin; refine wpList_append_own _ rfl (.tmp 20) (.tmp 25) 35 rfl w.heap.size 44 i0 _ 2 32 Try.underlying35 Hi.out Hz0.out Hz1.out Hz2.out rfl (by decide) _ (dropL D key k).length ((dropL D key k).flatMap lcs) rfl (Hown.out.alloc _) ⟨wr.heap.size, 0, none⟩ 1 1 (lcs (D k)) rfl rfl (news_at _ _ _) (lcs_one _) hc3 hc4 (le_alloc hbz _) ?_; intro v1 w1 hown1 hgrow1 _; rw [Hrow.out, Hlen.out] at hown1; have hB1 := own_below (Hown.out.alloc _) (HB.out.alloc hbz _) (le_alloc hbz _) hgrow1; have HO1 := Lib.hid hown1; clear hown1 hgrow1))
        go_roundw
        case rel => exact ⟨k + 1, by omega, by go_num, HO1.out, hB1⟩
        case measure => simp [intOf]; omega
    · obtain rfl : k = n := by omega
      have HP := Lib.hid (show ∀ v, wr.ownsRow w.heap.size 44 2 v (dropL D key k).length ((dropL D key k).flatMap lcs) → ∃ v', Ending.returned v = .returned v' ∧ wr.ownsRow w.heap.size 44 2 v' (dropL D key k).length ((dropL D key k).flatMap lcs) ∧ Below w.heap.size w wr from fun v h => ⟨v, rfl, h, HB.out⟩)
      go_wp2
      refine bodyPost_ret (by simp [results, Try.results26, go_sem]) rfl (HP.out _ Hown.out)
end Go.Proofs.Ytlgbbfaeclaghaa
