/-
  The contract of labels.Drop and of triremeref05.Drop.
-/
import Derived.Test.YtlgbbfaeclaghaaSim7
import Derived.Test.YtlgbbfaeclaghaaOwn
namespace Go.Proofs.Ytlgbbfaeclaghaa
open Go.RowKit
set_option linter.unusedVariables false

theorem Try.info44 : (Try.prog.info? 44).map (fun i => (i.zero, i.size, i.bytes)) = some (some (.agg #[.string ⟨#[]⟩, .string ⟨#[]⟩]), 2, 32) := by kernel_rfl

def lcs (x : ByteArray × ByteArray) : List Value := [.string x.1, .string x.2]
theorem lcs_len (x : ByteArray × ByteArray) : (lcs x).length = 2 := rfl
theorem lcs_one (x : ByteArray × ByteArray) : ∀ u ∈ lcs x, u.oneCell' = true := by
  intro u hu
  simp only [lcs, List.mem_cons, List.not_mem_nil, or_false] at hu
  rcases hu with rfl | rfl <;> rfl

/-- The first k, but for those with the key. -/
def dropL (D : Nat → ByteArray × ByteArray) (key : ByteArray) (k : Nat) : List (ByteArray × ByteArray) := ((List.range k).map D).filter (fun x => !decide (x.1 = key))

theorem dropL_succ (D : Nat → ByteArray × ByteArray) (key : ByteArray) (k : Nat) : dropL D key (k + 1) = dropL D key k ++ (if (D k).1 = key then [] else [D k]) := by
  simp only [dropL, List.range_succ, List.map_append, List.filter_append, List.map_cons, List.map_nil]
  by_cases h : (D k).1 = key <;> simp [h]

theorem dropL_len (D : Nat → ByteArray × ByteArray) (key : ByteArray) (k : Nat) : (dropL D key k).length ≤ k := by
  refine Nat.le_trans (List.length_filter_le _ _) (by simp)

set_option maxRecDepth 100000 in
set_option maxHeartbeats 2000000 in
theorem drop_any (key : ByteArray) (a : Option Addr) (n ka : Nat) (D : Nat → ByteArray × ByteArray) (w : World) (hD : LabsAt w a n D) (hn : n ≤ 1000000) :
    Calls Try.prog 23 #[.slice a n ka, .string key] w fun e w' => ∃ v, e = .returned v ∧ w'.ownsRow w.heap.size 44 2 v (dropL D key n).length ((dropL D key n).flatMap lcs) ∧ Below w.heap.size w w' := by
  have HD := Lib.hid hD
  clear hD
  obtain ⟨i0, hi, hz0, hz1, hz2⟩ := info_parts Try.info44
  have Hi := Lib.hid hi
  have Hz0 := Lib.hid hz0
  have Hz1 := Lib.hid hz1
  have Hz2 := Lib.hid hz2
  clear hi hz0 hz1 hz2
  go_enter Try.func23, Try.ntmps23
  go_wp2
  go_loopw [5, 10] (fun v i wr => ∃ k : Nat, k ≤ n ∧ i = .int .i64 k ∧ wr.ownsRow w.heap.size 44 2 v (dropL D key k).length ((dropL D key k).flatMap lcs) ∧ Below w.heap.size w wr) (fun _ i _ => n - (intOf i).toNat)
  case atStart => exact ⟨0, by omega, rfl, World.ownsRow_nil _ _ _ _, by (repeat' (first | with_reducible exact Below.refl _ _ | with_reducible assumption | with_reducible refine Below.drew ?_ | with_reducible refine below_drewN' ?_ _ | with_reducible refine Below.alloc ?_ ?_ _ | with_reducible refine Below.setCell ?_ ?_ _ | with_reducible refine below_step (by assumption) ?_ ?_ | omega | (simp; done) | (simp; omega)))⟩
  case round =>
    obtain ⟨k, hk, rfl, hown, hB⟩ := hrel
    obtain ⟨hcB, hfB⟩ := bcell hB
    have hbz := hB.size
    have Hown := Lib.hid hown
    have HB := Lib.hid hB
    clear hown
    by_cases hlt : k < n
    · obtain ⟨b, off, rfl, hb, hc⟩ := HD.out (by omega)
      have hbw : b < wr.heap.size := by omega
      obtain ⟨c1, c2⟩ := hc k hlt
      clear hc
      by_cases he : (D k).1 = key
      · have hd : ((D k).1.toList == key.toList) = true := by rw [he]; simp
        have Hs := Lib.hid (show dropL D key (k + 1) = dropL D key k by rw [dropL_succ, if_pos he]; simp)
        clear he
        go_wp2
        go_roundw
        case rel => exact ⟨k + 1, by omega, by go_num, by rw [Hs.out]; exact Hown.out.alloc _, by (repeat' (first | with_reducible exact Below.refl _ _ | with_reducible assumption | with_reducible refine Below.drew ?_ | with_reducible refine below_drewN' ?_ _ | with_reducible refine Below.alloc ?_ ?_ _ | with_reducible refine Below.setCell ?_ ?_ _ | with_reducible refine below_step (by assumption) ?_ ?_ | omega | (simp; done) | (simp; omega)))⟩
        case measure => simp [intOf]; omega
      · have hd : ((D k).1.toList == key.toList) = false := by rw [beq_eq_false_iff_ne]; exact fun h => he ((toList_inj _ _).1 h)
        have Hs := Lib.hid (show dropL D key (k + 1) = dropL D key k ++ [D k] by rw [dropL_succ, if_neg he])
        clear he
        have hL := dropL_len D key k
        have hc3 : (dropL D key k).length + 1 ≤ maxLen := by unfold maxLen; omega
        have hc4 : ((dropL D key k).length + 1) * 32 ≤ 140737488355328 := by omega
        have Hrow := Lib.hid (show (dropL D key k).flatMap lcs ++ lcs (D k) = (dropL D key (k + 1)).flatMap lcs by rw [Hs.out]; simp)
        have Hlen := Lib.hid (show (dropL D key k).length + 1 = (dropL D key (k + 1)).length by rw [Hs.out]; simp)
        clear hL
        go_wp2_with (first | (at_builtin; refine wpList_append_own _ rfl (.tmp 18) (.tmp 20) 35 rfl w.heap.size 44 i0 _ 2 32 Try.underlying35 Hi.out Hz0.out Hz1.out Hz2.out rfl (by decide) _ (dropL D key k).length ((dropL D key k).flatMap lcs) rfl ((Hown.out.alloc _).alloc _) ⟨wr.heap.size + 1, 0, none⟩ 1 1 (lcs (D k)) rfl rfl (news_at2 _ _ _ _) (lcs_one _) hc3 hc4 (le_alloc (le_alloc hbz _) _) ?_; intro v1 w1 hown1 hgrow1 _; rw [Hrow.out, Hlen.out] at hown1; have hB1 := own_below ((Hown.out.alloc _).alloc _) ((HB.out.alloc hbz _).alloc (le_alloc hbz _) _) (le_alloc (le_alloc hbz _) _) hgrow1; have HO1 := Lib.hid hown1; clear hown1 hgrow1))
        go_roundw
        case rel => exact ⟨k + 1, by omega, by go_num, HO1.out, hB1⟩
        case measure => simp [intOf]; omega
    · obtain rfl : k = n := by omega
      have HP := Lib.hid (show ∀ v, wr.ownsRow w.heap.size 44 2 v (dropL D key k).length ((dropL D key k).flatMap lcs) → ∃ v', Ending.returned v = .returned v' ∧ wr.ownsRow w.heap.size 44 2 v' (dropL D key k).length ((dropL D key k).flatMap lcs) ∧ Below w.heap.size w wr from fun v h => ⟨v, rfl, h, HB.out⟩)
      go_wp2
      refine bodyPost_ret (by simp [results, Try.results23, go_sem]) rfl (HP.out _ Hown.out)
end Go.Proofs.Ytlgbbfaeclaghaa
