/-
  Events given, and taken: copies.
-/
import Derived.Test.YtaehcnoendieaaaDoorTcK
namespace Go.Proofs.YtaehcnoendieaaaDoor
open Go.RowKit
set_option linter.unusedVariables false
set_option linter.unusedSimpArgs false

set_option maxRecDepth 100000 in
set_option maxHeartbeats 4000000 in
theorem given_any (xs : List Ev) (a : Option Addr) (c : Nat) (w : World) (hF : EvL w a xs) (hl : xs.length ≤ 200000) :
    Calls Tryd.prog 13 #[.slice a xs.length c] w (Gives w (OwnL evrow 4 w.heap.size 37 xs)) := by
  obtain ⟨i0, hi, hz0, hz1, hz2⟩ := info_parts Tryd.info37
  have Hi := Lib.hid hi
  have Hz0 := Lib.hid hz0
  have Hz1 := Lib.hid hz1
  have Hz2 := Lib.hid hz2
  clear hi hz0 hz1 hz2
  obtain ⟨n, hn⟩ : ∃ n, xs.length = n := ⟨_, rfl⟩
  have HN := Lib.hid hn
  have HF := Lib.hid hF
  have HE := Lib.hid (show xs.take n = xs by rw [← hn, List.take_length])
  rw [hn] at hl ⊢
  clear hn hF
  go_enter Tryd.func13, Tryd.ntmps13
  go_wp2
  go_loopw [3, 4] (fun v vi wr => ∃ k : Nat, k ≤ n ∧ vi = .int .i64 k ∧ wr.ownsRow w.heap.size 37 4 v (xs.take k).length ((xs.take k).flatMap evrow) ∧ Below w.heap.size w wr) (fun _ vi _ => n - (intOf vi).toNat)
  case atStart => exact ⟨0, by omega, rfl, World.ownsRow_nil _ _ _ _, Below.refl _ _⟩
  case round =>
    obtain ⟨k, hk, rfl, hown, hB⟩ := hrel
    have Hown := Lib.hid hown
    have HB := Lib.hid hB
    have hbz := hB.size
    clear hown
    by_cases hlt : k < n
    · obtain ⟨e, he⟩ := mem_at (l := xs) (k := k) (by rw [HN.out]; exact hlt)
      have hlk : (xs.take k).length ≤ k := List.length_take_le _ _
      obtain ⟨b, o, rfl, hb, hcc⟩ := (HF.out.mono hB) (by rw [HN.out]; omega)
      obtain ⟨c0, c1, c2, c3⟩ := ev_cells (hcc k e he)
      have hta := take_at he
      have Hrow := Lib.hid (show (xs.take k).flatMap evrow ++ evrow e = (xs.take (k + 1)).flatMap evrow by rw [hta]; simp)
      have Hlen := Lib.hid (show (xs.take k).length + 1 = (xs.take (k + 1)).length by rw [hta]; simp)
      have hc3 : (xs.take k).length + 1 ≤ maxLen := by unfold maxLen; omega
      have hc4 : ((xs.take k).length + 1) * 48 ≤ 140737488355328 := by omega
      have hew := ev_one e
      have hnn : wr.heap.size ≤ wr.heap.size := Nat.le_refl _
      obtain ⟨now, what, name, en⟩ := e
      dsimp only at c0 c1 c2 c3
      clear hta hcc he hlk
      go_wp2
      have hcH := held_cell
      refine region_rel_pure 9 Tryd.underlying9 22 [0] (by kernel_rfl) (by kernel_rfl) (by kernel_rfl) ?_ ?_
      · exact fun _ _ _ _ _ h => h
      dsimp only [List.take, List.drop]
      repeat
        ((with_reducible refine relStep (fun K hK => ?_))
         (have HK := Lib.hid hK)
         clear hK
         (apply relInl
          · intro r n hf
            have Hf := Lib.hid hf
            clear hf
            (first
              | (fail)
              | (unfold relAt
                 go_simp
                 (first | (refine relUpon_val ?_ (Below.refl _ _); exact rfl) | exact rfl | (refine relUpon_enter ?_; fail))))
          (simp only [Act.put, List.setIfInBounds_toArray, List.set_cons_zero, List.set_cons_succ])
          (with_reducible refine HK.out _ _ ?_)
          clear HK K))
      refine relNil ?_
      intro r5 n5 hx5
      clear hcH
      (try simp only [List.nil_append, List.cons_append, List.mem_cons, List.not_mem_nil, or_false, forall_eq_or_imp, forall_eq, false_implies, implies_true] at hx5)
      obtain ⟨w5, hb5⟩ := n5
      (try dsimp only)
      obtain ⟨hc5, hf5⟩ := bcell hb5
      have hz5 := hb5.size
      (try simp at hz5)
      have HOx := Lib.hid (own_kept Hown.out hb5)
      have HBx := Lib.hid (show Below w.heap.size w w5 by (repeat' (first | with_reducible exact Below.refl _ _ | with_reducible assumption | with_reducible refine Below.drew ?_ | with_reducible refine below_drewN' ?_ _ | with_reducible refine Below.alloc ?_ ?_ _ | with_reducible refine Below.setCell ?_ ?_ _ | with_reducible refine below_step (by assumption) ?_ ?_ | omega | (simp; done) | (simp; omega))))
      have hbx := HBx.out.size
      go_wp2_with (at_builtin; refine wpList_append_own _ rfl (.tmp 11) (.tmp 33) 23 rfl w.heap.size 37 i0 _ 4 48 Tryd.underlying23 Hi.out Hz0.out Hz1.out Hz2.out rfl (by decide) _ (xs.take k).length ((xs.take k).flatMap evrow) rfl (HOx.out.alloc _) ⟨w5.heap.size, 0, none⟩ 1 1 (evrow ⟨now, what, name, en⟩) rfl rfl (news_at _ _ _) hew hc3 hc4 (le_alloc hbx _) ?_; intro v1 w1 hown1 hgrow1 _; rw [Hrow.out, Hlen.out] at hown1; have hB1 := own_below (HOx.out.alloc _) (HBx.out.alloc hbx _) (le_alloc hbx _) hgrow1; have HO1 := Lib.hid hown1; clear hown1 hgrow1)
      go_roundw
      case rel => exact ⟨k + 1, by omega, by go_num, HO1.out, hB1⟩
      case measure => simp [intOf]; omega
    · obtain rfl : k = n := by omega
      have HP := Lib.hid (show ∀ v, wr.ownsRow w.heap.size 37 4 v (xs.take k).length ((xs.take k).flatMap evrow) → Gives w (OwnL evrow 4 w.heap.size 37 xs) (.returned v) wr from fun v h => ⟨⟨v, rfl, by rw [HE.out] at h; exact h⟩, HB.out⟩)
      go_wp2
      refine bodyPost_ret (by simp [results, Tryd.results13, go_sem]) rfl (HP.out _ Hown.out)
set_option maxRecDepth 100000 in
      set_option maxHeartbeats 4000000 in
      theorem taken_any (xs : List Ev) (a : Option Addr) (c : Nat) (w : World) (hF : EvL w a xs) (hl : xs.length ≤ 200000) :
          Calls Tryd.prog 11 #[.slice a xs.length c] w (Gives w (OwnL evrow 4 w.heap.size 39 xs)) := by
        obtain ⟨i0, hi, hz0, hz1, hz2⟩ := info_parts Tryd.info39
        have Hi := Lib.hid hi
        have Hz0 := Lib.hid hz0
        have Hz1 := Lib.hid hz1
        have Hz2 := Lib.hid hz2
        clear hi hz0 hz1 hz2
        obtain ⟨n, hn⟩ : ∃ n, xs.length = n := ⟨_, rfl⟩
        have HN := Lib.hid hn
        have HF := Lib.hid hF
        have HE := Lib.hid (show xs.take n = xs by rw [← hn, List.take_length])
        rw [hn] at hl ⊢
        clear hn hF
        go_enter Tryd.func11, Tryd.ntmps11
        go_wp2
        go_loopw [3, 4] (fun v vi wr => ∃ k : Nat, k ≤ n ∧ vi = .int .i64 k ∧ wr.ownsRow w.heap.size 39 4 v (xs.take k).length ((xs.take k).flatMap evrow) ∧ Below w.heap.size w wr) (fun _ vi _ => n - (intOf vi).toNat)
        case atStart => exact ⟨0, by omega, rfl, World.ownsRow_nil _ _ _ _, Below.refl _ _⟩
        case round =>
          obtain ⟨k, hk, rfl, hown, hB⟩ := hrel
          have Hown := Lib.hid hown
          have HB := Lib.hid hB
          have hbz := hB.size
          clear hown
          by_cases hlt : k < n
          · obtain ⟨e, he⟩ := mem_at (l := xs) (k := k) (by rw [HN.out]; exact hlt)
            have hlk : (xs.take k).length ≤ k := List.length_take_le _ _
            obtain ⟨b, o, rfl, hb, hcc⟩ := (HF.out.mono hB) (by rw [HN.out]; omega)
            obtain ⟨c0, c1, c2, c3⟩ := ev_cells (hcc k e he)
            have hta := take_at he
            have Hrow := Lib.hid (show (xs.take k).flatMap evrow ++ evrow e = (xs.take (k + 1)).flatMap evrow by rw [hta]; simp)
            have Hlen := Lib.hid (show (xs.take k).length + 1 = (xs.take (k + 1)).length by rw [hta]; simp)
            have hc3 : (xs.take k).length + 1 ≤ maxLen := by unfold maxLen; omega
            have hc4 : ((xs.take k).length + 1) * 48 ≤ 140737488355328 := by omega
            have hew := ev_one e
            have hnn : wr.heap.size ≤ wr.heap.size := Nat.le_refl _
            obtain ⟨now, what, name, en⟩ := e
            dsimp only at c0 c1 c2 c3
            clear hta hcc he hlk
            go_wp2
            have hcH := held_cell
            refine region_rel_pure 9 Tryd.underlying9 22 [0] (by kernel_rfl) (by kernel_rfl) (by kernel_rfl) ?_ ?_
            · exact fun _ _ _ _ _ h => h
            dsimp only [List.take, List.drop]
            repeat
              ((with_reducible refine relStep (fun K hK => ?_))
               (have HK := Lib.hid hK)
               clear hK
               (apply relInl
                · intro r n hf
                  have Hf := Lib.hid hf
                  clear hf
                  (first
                    | (fail)
                    | (unfold relAt
                       go_simp
                       (first | (refine relUpon_val ?_ (Below.refl _ _); exact rfl) | exact rfl | (refine relUpon_enter ?_; fail))))
                (simp only [Act.put, List.setIfInBounds_toArray, List.set_cons_zero, List.set_cons_succ])
                (with_reducible refine HK.out _ _ ?_)
                clear HK K))
            refine relNil ?_
            intro r5 n5 hx5
            clear hcH
            (try simp only [List.nil_append, List.cons_append, List.mem_cons, List.not_mem_nil, or_false, forall_eq_or_imp, forall_eq, false_implies, implies_true] at hx5)
            obtain ⟨w5, hb5⟩ := n5
            (try dsimp only)
            obtain ⟨hc5, hf5⟩ := bcell hb5
            have hz5 := hb5.size
            (try simp at hz5)
            have HOx := Lib.hid (own_kept Hown.out hb5)
            have HBx := Lib.hid (show Below w.heap.size w w5 by (repeat' (first | with_reducible exact Below.refl _ _ | with_reducible assumption | with_reducible refine Below.drew ?_ | with_reducible refine below_drewN' ?_ _ | with_reducible refine Below.alloc ?_ ?_ _ | with_reducible refine Below.setCell ?_ ?_ _ | with_reducible refine below_step (by assumption) ?_ ?_ | omega | (simp; done) | (simp; omega))))
            have hbx := HBx.out.size
            go_wp2_with (at_builtin; refine wpList_append_own _ rfl (.tmp 11) (.tmp 33) 27 rfl w.heap.size 39 i0 _ 4 48 Tryd.underlying27 Hi.out Hz0.out Hz1.out Hz2.out rfl (by decide) _ (xs.take k).length ((xs.take k).flatMap evrow) rfl (HOx.out.alloc _) ⟨w5.heap.size, 0, none⟩ 1 1 (evrow ⟨now, what, name, en⟩) rfl rfl (news_at _ _ _) hew hc3 hc4 (le_alloc hbx _) ?_; intro v1 w1 hown1 hgrow1 _; rw [Hrow.out, Hlen.out] at hown1; have hB1 := own_below (HOx.out.alloc _) (HBx.out.alloc hbx _) (le_alloc hbx _) hgrow1; have HO1 := Lib.hid hown1; clear hown1 hgrow1)
            go_roundw
            case rel => exact ⟨k + 1, by omega, by go_num, HO1.out, hB1⟩
            case measure => simp [intOf]; omega
          · obtain rfl : k = n := by omega
            have HP := Lib.hid (show ∀ v, wr.ownsRow w.heap.size 39 4 v (xs.take k).length ((xs.take k).flatMap evrow) → Gives w (OwnL evrow 4 w.heap.size 39 xs) (.returned v) wr from fun v h => ⟨⟨v, rfl, by rw [HE.out] at h; exact h⟩, HB.out⟩)
            go_wp2
            refine bodyPost_ret (by simp [results, Tryd.results11, go_sem]) rfl (HP.out _ Hown.out)
end Go.Proofs.YtaehcnoendieaaaDoor
