/-
  The contracts of triremeref06.Drop, triremeref06.Add.
-/
import Derived.Test.YtlfjjiepclphiaaTnt6
namespace Go.Proofs.Ytlfjjiepclphiaa
open Go.RowKit
set_option linter.unusedVariables false

theorem tnt_str {a b : ByteArray} (h : a = b) : (a.toList == b.toList) = true := by rw [h]; simp
theorem tnt_strn {a b : ByteArray} (h : ¬ a = b) : (a.toList == b.toList) = false := by rw [beq_eq_false_iff_ne]; exact fun e => h ((toList_inj _ _).1 e)

set_option maxRecDepth 100000 in
set_option maxHeartbeats 4000000 in
theorem refdrop_any (c : Option Addr) (kc : Nat) (xs : List Tnt) (key : ByteArray) (eff : Int) (w : World) (hF : TntsAt w c xs) (hm : xs.length ≤ 1000000) :
    Calls Try.prog 18 #[.slice c xs.length kc, .string key, .int .i64 eff] w (Gives w (OwnL tcs 3 w.heap.size 30 (dropT xs key eff))) := by
  have HF := Lib.hid hF
  clear hF
  obtain ⟨i0, hi, hz0, hz1, hz2⟩ := info_parts Try.info30
  have Hi := Lib.hid hi
  have Hz0 := Lib.hid hz0
  have Hz1 := Lib.hid hz1
  have Hz2 := Lib.hid hz2
  clear hi hz0 hz1 hz2
  obtain ⟨n, hln⟩ : ∃ n, xs.length = n := ⟨_, rfl⟩
  rw [hln] at hm ⊢
  have Hln := Lib.hid hln
  clear hln
  go_enter Try.func18, Try.ntmps18
  go_wp2
  obtain ⟨W, hW⟩ : ∃ W, W = w := ⟨_, rfl⟩
  have HW := Lib.hid (show Below w.heap.size w W by rw [hW]; (repeat' (first | with_reducible exact Below.refl _ _ | with_reducible assumption | with_reducible refine Below.drew ?_ | with_reducible refine below_drewN' ?_ _ | with_reducible refine Below.alloc ?_ ?_ _ | with_reducible refine Below.setCell ?_ ?_ _ | with_reducible refine below_step (by assumption) ?_ ?_ | omega | (simp; done) | (simp; omega))))
  have hWz : w.heap.size ≤ W.heap.size := HW.out.size
  have HFW := Lib.hid (HF.out.mono HW.out)
  (try rw [← hW])
  clear hW
  go_loopw [7, 8] (fun v i wr => ∃ k : Nat, k ≤ n ∧ i = .int .i64 k ∧ wr.ownsRow W.heap.size 30 3 v ((xs.take k).filter (dropB key eff)).length (((xs.take k).filter (dropB key eff)).flatMap tcs) ∧ Below W.heap.size W wr) (fun _ i _ => n - (intOf i).toNat)
  case atStart => exact ⟨0, by omega, rfl, World.ownsRow_nil _ _ _ _, by (repeat' (first | with_reducible exact Below.refl _ _ | with_reducible assumption | with_reducible refine Below.drew ?_ | with_reducible refine below_drewN' ?_ _ | with_reducible refine Below.alloc ?_ ?_ _ | with_reducible refine Below.setCell ?_ ?_ _ | with_reducible refine below_step (by assumption) ?_ ?_ | omega | (simp; done) | (simp; omega)))⟩
  case round =>
    obtain ⟨k, hk, rfl, hown, hB⟩ := hrel
    obtain ⟨hcB, hfB⟩ := bcell hB
    have hbz := hB.size
    have Hown := Lib.hid hown
    have HB := Lib.hid hB
    clear hown
    by_cases hlt : k < n
    · skip
      obtain ⟨x, hx⟩ := mem_at (l := xs) (k := k) (by rw [Hln.out]; exact hlt)
      have Hx := Lib.hid hx
      obtain ⟨b, off, rfl, hb, hc⟩ := HFW.out (by rw [Hln.out]; omega)
      have hbw : b < wr.heap.size := by omega
      obtain ⟨c0, c1, c2⟩ := tnt_cells (hc k x hx)
      clear hc hx
      have h4 : ((x.key.toList == key.toList) = false ∧ dropB key eff x = true) ∨ ((x.key.toList == key.toList) = true ∧ (eff != 0) = false ∧ dropB key eff x = false) ∨
          ((x.key.toList == key.toList) = true ∧ (eff != 0) = true ∧ (x.eff != eff) = false ∧ dropB key eff x = false) ∨ ((x.key.toList == key.toList) = true ∧ (eff != 0) = true ∧ (x.eff != eff) = true ∧ dropB key eff x = true) := by
        unfold dropB
        by_cases h1 : x.key = key
        · rw [tnt_str h1]
          by_cases h2 : eff = 0 <;> by_cases h3 : x.eff = eff <;> simp [h1, h2, h3]
        · rw [tnt_strn h1]
          simp [h1]
      have HOx := Hown
      have HBx := HB
      have hbx := HB.out.size
      rcases h4 with ⟨k1, hv⟩ | ⟨k1, k2, hv⟩ | ⟨k1, k2, k3, hv⟩ | ⟨k1, k2, k3, hv⟩
      · skip
        have Hs := Lib.hid (filt_yes Hx.out (P := (dropB key eff)) (show (dropB key eff) x = true from hv))
        have hL := filt_len (dropB key eff) xs k
        have hc3 : ((xs.take k).filter (dropB key eff)).length + 1 ≤ maxLen := by unfold maxLen; omega
        have hc4 : (((xs.take k).filter (dropB key eff)).length + 1) * 40 ≤ 140737488355328 := by omega
        have Hrow := Lib.hid (show ((xs.take k).filter (dropB key eff)).flatMap tcs ++ tcs x = ((xs.take (k + 1)).filter (dropB key eff)).flatMap tcs by rw [Hs.out]; simp)
        have Hlen := Lib.hid (show ((xs.take k).filter (dropB key eff)).length + 1 = ((xs.take (k + 1)).filter (dropB key eff)).length by rw [Hs.out]; simp)
        clear hL
        clear hv
        go_wp2_with (at_builtin; refine wpList_append_own _ rfl (.tmp 35) (.tmp 40) 23 rfl W.heap.size 30 i0 _ 3 40 Try.underlying23 Hi.out Hz0.out Hz1.out Hz2.out rfl (by decide) _ ((xs.take k).filter (dropB key eff)).length (((xs.take k).filter (dropB key eff)).flatMap tcs) rfl (HOx.out.alloc _) ⟨wr.heap.size, 0, none⟩ 1 1 (tcs x) rfl rfl (news_at _ _ _) (tcs_one _) hc3 hc4 (le_alloc hbx _) ?_; intro v1 w1 hown1 hgrow1 _; rw [Hrow.out, Hlen.out] at hown1; have hB1 := own_below (HOx.out.alloc _) (HBx.out.alloc hbx _) (le_alloc hbx _) hgrow1; have HO1 := Lib.hid hown1; clear hown1 hgrow1)
        go_roundw
        case rel => exact ⟨k + 1, by omega, by go_num, HO1.out, hB1⟩
        case measure => simp [intOf]; omega
      · skip
        have Hs := Lib.hid (filt_no Hx.out (P := (dropB key eff)) (show (dropB key eff) x = false from hv))
        clear hv
        go_wp2
        go_roundw
        case rel => exact ⟨k + 1, by omega, by go_num, by rw [Hs.out]; exact Hown.out, by (repeat' (first | with_reducible exact Below.refl _ _ | with_reducible assumption | with_reducible refine Below.drew ?_ | with_reducible refine below_drewN' ?_ _ | with_reducible refine Below.alloc ?_ ?_ _ | with_reducible refine Below.setCell ?_ ?_ _ | with_reducible refine below_step (by assumption) ?_ ?_ | omega | (simp; done) | (simp; omega)))⟩
        case measure => simp [intOf]; omega
      · skip
        have Hs := Lib.hid (filt_no Hx.out (P := (dropB key eff)) (show (dropB key eff) x = false from hv))
        clear hv
        go_wp2
        go_roundw
        case rel => exact ⟨k + 1, by omega, by go_num, by rw [Hs.out]; exact Hown.out, by (repeat' (first | with_reducible exact Below.refl _ _ | with_reducible assumption | with_reducible refine Below.drew ?_ | with_reducible refine below_drewN' ?_ _ | with_reducible refine Below.alloc ?_ ?_ _ | with_reducible refine Below.setCell ?_ ?_ _ | with_reducible refine below_step (by assumption) ?_ ?_ | omega | (simp; done) | (simp; omega)))⟩
        case measure => simp [intOf]; omega
      · skip
        have Hs := Lib.hid (filt_yes Hx.out (P := (dropB key eff)) (show (dropB key eff) x = true from hv))
        have hL := filt_len (dropB key eff) xs k
        have hc3 : ((xs.take k).filter (dropB key eff)).length + 1 ≤ maxLen := by unfold maxLen; omega
        have hc4 : (((xs.take k).filter (dropB key eff)).length + 1) * 40 ≤ 140737488355328 := by omega
        have Hrow := Lib.hid (show ((xs.take k).filter (dropB key eff)).flatMap tcs ++ tcs x = ((xs.take (k + 1)).filter (dropB key eff)).flatMap tcs by rw [Hs.out]; simp)
        have Hlen := Lib.hid (show ((xs.take k).filter (dropB key eff)).length + 1 = ((xs.take (k + 1)).filter (dropB key eff)).length by rw [Hs.out]; simp)
        clear hL
        clear hv
        go_wp2_with (at_builtin; refine wpList_append_own _ rfl (.tmp 35) (.tmp 40) 23 rfl W.heap.size 30 i0 _ 3 40 Try.underlying23 Hi.out Hz0.out Hz1.out Hz2.out rfl (by decide) _ ((xs.take k).filter (dropB key eff)).length (((xs.take k).filter (dropB key eff)).flatMap tcs) rfl (HOx.out.alloc _) ⟨wr.heap.size, 0, none⟩ 1 1 (tcs x) rfl rfl (news_at _ _ _) (tcs_one _) hc3 hc4 (le_alloc hbx _) ?_; intro v1 w1 hown1 hgrow1 _; rw [Hrow.out, Hlen.out] at hown1; have hB1 := own_below (HOx.out.alloc _) (HBx.out.alloc hbx _) (le_alloc hbx _) hgrow1; have HO1 := Lib.hid hown1; clear hown1 hgrow1)
        go_roundw
        case rel => exact ⟨k + 1, by omega, by go_num, HO1.out, hB1⟩
        case measure => simp [intOf]; omega
    · skip
      obtain rfl : k = n := by omega
      have HP := Lib.hid (show ∀ v, wr.ownsRow W.heap.size 30 3 v ((xs.take k).filter (dropB key eff)).length (((xs.take k).filter (dropB key eff)).flatMap tcs) → Gives w (OwnL tcs 3 w.heap.size 30 (dropT xs key eff)) (.returned v) wr from fun v h => ⟨⟨v, rfl, OwnL.mono (OwnL.eq (filt_all _ Hln.out).symm h) hWz⟩, HW.out.trans (HB.out.mono hWz)⟩)
      go_wp2
      refine bodyPost_ret (by simp [results, Try.results18, go_sem]) rfl (HP.out _ Hown.out)

/-- Those without the slot, and one more. -/
def addT (xs : List Tnt) (y : Tnt) : List Tnt := xs.filter (slotB y.key y.eff) ++ [y]

set_option maxRecDepth 100000 in
set_option maxHeartbeats 4000000 in
theorem refadd_any (c : Option Addr) (kc : Nat) (xs : List Tnt) (y : Tnt) (w : World) (hF : TntsAt w c xs) (hm : xs.length ≤ 1000000) :
    Calls Try.prog 17 #[.slice c xs.length kc, .agg #[.string (y).key, .string (y).val, .int .i64 (y).eff]] w (Gives w (OwnL tcs 3 w.heap.size 30 (addT xs y))) := by
  have HF := Lib.hid hF
  clear hF
  obtain ⟨i0, hi, hz0, hz1, hz2⟩ := info_parts Try.info30
  have Hi := Lib.hid hi
  have Hz0 := Lib.hid hz0
  have Hz1 := Lib.hid hz1
  have Hz2 := Lib.hid hz2
  clear hi hz0 hz1 hz2
  obtain ⟨n, hln⟩ : ∃ n, xs.length = n := ⟨_, rfl⟩
  rw [hln] at hm ⊢
  have Hln := Lib.hid hln
  clear hln
  go_enter Try.func17, Try.ntmps17
  go_wp2
  obtain ⟨W, hW⟩ : ∃ W, W = w.alloc (.cells #[.string y.key, .string y.val, .int .i64 y.eff] 30) := ⟨_, rfl⟩
  have HW := Lib.hid (show Below w.heap.size w W by rw [hW]; (repeat' (first | with_reducible exact Below.refl _ _ | with_reducible assumption | with_reducible refine Below.drew ?_ | with_reducible refine below_drewN' ?_ _ | with_reducible refine Below.alloc ?_ ?_ _ | with_reducible refine Below.setCell ?_ ?_ _ | with_reducible refine below_step (by assumption) ?_ ?_ | omega | (simp; done) | (simp; omega))))
  have hWz : w.heap.size ≤ W.heap.size := HW.out.size
  have HFW := Lib.hid (HF.out.mono HW.out)
  (try rw [← hW])
  have hs0 : W.cell? ⟨w.heap.size, 0, none⟩ = some (.string y.key) := by rw [hW]; simp [go_sem]
  have hs1 : W.cell? ⟨w.heap.size, 1, none⟩ = some (.string y.val) := by rw [hW]; simp [go_sem]
  have hs2 : W.cell? ⟨w.heap.size, 2, none⟩ = some (.int .i64 y.eff) := by rw [hW]; simp [go_sem]
  have hsz : w.heap.size < W.heap.size := by rw [hW]; simp
  clear hW
  go_loopw [5, 6] (fun v i wr => ∃ k : Nat, k ≤ n ∧ i = .int .i64 k ∧ wr.ownsRow W.heap.size 30 3 v ((xs.take k).filter (slotB y.key y.eff)).length (((xs.take k).filter (slotB y.key y.eff)).flatMap tcs) ∧ Below W.heap.size W wr) (fun _ i _ => n - (intOf i).toNat)
  case atStart => exact ⟨0, by omega, rfl, World.ownsRow_nil _ _ _ _, by (repeat' (first | with_reducible exact Below.refl _ _ | with_reducible assumption | with_reducible refine Below.drew ?_ | with_reducible refine below_drewN' ?_ _ | with_reducible refine Below.alloc ?_ ?_ _ | with_reducible refine Below.setCell ?_ ?_ _ | with_reducible refine below_step (by assumption) ?_ ?_ | omega | (simp; done) | (simp; omega)))⟩
  case round =>
    obtain ⟨k, hk, rfl, hown, hB⟩ := hrel
    obtain ⟨hcB, hfB⟩ := bcell hB
    have hbz := hB.size
    have Hown := Lib.hid hown
    have HB := Lib.hid hB
    clear hown
    have hw0 : w.heap.size < wr.heap.size := by omega
    by_cases hlt : k < n
    · skip
      obtain ⟨x, hx⟩ := mem_at (l := xs) (k := k) (by rw [Hln.out]; exact hlt)
      have Hx := Lib.hid hx
      obtain ⟨b, off, rfl, hb, hc⟩ := HFW.out (by rw [Hln.out]; omega)
      have hbw : b < wr.heap.size := by omega
      obtain ⟨c0, c1, c2⟩ := tnt_cells (hc k x hx)
      clear hc hx
      have h4 : ((x.key.toList == y.key.toList) = false ∧ slotB y.key y.eff x = true) ∨ ((x.key.toList == y.key.toList) = true ∧ (x.eff != y.eff) = false ∧ slotB y.key y.eff x = false) ∨
          ((x.key.toList == y.key.toList) = true ∧ (x.eff != y.eff) = true ∧ slotB y.key y.eff x = true) := by
        unfold slotB
        by_cases h1 : x.key = y.key
        · rw [tnt_str h1]
          by_cases h3 : x.eff = y.eff <;> simp [h1, h3]
        · rw [tnt_strn h1]
          simp [h1]
      rcases h4 with ⟨k1, hv⟩ | ⟨k1, k2, hv⟩ | ⟨k1, k2, hv⟩
      · skip
        have Hs := Lib.hid (filt_yes Hx.out (P := (slotB y.key y.eff)) (show (slotB y.key y.eff) x = true from hv))
        have hL := filt_len (slotB y.key y.eff) xs k
        have hc3 : ((xs.take k).filter (slotB y.key y.eff)).length + 1 ≤ maxLen := by unfold maxLen; omega
        have hc4 : (((xs.take k).filter (slotB y.key y.eff)).length + 1) * 40 ≤ 140737488355328 := by omega
        have Hrow := Lib.hid (show ((xs.take k).filter (slotB y.key y.eff)).flatMap tcs ++ tcs x = ((xs.take (k + 1)).filter (slotB y.key y.eff)).flatMap tcs by rw [Hs.out]; simp)
        have Hlen := Lib.hid (show ((xs.take k).filter (slotB y.key y.eff)).length + 1 = ((xs.take (k + 1)).filter (slotB y.key y.eff)).length by rw [Hs.out]; simp)
        clear hL
        clear hv
        go_wp2
        have hcH := held_cell
        refine region_rel (by kernel_rfl) (by kernel_rfl) ?_
        repeat
          ((with_reducible refine relStep (fun K hK => ?_))
           (have HK := Lib.hid hK)
           clear hK
           (first
             | (apply relInl
                · intro r n hf
                  have Hf := Lib.hid hf
                  clear hf
                  unfold relAt
                  go_simp
                  (first | (refine relUpon_val ?_ (Below.refl _ _); exact rfl) | exact rfl | (refine relUpon_enter ?_; fail))
                (simp only [Act.put, List.setIfInBounds_toArray, List.set_cons_zero, List.set_cons_succ])
                (with_reducible refine HK.out _ _ ?_)
                clear HK K)
             | (fail)))
        refine relNil ?_
        intro r5 n5 hx5
        clear hcH
        (try simp only [List.nil_append, List.cons_append, List.mem_cons, List.not_mem_nil, or_false, forall_eq_or_imp, forall_eq, false_implies, implies_true] at hx5)
        obtain ⟨w5, hb5⟩ := n5
        (try dsimp only)
        obtain ⟨hc5, hf5⟩ := bcell hb5
        have hz5 := hb5.size
        (try simp at hz5)
        have HOx := Lib.hid (own_kept Hown.out hb5)
        have HBx := Lib.hid (HB.out.trans (hb5.mono HB.out.size))
        have hbx := HBx.out.size
        go_wp2_with (at_builtin; refine wpList_append_own _ rfl (.tmp 31) (.tmp 36) 23 rfl W.heap.size 30 i0 _ 3 40 Try.underlying23 Hi.out Hz0.out Hz1.out Hz2.out rfl (by decide) _ ((xs.take k).filter (slotB y.key y.eff)).length (((xs.take k).filter (slotB y.key y.eff)).flatMap tcs) rfl (HOx.out.alloc _) ⟨w5.heap.size, 0, none⟩ 1 1 (tcs x) rfl rfl (news_at _ _ _) (tcs_one _) hc3 hc4 (le_alloc hbx _) ?_; intro v1 w1 hown1 hgrow1 _; rw [Hrow.out, Hlen.out] at hown1; have hB1 := own_below (HOx.out.alloc _) (HBx.out.alloc hbx _) (le_alloc hbx _) hgrow1; have HO1 := Lib.hid hown1; clear hown1 hgrow1)
        go_roundw
        case rel => exact ⟨k + 1, by omega, by go_num, HO1.out, hB1⟩
        case measure => simp [intOf]; omega
      · skip
        have Hs := Lib.hid (filt_no Hx.out (P := (slotB y.key y.eff)) (show (slotB y.key y.eff) x = false from hv))
        clear hv
        go_wp2
        have hcH := held_cell
        refine region_rel (by kernel_rfl) (by kernel_rfl) ?_
        repeat
          ((with_reducible refine relStep (fun K hK => ?_))
           (have HK := Lib.hid hK)
           clear hK
           (first
             | (apply relInl
                · intro r n hf
                  have Hf := Lib.hid hf
                  clear hf
                  unfold relAt
                  go_simp
                  (first | (refine relUpon_val ?_ (Below.refl _ _); exact rfl) | exact rfl | (refine relUpon_enter ?_; fail))
                (simp only [Act.put, List.setIfInBounds_toArray, List.set_cons_zero, List.set_cons_succ])
                (with_reducible refine HK.out _ _ ?_)
                clear HK K)
             | (fail)))
        refine relNil ?_
        intro r5 n5 hx5
        clear hcH
        (try simp only [List.nil_append, List.cons_append, List.mem_cons, List.not_mem_nil, or_false, forall_eq_or_imp, forall_eq, false_implies, implies_true] at hx5)
        obtain ⟨w5, hb5⟩ := n5
        (try dsimp only)
        obtain ⟨hc5, hf5⟩ := bcell hb5
        have hz5 := hb5.size
        (try simp at hz5)
        go_wp2
        go_roundw
        case rel => exact ⟨k + 1, by omega, by go_num, by rw [Hs.out]; exact own_kept Hown.out hb5, by (repeat' (first | with_reducible exact Below.refl _ _ | with_reducible assumption | with_reducible refine Below.drew ?_ | with_reducible refine below_drewN' ?_ _ | with_reducible refine Below.alloc ?_ ?_ _ | with_reducible refine Below.setCell ?_ ?_ _ | with_reducible refine below_step (by assumption) ?_ ?_ | omega | (simp; done) | (simp; omega)))⟩
        case measure => simp [intOf]; omega
      · skip
        have Hs := Lib.hid (filt_yes Hx.out (P := (slotB y.key y.eff)) (show (slotB y.key y.eff) x = true from hv))
        have hL := filt_len (slotB y.key y.eff) xs k
        have hc3 : ((xs.take k).filter (slotB y.key y.eff)).length + 1 ≤ maxLen := by unfold maxLen; omega
        have hc4 : (((xs.take k).filter (slotB y.key y.eff)).length + 1) * 40 ≤ 140737488355328 := by omega
        have Hrow := Lib.hid (show ((xs.take k).filter (slotB y.key y.eff)).flatMap tcs ++ tcs x = ((xs.take (k + 1)).filter (slotB y.key y.eff)).flatMap tcs by rw [Hs.out]; simp)
        have Hlen := Lib.hid (show ((xs.take k).filter (slotB y.key y.eff)).length + 1 = ((xs.take (k + 1)).filter (slotB y.key y.eff)).length by rw [Hs.out]; simp)
        clear hL
        clear hv
        go_wp2
        have hcH := held_cell
        refine region_rel (by kernel_rfl) (by kernel_rfl) ?_
        repeat
          ((with_reducible refine relStep (fun K hK => ?_))
           (have HK := Lib.hid hK)
           clear hK
           (first
             | (apply relInl
                · intro r n hf
                  have Hf := Lib.hid hf
                  clear hf
                  unfold relAt
                  go_simp
                  (first | (refine relUpon_val ?_ (Below.refl _ _); exact rfl) | exact rfl | (refine relUpon_enter ?_; fail))
                (simp only [Act.put, List.setIfInBounds_toArray, List.set_cons_zero, List.set_cons_succ])
                (with_reducible refine HK.out _ _ ?_)
                clear HK K)
             | (fail)))
        refine relNil ?_
        intro r5 n5 hx5
        clear hcH
        (try simp only [List.nil_append, List.cons_append, List.mem_cons, List.not_mem_nil, or_false, forall_eq_or_imp, forall_eq, false_implies, implies_true] at hx5)
        obtain ⟨w5, hb5⟩ := n5
        (try dsimp only)
        obtain ⟨hc5, hf5⟩ := bcell hb5
        have hz5 := hb5.size
        (try simp at hz5)
        have HOx := Lib.hid (own_kept Hown.out hb5)
        have HBx := Lib.hid (HB.out.trans (hb5.mono HB.out.size))
        have hbx := HBx.out.size
        go_wp2_with (at_builtin; refine wpList_append_own _ rfl (.tmp 31) (.tmp 36) 23 rfl W.heap.size 30 i0 _ 3 40 Try.underlying23 Hi.out Hz0.out Hz1.out Hz2.out rfl (by decide) _ ((xs.take k).filter (slotB y.key y.eff)).length (((xs.take k).filter (slotB y.key y.eff)).flatMap tcs) rfl (HOx.out.alloc _) ⟨w5.heap.size, 0, none⟩ 1 1 (tcs x) rfl rfl (news_at _ _ _) (tcs_one _) hc3 hc4 (le_alloc hbx _) ?_; intro v1 w1 hown1 hgrow1 _; rw [Hrow.out, Hlen.out] at hown1; have hB1 := own_below (HOx.out.alloc _) (HBx.out.alloc hbx _) (le_alloc hbx _) hgrow1; have HO1 := Lib.hid hown1; clear hown1 hgrow1)
        go_roundw
        case rel => exact ⟨k + 1, by omega, by go_num, HO1.out, hB1⟩
        case measure => simp [intOf]; omega
    · skip
      obtain rfl : k = n := by omega
      have hL := filt_len (slotB y.key y.eff) xs k
      have hc3 : ((xs.take k).filter (slotB y.key y.eff)).length + 1 ≤ maxLen := by unfold maxLen; omega
      have hc4 : (((xs.take k).filter (slotB y.key y.eff)).length + 1) * 40 ≤ 140737488355328 := by omega
      have hfa := filt_all (slotB y.key y.eff) Hln.out
      have Hrow := Lib.hid (show ((xs.take k).filter (slotB y.key y.eff)).flatMap tcs ++ tcs y = (xs.filter (slotB y.key y.eff) ++ [y]).flatMap tcs by rw [hfa]; simp)
      have Hlen := Lib.hid (show ((xs.take k).filter (slotB y.key y.eff)).length + 1 = (xs.filter (slotB y.key y.eff) ++ [y]).length by rw [hfa]; simp)
      clear hL hfa
      have HOx := Hown
      have HBx := HB
      have hbx := HB.out.size
      go_wp2_with (at_builtin; refine wpList_append_own _ rfl (.tmp 38) (.tmp 40) 23 rfl W.heap.size 30 i0 _ 3 40 Try.underlying23 Hi.out Hz0.out Hz1.out Hz2.out rfl (by decide) _ ((xs.take k).filter (slotB y.key y.eff)).length (((xs.take k).filter (slotB y.key y.eff)).flatMap tcs) rfl (HOx.out.alloc _) ⟨wr.heap.size, 0, none⟩ 1 1 (tcs y) rfl rfl (news_at _ _ _) (tcs_one _) hc3 hc4 (le_alloc hbx _) ?_; intro v1 w1 hown1 hgrow1 _; rw [Hrow.out, Hlen.out] at hown1; have hB1 := own_below (HOx.out.alloc _) (HBx.out.alloc hbx _) (le_alloc hbx _) hgrow1; have HO1 := Lib.hid hown1; clear hown1 hgrow1)
      refine bodyPost_ret (by simp [results, Try.results17, go_sem]) rfl ⟨⟨_, rfl, OwnL.mono HO1.out hWz⟩, HW.out.trans (hB1.mono hWz)⟩
end Go.Proofs.Ytlfjjiepclphiaa
