/-
  The contracts of taints.without, taints.Drop, triremeref06.Drop.
-/
import Derived.Test.YtlfjjiepclphiaaTnt5
namespace Go.Proofs.Ytlfjjiepclphiaa
open Go.RowKit
set_option linter.unusedVariables false

/-- What has another key, or another effect (0: any). -/
def dropB (key : ByteArray) (eff : Int) (x : Tnt) : Bool := !(decide (x.key = key) && (decide (eff = 0) || decide (x.eff = eff)))
def dropT (xs : List Tnt) (key : ByteArray) (eff : Int) : List Tnt := xs.filter (dropB key eff)
/-- What has another slot. -/
def slotB (key : ByteArray) (eff : Int) (x : Tnt) : Bool := !(decide (x.key = key ∧ x.eff = eff))

theorem guard_slot (op : BinOp) (x y : Operand) (xs ys : Array Value) (w : World) : (eqGuard op 44 x y (.agg xs) (.agg ys)).run Try.prog w = .ok () w := run_eqGuard_agg w op _ x y xs ys (by kernel_rfl)
theorem eql_slot0 (x1 y1 : ByteArray) (x2 y2 : Int) (w : World) : (Op.equalIn 10000 44 (.agg #[.string x1, .int .i64 x2]) (.agg #[.string y1, .int .i64 y2])).run Try.prog w = .ok (decide (x1 = y1 ∧ x2 = y2)) w := by
  have hus := Try.underlying9
  have has := Try.isAgg9
  have hzs := Try.sizeOf9
  have hui := Try.underlying3
  have hai := Try.isAgg3
  have hzi := Try.sizeOf3
  have hS : Try.prog.underlying 44 = some (.struct (Try.prog.fieldsOf 44)) := by kernel_rfl
  have hp : Try.prog.stoodInHeld 44 = false := by kernel_rfl
  rw [show (10000 : Nat) = 9999 + 1 from rfl, run_equalIn_agg w 9999 44 _ _ hS hp]
  simp only [Program.fieldsOf, Try.underlying44]
  go_simp
  by_cases h1 : x1 = y1 <;> by_cases h2 : x2 = y2 <;> simp [h1, h2, toList_inj]
theorem neq_slot (x1 y1 : ByteArray) (x2 y2 : Int) (w : World) : (binOp .neq 44 (.agg #[.string x1, .int .i64 x2]) (.agg #[.string y1, .int .i64 y2])).run Try.prog w = .ok (.bool (!decide (x1 = y1 ∧ x2 = y2))) w := by
  rw [run_neq_struct, eql_slot0]; rfl

set_option maxRecDepth 100000 in
theorem slotof_any (x : Tnt) (w : World) :
    Calls Try.prog 29 #[.agg #[.string (x).key, .string (x).val, .int .i64 (x).eff]] w fun e w' => e = .returned (.agg #[.string x.key, .int .i64 x.eff]) ∧ Below w.heap.size w w' := by
  go_enter Try.func29, Try.ntmps29
  go_wp2
  refine bodyPost_ret (v := .agg #[.string x.key, .int .i64 x.eff]) (by simp [results, Try.results29, go_sem]) rfl ⟨rfl, ?_⟩
  (repeat' (first | with_reducible exact Below.refl _ _ | with_reducible assumption | with_reducible refine Below.drew ?_ | with_reducible refine below_drewN' ?_ _ | with_reducible refine Below.alloc ?_ ?_ _ | with_reducible refine Below.setCell ?_ ?_ _ | with_reducible refine below_step (by assumption) ?_ ?_ | omega | (simp; done) | (simp; omega)))

theorem OwnL.eq {α : Type} {enc : α → List Value} {K base : Nat} {t : TypeId} {l m : List α} {v : Value} {w : World} (hl : l = m) (h : w.ownsRow base t K v m.length (m.flatMap enc)) : OwnL enc K base t l v w := hl ▸ h

set_option maxRecDepth 100000 in
set_option maxHeartbeats 4000000 in
theorem without_any (c : Option Addr) (kc : Nat) (xs : List Tnt) (key : ByteArray) (eff : Int) (w : World) (hF : TntsAt w c xs) (hm : xs.length ≤ 1000000) :
    Calls Try.prog 28 #[.slice c xs.length kc, .agg #[.string key, .int .i64 eff]] w (Gives w (OwnL tcs 3 w.heap.size 30 (xs.filter (slotB key eff)))) := by
  have HF := Lib.hid hF
  clear hF
  obtain ⟨i0, hi, hz0, hz1, hz2⟩ := info_parts Try.info30
  have Hi := Lib.hid hi
  have Hz0 := Lib.hid hz0
  have Hz1 := Lib.hid hz1
  have Hz2 := Lib.hid hz2
  clear hi hz0 hz1 hz2
  obtain ⟨n, hln⟩ : ∃ n, xs.length = n := ⟨_, rfl⟩
  rw [hln] at hm ⊢
  have Hln := Lib.hid hln
  clear hln
  have hq := neq_slot
  have hg := guard_slot
  go_enter Try.func28, Try.ntmps28
  go_wp2
  obtain ⟨W, hW⟩ : ∃ W, W = w.alloc (.cells #[.string key, .int .i64 eff] 44) := ⟨_, rfl⟩
  have HW := Lib.hid (show Below w.heap.size w W by rw [hW]; (repeat' (first | with_reducible exact Below.refl _ _ | with_reducible assumption | with_reducible refine Below.drew ?_ | with_reducible refine below_drewN' ?_ _ | with_reducible refine Below.alloc ?_ ?_ _ | with_reducible refine Below.setCell ?_ ?_ _ | with_reducible refine below_step (by assumption) ?_ ?_ | omega | (simp; done) | (simp; omega))))
  have hWz : w.heap.size ≤ W.heap.size := HW.out.size
  have HFW := Lib.hid (HF.out.mono HW.out)
  (try rw [← hW])
  have hs0 : W.cell? ⟨w.heap.size, 0, none⟩ = some (.string key) := by rw [hW]; simp [go_sem]
  have hs1 : W.cell? ⟨w.heap.size, 1, none⟩ = some (.int .i64 eff) := by rw [hW]; simp [go_sem]
  have hsz : w.heap.size < W.heap.size := by rw [hW]; simp
  clear hW
  go_loopw [5, 10] (fun v i wr => ∃ k : Nat, k ≤ n ∧ i = .int .i64 k ∧ wr.ownsRow W.heap.size 30 3 v ((xs.take k).filter (slotB key eff)).length (((xs.take k).filter (slotB key eff)).flatMap tcs) ∧ Below W.heap.size W wr) (fun _ i _ => n - (intOf i).toNat)
  case atStart => exact ⟨0, by omega, rfl, World.ownsRow_nil _ _ _ _, by (repeat' (first | with_reducible exact Below.refl _ _ | with_reducible assumption | with_reducible refine Below.drew ?_ | with_reducible refine below_drewN' ?_ _ | with_reducible refine Below.alloc ?_ ?_ _ | with_reducible refine Below.setCell ?_ ?_ _ | with_reducible refine below_step (by assumption) ?_ ?_ | omega | (simp; done) | (simp; omega)))⟩
  case round =>
    obtain ⟨k, hk, rfl, hown, hB⟩ := hrel
    obtain ⟨hcB, hfB⟩ := bcell hB
    have hbz := hB.size
    have Hown := Lib.hid hown
    have HB := Lib.hid hB
    clear hown
    by_cases hlt : k < n
    · skip
      obtain ⟨x, hx⟩ := mem_at (l := xs) (k := k) (by rw [Hln.out]; exact hlt)
      have Hx := Lib.hid hx
      obtain ⟨b, off, rfl, hb, hc⟩ := HFW.out (by rw [Hln.out]; omega)
      have hbw : b < wr.heap.size := by omega
      obtain ⟨c0, c1, c2⟩ := tnt_cells (hc k x hx)
      clear hc hx
      have hw0 : w.heap.size < wr.heap.size := by omega
      cases hv : slotB key eff x
      · skip
        have Hs := Lib.hid (filt_no Hx.out (P := (slotB key eff)) (show (slotB key eff) x = false from hv))
        have hv' : (!decide (x.key = key ∧ x.eff = eff)) = false := hv
        have hq1 := fun w => (hq x.key key x.eff eff w).trans (by rw [hv'])
        clear hq hv hv'
        go_wp2
        have hcH := held_cell
        refine region_rel (by kernel_rfl) (by kernel_rfl) ?_
        repeat
          ((with_reducible refine relStep (fun K hK => ?_))
           (have HK := Lib.hid hK)
           clear hK
           (first
             | (apply relInl
                · intro r n hf
                  have Hf := Lib.hid hf
                  clear hf
                  unfold relAt
                  go_simp
                  (first | (refine relUpon_val ?_ (Below.refl _ _); exact rfl) | exact rfl | (refine relUpon_enter ?_; (go_at_call 29; (with_reducible refine (slotof_any x _).mono ?_); rintro e w1 ⟨rfl, hb⟩; exact ⟨⟨_, rfl, rfl⟩, hb⟩)))
                (simp only [Act.put, List.setIfInBounds_toArray, List.set_cons_zero, List.set_cons_succ])
                (with_reducible refine HK.out _ _ ?_)
                clear HK K)
             | (fail)))
        refine relNil ?_
        intro r5 n5 hx5
        clear hcH
        (try simp only [List.nil_append, List.cons_append, List.mem_cons, List.not_mem_nil, or_false, forall_eq_or_imp, forall_eq, false_implies, implies_true] at hx5)
        obtain ⟨w5, hb5⟩ := n5
        (try dsimp only)
        obtain ⟨hc5, hf5⟩ := bcell hb5
        have hz5 := hb5.size
        (try simp at hz5)
        go_wp2
        go_roundw
        case rel => exact ⟨k + 1, by omega, by go_num, by rw [Hs.out]; exact own_kept (Hown.out.alloc _) hb5, by (repeat' (first | with_reducible exact Below.refl _ _ | with_reducible assumption | with_reducible refine Below.drew ?_ | with_reducible refine below_drewN' ?_ _ | with_reducible refine Below.alloc ?_ ?_ _ | with_reducible refine Below.setCell ?_ ?_ _ | with_reducible refine below_step (by assumption) ?_ ?_ | omega | (simp; done) | (simp; omega)))⟩
        case measure => simp [intOf]; omega
      · skip
        have Hs := Lib.hid (filt_yes Hx.out (P := (slotB key eff)) (show (slotB key eff) x = true from hv))
        have hL := filt_len (slotB key eff) xs k
        have hc3 : ((xs.take k).filter (slotB key eff)).length + 1 ≤ maxLen := by unfold maxLen; omega
        have hc4 : (((xs.take k).filter (slotB key eff)).length + 1) * 40 ≤ 140737488355328 := by omega
        have Hrow := Lib.hid (show ((xs.take k).filter (slotB key eff)).flatMap tcs ++ tcs x = ((xs.take (k + 1)).filter (slotB key eff)).flatMap tcs by rw [Hs.out]; simp)
        have Hlen := Lib.hid (show ((xs.take k).filter (slotB key eff)).length + 1 = ((xs.take (k + 1)).filter (slotB key eff)).length by rw [Hs.out]; simp)
        clear hL
        have hv' : (!decide (x.key = key ∧ x.eff = eff)) = true := hv
        have hq1 := fun w => (hq x.key key x.eff eff w).trans (by rw [hv'])
        clear hq hv hv'
        go_wp2
        have hcH := held_cell
        refine region_rel (by kernel_rfl) (by kernel_rfl) ?_
        repeat
          ((with_reducible refine relStep (fun K hK => ?_))
           (have HK := Lib.hid hK)
           clear hK
           (first
             | (apply relInl
                · intro r n hf
                  have Hf := Lib.hid hf
                  clear hf
                  unfold relAt
                  go_simp
                  (first | (refine relUpon_val ?_ (Below.refl _ _); exact rfl) | exact rfl | (refine relUpon_enter ?_; (go_at_call 29; (with_reducible refine (slotof_any x _).mono ?_); rintro e w1 ⟨rfl, hb⟩; exact ⟨⟨_, rfl, rfl⟩, hb⟩)))
                (simp only [Act.put, List.setIfInBounds_toArray, List.set_cons_zero, List.set_cons_succ])
                (with_reducible refine HK.out _ _ ?_)
                clear HK K)
             | (fail)))
        refine relNil ?_
        intro r5 n5 hx5
        clear hcH
        (try simp only [List.nil_append, List.cons_append, List.mem_cons, List.not_mem_nil, or_false, forall_eq_or_imp, forall_eq, false_implies, implies_true] at hx5)
        obtain ⟨w5, hb5⟩ := n5
        (try dsimp only)
        obtain ⟨hc5, hf5⟩ := bcell hb5
        have hz5 := hb5.size
        (try simp at hz5)
        have HOx := Lib.hid (own_kept (Hown.out.alloc _) hb5)
        have HBx := Lib.hid (show Below W.heap.size W w5 by (repeat' (first | with_reducible exact Below.refl _ _ | with_reducible assumption | with_reducible refine Below.drew ?_ | with_reducible refine below_drewN' ?_ _ | with_reducible refine Below.alloc ?_ ?_ _ | with_reducible refine Below.setCell ?_ ?_ _ | with_reducible refine below_step (by assumption) ?_ ?_ | omega | (simp; done) | (simp; omega))))
        have hbx : W.heap.size ≤ w5.heap.size := by omega
        go_wp2_with (at_builtin; refine wpList_append_own _ rfl (.tmp 18) (.tmp 20) 23 rfl W.heap.size 30 i0 _ 3 40 Try.underlying23 Hi.out Hz0.out Hz1.out Hz2.out rfl (by decide) _ ((xs.take k).filter (slotB key eff)).length (((xs.take k).filter (slotB key eff)).flatMap tcs) rfl (HOx.out.alloc _) ⟨w5.heap.size, 0, none⟩ 1 1 (tcs x) rfl rfl (news_at _ _ _) (tcs_one _) hc3 hc4 (le_alloc hbx _) ?_; intro v1 w1 hown1 hgrow1 _; rw [Hrow.out, Hlen.out] at hown1; have hB1 := own_below (HOx.out.alloc _) (HBx.out.alloc hbx _) (le_alloc hbx _) hgrow1; have HO1 := Lib.hid hown1; clear hown1 hgrow1)
        go_roundw
        case rel => exact ⟨k + 1, by omega, by go_num, HO1.out, hB1⟩
        case measure => simp [intOf]; omega
    · skip
      obtain rfl : k = n := by omega
      have HP := Lib.hid (show ∀ v, wr.ownsRow W.heap.size 30 3 v ((xs.take k).filter (slotB key eff)).length (((xs.take k).filter (slotB key eff)).flatMap tcs) → Gives w (OwnL tcs 3 w.heap.size 30 (xs.filter (slotB key eff))) (.returned v) wr from fun v h => ⟨⟨v, rfl, OwnL.mono (OwnL.eq (filt_all _ Hln.out).symm h) hWz⟩, HW.out.trans (HB.out.mono hWz)⟩)
      go_wp2
      refine bodyPost_ret (by simp [results, Try.results28, go_sem]) rfl (HP.out _ Hown.out)
theorem slot_drop {key : ByteArray} {eff : Int} (h : ¬ eff = 0) : slotB key eff = dropB key eff := by
  funext x
  unfold slotB dropB
  by_cases h1 : x.key = key <;> by_cases h2 : x.eff = eff <;> simp [h, h1, h2]
theorem drop_key (key : ByteArray) (x : Tnt) : dropB key 0 x = !decide (x.key = key) := by
  unfold dropB
  by_cases h1 : x.key = key <;> simp [h1]

set_option maxRecDepth 100000 in
set_option maxHeartbeats 4000000 in
theorem drop_any (c : Option Addr) (kc : Nat) (xs : List Tnt) (key : ByteArray) (eff : Int) (w : World) (hF : TntsAt w c xs) (hm : xs.length ≤ 1000000) :
    Calls Try.prog 14 #[.slice c xs.length kc, .string key, .int .i64 eff] w (Gives w (OwnL tcs 3 w.heap.size 30 (dropT xs key eff))) := by
  by_cases h0 : eff = 0
  · subst h0
    have HF := Lib.hid hF
    clear hF
    obtain ⟨i0, hi, hz0, hz1, hz2⟩ := info_parts Try.info30
    have Hi := Lib.hid hi
    have Hz0 := Lib.hid hz0
    have Hz1 := Lib.hid hz1
    have Hz2 := Lib.hid hz2
    clear hi hz0 hz1 hz2
    obtain ⟨n, hln⟩ : ∃ n, xs.length = n := ⟨_, rfl⟩
    rw [hln] at hm ⊢
    have Hln := Lib.hid hln
    clear hln
    go_enter Try.func14, Try.ntmps14
    go_wp2
    obtain ⟨W, hW⟩ : ∃ W, W = w := ⟨_, rfl⟩
    have HW := Lib.hid (show Below w.heap.size w W by rw [hW]; (repeat' (first | with_reducible exact Below.refl _ _ | with_reducible assumption | with_reducible refine Below.drew ?_ | with_reducible refine below_drewN' ?_ _ | with_reducible refine Below.alloc ?_ ?_ _ | with_reducible refine Below.setCell ?_ ?_ _ | with_reducible refine below_step (by assumption) ?_ ?_ | omega | (simp; done) | (simp; omega))))
    have hWz : w.heap.size ≤ W.heap.size := HW.out.size
    have HFW := Lib.hid (HF.out.mono HW.out)
    (try rw [← hW])
    clear hW
    go_loopw [7, 19] (fun v i wr => ∃ k : Nat, k ≤ n ∧ i = .int .i64 k ∧ wr.ownsRow W.heap.size 30 3 v ((xs.take k).filter (dropB key 0)).length (((xs.take k).filter (dropB key 0)).flatMap tcs) ∧ Below W.heap.size W wr) (fun _ i _ => n - (intOf i).toNat)
    case atStart => exact ⟨0, by omega, rfl, World.ownsRow_nil _ _ _ _, by (repeat' (first | with_reducible exact Below.refl _ _ | with_reducible assumption | with_reducible refine Below.drew ?_ | with_reducible refine below_drewN' ?_ _ | with_reducible refine Below.alloc ?_ ?_ _ | with_reducible refine Below.setCell ?_ ?_ _ | with_reducible refine below_step (by assumption) ?_ ?_ | omega | (simp; done) | (simp; omega)))⟩
    case round =>
      obtain ⟨k, hk, rfl, hown, hB⟩ := hrel
      obtain ⟨hcB, hfB⟩ := bcell hB
      have hbz := hB.size
      have Hown := Lib.hid hown
      have HB := Lib.hid hB
      clear hown
      by_cases hlt : k < n
      · skip
        obtain ⟨x, hx⟩ := mem_at (l := xs) (k := k) (by rw [Hln.out]; exact hlt)
        have Hx := Lib.hid hx
        obtain ⟨b, off, rfl, hb, hc⟩ := HFW.out (by rw [Hln.out]; omega)
        have hbw : b < wr.heap.size := by omega
        obtain ⟨c0, c1, c2⟩ := tnt_cells (hc k x hx)
        clear hc hx
        have hd := drop_key key x
        have hs := strB_list x.key key
        cases hv : dropB key 0 x
        · skip
          have Hs := Lib.hid (filt_no Hx.out (P := (dropB key 0)) (show (dropB key 0) x = false from hv))
          have hs1 : (x.key.toList == key.toList) = true := by
            rw [hs]
            unfold strB
            rw [hv] at hd
            simpa using hd
          clear hd hs hv
          go_wp2
          go_roundw
          case rel => exact ⟨k + 1, by omega, by go_num, by rw [Hs.out]; exact Hown.out.alloc _, by (repeat' (first | with_reducible exact Below.refl _ _ | with_reducible assumption | with_reducible refine Below.drew ?_ | with_reducible refine below_drewN' ?_ _ | with_reducible refine Below.alloc ?_ ?_ _ | with_reducible refine Below.setCell ?_ ?_ _ | with_reducible refine below_step (by assumption) ?_ ?_ | omega | (simp; done) | (simp; omega)))⟩
          case measure => simp [intOf]; omega
        · skip
          have Hs := Lib.hid (filt_yes Hx.out (P := (dropB key 0)) (show (dropB key 0) x = true from hv))
          have hL := filt_len (dropB key 0) xs k
          have hc3 : ((xs.take k).filter (dropB key 0)).length + 1 ≤ maxLen := by unfold maxLen; omega
          have hc4 : (((xs.take k).filter (dropB key 0)).length + 1) * 40 ≤ 140737488355328 := by omega
          have Hrow := Lib.hid (show ((xs.take k).filter (dropB key 0)).flatMap tcs ++ tcs x = ((xs.take (k + 1)).filter (dropB key 0)).flatMap tcs by rw [Hs.out]; simp)
          have Hlen := Lib.hid (show ((xs.take k).filter (dropB key 0)).length + 1 = ((xs.take (k + 1)).filter (dropB key 0)).length by rw [Hs.out]; simp)
          clear hL
          have hs1 : (x.key.toList == key.toList) = false := by
            rw [hs]
            unfold strB
            rw [hv] at hd
            simpa using hd
          have HOx := Lib.hid (Hown.out.alloc (.cells #[.string x.key, .string x.val, .int .i64 x.eff] 30))
          have HBx := Lib.hid (HB.out.alloc HB.out.size (.cells #[.string x.key, .string x.val, .int .i64 x.eff] 30))
          have hbx := le_alloc HB.out.size (.cells #[.string x.key, .string x.val, .int .i64 x.eff] 30)
          clear hd hs hv
          go_wp2_with (at_builtin; refine wpList_append_own _ rfl (.tmp 27) (.tmp 29) 23 rfl W.heap.size 30 i0 _ 3 40 Try.underlying23 Hi.out Hz0.out Hz1.out Hz2.out rfl (by decide) _ ((xs.take k).filter (dropB key 0)).length (((xs.take k).filter (dropB key 0)).flatMap tcs) rfl (HOx.out.alloc _) ⟨wr.heap.size + 1, 0, none⟩ 1 1 (tcs x) rfl rfl (news_at2 _ _ _ _) (tcs_one _) hc3 hc4 (le_alloc hbx _) ?_; intro v1 w1 hown1 hgrow1 _; rw [Hrow.out, Hlen.out] at hown1; have hB1 := own_below (HOx.out.alloc _) (HBx.out.alloc hbx _) (le_alloc hbx _) hgrow1; have HO1 := Lib.hid hown1; clear hown1 hgrow1)
          go_roundw
          case rel => exact ⟨k + 1, by omega, by go_num, HO1.out, hB1⟩
          case measure => simp [intOf]; omega
      · skip
        obtain rfl : k = n := by omega
        have HP := Lib.hid (show ∀ v, wr.ownsRow W.heap.size 30 3 v ((xs.take k).filter (dropB key 0)).length (((xs.take k).filter (dropB key 0)).flatMap tcs) → Gives w (OwnL tcs 3 w.heap.size 30 (dropT xs key 0)) (.returned v) wr from fun v h => ⟨⟨v, rfl, OwnL.mono (OwnL.eq (filt_all _ Hln.out).symm h) hWz⟩, HW.out.trans (HB.out.mono hWz)⟩)
        go_wp2
        refine bodyPost_ret (by simp [results, Try.results14, go_sem]) rfl (HP.out _ Hown.out)
  · have he := slot_drop (key := key) h0
    have hk1 : (eff != 0) = true := by simpa using h0
    unfold dropT
    rw [← he]
    clear he h0
    go_enter Try.func14, Try.ntmps14
    go_wp2_with (go_at_call 28; (with_reducible refine (without_any c kc xs key eff _ hF hm).mono ?_); rintro e w1 ⟨⟨v, rfl, hv⟩, hb⟩)
    refine bodyPost_ret (by simp [results, Try.results14, go_sem]) rfl ⟨⟨v, rfl, hv⟩, hb⟩
end Go.Proofs.Ytlfjjiepclphiaa
