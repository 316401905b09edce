/-
  The contracts of health.Late, Coming, Size, triremeref29.Late, Coming, Size.
-/
import Derived.Test.YtbomcghjifgfoaaDoorHIns
namespace Go.Proofs.YtbomcghjifgfoaaDoor
open Go.RowKit
set_option linter.unusedVariables false

set_option maxRecDepth 100000 in
set_option maxHeartbeats 4000000 in
theorem sellate_any (c : Option Addr) (kc : Nat) (xs : List Ins) (b0 c0 : Nat) (now limit : Int) (h0 : 0 ≤ now) (h1 : now ≤ 1099511627776) (h2 : 0 ≤ limit) (h3 : limit ≤ 1099511627776) (w : World) (hF : InsL w c xs) (hm : xs.length ≤ 1000000) (hb0 : b0 < w.heap.size) (hc0 : c0 < w.heap.size)
    (e1 : w.cell? ⟨b0, 0, none⟩ = some (.int .i64 now)) (e2 : w.cell? ⟨c0, 0, none⟩ = some (.int .i64 limit)) :
    Calls Tryd.prog 25 #[.slice c xs.length kc, .func (.func 26) #[] #[.pointer (some ⟨b0, 0, none⟩), .pointer (some ⟨c0, 0, none⟩)]] w (Gives w (OwnL irow 5 w.heap.size 29 (xs.filter (lateI now limit)))) := by
  have HF := Lib.hid hF
  clear hF
  obtain ⟨i0, hi, hz0, hz1, hz2⟩ := info_parts Tryd.info29
  have Hi := Lib.hid hi
  have Hz0 := Lib.hid hz0
  have Hz1 := Lib.hid hz1
  have Hz2 := Lib.hid hz2
  clear hi hz0 hz1 hz2
  obtain ⟨n, hln⟩ : ∃ n, xs.length = n := ⟨_, rfl⟩
  rw [hln] at hm ⊢
  have Hln := Lib.hid hln
  clear hln
  go_enter Tryd.func25, Tryd.ntmps25
  go_wp2
  obtain ⟨W, hW⟩ : ∃ W, W = w := ⟨_, rfl⟩
  have HW := Lib.hid (show Below w.heap.size w W by rw [hW]; (repeat' (first | with_reducible exact Below.refl _ _ | with_reducible assumption | with_reducible refine Below.drew ?_ | with_reducible refine below_drewN' ?_ _ | with_reducible refine Below.alloc ?_ ?_ _ | with_reducible refine Below.setCell ?_ ?_ _ | with_reducible refine below_step (by assumption) ?_ ?_ | omega | (simp; done) | (simp; omega))))
  have hWz : w.heap.size ≤ W.heap.size := HW.out.size
  have HFW := Lib.hid (HF.out.mono HW.out)
  (try rw [← hW])
  clear hW
  have hbW : b0 < W.heap.size := by omega
  have hcW : c0 < W.heap.size := by omega
  have E1 := Lib.hid (show W.cell? ⟨b0, 0, none⟩ = some (.int .i64 now) by rw [HW.out.cell (p := ⟨b0, 0, none⟩) hb0]; exact e1)
  have E2 := Lib.hid (show W.cell? ⟨c0, 0, none⟩ = some (.int .i64 limit) by rw [HW.out.cell (p := ⟨c0, 0, none⟩) hc0]; exact e2)
  clear e1 e2
  go_loopw [5, 6, 9] (fun v _ i wr => ∃ k : Nat, k ≤ n ∧ i = .int .i64 k ∧ wr.ownsRow W.heap.size 29 5 v ((xs.take k).filter (lateI now limit)).length (((xs.take k).filter (lateI now limit)).flatMap irow) ∧ Below W.heap.size W wr) (fun _ _ i _ => n - (intOf i).toNat)
  case atStart => exact ⟨0, by omega, rfl, World.ownsRow_nil _ _ _ _, by (repeat' (first | with_reducible exact Below.refl _ _ | with_reducible assumption | with_reducible refine Below.drew ?_ | with_reducible refine below_drewN' ?_ _ | with_reducible refine Below.alloc ?_ ?_ _ | with_reducible refine Below.setCell ?_ ?_ _ | with_reducible refine below_step (by assumption) ?_ ?_ | omega | (simp; done) | (simp; omega)))⟩
  case round =>
    obtain ⟨k, hk, rfl, hown, hB⟩ := hrel
    obtain ⟨hcB, hfB⟩ := bcell hB
    have hbz := hB.size
    have Hown := Lib.hid hown
    have HB := Lib.hid hB
    clear hown
    by_cases hlt : k < n
    · skip
      obtain ⟨x, hx⟩ := mem_at (l := xs) (k := k) (by rw [Hln.out]; exact hlt)
      have Hx := Lib.hid hx
      obtain ⟨b, off, rfl, hb, hc⟩ := HFW.out (by rw [Hln.out]; omega)
      have hbw : b < wr.heap.size := by omega
      obtain ⟨d0, d1, d2, d3, d4⟩ := irow_cells (hc k x hx)
      clear hc hx
      have HC := Lib.hid (show Calls Tryd.prog 26 #[.agg #[.string (x).nm, .string (x).gp, .int .i64 (x).st, .int .i64 (x).lf, .int .i64 (x).si], .pointer (some ⟨b0, 0, none⟩), .pointer (some ⟨c0, 0, none⟩)] wr fun e w' => e = .returned (.bool (lateI now limit x)) ∧ Below wr.heap.size wr w' from late1_any x b0 c0 now limit h0 h1 h2 h3 wr (by omega) (by omega) (by rw [HB.out.cell (p := ⟨b0, 0, none⟩) hbW]; exact E1.out) (by rw [HB.out.cell (p := ⟨c0, 0, none⟩) hcW]; exact E2.out))
      cases hv : lateI now limit x
      · skip
        have Hs := Lib.hid (filt_no Hx.out (P := (lateI now limit)) (show (lateI now limit) x = false from hv))
        rw [hv] at HC
        clear hv
        go_wp2_with (go_at_call 26; (with_reducible refine HC.out.mono ?_); rintro e w5 ⟨rfl, hb5⟩; have hz5 := hb5.size; (try simp at hz5))
        go_roundw
        case rel => exact ⟨k + 1, by omega, by go_num, by rw [Hs.out]; exact own_kept Hown.out hb5, by (repeat' (first | with_reducible exact Below.refl _ _ | with_reducible assumption | with_reducible refine Below.drew ?_ | with_reducible refine below_drewN' ?_ _ | with_reducible refine Below.alloc ?_ ?_ _ | with_reducible refine Below.setCell ?_ ?_ _ | with_reducible refine below_step (by assumption) ?_ ?_ | omega | (simp; done) | (simp; omega)))⟩
        case measure => simp [intOf]; omega
      · skip
        have Hs := Lib.hid (filt_yes Hx.out (P := (lateI now limit)) (show (lateI now limit) x = true from hv))
        have hL := filt_len (lateI now limit) xs k
        have hc3 : ((xs.take k).filter (lateI now limit)).length + 1 ≤ maxLen := by unfold maxLen; omega
        have hc4 : (((xs.take k).filter (lateI now limit)).length + 1) * 56 ≤ 140737488355328 := by omega
        have Hrow := Lib.hid (show ((xs.take k).filter (lateI now limit)).flatMap irow ++ irow x = ((xs.take (k + 1)).filter (lateI now limit)).flatMap irow by rw [Hs.out]; simp)
        have Hlen := Lib.hid (show ((xs.take k).filter (lateI now limit)).length + 1 = ((xs.take (k + 1)).filter (lateI now limit)).length by rw [Hs.out]; simp)
        clear hL
        rw [hv] at HC
        clear hv
        go_wp2_with (first
          | (go_at_call 26; (with_reducible refine HC.out.mono ?_); rintro e w5 ⟨rfl, hb5⟩; obtain ⟨hc5, hf5⟩ := bcell hb5; have hz5 := hb5.size; (try simp at hz5); have z5_0 : b < w5.heap.size := (by omega); have y5_0 : b ≤ w5.heap.size := (by omega); have HOx := Lib.hid (own_kept Hown.out hb5); have HBx := Lib.hid (show Below W.heap.size W w5 by (repeat' (first | with_reducible exact Below.refl _ _ | with_reducible assumption | with_reducible refine Below.drew ?_ | with_reducible refine below_drewN' ?_ _ | with_reducible refine Below.alloc ?_ ?_ _ | with_reducible refine Below.setCell ?_ ?_ _ | with_reducible refine below_step (by assumption) ?_ ?_ | omega | (simp; done) | (simp; omega)))); have hbx := HBx.out.size)
          | (at_builtin; refine wpList_append_own _ rfl (.tmp 18) (.tmp 23) 23 rfl W.heap.size 29 i0 _ 5 56 Tryd.underlying23 Hi.out Hz0.out Hz1.out Hz2.out rfl (by decide) _ ((xs.take k).filter (lateI now limit)).length (((xs.take k).filter (lateI now limit)).flatMap irow) rfl (HOx.out.alloc _) ⟨w5.heap.size, 0, none⟩ 1 1 (irow x) rfl rfl (news_at _ _ _) (irow_one _) hc3 hc4 (le_alloc hbx _) ?_; intro v1 w1 hown1 hgrow1 _; rw [Hrow.out, Hlen.out] at hown1; have hB1 := own_below (HOx.out.alloc _) (HBx.out.alloc hbx _) (le_alloc hbx _) hgrow1; have HO1 := Lib.hid hown1; clear hown1 hgrow1))
        go_roundw
        case rel => exact ⟨k + 1, by omega, by go_num, HO1.out, hB1⟩
        case measure => simp [intOf]; omega
    · skip
      obtain rfl : k = n := by omega
      have HP := Lib.hid (show ∀ v, wr.ownsRow W.heap.size 29 5 v ((xs.take k).filter (lateI now limit)).length (((xs.take k).filter (lateI now limit)).flatMap irow) → Gives w (OwnL irow 5 w.heap.size 29 (xs.filter (lateI now limit))) (.returned v) wr from fun v h => ⟨⟨v, rfl, OwnL.mono (OwnL.eq (filt_all _ Hln.out).symm h) hWz⟩, HW.out.trans (HB.out.mono hWz)⟩)
      go_wp2
      refine bodyPost_ret (by simp [results, Tryd.results25, go_sem]) rfl (HP.out _ Hown.out)
set_option maxRecDepth 100000 in
set_option maxHeartbeats 4000000 in
theorem selcoming_any (c : Option Addr) (kc : Nat) (xs : List Ins) (b0 c0 : Nat) (now limit : Int) (h0 : 0 ≤ now) (h1 : now ≤ 1099511627776) (h2 : 0 ≤ limit) (h3 : limit ≤ 1099511627776) (w : World) (hF : InsL w c xs) (hm : xs.length ≤ 1000000) (hb0 : b0 < w.heap.size) (hc0 : c0 < w.heap.size)
    (e1 : w.cell? ⟨b0, 0, none⟩ = some (.int .i64 now)) (e2 : w.cell? ⟨c0, 0, none⟩ = some (.int .i64 limit)) :
    Calls Tryd.prog 25 #[.slice c xs.length kc, .func (.func 30) #[] #[.pointer (some ⟨b0, 0, none⟩), .pointer (some ⟨c0, 0, none⟩)]] w (Gives w (OwnL irow 5 w.heap.size 29 (xs.filter (comingI now limit)))) := by
  have HF := Lib.hid hF
  clear hF
  obtain ⟨i0, hi, hz0, hz1, hz2⟩ := info_parts Tryd.info29
  have Hi := Lib.hid hi
  have Hz0 := Lib.hid hz0
  have Hz1 := Lib.hid hz1
  have Hz2 := Lib.hid hz2
  clear hi hz0 hz1 hz2
  obtain ⟨n, hln⟩ : ∃ n, xs.length = n := ⟨_, rfl⟩
  rw [hln] at hm ⊢
  have Hln := Lib.hid hln
  clear hln
  go_enter Tryd.func25, Tryd.ntmps25
  go_wp2
  obtain ⟨W, hW⟩ : ∃ W, W = w := ⟨_, rfl⟩
  have HW := Lib.hid (show Below w.heap.size w W by rw [hW]; (repeat' (first | with_reducible exact Below.refl _ _ | with_reducible assumption | with_reducible refine Below.drew ?_ | with_reducible refine below_drewN' ?_ _ | with_reducible refine Below.alloc ?_ ?_ _ | with_reducible refine Below.setCell ?_ ?_ _ | with_reducible refine below_step (by assumption) ?_ ?_ | omega | (simp; done) | (simp; omega))))
  have hWz : w.heap.size ≤ W.heap.size := HW.out.size
  have HFW := Lib.hid (HF.out.mono HW.out)
  (try rw [← hW])
  clear hW
  have hbW : b0 < W.heap.size := by omega
  have hcW : c0 < W.heap.size := by omega
  have E1 := Lib.hid (show W.cell? ⟨b0, 0, none⟩ = some (.int .i64 now) by rw [HW.out.cell (p := ⟨b0, 0, none⟩) hb0]; exact e1)
  have E2 := Lib.hid (show W.cell? ⟨c0, 0, none⟩ = some (.int .i64 limit) by rw [HW.out.cell (p := ⟨c0, 0, none⟩) hc0]; exact e2)
  clear e1 e2
  go_loopw [5, 6, 9] (fun v _ i wr => ∃ k : Nat, k ≤ n ∧ i = .int .i64 k ∧ wr.ownsRow W.heap.size 29 5 v ((xs.take k).filter (comingI now limit)).length (((xs.take k).filter (comingI now limit)).flatMap irow) ∧ Below W.heap.size W wr) (fun _ _ i _ => n - (intOf i).toNat)
  case atStart => exact ⟨0, by omega, rfl, World.ownsRow_nil _ _ _ _, by (repeat' (first | with_reducible exact Below.refl _ _ | with_reducible assumption | with_reducible refine Below.drew ?_ | with_reducible refine below_drewN' ?_ _ | with_reducible refine Below.alloc ?_ ?_ _ | with_reducible refine Below.setCell ?_ ?_ _ | with_reducible refine below_step (by assumption) ?_ ?_ | omega | (simp; done) | (simp; omega)))⟩
  case round =>
    obtain ⟨k, hk, rfl, hown, hB⟩ := hrel
    obtain ⟨hcB, hfB⟩ := bcell hB
    have hbz := hB.size
    have Hown := Lib.hid hown
    have HB := Lib.hid hB
    clear hown
    by_cases hlt : k < n
    · skip
      obtain ⟨x, hx⟩ := mem_at (l := xs) (k := k) (by rw [Hln.out]; exact hlt)
      have Hx := Lib.hid hx
      obtain ⟨b, off, rfl, hb, hc⟩ := HFW.out (by rw [Hln.out]; omega)
      have hbw : b < wr.heap.size := by omega
      obtain ⟨d0, d1, d2, d3, d4⟩ := irow_cells (hc k x hx)
      clear hc hx
      have HC := Lib.hid (show Calls Tryd.prog 30 #[.agg #[.string (x).nm, .string (x).gp, .int .i64 (x).st, .int .i64 (x).lf, .int .i64 (x).si], .pointer (some ⟨b0, 0, none⟩), .pointer (some ⟨c0, 0, none⟩)] wr fun e w' => e = .returned (.bool (comingI now limit x)) ∧ Below wr.heap.size wr w' from coming1_any x b0 c0 now limit h0 h1 h2 h3 wr (by omega) (by omega) (by rw [HB.out.cell (p := ⟨b0, 0, none⟩) hbW]; exact E1.out) (by rw [HB.out.cell (p := ⟨c0, 0, none⟩) hcW]; exact E2.out))
      cases hv : comingI now limit x
      · skip
        have Hs := Lib.hid (filt_no Hx.out (P := (comingI now limit)) (show (comingI now limit) x = false from hv))
        rw [hv] at HC
        clear hv
        go_wp2_with (go_at_call 30; (with_reducible refine HC.out.mono ?_); rintro e w5 ⟨rfl, hb5⟩; have hz5 := hb5.size; (try simp at hz5))
        go_roundw
        case rel => exact ⟨k + 1, by omega, by go_num, by rw [Hs.out]; exact own_kept Hown.out hb5, by (repeat' (first | with_reducible exact Below.refl _ _ | with_reducible assumption | with_reducible refine Below.drew ?_ | with_reducible refine below_drewN' ?_ _ | with_reducible refine Below.alloc ?_ ?_ _ | with_reducible refine Below.setCell ?_ ?_ _ | with_reducible refine below_step (by assumption) ?_ ?_ | omega | (simp; done) | (simp; omega)))⟩
        case measure => simp [intOf]; omega
      · skip
        have Hs := Lib.hid (filt_yes Hx.out (P := (comingI now limit)) (show (comingI now limit) x = true from hv))
        have hL := filt_len (comingI now limit) xs k
        have hc3 : ((xs.take k).filter (comingI now limit)).length + 1 ≤ maxLen := by unfold maxLen; omega
        have hc4 : (((xs.take k).filter (comingI now limit)).length + 1) * 56 ≤ 140737488355328 := by omega
        have Hrow := Lib.hid (show ((xs.take k).filter (comingI now limit)).flatMap irow ++ irow x = ((xs.take (k + 1)).filter (comingI now limit)).flatMap irow by rw [Hs.out]; simp)
        have Hlen := Lib.hid (show ((xs.take k).filter (comingI now limit)).length + 1 = ((xs.take (k + 1)).filter (comingI now limit)).length by rw [Hs.out]; simp)
        clear hL
        rw [hv] at HC
        clear hv
        go_wp2_with (first
          | (go_at_call 30; (with_reducible refine HC.out.mono ?_); rintro e w5 ⟨rfl, hb5⟩; obtain ⟨hc5, hf5⟩ := bcell hb5; have hz5 := hb5.size; (try simp at hz5); have z5_0 : b < w5.heap.size := (by omega); have y5_0 : b ≤ w5.heap.size := (by omega); have HOx := Lib.hid (own_kept Hown.out hb5); have HBx := Lib.hid (show Below W.heap.size W w5 by (repeat' (first | with_reducible exact Below.refl _ _ | with_reducible assumption | with_reducible refine Below.drew ?_ | with_reducible refine below_drewN' ?_ _ | with_reducible refine Below.alloc ?_ ?_ _ | with_reducible refine Below.setCell ?_ ?_ _ | with_reducible refine below_step (by assumption) ?_ ?_ | omega | (simp; done) | (simp; omega)))); have hbx := HBx.out.size)
          | (at_builtin; refine wpList_append_own _ rfl (.tmp 18) (.tmp 23) 23 rfl W.heap.size 29 i0 _ 5 56 Tryd.underlying23 Hi.out Hz0.out Hz1.out Hz2.out rfl (by decide) _ ((xs.take k).filter (comingI now limit)).length (((xs.take k).filter (comingI now limit)).flatMap irow) rfl (HOx.out.alloc _) ⟨w5.heap.size, 0, none⟩ 1 1 (irow x) rfl rfl (news_at _ _ _) (irow_one _) hc3 hc4 (le_alloc hbx _) ?_; intro v1 w1 hown1 hgrow1 _; rw [Hrow.out, Hlen.out] at hown1; have hB1 := own_below (HOx.out.alloc _) (HBx.out.alloc hbx _) (le_alloc hbx _) hgrow1; have HO1 := Lib.hid hown1; clear hown1 hgrow1))
        go_roundw
        case rel => exact ⟨k + 1, by omega, by go_num, HO1.out, hB1⟩
        case measure => simp [intOf]; omega
    · skip
      obtain rfl : k = n := by omega
      have HP := Lib.hid (show ∀ v, wr.ownsRow W.heap.size 29 5 v ((xs.take k).filter (comingI now limit)).length (((xs.take k).filter (comingI now limit)).flatMap irow) → Gives w (OwnL irow 5 w.heap.size 29 (xs.filter (comingI now limit))) (.returned v) wr from fun v h => ⟨⟨v, rfl, OwnL.mono (OwnL.eq (filt_all _ Hln.out).symm h) hWz⟩, HW.out.trans (HB.out.mono hWz)⟩)
      go_wp2
      refine bodyPost_ret (by simp [results, Tryd.results25, go_sem]) rfl (HP.out _ Hown.out)

set_option maxRecDepth 100000 in
theorem late_any (c : Option Addr) (kc : Nat) (xs : List Ins) (now limit : Int) (h0 : 0 ≤ now) (h1 : now ≤ 1099511627776) (h2 : 0 ≤ limit) (h3 : limit ≤ 1099511627776) (w : World) (hF : InsL w c xs) (hm : xs.length ≤ 1000000) :
    Calls Tryd.prog 12 #[.slice c xs.length kc, .int .i64 now, .int .i64 limit] w (Gives w (OwnL irow 5 w.heap.size 29 (xs.filter (lateI now limit)))) := by
  obtain ⟨n, hn⟩ : ∃ n, xs.length = n := ⟨_, rfl⟩
  have S := fun b0 c0 V => sellate_any c kc xs b0 c0 now limit h0 h1 h2 h3 V
  rw [hn] at S ⊢
  have HS := Lib.hid S
  have HF := Lib.hid hF
  rw [hn] at hm
  clear S hF hn
  go_enter Tryd.func12, Tryd.ntmps12
  go_wp2_with (go_at_call 25; (with_reducible refine (HS.out w.heap.size (w.heap.size + 1) _ (HF.out.mono (by (repeat' (first | with_reducible exact Below.refl _ _ | with_reducible assumption | with_reducible refine Below.drew ?_ | with_reducible refine below_drewN' ?_ _ | with_reducible refine Below.alloc ?_ ?_ _ | with_reducible refine Below.setCell ?_ ?_ _ | with_reducible refine below_step (by assumption) ?_ ?_ | omega | (simp; done) | (simp; omega))))) hm (by simp <;> omega) (by simp <;> omega) (by simp [go_sem]) (by simp [go_sem])).mono ?_); rintro e w1 ⟨⟨v, rfl, hv⟩, hb⟩; have hz := hb.size; simp at hz)
  refine bodyPost_ret (by simp [results, Tryd.results12, go_sem]) rfl ⟨⟨v, rfl, OwnL.mono hv (by simp; omega)⟩, by (repeat' (first | with_reducible exact Below.refl _ _ | with_reducible assumption | with_reducible refine Below.drew ?_ | with_reducible refine below_drewN' ?_ _ | with_reducible refine Below.alloc ?_ ?_ _ | with_reducible refine Below.setCell ?_ ?_ _ | with_reducible refine below_step (by assumption) ?_ ?_ | omega | (simp; done) | (simp; omega)))⟩

set_option maxRecDepth 100000 in
theorem coming_any (c : Option Addr) (kc : Nat) (xs : List Ins) (now limit : Int) (h0 : 0 ≤ now) (h1 : now ≤ 1099511627776) (h2 : 0 ≤ limit) (h3 : limit ≤ 1099511627776) (w : World) (hF : InsL w c xs) (hm : xs.length ≤ 1000000) :
    Calls Tryd.prog 14 #[.slice c xs.length kc, .int .i64 now, .int .i64 limit] w (Gives w (OwnL irow 5 w.heap.size 29 (xs.filter (comingI now limit)))) := by
  obtain ⟨n, hn⟩ : ∃ n, xs.length = n := ⟨_, rfl⟩
  have S := fun b0 c0 V => selcoming_any c kc xs b0 c0 now limit h0 h1 h2 h3 V
  rw [hn] at S ⊢
  have HS := Lib.hid S
  have HF := Lib.hid hF
  rw [hn] at hm
  clear S hF hn
  go_enter Tryd.func14, Tryd.ntmps14
  go_wp2_with (go_at_call 25; (with_reducible refine (HS.out w.heap.size (w.heap.size + 1) _ (HF.out.mono (by (repeat' (first | with_reducible exact Below.refl _ _ | with_reducible assumption | with_reducible refine Below.drew ?_ | with_reducible refine below_drewN' ?_ _ | with_reducible refine Below.alloc ?_ ?_ _ | with_reducible refine Below.setCell ?_ ?_ _ | with_reducible refine below_step (by assumption) ?_ ?_ | omega | (simp; done) | (simp; omega))))) hm (by simp <;> omega) (by simp <;> omega) (by simp [go_sem]) (by simp [go_sem])).mono ?_); rintro e w1 ⟨⟨v, rfl, hv⟩, hb⟩; have hz := hb.size; simp at hz)
  refine bodyPost_ret (by simp [results, Tryd.results14, go_sem]) rfl ⟨⟨v, rfl, OwnL.mono hv (by simp; omega)⟩, by (repeat' (first | with_reducible exact Below.refl _ _ | with_reducible assumption | with_reducible refine Below.drew ?_ | with_reducible refine below_drewN' ?_ _ | with_reducible refine Below.alloc ?_ ?_ _ | with_reducible refine Below.setCell ?_ ?_ _ | with_reducible refine below_step (by assumption) ?_ ?_ | omega | (simp; done) | (simp; omega)))⟩

set_option maxRecDepth 100000 in
set_option maxHeartbeats 4000000 in
theorem reflatel_any (c : Option Addr) (kc : Nat) (xs : List Ins) (now limit : Int) (h0 : 0 ≤ now) (h1 : now ≤ 1099511627776) (h2 : 0 ≤ limit) (h3 : limit ≤ 1099511627776) (w : World) (hF : InsL w c xs) (hm : xs.length ≤ 1000000) :
    Calls Tryd.prog 13 #[.slice c xs.length kc, .int .i64 now, .int .i64 limit] w (Gives w (OwnL irow 5 w.heap.size 29 (xs.filter (lateI now limit)))) := by
  have HF := Lib.hid hF
  clear hF
  obtain ⟨i0, hi, hz0, hz1, hz2⟩ := info_parts Tryd.info29
  have Hi := Lib.hid hi
  have Hz0 := Lib.hid hz0
  have Hz1 := Lib.hid hz1
  have Hz2 := Lib.hid hz2
  clear hi hz0 hz1 hz2
  obtain ⟨n, hln⟩ : ∃ n, xs.length = n := ⟨_, rfl⟩
  rw [hln] at hm ⊢
  have Hln := Lib.hid hln
  clear hln
  go_enter Tryd.func13, Tryd.ntmps13
  go_wp2
  obtain ⟨W, hW⟩ : ∃ W, W = w := ⟨_, rfl⟩
  have HW := Lib.hid (show Below w.heap.size w W by rw [hW]; (repeat' (first | with_reducible exact Below.refl _ _ | with_reducible assumption | with_reducible refine Below.drew ?_ | with_reducible refine below_drewN' ?_ _ | with_reducible refine Below.alloc ?_ ?_ _ | with_reducible refine Below.setCell ?_ ?_ _ | with_reducible refine below_step (by assumption) ?_ ?_ | omega | (simp; done) | (simp; omega))))
  have hWz : w.heap.size ≤ W.heap.size := HW.out.size
  have HFW := Lib.hid (HF.out.mono HW.out)
  (try rw [← hW])
  clear hW
  go_loopw [7, 8] (fun v i wr => ∃ k : Nat, k ≤ n ∧ i = .int .i64 k ∧ wr.ownsRow W.heap.size 29 5 v ((xs.take k).filter (lateI now limit)).length (((xs.take k).filter (lateI now limit)).flatMap irow) ∧ Below W.heap.size W wr) (fun _ i _ => n - (intOf i).toNat)
  case atStart => exact ⟨0, by omega, rfl, World.ownsRow_nil _ _ _ _, by (repeat' (first | with_reducible exact Below.refl _ _ | with_reducible assumption | with_reducible refine Below.drew ?_ | with_reducible refine below_drewN' ?_ _ | with_reducible refine Below.alloc ?_ ?_ _ | with_reducible refine Below.setCell ?_ ?_ _ | with_reducible refine below_step (by assumption) ?_ ?_ | omega | (simp; done) | (simp; omega)))⟩
  case round =>
    obtain ⟨k, hk, rfl, hown, hB⟩ := hrel
    obtain ⟨hcB, hfB⟩ := bcell hB
    have hbz := hB.size
    have Hown := Lib.hid hown
    have HB := Lib.hid hB
    clear hown
    by_cases hlt : k < n
    · skip
      obtain ⟨x, hx⟩ := mem_at (l := xs) (k := k) (by rw [Hln.out]; exact hlt)
      have Hx := Lib.hid hx
      obtain ⟨b, off, rfl, hb, hc⟩ := HFW.out (by rw [Hln.out]; omega)
      have hbw : b < wr.heap.size := by omega
      obtain ⟨d0, d1, d2, d3, d4⟩ := irow_cells (hc k x hx)
      clear hc hx
      (have HC := Lib.hid (fun V => reflate_any x now limit h0 h1 h2 h3 V))
      cases hv : lateI now limit x
      · skip
        have Hs := Lib.hid (filt_no Hx.out (P := (lateI now limit)) (show (lateI now limit) x = false from hv))
        rw [hv] at HC
        clear hv
        go_wp2_with (go_at_call 29; (with_reducible refine (HC.out _).mono ?_); rintro e w5 ⟨rfl, hb5⟩; have hz5 := hb5.size; (try simp at hz5))
        go_roundw
        case rel => exact ⟨k + 1, by omega, by go_num, by rw [Hs.out]; exact own_kept Hown.out hb5, by (repeat' (first | with_reducible exact Below.refl _ _ | with_reducible assumption | with_reducible refine Below.drew ?_ | with_reducible refine below_drewN' ?_ _ | with_reducible refine Below.alloc ?_ ?_ _ | with_reducible refine Below.setCell ?_ ?_ _ | with_reducible refine below_step (by assumption) ?_ ?_ | omega | (simp; done) | (simp; omega)))⟩
        case measure => (simp [intOf]; omega)
      · skip
        have Hs := Lib.hid (filt_yes Hx.out (P := (lateI now limit)) (show (lateI now limit) x = true from hv))
        have hL := filt_len (lateI now limit) xs k
        have hc3 : ((xs.take k).filter (lateI now limit)).length + 1 ≤ maxLen := by unfold maxLen; omega
        have hc4 : (((xs.take k).filter (lateI now limit)).length + 1) * 56 ≤ 140737488355328 := by omega
        have Hrow := Lib.hid (show ((xs.take k).filter (lateI now limit)).flatMap irow ++ irow x = ((xs.take (k + 1)).filter (lateI now limit)).flatMap irow by rw [Hs.out]; simp)
        have Hlen := Lib.hid (show ((xs.take k).filter (lateI now limit)).length + 1 = ((xs.take (k + 1)).filter (lateI now limit)).length by rw [Hs.out]; simp)
        clear hL
        rw [hv] at HC
        clear hv
        go_wp2_with (first
          | (go_at_call 29; (with_reducible refine (HC.out _).mono ?_); rintro e w5 ⟨rfl, hb5⟩; obtain ⟨hc5, hf5⟩ := bcell hb5; have hz5 := hb5.size; (try simp at hz5); have z5_0 : b < w5.heap.size := (by omega); have y5_0 : b ≤ w5.heap.size := (by omega); have HOx := Lib.hid (own_kept Hown.out hb5); have HBx := Lib.hid (show Below W.heap.size W w5 by (repeat' (first | with_reducible exact Below.refl _ _ | with_reducible assumption | with_reducible refine Below.drew ?_ | with_reducible refine below_drewN' ?_ _ | with_reducible refine Below.alloc ?_ ?_ _ | with_reducible refine Below.setCell ?_ ?_ _ | with_reducible refine below_step (by assumption) ?_ ?_ | omega | (simp; done) | (simp; omega)))); have hbx := HBx.out.size)
          | (at_builtin; refine wpList_append_own _ rfl (.tmp 22) (.tmp 27) 23 rfl W.heap.size 29 i0 _ 5 56 Tryd.underlying23 Hi.out Hz0.out Hz1.out Hz2.out rfl (by decide) _ ((xs.take k).filter (lateI now limit)).length (((xs.take k).filter (lateI now limit)).flatMap irow) rfl (HOx.out.alloc _) ⟨w5.heap.size, 0, none⟩ 1 1 (irow x) rfl rfl (news_at _ _ _) (irow_one _) hc3 hc4 (le_alloc hbx _) ?_; intro v1 w1 hown1 hgrow1 _; rw [Hrow.out, Hlen.out] at hown1; have hB1 := own_below (HOx.out.alloc _) (HBx.out.alloc hbx _) (le_alloc hbx _) hgrow1; have HO1 := Lib.hid hown1; clear hown1 hgrow1))
        go_roundw
        case rel => exact ⟨k + 1, by omega, by go_num, HO1.out, hB1⟩
        case measure => simp [intOf]; omega
    · skip
      obtain rfl : k = n := by omega
      have HP := Lib.hid (show ∀ v, wr.ownsRow W.heap.size 29 5 v ((xs.take k).filter (lateI now limit)).length (((xs.take k).filter (lateI now limit)).flatMap irow) → Gives w (OwnL irow 5 w.heap.size 29 (xs.filter (lateI now limit))) (.returned v) wr from fun v h => ⟨⟨v, rfl, OwnL.mono (OwnL.eq (filt_all _ Hln.out).symm h) hWz⟩, HW.out.trans (HB.out.mono hWz)⟩)
      go_wp2
      refine bodyPost_ret (by simp [results, Tryd.results13, go_sem]) rfl (HP.out _ Hown.out)

theorem comingI_no {now limit : Int} {x : Ins} (h1 : (x.st == 1) = false) (h2 : (x.st == 2) = false) : comingI now limit x = false := by
  have hv : comingI now limit x = (((x.st == 1) || (x.st == 2)) && !odB now limit x) := rfl
  rw [hv, h1, h2]; rfl
theorem comingI_yes {now limit : Int} {x : Ins} (h4 : (x.st == 4) = false) (h : (x.st == 1) = true ∨ (x.st == 2) = true) : lateI now limit x = !comingI now limit x := by
  have hv : comingI now limit x = (((x.st == 1) || (x.st == 2)) && !odB now limit x) := rfl
  have hw : lateI now limit x = ((x.st == 4) || (((x.st == 1) || (x.st == 2)) && odB now limit x)) := rfl
  rw [hv, hw, h4]
  rcases h with h | h <;> rw [h] <;> simp
set_option maxRecDepth 100000 in
set_option maxHeartbeats 4000000 in
theorem refcoming_any (c : Option Addr) (kc : Nat) (xs : List Ins) (now limit : Int) (h0 : 0 ≤ now) (h1 : now ≤ 1099511627776) (h2 : 0 ≤ limit) (h3 : limit ≤ 1099511627776) (w : World) (hF : InsL w c xs) (hm : xs.length ≤ 1000000) :
    Calls Tryd.prog 15 #[.slice c xs.length kc, .int .i64 now, .int .i64 limit] w (Gives w (OwnL irow 5 w.heap.size 29 (xs.filter (comingI now limit)))) := by
  have HF := Lib.hid hF
  clear hF
  obtain ⟨i0, hi, hz0, hz1, hz2⟩ := info_parts Tryd.info29
  have Hi := Lib.hid hi
  have Hz0 := Lib.hid hz0
  have Hz1 := Lib.hid hz1
  have Hz2 := Lib.hid hz2
  clear hi hz0 hz1 hz2
  obtain ⟨n, hln⟩ : ∃ n, xs.length = n := ⟨_, rfl⟩
  rw [hln] at hm ⊢
  have Hln := Lib.hid hln
  clear hln
  go_enter Tryd.func15, Tryd.ntmps15
  go_wp2
  obtain ⟨W, hW⟩ : ∃ W, W = w := ⟨_, rfl⟩
  have HW := Lib.hid (show Below w.heap.size w W by rw [hW]; (repeat' (first | with_reducible exact Below.refl _ _ | with_reducible assumption | with_reducible refine Below.drew ?_ | with_reducible refine below_drewN' ?_ _ | with_reducible refine Below.alloc ?_ ?_ _ | with_reducible refine Below.setCell ?_ ?_ _ | with_reducible refine below_step (by assumption) ?_ ?_ | omega | (simp; done) | (simp; omega))))
  have hWz : w.heap.size ≤ W.heap.size := HW.out.size
  have HFW := Lib.hid (HF.out.mono HW.out)
  (try rw [← hW])
  clear hW
  go_loopw [7, 8] (fun v i wr => ∃ k : Nat, k ≤ n ∧ i = .int .i64 k ∧ wr.ownsRow W.heap.size 29 5 v ((xs.take k).filter (comingI now limit)).length (((xs.take k).filter (comingI now limit)).flatMap irow) ∧ Below W.heap.size W wr) (fun _ i _ => n - (intOf i).toNat)
  case atStart => exact ⟨0, by omega, rfl, World.ownsRow_nil _ _ _ _, by (repeat' (first | with_reducible exact Below.refl _ _ | with_reducible assumption | with_reducible refine Below.drew ?_ | with_reducible refine below_drewN' ?_ _ | with_reducible refine Below.alloc ?_ ?_ _ | with_reducible refine Below.setCell ?_ ?_ _ | with_reducible refine below_step (by assumption) ?_ ?_ | omega | (simp; done) | (simp; omega)))⟩
  case round =>
    obtain ⟨k, hk, rfl, hown, hB⟩ := hrel
    obtain ⟨hcB, hfB⟩ := bcell hB
    have hbz := hB.size
    have Hown := Lib.hid hown
    have HB := Lib.hid hB
    clear hown
    by_cases hlt : k < n
    · skip
      obtain ⟨x, hx⟩ := mem_at (l := xs) (k := k) (by rw [Hln.out]; exact hlt)
      have Hx := Lib.hid hx
      obtain ⟨b, off, rfl, hb, hc⟩ := HFW.out (by rw [Hln.out]; omega)
      have hbw : b < wr.heap.size := by omega
      obtain ⟨d0, d1, d2, d3, d4⟩ := irow_cells (hc k x hx)
      clear hc hx
      (have HC := Lib.hid (fun V => reflate_any x now limit h0 h1 h2 h3 V))
      cases hv : comingI now limit x
      · skip
        have Hs := Lib.hid (filt_no Hx.out (P := (comingI now limit)) (show (comingI now limit) x = false from hv))
        rcases st_cases x.st with ⟨s4, s1, s2⟩ | ⟨s4, s1, s2⟩ | ⟨s4, s1, s2⟩ | ⟨s4, s1, s2⟩
        · skip
          clear HC
          go_wp2
          go_roundw
          case rel => exact ⟨k + 1, by omega, by go_num, by rw [Hs.out]; exact Hown.out, by (repeat' (first | with_reducible exact Below.refl _ _ | with_reducible assumption | with_reducible refine Below.drew ?_ | with_reducible refine below_drewN' ?_ _ | with_reducible refine Below.alloc ?_ ?_ _ | with_reducible refine Below.setCell ?_ ?_ _ | with_reducible refine below_step (by assumption) ?_ ?_ | omega | (simp; done) | (simp; omega)))⟩
          case measure => (simp [intOf]; omega)
        · skip
          rw [comingI_yes s4 (.inl s1), hv] at HC
          clear hv
          go_wp2_with (go_at_call 29; (with_reducible refine (HC.out _).mono ?_); rintro e w5 ⟨rfl, hb5⟩; have hz5 := hb5.size; (try simp at hz5))
          go_roundw
          case rel => exact ⟨k + 1, by omega, by go_num, by rw [Hs.out]; exact own_kept Hown.out hb5, by (repeat' (first | with_reducible exact Below.refl _ _ | with_reducible assumption | with_reducible refine Below.drew ?_ | with_reducible refine below_drewN' ?_ _ | with_reducible refine Below.alloc ?_ ?_ _ | with_reducible refine Below.setCell ?_ ?_ _ | with_reducible refine below_step (by assumption) ?_ ?_ | omega | (simp; done) | (simp; omega)))⟩
          case measure => (simp [intOf]; omega)
        · skip
          rw [comingI_yes s4 (.inr s2), hv] at HC
          clear hv
          go_wp2_with (go_at_call 29; (with_reducible refine (HC.out _).mono ?_); rintro e w5 ⟨rfl, hb5⟩; have hz5 := hb5.size; (try simp at hz5))
          go_roundw
          case rel => exact ⟨k + 1, by omega, by go_num, by rw [Hs.out]; exact own_kept Hown.out hb5, by (repeat' (first | with_reducible exact Below.refl _ _ | with_reducible assumption | with_reducible refine Below.drew ?_ | with_reducible refine below_drewN' ?_ _ | with_reducible refine Below.alloc ?_ ?_ _ | with_reducible refine Below.setCell ?_ ?_ _ | with_reducible refine below_step (by assumption) ?_ ?_ | omega | (simp; done) | (simp; omega)))⟩
          case measure => (simp [intOf]; omega)
        · skip
          clear HC
          go_wp2
          go_roundw
          case rel => exact ⟨k + 1, by omega, by go_num, by rw [Hs.out]; exact Hown.out, by (repeat' (first | with_reducible exact Below.refl _ _ | with_reducible assumption | with_reducible refine Below.drew ?_ | with_reducible refine below_drewN' ?_ _ | with_reducible refine Below.alloc ?_ ?_ _ | with_reducible refine Below.setCell ?_ ?_ _ | with_reducible refine below_step (by assumption) ?_ ?_ | omega | (simp; done) | (simp; omega)))⟩
          case measure => (simp [intOf]; omega)
      · skip
        have Hs := Lib.hid (filt_yes Hx.out (P := (comingI now limit)) (show (comingI now limit) x = true from hv))
        have hL := filt_len (comingI now limit) xs k
        have hc3 : ((xs.take k).filter (comingI now limit)).length + 1 ≤ maxLen := by unfold maxLen; omega
        have hc4 : (((xs.take k).filter (comingI now limit)).length + 1) * 56 ≤ 140737488355328 := by omega
        have Hrow := Lib.hid (show ((xs.take k).filter (comingI now limit)).flatMap irow ++ irow x = ((xs.take (k + 1)).filter (comingI now limit)).flatMap irow by rw [Hs.out]; simp)
        have Hlen := Lib.hid (show ((xs.take k).filter (comingI now limit)).length + 1 = ((xs.take (k + 1)).filter (comingI now limit)).length by rw [Hs.out]; simp)
        clear hL
        rcases st_cases x.st with ⟨s4, s1, s2⟩ | ⟨s4, s1, s2⟩ | ⟨s4, s1, s2⟩ | ⟨s4, s1, s2⟩
        · exact absurd hv (by rw [comingI_no s1 s2]; decide)
        rotate_right
        · exact absurd hv (by rw [comingI_no s1 s2]; decide)
        all_goals
          first | rw [comingI_yes s4 (.inl s1), hv] at HC | rw [comingI_yes s4 (.inr s2), hv] at HC
          clear hv
          go_wp2_with (first
            | (go_at_call 29; (with_reducible refine (HC.out _).mono ?_); rintro e w5 ⟨rfl, hb5⟩; obtain ⟨hc5, hf5⟩ := bcell hb5; have hz5 := hb5.size; (try simp at hz5); have z5_0 : b < w5.heap.size := (by omega); have y5_0 : b ≤ w5.heap.size := (by omega); have HOx := Lib.hid (own_kept Hown.out hb5); have HBx := Lib.hid (show Below W.heap.size W w5 by (repeat' (first | with_reducible exact Below.refl _ _ | with_reducible assumption | with_reducible refine Below.drew ?_ | with_reducible refine below_drewN' ?_ _ | with_reducible refine Below.alloc ?_ ?_ _ | with_reducible refine Below.setCell ?_ ?_ _ | with_reducible refine below_step (by assumption) ?_ ?_ | omega | (simp; done) | (simp; omega)))); have hbx := HBx.out.size)
            | (at_builtin; refine wpList_append_own _ rfl (.tmp 39) (.tmp 44) 23 rfl W.heap.size 29 i0 _ 5 56 Tryd.underlying23 Hi.out Hz0.out Hz1.out Hz2.out rfl (by decide) _ ((xs.take k).filter (comingI now limit)).length (((xs.take k).filter (comingI now limit)).flatMap irow) rfl (HOx.out.alloc _) ⟨w5.heap.size, 0, none⟩ 1 1 (irow x) rfl rfl (news_at _ _ _) (irow_one _) hc3 hc4 (le_alloc hbx _) ?_; intro v1 w1 hown1 hgrow1 _; rw [Hrow.out, Hlen.out] at hown1; have hB1 := own_below (HOx.out.alloc _) (HBx.out.alloc hbx _) (le_alloc hbx _) hgrow1; have HO1 := Lib.hid hown1; clear hown1 hgrow1))
          go_roundw
          case rel => exact ⟨k + 1, by omega, by go_num, HO1.out, hB1⟩
          case measure => simp [intOf]; omega
    · skip
      obtain rfl : k = n := by omega
      have HP := Lib.hid (show ∀ v, wr.ownsRow W.heap.size 29 5 v ((xs.take k).filter (comingI now limit)).length (((xs.take k).filter (comingI now limit)).flatMap irow) → Gives w (OwnL irow 5 w.heap.size 29 (xs.filter (comingI now limit))) (.returned v) wr from fun v h => ⟨⟨v, rfl, OwnL.mono (OwnL.eq (filt_all _ Hln.out).symm h) hWz⟩, HW.out.trans (HB.out.mono hWz)⟩)
      go_wp2
      refine bodyPost_ret (by simp [results, Tryd.results15, go_sem]) rfl (HP.out _ Hown.out)
end Go.Proofs.YtbomcghjifgfoaaDoor
