/-
  The contracts of group.Names and group.Of, triremeref16.Of.
-/
import Derived.Test.YtgdankihfnnpaaaDoorGNames
namespace Go.Proofs.YtgdankihfnnpaaaDoor
open Go.RowKit
set_option linter.unusedVariables false

set_option maxRecDepth 100000 in
theorem names1_any (g : Gp) (w : World) :
    Calls Tryd.prog 30 #[.agg #[.string (g).nm, .int .i64 (g).mn, .int .i64 (g).mx, .string (g).like.nm, .string (g).like.gp, .int .i64 (g).like.r0, .int .i64 (g).like.r1, .int .i64 (g).like.r2, .int .i64 (g).like.r3, .int .i64 (g).like.r4, .slice (g).like.la (g).like.labs.length (g).like.lk, .slice (g).like.ta (g).like.tnts.length (g).like.tk, .bool (g).like.rd, .int .i64 (g).pr, .int .i64 (g).rk]] w fun e w' => e = .returned (.string g.nm) ∧ Below w.heap.size w w' := by
  obtain ⟨nm, mn, mx, m, pr, rk⟩ := g
  go_enter Tryd.func30, Tryd.ntmps30
  go_wp2
  go_ret
  exact ⟨rfl, by (repeat' (first | with_reducible exact Below.refl _ _ | with_reducible assumption | with_reducible refine Below.drew ?_ | with_reducible refine below_drewN' ?_ _ | with_reducible refine Below.alloc ?_ ?_ _ | with_reducible refine Below.setCell ?_ ?_ _ | with_reducible refine below_step (by assumption) ?_ ?_ | omega | (simp; done) | (simp; omega)))⟩
set_option maxRecDepth 100000 in
theorem names2_any (g : Gp) (w : World) :
    Calls Tryd.prog 31 #[.agg #[.string (g).nm, .int .i64 (g).mn, .int .i64 (g).mx, .string (g).like.nm, .string (g).like.gp, .int .i64 (g).like.r0, .int .i64 (g).like.r1, .int .i64 (g).like.r2, .int .i64 (g).like.r3, .int .i64 (g).like.r4, .slice (g).like.la (g).like.labs.length (g).like.lk, .slice (g).like.ta (g).like.tnts.length (g).like.tk, .bool (g).like.rd, .int .i64 (g).pr, .int .i64 (g).rk]] w fun e w' => e = .returned (.bool true) ∧ Below w.heap.size w w' := by
  obtain ⟨nm, mn, mx, m, pr, rk⟩ := g
  go_enter Tryd.func31, Tryd.ntmps31
  go_wp2
  go_ret
  exact ⟨rfl, by (repeat' (first | with_reducible exact Below.refl _ _ | with_reducible assumption | with_reducible refine Below.drew ?_ | with_reducible refine below_drewN' ?_ _ | with_reducible refine Below.alloc ?_ ?_ _ | with_reducible refine Below.setCell ?_ ?_ _ | with_reducible refine below_step (by assumption) ?_ ?_ | omega | (simp; done) | (simp; omega)))⟩
set_option maxRecDepth 100000 in
theorem of1_any (m : Mac) (w : World) :
    Calls Tryd.prog 33 #[.agg #[.string (m).nm, .string (m).gp, .int .i64 (m).r0, .int .i64 (m).r1, .int .i64 (m).r2, .int .i64 (m).r3, .int .i64 (m).r4, .slice (m).la (m).labs.length (m).lk, .slice (m).ta (m).tnts.length (m).tk, .bool (m).rd]] w fun e w' => e = .returned (.string m.nm) ∧ Below w.heap.size w w' := by
  obtain ⟨nm, gp, r0, r1, r2, r3, r4, la, lk, L, ta, tk, T, rd⟩ := m
  go_enter Tryd.func33, Tryd.ntmps33
  go_wp2
  go_ret
  exact ⟨rfl, by (repeat' (first | with_reducible exact Below.refl _ _ | with_reducible assumption | with_reducible refine Below.drew ?_ | with_reducible refine below_drewN' ?_ _ | with_reducible refine Below.alloc ?_ ?_ _ | with_reducible refine Below.setCell ?_ ?_ _ | with_reducible refine below_step (by assumption) ?_ ?_ | omega | (simp; done) | (simp; omega)))⟩
set_option maxRecDepth 100000 in
theorem of2_any (m : Mac) (b : Nat) (key : ByteArray) (w : World) (hb : b < w.heap.size) (hc : w.cell? ⟨b, 0, none⟩ = some (.string key)) :
    Calls Tryd.prog 34 #[.agg #[.string (m).nm, .string (m).gp, .int .i64 (m).r0, .int .i64 (m).r1, .int .i64 (m).r2, .int .i64 (m).r3, .int .i64 (m).r4, .slice (m).la (m).labs.length (m).lk, .slice (m).ta (m).tnts.length (m).tk, .bool (m).rd], .pointer (some ⟨b, 0, none⟩)] w fun e w' => e = .returned (.bool (strB m.gp key)) ∧ Below w.heap.size w w' := by
  obtain ⟨nm, gp, r0, r1, r2, r3, r4, la, lk, L, ta, tk, T, rd⟩ := m
  have hs := strB_list gp key
  go_enter Tryd.func34, Tryd.ntmps34
  go_wp2
  go_ret
  exact ⟨rfl, by (repeat' (first | with_reducible exact Below.refl _ _ | with_reducible assumption | with_reducible refine Below.drew ?_ | with_reducible refine below_drewN' ?_ _ | with_reducible refine Below.alloc ?_ ?_ _ | with_reducible refine Below.setCell ?_ ?_ _ | with_reducible refine below_step (by assumption) ?_ ?_ | omega | (simp; done) | (simp; omega)))⟩

set_option maxRecDepth 100000 in
set_option maxHeartbeats 4000000 in
theorem collectg_any (c : Option Addr) (kc : Nat) (xs : List Gp) (w : World) (hF : GpL w c xs) (hm : xs.length ≤ 1000000) :
    Calls Tryd.prog 29 #[.slice c xs.length kc, .func (.func 30) #[] #[], .func (.func 31) #[] #[]] w (Gives w (OwnL gnE 1 w.heap.size 9 (xs.filter allG))) := by
  have HF := Lib.hid hF
  clear hF
  obtain ⟨i0, hi, hz0, hz1, hz2⟩ := info_parts Tryd.info9
  have Hi := Lib.hid hi
  have Hz0 := Lib.hid hz0
  have Hz1 := Lib.hid hz1
  have Hz2 := Lib.hid hz2
  clear hi hz0 hz1 hz2
  obtain ⟨n, hln⟩ : ∃ n, xs.length = n := ⟨_, rfl⟩
  rw [hln] at hm ⊢
  have Hln := Lib.hid hln
  clear hln
  go_enter Tryd.func29, Tryd.ntmps29
  go_wp2
  obtain ⟨W, hW⟩ : ∃ W, W = w := ⟨_, rfl⟩
  have HW := Lib.hid (show Below w.heap.size w W by rw [hW]; (repeat' (first | with_reducible exact Below.refl _ _ | with_reducible assumption | with_reducible refine Below.drew ?_ | with_reducible refine below_drewN' ?_ _ | with_reducible refine Below.alloc ?_ ?_ _ | with_reducible refine Below.setCell ?_ ?_ _ | with_reducible refine below_step (by assumption) ?_ ?_ | omega | (simp; done) | (simp; omega))))
  have hWz : w.heap.size ≤ W.heap.size := HW.out.size
  have HFW := Lib.hid (HF.out.mono HW.out)
  (try rw [← hW])
  clear hW
  go_loopw [7, 9, 12] (fun v _ i wr => ∃ k : Nat, k ≤ n ∧ i = .int .i64 k ∧ wr.ownsRow W.heap.size 9 1 v ((xs.take k).filter allG).length (((xs.take k).filter allG).flatMap gnE) ∧ Below W.heap.size W wr) (fun _ _ i _ => n - (intOf i).toNat)
  case atStart => exact ⟨0, by omega, rfl, World.ownsRow_nil _ _ _ _, by (repeat' (first | with_reducible exact Below.refl _ _ | with_reducible assumption | with_reducible refine Below.drew ?_ | with_reducible refine below_drewN' ?_ _ | with_reducible refine Below.alloc ?_ ?_ _ | with_reducible refine Below.setCell ?_ ?_ _ | with_reducible refine below_step (by assumption) ?_ ?_ | omega | (simp; done) | (simp; omega)))⟩
  case round =>
    obtain ⟨k, hk, rfl, hown, hB⟩ := hrel
    obtain ⟨hcB, hfB⟩ := bcell hB
    have hbz := hB.size
    have Hown := Lib.hid hown
    have HB := Lib.hid hB
    clear hown
    by_cases hlt : k < n
    · skip
      obtain ⟨x, hx⟩ := mem_at (l := xs) (k := k) (by rw [Hln.out]; exact hlt)
      have Hx := Lib.hid hx
      obtain ⟨b, off, rfl, hb, hc⟩ := HFW.out (by rw [Hln.out]; omega)
      have hbw : b < wr.heap.size := by omega
      obtain ⟨c0, c1, c2, c3, c4, c5, c6, c7, c8, c9, c10, c11, c12, c13, c14⟩ := grow_cells (hc k x hx)
      clear hc hx
      have hv : allG x = true := rfl
      have Hs := Lib.hid (filt_yes Hx.out (P := allG) (show allG x = true from hv))
      have hL := filt_len allG xs k
      have hc3 : ((xs.take k).filter allG).length + 1 ≤ maxLen := by unfold maxLen; omega
      have hc4 : (((xs.take k).filter allG).length + 1) * 16 ≤ 140737488355328 := by omega
      have Hrow := Lib.hid (show ((xs.take k).filter allG).flatMap gnE ++ gnE x = ((xs.take (k + 1)).filter allG).flatMap gnE by rw [Hs.out]; simp)
      have Hlen := Lib.hid (show ((xs.take k).filter allG).length + 1 = ((xs.take (k + 1)).filter allG).length by rw [Hs.out]; simp)
      clear hL
      clear hv
      go_wp2_with (first
        | (go_at_call 31; (with_reducible refine (names2_any x _).mono ?_); rintro e w5 ⟨rfl, hb5⟩; obtain ⟨hc5, hf5⟩ := bcell hb5; have hz5 := hb5.size; (try simp at hz5); have z5_0 : wr.heap.size < w5.heap.size := (by omega); have y5_0 : wr.heap.size ≤ w5.heap.size := (by omega))
        | (go_at_call 30; (with_reducible refine (names1_any x _).mono ?_); rintro e w6 ⟨rfl, hb6⟩; have hz6 := hb6.size; have HOx := Lib.hid (own_kept (own_kept (Hown.out.alloc _) hb5) hb6); have HBx := Lib.hid (show Below W.heap.size W w6 by (repeat' (first | with_reducible exact Below.refl _ _ | with_reducible assumption | with_reducible refine Below.drew ?_ | with_reducible refine below_drewN' ?_ _ | with_reducible refine Below.alloc ?_ ?_ _ | with_reducible refine Below.setCell ?_ ?_ _ | with_reducible refine below_step (by assumption) ?_ ?_ | omega | (simp; done) | (simp; omega)))); have hbx := HBx.out.size)
        | (at_builtin; refine wpList_append_own _ rfl (.tmp 19) (.tmp 23) 29 rfl W.heap.size 9 i0 _ 1 16 Tryd.underlying29 Hi.out Hz0.out Hz1.out Hz2.out rfl (by decide) _ ((xs.take k).filter allG).length (((xs.take k).filter allG).flatMap gnE) rfl (HOx.out.alloc _) ⟨w6.heap.size, 0, none⟩ 1 1 (gnE x) rfl rfl (news_at _ _ _) (gnE_one _) hc3 hc4 (le_alloc hbx _) ?_; intro v1 w1 hown1 hgrow1 _; rw [Hrow.out, Hlen.out] at hown1; have hB1 := own_below (HOx.out.alloc _) (HBx.out.alloc hbx _) (le_alloc hbx _) hgrow1; have HO1 := Lib.hid hown1; clear hown1 hgrow1))
      go_roundw
      case rel => exact ⟨k + 1, by omega, by go_num, HO1.out, hB1⟩
      case measure => simp [intOf]; omega
    · skip
      obtain rfl : k = n := by omega
      have HP := Lib.hid (show ∀ v, wr.ownsRow W.heap.size 9 1 v ((xs.take k).filter allG).length (((xs.take k).filter allG).flatMap gnE) → Gives w (OwnL gnE 1 w.heap.size 9 (xs.filter allG)) (.returned v) wr from fun v h => ⟨⟨v, rfl, OwnL.mono (OwnL.eq (filt_all _ Hln.out).symm h) hWz⟩, HW.out.trans (HB.out.mono hWz)⟩)
      go_wp2
      refine bodyPost_ret (by simp [results, Tryd.results29, go_sem]) rfl (HP.out _ Hown.out)
set_option maxRecDepth 100000 in
set_option maxHeartbeats 4000000 in
theorem names_any (c : Option Addr) (kc : Nat) (xs : List Gp) (w : World) (hF : GpL w c xs) (hm : xs.length ≤ 1000000) :
    Calls Tryd.prog 15 #[.slice c xs.length kc] w (Gives w (OwnL gnE 1 w.heap.size 9 (xs.filter allG))) := by
  go_enter Tryd.func15, Tryd.ntmps15
  go_wp2_with (go_at_call 29; (with_reducible refine (collectg_any c kc xs _ hF hm).mono ?_); rintro e w1 ⟨⟨v, rfl, hv⟩, hb⟩)
  refine bodyPost_ret (by simp [results, Tryd.results15, go_sem]) rfl ⟨⟨v, rfl, hv⟩, hb⟩

theorem mrow_cells {w : World} {b o : Nat} {m : Mac} (h : ∀ r, r < 10 → w.cell? ⟨b, o + r, none⟩ = (mrow m)[r]?) :
    w.cell? ⟨b, o, none⟩ = some (.string m.nm) ∧ w.cell? ⟨b, o + 1, none⟩ = some (.string m.gp) ∧
    w.cell? ⟨b, o + 2, none⟩ = some (.int .i64 m.r0) ∧ w.cell? ⟨b, o + 3, none⟩ = some (.int .i64 m.r1) ∧ w.cell? ⟨b, o + 4, none⟩ = some (.int .i64 m.r2) ∧ w.cell? ⟨b, o + 5, none⟩ = some (.int .i64 m.r3) ∧ w.cell? ⟨b, o + 6, none⟩ = some (.int .i64 m.r4) ∧
    w.cell? ⟨b, o + 7, none⟩ = some (.slice m.la m.labs.length m.lk) ∧ w.cell? ⟨b, o + 8, none⟩ = some (.slice m.ta m.tnts.length m.tk) ∧ w.cell? ⟨b, o + 9, none⟩ = some (.bool m.rd) :=
  ⟨h 0 (by decide), h 1 (by decide), h 2 (by decide), h 3 (by decide), h 4 (by decide), h 5 (by decide), h 6 (by decide), h 7 (by decide), h 8 (by decide), h 9 (by decide)⟩
def mnE (m : Mac) : List Value := scs m.nm
theorem mnE_one (m : Mac) : ∀ u ∈ mnE m, u.oneCell' = true := scs_one _
def ofG (key : ByteArray) (m : Mac) : Bool := strB m.gp key

set_option maxRecDepth 100000 in
set_option maxHeartbeats 4000000 in
theorem collectm_any (c : Option Addr) (kc : Nat) (xs : List Mac) (b0 : Nat) (key : ByteArray) (w : World) (hF : MacL w c xs) (hm : xs.length ≤ 1000000) (hb0 : b0 < w.heap.size) (hc0 : w.cell? ⟨b0, 0, none⟩ = some (.string key)) :
    Calls Tryd.prog 32 #[.slice c xs.length kc, .func (.func 33) #[] #[], .func (.func 34) #[] #[.pointer (some ⟨b0, 0, none⟩)]] w (Gives w (OwnL mnE 1 w.heap.size 9 (xs.filter (ofG key)))) := by
  have HF := Lib.hid hF
  clear hF
  obtain ⟨i0, hi, hz0, hz1, hz2⟩ := info_parts Tryd.info9
  have Hi := Lib.hid hi
  have Hz0 := Lib.hid hz0
  have Hz1 := Lib.hid hz1
  have Hz2 := Lib.hid hz2
  clear hi hz0 hz1 hz2
  obtain ⟨n, hln⟩ : ∃ n, xs.length = n := ⟨_, rfl⟩
  rw [hln] at hm ⊢
  have Hln := Lib.hid hln
  clear hln
  go_enter Tryd.func32, Tryd.ntmps32
  go_wp2
  obtain ⟨W, hW⟩ : ∃ W, W = w := ⟨_, rfl⟩
  have HW := Lib.hid (show Below w.heap.size w W by rw [hW]; (repeat' (first | with_reducible exact Below.refl _ _ | with_reducible assumption | with_reducible refine Below.drew ?_ | with_reducible refine below_drewN' ?_ _ | with_reducible refine Below.alloc ?_ ?_ _ | with_reducible refine Below.setCell ?_ ?_ _ | with_reducible refine below_step (by assumption) ?_ ?_ | omega | (simp; done) | (simp; omega))))
  have hWz : w.heap.size ≤ W.heap.size := HW.out.size
  have HFW := Lib.hid (HF.out.mono HW.out)
  (try rw [← hW])
  have hb0W : b0 < W.heap.size := by rw [hW]; first | exact hb0 | (simp; omega)
  have hc0W : W.cell? ⟨b0, 0, none⟩ = some (.string key) := by rw [HW.out.cell (p := ⟨b0, 0, none⟩) hb0]; exact hc0
  clear hW
  go_loopw [7, 9, 12] (fun v _ i wr => ∃ k : Nat, k ≤ n ∧ i = .int .i64 k ∧ wr.ownsRow W.heap.size 9 1 v ((xs.take k).filter (ofG key)).length (((xs.take k).filter (ofG key)).flatMap mnE) ∧ Below W.heap.size W wr) (fun _ _ i _ => n - (intOf i).toNat)
  case atStart => exact ⟨0, by omega, rfl, World.ownsRow_nil _ _ _ _, by (repeat' (first | with_reducible exact Below.refl _ _ | with_reducible assumption | with_reducible refine Below.drew ?_ | with_reducible refine below_drewN' ?_ _ | with_reducible refine Below.alloc ?_ ?_ _ | with_reducible refine Below.setCell ?_ ?_ _ | with_reducible refine below_step (by assumption) ?_ ?_ | omega | (simp; done) | (simp; omega)))⟩
  case round =>
    obtain ⟨k, hk, rfl, hown, hB⟩ := hrel
    obtain ⟨hcB, hfB⟩ := bcell hB
    have hbz := hB.size
    have Hown := Lib.hid hown
    have HB := Lib.hid hB
    clear hown
    by_cases hlt : k < n
    · skip
      obtain ⟨x, hx⟩ := mem_at (l := xs) (k := k) (by rw [Hln.out]; exact hlt)
      have Hx := Lib.hid hx
      obtain ⟨b, off, rfl, hb, hc⟩ := HFW.out (by rw [Hln.out]; omega)
      have hbw : b < wr.heap.size := by omega
      obtain ⟨c0, c1, c2, c3, c4, c5, c6, c7, c8, c9⟩ := mrow_cells (hc k x hx)
      clear hc hx
      have HC0 := Lib.hid (show ∀ V : World, Below wr.heap.size wr V → b0 < V.heap.size ∧ V.cell? ⟨b0, 0, none⟩ = some (.string key) from fun V hV => ⟨by have := hV.size; omega, by rw [hV.cell (p := ⟨b0, 0, none⟩) (by show b0 < _; omega), HB.out.cell (p := ⟨b0, 0, none⟩) hb0W]; exact hc0W⟩)
      cases hv : ofG key x
      · skip
        have Hs := Lib.hid (filt_no Hx.out (P := (ofG key)) (show (ofG key) x = false from hv))
        have Kv := Lib.hid (show strB x.gp key = false from hv)
        clear hv
        go_wp2_with (go_at_call 34; (with_reducible refine (of2_any x b0 key _ (HC0.out _ (by (repeat' (first | with_reducible exact Below.refl _ _ | with_reducible assumption | with_reducible refine Below.drew ?_ | with_reducible refine below_drewN' ?_ _ | with_reducible refine Below.alloc ?_ ?_ _ | with_reducible refine Below.setCell ?_ ?_ _ | with_reducible refine below_step (by assumption) ?_ ?_ | omega | (simp; done) | (simp; omega))))).1 (HC0.out _ (by (repeat' (first | with_reducible exact Below.refl _ _ | with_reducible assumption | with_reducible refine Below.drew ?_ | with_reducible refine below_drewN' ?_ _ | with_reducible refine Below.alloc ?_ ?_ _ | with_reducible refine Below.setCell ?_ ?_ _ | with_reducible refine below_step (by assumption) ?_ ?_ | omega | (simp; done) | (simp; omega))))).2).mono ?_); rw [Kv.out]; rintro e w5 ⟨rfl, hb5⟩; have hz5 := hb5.size; (try simp at hz5))
        go_roundw
        case rel => exact ⟨k + 1, by omega, by go_num, by rw [Hs.out]; exact own_kept (Hown.out.alloc _) hb5, by (repeat' (first | with_reducible exact Below.refl _ _ | with_reducible assumption | with_reducible refine Below.drew ?_ | with_reducible refine below_drewN' ?_ _ | with_reducible refine Below.alloc ?_ ?_ _ | with_reducible refine Below.setCell ?_ ?_ _ | with_reducible refine below_step (by assumption) ?_ ?_ | omega | (simp; done) | (simp; omega)))⟩
        case measure => simp [intOf]; omega
      · skip
        have Hs := Lib.hid (filt_yes Hx.out (P := (ofG key)) (show (ofG key) x = true from hv))
        have hL := filt_len (ofG key) xs k
        have hc3 : ((xs.take k).filter (ofG key)).length + 1 ≤ maxLen := by unfold maxLen; omega
        have hc4 : (((xs.take k).filter (ofG key)).length + 1) * 16 ≤ 140737488355328 := by omega
        have Hrow := Lib.hid (show ((xs.take k).filter (ofG key)).flatMap mnE ++ mnE x = ((xs.take (k + 1)).filter (ofG key)).flatMap mnE by rw [Hs.out]; simp)
        have Hlen := Lib.hid (show ((xs.take k).filter (ofG key)).length + 1 = ((xs.take (k + 1)).filter (ofG key)).length by rw [Hs.out]; simp)
        clear hL
        have Kv := Lib.hid (show strB x.gp key = true from hv)
        clear hv
        go_wp2_with (first
          | (go_at_call 34; (with_reducible refine (of2_any x b0 key _ (HC0.out _ (by (repeat' (first | with_reducible exact Below.refl _ _ | with_reducible assumption | with_reducible refine Below.drew ?_ | with_reducible refine below_drewN' ?_ _ | with_reducible refine Below.alloc ?_ ?_ _ | with_reducible refine Below.setCell ?_ ?_ _ | with_reducible refine below_step (by assumption) ?_ ?_ | omega | (simp; done) | (simp; omega))))).1 (HC0.out _ (by (repeat' (first | with_reducible exact Below.refl _ _ | with_reducible assumption | with_reducible refine Below.drew ?_ | with_reducible refine below_drewN' ?_ _ | with_reducible refine Below.alloc ?_ ?_ _ | with_reducible refine Below.setCell ?_ ?_ _ | with_reducible refine below_step (by assumption) ?_ ?_ | omega | (simp; done) | (simp; omega))))).2).mono ?_); rw [Kv.out]; rintro e w5 ⟨rfl, hb5⟩; obtain ⟨hc5, hf5⟩ := bcell hb5; have hz5 := hb5.size; (try simp at hz5); have z5_0 : wr.heap.size < w5.heap.size := (by omega); have y5_0 : wr.heap.size ≤ w5.heap.size := (by omega))
          | (go_at_call 33; (with_reducible refine (of1_any x _).mono ?_); rintro e w6 ⟨rfl, hb6⟩; have hz6 := hb6.size; have HOx := Lib.hid (own_kept (own_kept (Hown.out.alloc _) hb5) hb6); have HBx := Lib.hid (show Below W.heap.size W w6 by (repeat' (first | with_reducible exact Below.refl _ _ | with_reducible assumption | with_reducible refine Below.drew ?_ | with_reducible refine below_drewN' ?_ _ | with_reducible refine Below.alloc ?_ ?_ _ | with_reducible refine Below.setCell ?_ ?_ _ | with_reducible refine below_step (by assumption) ?_ ?_ | omega | (simp; done) | (simp; omega)))); have hbx := HBx.out.size)
          | (at_builtin; refine wpList_append_own _ rfl (.tmp 19) (.tmp 23) 29 rfl W.heap.size 9 i0 _ 1 16 Tryd.underlying29 Hi.out Hz0.out Hz1.out Hz2.out rfl (by decide) _ ((xs.take k).filter (ofG key)).length (((xs.take k).filter (ofG key)).flatMap mnE) rfl (HOx.out.alloc _) ⟨w6.heap.size, 0, none⟩ 1 1 (mnE x) rfl rfl (news_at _ _ _) (mnE_one _) hc3 hc4 (le_alloc hbx _) ?_; intro v1 w1 hown1 hgrow1 _; rw [Hrow.out, Hlen.out] at hown1; have hB1 := own_below (HOx.out.alloc _) (HBx.out.alloc hbx _) (le_alloc hbx _) hgrow1; have HO1 := Lib.hid hown1; clear hown1 hgrow1))
        go_roundw
        case rel => exact ⟨k + 1, by omega, by go_num, HO1.out, hB1⟩
        case measure => simp [intOf]; omega
    · skip
      obtain rfl : k = n := by omega
      have HP := Lib.hid (show ∀ v, wr.ownsRow W.heap.size 9 1 v ((xs.take k).filter (ofG key)).length (((xs.take k).filter (ofG key)).flatMap mnE) → Gives w (OwnL mnE 1 w.heap.size 9 (xs.filter (ofG key))) (.returned v) wr from fun v h => ⟨⟨v, rfl, OwnL.mono (OwnL.eq (filt_all _ Hln.out).symm h) hWz⟩, HW.out.trans (HB.out.mono hWz)⟩)
      go_wp2
      refine bodyPost_ret (by simp [results, Tryd.results32, go_sem]) rfl (HP.out _ Hown.out)
set_option maxRecDepth 100000 in
set_option maxHeartbeats 4000000 in
theorem of_any (c : Option Addr) (kc : Nat) (xs : List Mac) (key : ByteArray) (w : World) (hF : MacL w c xs) (hm : xs.length ≤ 1000000) :
    Calls Tryd.prog 17 #[.slice c xs.length kc, .string key] w (Gives w (OwnL mnE 1 w.heap.size 9 (xs.filter (ofG key)))) := by
  go_enter Tryd.func17, Tryd.ntmps17
  go_wp2_with (go_at_call 32; (with_reducible refine (collectm_any c kc xs w.heap.size key _ (hF.mono (by (repeat' (first | with_reducible exact Below.refl _ _ | with_reducible assumption | with_reducible refine Below.drew ?_ | with_reducible refine below_drewN' ?_ _ | with_reducible refine Below.alloc ?_ ?_ _ | with_reducible refine Below.setCell ?_ ?_ _ | with_reducible refine below_step (by assumption) ?_ ?_ | omega | (simp; done) | (simp; omega))))) hm (by simp) (by simp [go_sem])).mono ?_); rintro e w1 ⟨⟨v, rfl, hv⟩, hb⟩; have hz := hb.size; simp at hz)
  refine bodyPost_ret (by simp [results, Tryd.results17, go_sem]) rfl ⟨⟨v, rfl, OwnL.mono hv (by simp)⟩, by (repeat' (first | with_reducible exact Below.refl _ _ | with_reducible assumption | with_reducible refine Below.drew ?_ | with_reducible refine below_drewN' ?_ _ | with_reducible refine Below.alloc ?_ ?_ _ | with_reducible refine Below.setCell ?_ ?_ _ | with_reducible refine below_step (by assumption) ?_ ?_ | omega | (simp; done) | (simp; omega)))⟩

set_option maxRecDepth 100000 in
set_option maxHeartbeats 4000000 in
theorem refof_any (c : Option Addr) (kc : Nat) (xs : List Mac) (key : ByteArray) (w : World) (hF : MacL w c xs) (hm : xs.length ≤ 1000000) :
    Calls Tryd.prog 18 #[.slice c xs.length kc, .string key] w (Gives w (OwnL mnE 1 w.heap.size 9 (xs.filter (ofG key)))) := by
  have HF := Lib.hid hF
  clear hF
  obtain ⟨i0, hi, hz0, hz1, hz2⟩ := info_parts Tryd.info9
  have Hi := Lib.hid hi
  have Hz0 := Lib.hid hz0
  have Hz1 := Lib.hid hz1
  have Hz2 := Lib.hid hz2
  clear hi hz0 hz1 hz2
  obtain ⟨n, hln⟩ : ∃ n, xs.length = n := ⟨_, rfl⟩
  rw [hln] at hm ⊢
  have Hln := Lib.hid hln
  clear hln
  go_enter Tryd.func18, Tryd.ntmps18
  go_wp2
  obtain ⟨W, hW⟩ : ∃ W, W = w := ⟨_, rfl⟩
  have HW := Lib.hid (show Below w.heap.size w W by rw [hW]; (repeat' (first | with_reducible exact Below.refl _ _ | with_reducible assumption | with_reducible refine Below.drew ?_ | with_reducible refine below_drewN' ?_ _ | with_reducible refine Below.alloc ?_ ?_ _ | with_reducible refine Below.setCell ?_ ?_ _ | with_reducible refine below_step (by assumption) ?_ ?_ | omega | (simp; done) | (simp; omega))))
  have hWz : w.heap.size ≤ W.heap.size := HW.out.size
  have HFW := Lib.hid (HF.out.mono HW.out)
  (try rw [← hW])
  clear hW
  go_loopw [5, 6] (fun v i wr => ∃ k : Nat, k ≤ n ∧ i = .int .i64 k ∧ wr.ownsRow W.heap.size 9 1 v ((xs.take k).filter (ofG key)).length (((xs.take k).filter (ofG key)).flatMap mnE) ∧ Below W.heap.size W wr) (fun _ i _ => n - (intOf i).toNat)
  case atStart => exact ⟨0, by omega, rfl, World.ownsRow_nil _ _ _ _, by (repeat' (first | with_reducible exact Below.refl _ _ | with_reducible assumption | with_reducible refine Below.drew ?_ | with_reducible refine below_drewN' ?_ _ | with_reducible refine Below.alloc ?_ ?_ _ | with_reducible refine Below.setCell ?_ ?_ _ | with_reducible refine below_step (by assumption) ?_ ?_ | omega | (simp; done) | (simp; omega)))⟩
  case round =>
    obtain ⟨k, hk, rfl, hown, hB⟩ := hrel
    obtain ⟨hcB, hfB⟩ := bcell hB
    have hbz := hB.size
    have Hown := Lib.hid hown
    have HB := Lib.hid hB
    clear hown
    by_cases hlt : k < n
    · skip
      obtain ⟨x, hx⟩ := mem_at (l := xs) (k := k) (by rw [Hln.out]; exact hlt)
      have Hx := Lib.hid hx
      obtain ⟨b, off, rfl, hb, hc⟩ := HFW.out (by rw [Hln.out]; omega)
      have hbw : b < wr.heap.size := by omega
      obtain ⟨c0, c1, -⟩ := mrow_cells (hc k x hx)
      clear hc hx
      cases hv : ofG key x
      · skip
        have Hs := Lib.hid (filt_no Hx.out (P := (ofG key)) (show (ofG key) x = false from hv))
        have Kv := (strB_list x.gp key).trans hv
        clear hv
        go_wp2
        go_roundw
        case rel => exact ⟨k + 1, by omega, by go_num, by rw [Hs.out]; exact Hown.out, by (repeat' (first | with_reducible exact Below.refl _ _ | with_reducible assumption | with_reducible refine Below.drew ?_ | with_reducible refine below_drewN' ?_ _ | with_reducible refine Below.alloc ?_ ?_ _ | with_reducible refine Below.setCell ?_ ?_ _ | with_reducible refine below_step (by assumption) ?_ ?_ | omega | (simp; done) | (simp; omega)))⟩
        case measure => simp [intOf]; omega
      · skip
        have Hs := Lib.hid (filt_yes Hx.out (P := (ofG key)) (show (ofG key) x = true from hv))
        have hL := filt_len (ofG key) xs k
        have hc3 : ((xs.take k).filter (ofG key)).length + 1 ≤ maxLen := by unfold maxLen; omega
        have hc4 : (((xs.take k).filter (ofG key)).length + 1) * 16 ≤ 140737488355328 := by omega
        have Hrow := Lib.hid (show ((xs.take k).filter (ofG key)).flatMap mnE ++ mnE x = ((xs.take (k + 1)).filter (ofG key)).flatMap mnE by rw [Hs.out]; simp)
        have Hlen := Lib.hid (show ((xs.take k).filter (ofG key)).length + 1 = ((xs.take (k + 1)).filter (ofG key)).length by rw [Hs.out]; simp)
        clear hL
        have Kv := (strB_list x.gp key).trans hv
        have HOx := Hown
        have HBx := HB
        have hbx := HB.out.size
        clear hv
        go_wp2_with (at_builtin; refine wpList_append_own _ rfl (.tmp 20) (.tmp 26) 29 rfl W.heap.size 9 i0 _ 1 16 Tryd.underlying29 Hi.out Hz0.out Hz1.out Hz2.out rfl (by decide) _ ((xs.take k).filter (ofG key)).length (((xs.take k).filter (ofG key)).flatMap mnE) rfl (HOx.out.alloc _) ⟨wr.heap.size, 0, none⟩ 1 1 (mnE x) rfl rfl (news_at _ _ _) (mnE_one _) hc3 hc4 (le_alloc hbx _) ?_; intro v1 w1 hown1 hgrow1 _; rw [Hrow.out, Hlen.out] at hown1; have hB1 := own_below (HOx.out.alloc _) (HBx.out.alloc hbx _) (le_alloc hbx _) hgrow1; have HO1 := Lib.hid hown1; clear hown1 hgrow1)
        go_roundw
        case rel => exact ⟨k + 1, by omega, by go_num, HO1.out, hB1⟩
        case measure => simp [intOf]; omega
    · skip
      obtain rfl : k = n := by omega
      have HP := Lib.hid (show ∀ v, wr.ownsRow W.heap.size 9 1 v ((xs.take k).filter (ofG key)).length (((xs.take k).filter (ofG key)).flatMap mnE) → Gives w (OwnL mnE 1 w.heap.size 9 (xs.filter (ofG key))) (.returned v) wr from fun v h => ⟨⟨v, rfl, OwnL.mono (OwnL.eq (filt_all _ Hln.out).symm h) hWz⟩, HW.out.trans (HB.out.mono hWz)⟩)
      go_wp2
      refine bodyPost_ret (by simp [results, Tryd.results18, go_sem]) rfl (HP.out _ Hown.out)
end Go.Proofs.YtgdankihfnnpaaaDoor
