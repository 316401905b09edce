/-
  The document's table: Names, Ripe, Drop.
-/
import Derived.Test.YteccmjbgedmfhaaTmRef
import Derived.Test.YteccmjbgedmfhaaTmRip
namespace Go.Proofs.Yteccmjbgedmfhaa
open Go.RowKit
set_option linter.unusedVariables false
set_option linter.unusedSimpArgs false

def nmE (x : Nt) : List Value := scs x.1
theorem nmE_one (x : Nt) : ∀ u ∈ nmE x, u.oneCell' = true := scs_one _
def allN (x : Nt) : Bool := true
theorem filt_allN (l : List Nt) : l.filter allN = l := by
  rw [List.filter_eq_self]
  exact fun _ _ => rfl

set_option maxRecDepth 100000 in
set_option maxHeartbeats 4000000 in
theorem rnames_any (base p : Nat) (xs : List Nt) (v : Value) (w : World) (h : RT w base p xs v) (hm : xs.length ≤ 1000000) :
    Calls Try.prog 18 #[.pointer (some ⟨p, 0, none⟩)] w (Gives w (OwnL nmE 1 w.heap.size 9 (xs.filter allN))) := by
  obtain ⟨c, kc, rfl, hF, _⟩ : ∃ c kc, v = .slice c xs.length kc ∧ NtL w c xs ∧ True := by
    obtain ⟨a, k, e, _, hR⟩ := IsL.of_own ntc_len (by decide) h.own
    exact ⟨a, _, e, hR, trivial⟩
  have HF := Lib.hid hF
  clear hF
  have cp := h.row.cell 0
  dsimp only [List.getElem?_cons_zero] at cp
  have hp := h.row.lt
  clear h
  obtain ⟨i0, hi, hz0, hz1, hz2⟩ := info_parts Try.info9
  have Hi := Lib.hid hi
  have Hz0 := Lib.hid hz0
  have Hz1 := Lib.hid hz1
  have Hz2 := Lib.hid hz2
  clear hi hz0 hz1 hz2
  obtain ⟨n, hln⟩ : ∃ n, xs.length = n := ⟨_, rfl⟩
  rw [hln] at hm cp
  have Hln := Lib.hid hln
  clear hln
  go_enter Try.func18, Try.ntmps18
  go_wp2
  obtain ⟨W, hW⟩ : ∃ W, W = w := ⟨_, rfl⟩
  have HW := Lib.hid (show Below w.heap.size w W by rw [hW]; (repeat' (first | with_reducible exact Below.refl _ _ | with_reducible assumption | with_reducible refine Below.drew ?_ | with_reducible refine below_drewN' ?_ _ | with_reducible refine Below.alloc ?_ ?_ _ | with_reducible refine Below.setCell ?_ ?_ _ | with_reducible refine below_step (by assumption) ?_ ?_ | omega | (simp; done) | (simp; omega))))
  have hWz : w.heap.size ≤ W.heap.size := HW.out.size
  have HFW := Lib.hid (HF.out.mono HW.out)
  (try rw [← hW])
  rw [← hW] at cp hp
  clear hW
  go_loopw [3, 4] (fun v i wr => ∃ k : Nat, k ≤ n ∧ i = .int .i64 k ∧ wr.ownsRow W.heap.size 9 1 v ((xs.take k).filter allN).length (((xs.take k).filter allN).flatMap nmE) ∧ Below W.heap.size W wr) (fun _ i _ => n - (intOf i).toNat)
  case atStart => exact ⟨0, by omega, rfl, World.ownsRow_nil _ _ _ _, by (repeat' (first | with_reducible exact Below.refl _ _ | with_reducible assumption | with_reducible refine Below.drew ?_ | with_reducible refine below_drewN' ?_ _ | with_reducible refine Below.alloc ?_ ?_ _ | with_reducible refine Below.setCell ?_ ?_ _ | with_reducible refine below_step (by assumption) ?_ ?_ | omega | (simp; done) | (simp; omega)))⟩
  case round =>
    obtain ⟨k, hk, rfl, hown, hB⟩ := hrel
    obtain ⟨hcB, hfB⟩ := bcell hB
    have hbz := hB.size
    have Hown := Lib.hid hown
    have HB := Lib.hid hB
    clear hown
    by_cases hlt : k < n
    · skip
      obtain ⟨x, hx⟩ := mem_at (l := xs) (k := k) (by rw [Hln.out]; exact hlt)
      have Hx := Lib.hid hx
      obtain ⟨b, off, rfl, hb, hc⟩ := HFW.out (by rw [Hln.out]; omega)
      have hbw : b < wr.heap.size := by omega
      obtain ⟨x0, x1⟩ := nt_cells (hc k x hx)
      clear hc hx
      have hv : allN x = true := rfl
      have Hs := Lib.hid (filt_yes Hx.out (P := allN) (show allN x = true from hv))
      have hL := filt_len allN xs k
      have hc3 : ((xs.take k).filter allN).length + 1 ≤ maxLen := by unfold maxLen; omega
      have hc4 : (((xs.take k).filter allN).length + 1) * 16 ≤ 140737488355328 := by omega
      have Hrow := Lib.hid (show ((xs.take k).filter allN).flatMap nmE ++ nmE x = ((xs.take (k + 1)).filter allN).flatMap nmE by rw [Hs.out]; simp)
      have Hlen := Lib.hid (show ((xs.take k).filter allN).length + 1 = ((xs.take (k + 1)).filter allN).length by rw [Hs.out]; simp)
      clear hL
      have HOx := Hown
      have HBx := HB
      have hbx := HB.out.size
      clear hv
      go_wp2_with (at_builtin; refine wpList_append_own _ rfl (.tmp 14) (.tmp 23) 29 rfl W.heap.size 9 i0 _ 1 16 Try.underlying29 Hi.out Hz0.out Hz1.out Hz2.out rfl (by decide) _ ((xs.take k).filter allN).length (((xs.take k).filter allN).flatMap nmE) rfl (HOx.out.alloc _) ⟨wr.heap.size, 0, none⟩ 1 1 (nmE x) rfl rfl (news_at _ _ _) (nmE_one _) hc3 hc4 (le_alloc hbx _) ?_; intro v1 w1 hown1 hgrow1 _; rw [Hrow.out, Hlen.out] at hown1; have hB1 := own_below (HOx.out.alloc _) (HBx.out.alloc hbx _) (le_alloc hbx _) hgrow1; have HO1 := Lib.hid hown1; clear hown1 hgrow1)
      go_roundw
      case rel => exact ⟨k + 1, by omega, by go_num, HO1.out, hB1⟩
      case measure => simp [intOf]; omega
    · skip
      obtain rfl : k = n := by omega
      have HP := Lib.hid (show ∀ v, wr.ownsRow W.heap.size 9 1 v ((xs.take k).filter allN).length (((xs.take k).filter allN).flatMap nmE) → Gives w (OwnL nmE 1 w.heap.size 9 (xs.filter allN)) (.returned v) wr from fun v h => ⟨⟨v, rfl, OwnL.mono (OwnL.eq (filt_all _ Hln.out).symm h) hWz⟩, HW.out.trans (HB.out.mono hWz)⟩)
      go_wp2
      refine bodyPost_ret (by simp [results, Try.results18, go_sem]) rfl (HP.out _ Hown.out)

def ripeN (now len : Int) (x : Nt) : Bool := decide (len ≤ now - x.2)
set_option maxRecDepth 100000 in
set_option maxHeartbeats 4000000 in
theorem rripe_yes (base p : Nat) (xs : List Nt) (v : Value) (now len : Int) (w : World) (h : RT w base p xs v) (hm : xs.length ≤ 1000000) (hok : ∀ x ∈ xs, 0 ≤ x.2 ∧ x.2 ≤ 1099511627776) (h0 : 0 ≤ now) (h1 : now ≤ 1099511627776) (h2 : 0 ≤ len) :
    Calls Try.prog 20 #[.pointer (some ⟨p, 0, none⟩), .int .i64 now, .int .i64 len] w (Gives w (OwnL nmE 1 w.heap.size 9 (xs.filter (ripeN now len)))) := by
  obtain ⟨c, kc, rfl, hF, _⟩ : ∃ c kc, v = .slice c xs.length kc ∧ NtL w c xs ∧ True := by
    obtain ⟨a, k, e, _, hR⟩ := IsL.of_own ntc_len (by decide) h.own
    exact ⟨a, _, e, hR, trivial⟩
  have HF := Lib.hid hF
  have HT : timeB now = true := decide_eq_true ⟨h0, h1⟩
  clear hF
  have cp := h.row.cell 0
  dsimp only [List.getElem?_cons_zero] at cp
  have hp := h.row.lt
  have Hok := Lib.hid hok
  clear h hok
  obtain ⟨i0, hi, hz0, hz1, hz2⟩ := info_parts Try.info9
  have Hi := Lib.hid hi
  have Hz0 := Lib.hid hz0
  have Hz1 := Lib.hid hz1
  have Hz2 := Lib.hid hz2
  clear hi hz0 hz1 hz2
  obtain ⟨n, hln⟩ : ∃ n, xs.length = n := ⟨_, rfl⟩
  rw [hln] at hm cp
  have Hln := Lib.hid hln
  clear hln
  go_enter Try.func20, Try.ntmps20
  go_wp2
  obtain ⟨W, hW⟩ : ∃ W, W = w := ⟨_, rfl⟩
  have HW := Lib.hid (show Below w.heap.size w W by rw [hW]; (repeat' (first | with_reducible exact Below.refl _ _ | with_reducible assumption | with_reducible refine Below.drew ?_ | with_reducible refine below_drewN' ?_ _ | with_reducible refine Below.alloc ?_ ?_ _ | with_reducible refine Below.setCell ?_ ?_ _ | with_reducible refine below_step (by assumption) ?_ ?_ | omega | (simp; done) | (simp; omega))))
  have hWz : w.heap.size ≤ W.heap.size := HW.out.size
  have HFW := Lib.hid (HF.out.mono HW.out)
  (try rw [← hW])
  rw [← hW] at cp hp
  clear hW
  go_loopw [7, 8] (fun v i wr => ∃ k : Nat, k ≤ n ∧ i = .int .i64 k ∧ wr.ownsRow W.heap.size 9 1 v ((xs.take k).filter (ripeN now len)).length (((xs.take k).filter (ripeN now len)).flatMap nmE) ∧ Below W.heap.size W wr) (fun _ i _ => n - (intOf i).toNat)
  case atStart => exact ⟨0, by omega, rfl, World.ownsRow_nil _ _ _ _, by (repeat' (first | with_reducible exact Below.refl _ _ | with_reducible assumption | with_reducible refine Below.drew ?_ | with_reducible refine below_drewN' ?_ _ | with_reducible refine Below.alloc ?_ ?_ _ | with_reducible refine Below.setCell ?_ ?_ _ | with_reducible refine below_step (by assumption) ?_ ?_ | omega | (simp; done) | (simp; omega)))⟩
  case round =>
    obtain ⟨k, hk, rfl, hown, hB⟩ := hrel
    obtain ⟨hcB, hfB⟩ := bcell hB
    have hbz := hB.size
    have Hown := Lib.hid hown
    have HB := Lib.hid hB
    clear hown
    by_cases hlt : k < n
    · skip
      obtain ⟨x, hx⟩ := mem_at (l := xs) (k := k) (by rw [Hln.out]; exact hlt)
      have Hx := Lib.hid hx
      obtain ⟨b, off, rfl, hb, hc⟩ := HFW.out (by rw [Hln.out]; omega)
      have hbw : b < wr.heap.size := by omega
      obtain ⟨x0, x1⟩ := nt_cells (hc k x hx)
      clear hc hx
      have hxo := Hok.out x (List.mem_of_getElem? Hx.out)
      have hw : IntKind.i64.wrap (now - x.2) = now - x.2 := wrap_in (by omega) (by omega)
      cases hv : ripeN now len x with
      | false =>
        have k1 : decide (len ≤ now - x.2) = false := hv
        have Hs := Lib.hid (filt_no Hx.out (P := (ripeN now len)) (show (ripeN now len) x = false from hv))
        clear hv
        go_wp2_with (go_at_call 25; (with_reducible refine (rtime_any now _).mono ?_); rintro e w2 ⟨rfl, rfl⟩)
        go_roundw
        case rel => exact ⟨k + 1, by omega, by go_num, by rw [Hs.out]; exact Hown.out, by (repeat' (first | with_reducible exact Below.refl _ _ | with_reducible assumption | with_reducible refine Below.drew ?_ | with_reducible refine below_drewN' ?_ _ | with_reducible refine Below.alloc ?_ ?_ _ | with_reducible refine Below.setCell ?_ ?_ _ | with_reducible refine below_step (by assumption) ?_ ?_ | omega | (simp; done) | (simp; omega)))⟩
        case measure => simp [intOf]; omega
      | true =>
        have k1 : decide (len ≤ now - x.2) = true := hv
        have Hs := Lib.hid (filt_yes Hx.out (P := (ripeN now len)) (show (ripeN now len) x = true from hv))
        have hL := filt_len (ripeN now len) xs k
        have hc3 : ((xs.take k).filter (ripeN now len)).length + 1 ≤ maxLen := by unfold maxLen; omega
        have hc4 : (((xs.take k).filter (ripeN now len)).length + 1) * 16 ≤ 140737488355328 := by omega
        have Hrow := Lib.hid (show ((xs.take k).filter (ripeN now len)).flatMap nmE ++ nmE x = ((xs.take (k + 1)).filter (ripeN now len)).flatMap nmE by rw [Hs.out]; simp)
        have Hlen := Lib.hid (show ((xs.take k).filter (ripeN now len)).length + 1 = ((xs.take (k + 1)).filter (ripeN now len)).length by rw [Hs.out]; simp)
        clear hL
        have HOx := Hown
        have HBx := HB
        have hbx := HB.out.size
        clear hv
        go_wp2_with (first
          | (go_at_call 25; (with_reducible refine (rtime_any now _).mono ?_); rintro e w2 ⟨rfl, rfl⟩)
          | (at_builtin; refine wpList_append_own _ rfl (.tmp 38) (.tmp 47) 29 rfl W.heap.size 9 i0 _ 1 16 Try.underlying29 Hi.out Hz0.out Hz1.out Hz2.out rfl (by decide) _ ((xs.take k).filter (ripeN now len)).length (((xs.take k).filter (ripeN now len)).flatMap nmE) rfl (HOx.out.alloc _) ⟨w2.heap.size, 0, none⟩ 1 1 (nmE x) rfl rfl (news_at _ _ _) (nmE_one _) hc3 hc4 (le_alloc hbx _) ?_; intro v1 w1 hown1 hgrow1 _; rw [Hrow.out, Hlen.out] at hown1; have hB1 := own_below (HOx.out.alloc _) (HBx.out.alloc hbx _) (le_alloc hbx _) hgrow1; have HO1 := Lib.hid hown1; clear hown1 hgrow1))
        go_roundw
        case rel => exact ⟨k + 1, by omega, by go_num, HO1.out, hB1⟩
        case measure => simp [intOf]; omega
    · skip
      obtain rfl : k = n := by omega
      have HP := Lib.hid (show ∀ v, wr.ownsRow W.heap.size 9 1 v ((xs.take k).filter (ripeN now len)).length (((xs.take k).filter (ripeN now len)).flatMap nmE) → Gives w (OwnL nmE 1 w.heap.size 9 (xs.filter (ripeN now len))) (.returned v) wr from fun v h => ⟨⟨v, rfl, OwnL.mono (OwnL.eq (filt_all _ Hln.out).symm h) hWz⟩, HW.out.trans (HB.out.mono hWz)⟩)
      go_wp2
      refine bodyPost_ret (by simp [results, Try.results20, go_sem]) rfl (HP.out _ Hown.out)
theorem rripe_not (base p : Nat) (xs : List Nt) (v : Value) (now len : Int) (w : World) (h : RT w base p xs v) (hm : xs.length ≤ 1000000) (ht : (timeB now && decide (0 ≤ len)) = false) :
    Calls Try.prog 20 #[.pointer (some ⟨p, 0, none⟩), .int .i64 now, .int .i64 len] w fun e w' => e = .returned (.slice none 0 0) ∧ w' = w := by
  obtain ⟨c, kc, rfl, hF, _⟩ : ∃ c kc, v = .slice c xs.length kc ∧ NtL w c xs ∧ True := by
    obtain ⟨a, k, e, _, hR⟩ := IsL.of_own ntc_len (by decide) h.own
    exact ⟨a, _, e, hR, trivial⟩
  have cp := h.row.cell 0
  dsimp only [List.getElem?_cons_zero] at cp
  have hp := h.row.lt
  obtain ⟨n, hln⟩ : ∃ n, xs.length = n := ⟨_, rfl⟩
  rw [hln] at hm cp
  clear h hF hln
  by_cases hn : 0 < n
  · have j1 : decide ((0 : Int) < (n : Int)) = true := decide_eq_true (by omega)
    cases hT : timeB now with
    | false =>
      go_enter Try.func20, Try.ntmps20
      go_wp2
      refine wp_loop_rounds 1 ?_
      rw [rounds_succ]
      go_wp2_with (go_at_call 25; (with_reducible refine (rtime_any now _).mono ?_); rintro e w2 ⟨rfl, rfl⟩)
      go_ret
      exact ⟨rfl, rfl⟩
    | true =>
      rw [hT, Bool.true_and] at ht
      go_enter Try.func20, Try.ntmps20
      go_wp2
      refine wp_loop_rounds 1 ?_
      rw [rounds_succ]
      go_wp2_with (go_at_call 25; (with_reducible refine (rtime_any now _).mono ?_); rintro e w2 ⟨rfl, rfl⟩)
      go_ret
      exact ⟨rfl, rfl⟩
  · obtain rfl : n = 0 := by omega
    go_enter Try.func20, Try.ntmps20
    go_wp2
    refine wp_loop_rounds 1 ?_
    rw [rounds_succ]
    go_wp2
    go_ret
    exact ⟨rfl, rfl⟩
def notG (g : ByteArray) (x : Nt) : Bool := !decide (x.1 = g)
theorem Rep.drop {T : ByteArray → Option Int} {M : List Nt} (h : Rep T M) (g : ByteArray) : Rep (updT T g none) (M.filter (notG g)) where
  srt := h.srt.filter _
  rep s t := by
    rw [List.mem_filter, ← h.rep]
    by_cases e : s = g
    · subst e
      rw [updT_same]
      simp [notG]
    · rw [updT_other e]
      simp [notG, e]
  le x hx := h.le x (List.mem_filter.1 hx).1
  ok x hx := h.ok x (List.mem_filter.1 hx).1

set_option maxRecDepth 100000 in
set_option maxHeartbeats 4000000 in
theorem rdrop_any (base p : Nat) (xs : List Nt) (v : Value) (g : ByteArray) (w : World) (h : RT w base p xs v) (hm : xs.length ≤ 1000000) :
    Calls Try.prog 12 #[.pointer (some ⟨p, 0, none⟩), .string g] w fun e w' => e = .returned (.tuple #[]) ∧ ∃ v', RT w' base p (xs.filter (notG g)) v' ∧ Only [p] w w' ∧ ∀ q, v'.ownBlock = some q → w.heap.size ≤ q := by
  have Hh := Lib.hid h
  obtain ⟨c, kc, rfl, hF, _⟩ : ∃ c kc, v = .slice c xs.length kc ∧ NtL w c xs ∧ True := by
    obtain ⟨a, k, e, _, hR⟩ := IsL.of_own ntc_len (by decide) h.own
    exact ⟨a, _, e, hR, trivial⟩
  have HF := Lib.hid hF
  clear hF
  have cp := h.row.cell 0
  dsimp only [List.getElem?_cons_zero] at cp
  have fp := h.row.frozen 0
  have hp := h.row.lt
  clear h
  obtain ⟨i0, hi, hz0, hz1, hz2⟩ := info_parts Try.info57
  have Hi := Lib.hid hi
  have Hz0 := Lib.hid hz0
  have Hz1 := Lib.hid hz1
  have Hz2 := Lib.hid hz2
  clear hi hz0 hz1 hz2
  obtain ⟨n, hln⟩ : ∃ n, xs.length = n := ⟨_, rfl⟩
  rw [hln] at hm cp
  have Hln := Lib.hid hln
  clear hln
  go_enter Try.func12, Try.ntmps12
  go_wp2
  obtain ⟨W, hW⟩ : ∃ W, W = w := ⟨_, rfl⟩
  have HW := Lib.hid (show Below w.heap.size w W by rw [hW]; (repeat' (first | with_reducible exact Below.refl _ _ | with_reducible assumption | with_reducible refine Below.drew ?_ | with_reducible refine below_drewN' ?_ _ | with_reducible refine Below.alloc ?_ ?_ _ | with_reducible refine Below.setCell ?_ ?_ _ | with_reducible refine below_step (by assumption) ?_ ?_ | omega | (simp; done) | (simp; omega))))
  have hWz : w.heap.size ≤ W.heap.size := HW.out.size
  have HFW := Lib.hid (HF.out.mono HW.out)
  (try rw [← hW])
  rw [← hW] at cp hp fp
  have HWe := Lib.hid hW
  clear hW
  go_loopw [4, 5] (fun v i wr => ∃ k : Nat, k ≤ n ∧ i = .int .i64 k ∧ wr.ownsRow W.heap.size 57 2 v ((xs.take k).filter (notG g)).length (((xs.take k).filter (notG g)).flatMap ntc) ∧ Below W.heap.size W wr) (fun _ i _ => n - (intOf i).toNat)
  case atStart => exact ⟨0, by omega, rfl, World.ownsRow_nil _ _ _ _, by (repeat' (first | with_reducible exact Below.refl _ _ | with_reducible assumption | with_reducible refine Below.drew ?_ | with_reducible refine below_drewN' ?_ _ | with_reducible refine Below.alloc ?_ ?_ _ | with_reducible refine Below.setCell ?_ ?_ _ | with_reducible refine below_step (by assumption) ?_ ?_ | omega | (simp; done) | (simp; omega)))⟩
  case round =>
    obtain ⟨k, hk, rfl, hown, hB⟩ := hrel
    obtain ⟨hcB, hfB⟩ := bcell hB
    have hbz := hB.size
    have Hown := Lib.hid hown
    have HB := Lib.hid hB
    clear hown
    by_cases hlt : k < n
    · skip
      obtain ⟨x, hx⟩ := mem_at (l := xs) (k := k) (by rw [Hln.out]; exact hlt)
      have Hx := Lib.hid hx
      obtain ⟨b, off, rfl, hb, hc⟩ := HFW.out (by rw [Hln.out]; omega)
      have hbw : b < wr.heap.size := by omega
      obtain ⟨x0, x1⟩ := nt_cells (hc k x hx)
      clear hc hx
      by_cases hg : x.1 = g
      · have k1 := txt_eq hg
        have hv : notG g x = false := by simp [notG, hg]
        have Hs := Lib.hid (filt_no Hx.out (P := (notG g)) (show (notG g) x = false from hv))
        clear hv hg
        go_wp2
        go_roundw
        case rel => exact ⟨k + 1, by omega, by go_num, by rw [Hs.out]; exact Hown.out, by (repeat' (first | with_reducible exact Below.refl _ _ | with_reducible assumption | with_reducible refine Below.drew ?_ | with_reducible refine below_drewN' ?_ _ | with_reducible refine Below.alloc ?_ ?_ _ | with_reducible refine Below.setCell ?_ ?_ _ | with_reducible refine below_step (by assumption) ?_ ?_ | omega | (simp; done) | (simp; omega)))⟩
        case measure => simp [intOf]; omega
      · have k1 := txt_ne hg
        have hv : notG g x = true := by simp [notG, hg]
        have Hs := Lib.hid (filt_yes Hx.out (P := (notG g)) (show (notG g) x = true from hv))
        have hL := filt_len (notG g) xs k
        have hc3 : ((xs.take k).filter (notG g)).length + 1 ≤ maxLen := by unfold maxLen; omega
        have hc4 : (((xs.take k).filter (notG g)).length + 1) * 24 ≤ 140737488355328 := by omega
        have Hrow := Lib.hid (show ((xs.take k).filter (notG g)).flatMap ntc ++ ntc x = ((xs.take (k + 1)).filter (notG g)).flatMap ntc by rw [Hs.out]; simp)
        have Hlen := Lib.hid (show ((xs.take k).filter (notG g)).length + 1 = ((xs.take (k + 1)).filter (notG g)).length by rw [Hs.out]; simp)
        clear hL
        have HOx := Hown
        have HBx := HB
        have hbx := HB.out.size
        clear hv hg
        go_wp2_with (at_builtin; refine wpList_append_own _ rfl (.tmp 25) (.tmp 33) 26 rfl W.heap.size 57 i0 _ 2 24 Try.underlying26 Hi.out Hz0.out Hz1.out Hz2.out rfl (by decide) _ ((xs.take k).filter (notG g)).length (((xs.take k).filter (notG g)).flatMap ntc) rfl (HOx.out.alloc _) ⟨wr.heap.size, 0, none⟩ 1 1 (ntc x) rfl rfl (news_at _ _ _) (ntc_one _) hc3 hc4 (le_alloc hbx _) ?_; intro v1 w1 hown1 hgrow1 _; rw [Hrow.out, Hlen.out] at hown1; have hB1 := own_below (HOx.out.alloc _) (HBx.out.alloc hbx _) (le_alloc hbx _) hgrow1; have HO1 := Lib.hid hown1; clear hown1 hgrow1)
        go_roundw
        case rel => exact ⟨k + 1, by omega, by go_num, HO1.out, hB1⟩
        case measure => simp [intOf]; omega
    · obtain rfl : k = n := by omega
      have HE := Lib.hid (show (xs.take k).filter (notG g) = xs.filter (notG g) from filt_all _ Hln.out)
      obtain ⟨sp, cap, e1, _⟩ := own_rows ntc_len Hown.out (by decide)
      subst e1
      go_wp2
      go_end0
      have e2 := Hown.out
      rw [HE.out] at e2
      have hwz : w.heap.size = W.heap.size := by rw [HWe.out]
      have hOn : Only [p] w (wr.setCell ⟨p, 0, none⟩ (.slice sp ((xs.take k).filter (notG g)).length cap)) := ((Only.of_below (HW.out.trans (HB.out.mono hWz))).setCell (.inl (by simp)) _)
      refine ⟨rfl, _, ⟨((Hh.out.row.below HW.out).below HB.out).set 0 _, ?_, ?_, Hh.out.hp⟩, hOn, fun q hq => by rw [hwz]; exact (own_lt e2 (by rw [← HE.out]; exact hq)).1⟩
      · rw [HE.out]
        have hpb := Hh.out.hp
        exact own_same (own_base e2 (by omega)) fun q hq => Below.heap_setCell _ _ _ _ (fun e => by have h1 := (own_lt e2 hq).1; simp only at e; omega)
      · intro hq
        have h1 := (own_lt Hown.out hq).1
        omega
end Go.Proofs.Yteccmjbgedmfhaa
