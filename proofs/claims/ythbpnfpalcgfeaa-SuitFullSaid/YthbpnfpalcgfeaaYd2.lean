/-
  Yards: which names stand twice; where pods are bound; which machines are right.
-/
import Derived.Test.YthbpnfpalcgfeaaYd1
import Derived.Test.YthbpnfpalcgfeaaMG
namespace Go.Proofs.Ythbpnfpalcgfeaa
open Go.RowKit
set_option linter.unusedVariables false
set_option linter.unusedSimpArgs false

set_option maxRecDepth 100000 in
set_option maxHeartbeats 2000000 in
theorem mtwice_any (a : Option Addr) (ka : Nat) (ms : List Mac) (w : World) (hF : MacL w a ms) (hl : ms.length ≤ 1000000) :
    Calls Try.prog 47 #[.slice a ms.length ka] w fun e w' => e = .returned (.bool (twiceN (ms.map Mac.nm))) ∧ Below w.heap.size w w' := by
  obtain ⟨n, hn⟩ : ∃ n, ms.length = n := ⟨_, rfl⟩
  obtain ⟨N, hN⟩ : ∃ N, ms.map Mac.nm = N := ⟨_, rfl⟩
  have HC := Lib.hid (fun (x : ByteArray) (V : World) (hV : MacL V a ms) => find_any a ka ms x V hV hl)
  have HN := Lib.hid hn
  have HM := Lib.hid hN
  have HL := Lib.hid (show N.length = n by rw [← hN, List.length_map, hn])
  obtain ⟨R, hR⟩ : ∃ R, twiceN N = R := ⟨_, rfl⟩
  have HR := Lib.hid hR
  have HF := Lib.hid hF
  rw [hn, hN] at HC
  rw [hn] at hl ⊢
  rw [hN, hR]
  clear hn hN hR hF
  go_enter Try.func47, Try.ntmps47
  go_wp2
  go_loopw [6] (fun vi wr => ∃ k : Nat, k ≤ n ∧ vi = .int .i64 k ∧ ((List.range k).any fun i => decide (findN N (N.getD i emp) 0 < (i : Int))) = false ∧ Below w.heap.size w wr) (fun vi _ => n - (intOf vi).toNat)
  case atStart => exact ⟨0, Nat.zero_le _, rfl, rfl, by (repeat' (first | with_reducible exact Below.refl _ _ | with_reducible assumption | with_reducible refine Below.drew ?_ | with_reducible refine below_drewN' ?_ _ | with_reducible refine Below.alloc ?_ ?_ _ | with_reducible refine Below.setCell ?_ ?_ _ | with_reducible refine below_step (by assumption) ?_ ?_ | omega | (simp; done) | (simp; omega)))⟩
  case round =>
    obtain ⟨k, hk, rfl, hE, hB⟩ := hrel
    have HE := Lib.hid hE
    have HB := Lib.hid hB
    have hbz := hB.size
    by_cases hlt : k < n
    · obtain ⟨m, hm⟩ := mem_at (l := ms) (k := k) (by rw [HN.out]; exact hlt)
      obtain ⟨b, o, rfl, hb, hc⟩ := HF.out (by rw [HN.out]; omega)
      have c0 : wr.cell? ⟨b, o + k * 10, none⟩ = some (.string (Mac.nm m)) := by rw [hB.cell (p := ⟨b, o + k * 10, none⟩) hb]; exact hc k m hm 0 (by decide)
      have hbw : b < wr.heap.size := by omega
      have hmN := nm_at hm
      rw [HM.out] at hmN
      obtain ⟨y, hy⟩ : ∃ y, Mac.nm m = y := ⟨_, rfl⟩
      rw [hy] at c0 hmN
      have hgd : N.getD k emp = y := by rw [List.getD_eq_getElem?_getD, hmN]; rfl
      obtain ⟨z, hz⟩ : ∃ z, findN N y 0 = z := ⟨_, rfl⟩
      have HCy := Lib.hid (HC.out y)
      rw [hz] at HCy
      by_cases hd : z < (k : Int)
      · have q : decide (z < (k : Int)) = true := decide_eq_true hd
        obtain rfl : R = true := by
          rw [← HR.out]
          unfold twiceN
          rw [List.any_eq_true]
          exact ⟨k, List.mem_range.2 (by rw [HL.out]; exact hlt), by rw [hgd, hz]; exact q⟩
        clear hE hB hc hm hmN hy hgd hz hd
        go_wp2_with (go_at_call 22; (with_reducible refine (HCy.out _ (HF.out.mono HB.out)).mono ?_); rintro e w3 ⟨rfl, hb3⟩; have HB3 := Lib.hid (HB.out.trans (hb3.mono hbz)); clear hb3)
        go_ret
        exact ⟨rfl, HB3.out⟩
      · have q : decide (z < (k : Int)) = false := decide_eq_false hd
        have HE2 := Lib.hid (show ((List.range (k + 1)).any fun i => decide (findN N (N.getD i emp) 0 < (i : Int))) = false by rw [List.range_succ, List.any_append, HE.out]; simp only [List.any_cons, List.any_nil, Bool.or_false, Bool.false_or]; rw [hgd, hz]; exact q)
        clear hE hB hc hm hmN hy hgd hz hd
        go_wp2_with (go_at_call 22; (with_reducible refine (HCy.out _ (HF.out.mono HB.out)).mono ?_); rintro e w3 ⟨rfl, hb3⟩; have HB3 := Lib.hid (HB.out.trans (hb3.mono hbz)); clear hb3)
        go_roundw
        case rel => exact ⟨k + 1, by omega, by go_num, HE2.out, HB3.out⟩
        case measure => simp [intOf]; omega
    · obtain rfl : k = n := by omega
      obtain rfl : R = false := by
        rw [← HR.out]
        unfold twiceN
        rw [HL.out]
        exact HE.out
      clear hE hB
      go_wp2
      go_ret
      exact ⟨rfl, HB.out⟩
set_option maxRecDepth 100000 in
set_option maxHeartbeats 2000000 in
theorem ptwice_any (a : Option Addr) (ka : Nat) (bs : List Bd) (w : World) (hF : BndL w a bs) (hl : bs.length ≤ 1000000) :
    Calls Try.prog 48 #[.slice a bs.length ka] w fun e w' => e = .returned (.bool (twiceN (bs.map pnm))) ∧ Below w.heap.size w w' := by
  obtain ⟨n, hn⟩ : ∃ n, bs.length = n := ⟨_, rfl⟩
  obtain ⟨N, hN⟩ : ∃ N, bs.map pnm = N := ⟨_, rfl⟩
  have HC := Lib.hid (fun (x : ByteArray) (V : World) (hV : BndL V a bs) => place_any a ka bs x V hV hl)
  have HN := Lib.hid hn
  have HM := Lib.hid hN
  have HL := Lib.hid (show N.length = n by rw [← hN, List.length_map, hn])
  obtain ⟨R, hR⟩ : ∃ R, twiceN N = R := ⟨_, rfl⟩
  have HR := Lib.hid hR
  have HF := Lib.hid hF
  rw [hn, hN] at HC
  rw [hn] at hl ⊢
  rw [hN, hR]
  clear hn hN hR hF
  go_enter Try.func48, Try.ntmps48
  go_wp2
  go_loopw [6] (fun vi wr => ∃ k : Nat, k ≤ n ∧ vi = .int .i64 k ∧ ((List.range k).any fun i => decide (findN N (N.getD i emp) 0 < (i : Int))) = false ∧ Below w.heap.size w wr) (fun vi _ => n - (intOf vi).toNat)
  case atStart => exact ⟨0, Nat.zero_le _, rfl, rfl, by (repeat' (first | with_reducible exact Below.refl _ _ | with_reducible assumption | with_reducible refine Below.drew ?_ | with_reducible refine below_drewN' ?_ _ | with_reducible refine Below.alloc ?_ ?_ _ | with_reducible refine Below.setCell ?_ ?_ _ | with_reducible refine below_step (by assumption) ?_ ?_ | omega | (simp; done) | (simp; omega)))⟩
  case round =>
    obtain ⟨k, hk, rfl, hE, hB⟩ := hrel
    have HE := Lib.hid hE
    have HB := Lib.hid hB
    have hbz := hB.size
    by_cases hlt : k < n
    · obtain ⟨m, hm⟩ := mem_at (l := bs) (k := k) (by rw [HN.out]; exact hlt)
      obtain ⟨b, o, rfl, hb, hc⟩ := HF.out (by rw [HN.out]; omega)
      have c0 : wr.cell? ⟨b, o + k * 21, none⟩ = some (.string (pnm m)) := by rw [hB.cell (p := ⟨b, o + k * 21, none⟩) hb]; exact hc k m hm 0 (by decide)
      have hbw : b < wr.heap.size := by omega
      have hmN := pnm_at hm
      rw [HM.out] at hmN
      obtain ⟨y, hy⟩ : ∃ y, pnm m = y := ⟨_, rfl⟩
      rw [hy] at c0 hmN
      have hgd : N.getD k emp = y := by rw [List.getD_eq_getElem?_getD, hmN]; rfl
      obtain ⟨z, hz⟩ : ∃ z, findN N y 0 = z := ⟨_, rfl⟩
      have HCy := Lib.hid (HC.out y)
      rw [hz] at HCy
      by_cases hd : z < (k : Int)
      · have q : decide (z < (k : Int)) = true := decide_eq_true hd
        obtain rfl : R = true := by
          rw [← HR.out]
          unfold twiceN
          rw [List.any_eq_true]
          exact ⟨k, List.mem_range.2 (by rw [HL.out]; exact hlt), by rw [hgd, hz]; exact q⟩
        clear hE hB hc hm hmN hy hgd hz hd
        go_wp2_with (go_at_call 42; (with_reducible refine (HCy.out _ (HF.out.mono HB.out)).mono ?_); rintro e w3 ⟨rfl, hb3⟩; have HB3 := Lib.hid (HB.out.trans (hb3.mono hbz)); clear hb3)
        go_ret
        exact ⟨rfl, HB3.out⟩
      · have q : decide (z < (k : Int)) = false := decide_eq_false hd
        have HE2 := Lib.hid (show ((List.range (k + 1)).any fun i => decide (findN N (N.getD i emp) 0 < (i : Int))) = false by rw [List.range_succ, List.any_append, HE.out]; simp only [List.any_cons, List.any_nil, Bool.or_false, Bool.false_or]; rw [hgd, hz]; exact q)
        clear hE hB hc hm hmN hy hgd hz hd
        go_wp2_with (go_at_call 42; (with_reducible refine (HCy.out _ (HF.out.mono HB.out)).mono ?_); rintro e w3 ⟨rfl, hb3⟩; have HB3 := Lib.hid (HB.out.trans (hb3.mono hbz)); clear hb3)
        go_roundw
        case rel => exact ⟨k + 1, by omega, by go_num, HE2.out, HB3.out⟩
        case measure => simp [intOf]; omega
    · obtain rfl : k = n := by omega
      obtain rfl : R = false := by
        rw [← HR.out]
        unfold twiceN
        rw [HL.out]
        exact HE.out
      clear hE hB
      go_wp2
      go_ret
      exact ⟨rfl, HB.out⟩
def onB (N : List ByteArray) (b : Bd) : Bool := decide (b.on = emp) || decide (0 ≤ findN N b.on 0)
set_option maxRecDepth 100000 in
set_option maxHeartbeats 2000000 in
theorem rbind_any (a : Option Addr) (ka : Nat) (ms : List Mac) (c : Option Addr) (kc : Nat) (bs : List Bd) (w : World) (hF : MacL w a ms) (hG : BndL w c bs) (hl : ms.length ≤ 1000000) (hl2 : bs.length ≤ 1000000) :
    Calls Try.prog 49 #[.slice a ms.length ka, .slice c bs.length kc] w fun e w' => e = .returned (.bool (bs.all (onB (ms.map Mac.nm)))) ∧ Below w.heap.size w w' := by
  obtain ⟨n, hn⟩ : ∃ n, bs.length = n := ⟨_, rfl⟩
  obtain ⟨N, hN⟩ : ∃ N, ms.map Mac.nm = N := ⟨_, rfl⟩
  have HC := Lib.hid (fun (x : ByteArray) (V : World) (hV : MacL V a ms) => find_any a ka ms x V hV hl)
  have HN := Lib.hid hn
  obtain ⟨R, hR⟩ : ∃ R, bs.all (onB N) = R := ⟨_, rfl⟩
  have HR := Lib.hid hR
  have HF := Lib.hid hF
  have HG := Lib.hid hG
  rw [hN] at HC
  rw [hn] at hl2 ⊢
  rw [hN, hR]
  clear hn hN hR hF hG
  go_enter Try.func49, Try.ntmps49
  go_wp2
  go_loopw [8] (fun vi wr => ∃ k : Nat, k ≤ n ∧ vi = .int .i64 k ∧ (bs.take k).all (onB N) = true ∧ Below w.heap.size w wr) (fun vi _ => n - (intOf vi).toNat)
  case atStart => exact ⟨0, Nat.zero_le _, rfl, rfl, by (repeat' (first | with_reducible exact Below.refl _ _ | with_reducible assumption | with_reducible refine Below.drew ?_ | with_reducible refine below_drewN' ?_ _ | with_reducible refine Below.alloc ?_ ?_ _ | with_reducible refine Below.setCell ?_ ?_ _ | with_reducible refine below_step (by assumption) ?_ ?_ | omega | (simp; done) | (simp; omega)))⟩
  case round =>
    obtain ⟨k, hk, rfl, hE, hB⟩ := hrel
    have HE := Lib.hid hE
    have HB := Lib.hid hB
    have hbz := hB.size
    by_cases hlt : k < n
    · obtain ⟨m, hm⟩ := mem_at (l := bs) (k := k) (by rw [HN.out]; exact hlt)
      obtain ⟨b, o, rfl, hb, hc⟩ := HG.out (by rw [HN.out]; omega)
      have c0 : wr.cell? ⟨b, o + k * 21 + 20, none⟩ = some (.string m.on) := by rw [hB.cell (p := ⟨b, o + k * 21 + 20, none⟩) hb]; exact hc k m hm 20 (by decide)
      have hbw : b < wr.heap.size := by omega
      have Hm := Lib.hid hm
      obtain ⟨y, hy⟩ : ∃ y, m.on = y := ⟨_, rfl⟩
      rw [hy] at c0
      have hon : onB N m = (decide (y = emp) || decide (0 ≤ findN N y 0)) := by unfold onB; rw [hy]
      have HCy := Lib.hid (HC.out y)
      obtain ⟨z, hz⟩ : ∃ z, findN N y 0 = z := ⟨_, rfl⟩
      rw [hz] at HCy hon
      have HOn := Lib.hid hon
      clear hE hB hc hm hy hz hon
      by_cases he : y = emp
      · obtain ⟨q1, q2, q3, q4⟩ := emp_lits he
        have HE2 := Lib.hid (all_take1 (P := onB N) Hm.out (by rw [HOn.out, decide_eq_true he]; rfl) HE.out)
        clear he
        go_wp2
        go_roundw
        case rel => exact ⟨k + 1, by omega, by go_num, HE2.out, HB.out⟩
        case measure => simp [intOf]; omega
      · obtain ⟨q1, q2, q3, q4⟩ := emp_litn he
        by_cases hd : z < 0
        · have q5 : decide (z < 0) = true := decide_eq_true hd
          obtain rfl : R = false := by
            rw [← HR.out]
            exact all_bad (P := onB N) Hm.out (by rw [HOn.out, decide_eq_false he, decide_eq_false (by omega)]; rfl)
          clear he hd
          go_wp2_with (go_at_call 22; (with_reducible refine (HCy.out _ (HF.out.mono HB.out)).mono ?_); rintro e w3 ⟨rfl, hb3⟩; have HB3 := Lib.hid (HB.out.trans (hb3.mono hbz)); clear hb3)
          go_ret
          exact ⟨rfl, HB3.out⟩
        · have q5 : decide (z < 0) = false := decide_eq_false hd
          have HE2 := Lib.hid (all_take1 (P := onB N) Hm.out (by rw [HOn.out, decide_eq_true (show 0 ≤ z by omega)]; simp) HE.out)
          clear he hd
          go_wp2_with (go_at_call 22; (with_reducible refine (HCy.out _ (HF.out.mono HB.out)).mono ?_); rintro e w3 ⟨rfl, hb3⟩; have HB3 := Lib.hid (HB.out.trans (hb3.mono hbz)); clear hb3)
          go_roundw
          case rel => exact ⟨k + 1, by omega, by go_num, HE2.out, HB3.out⟩
          case measure => simp [intOf]; omega
    · obtain rfl : k = n := by omega
      obtain rfl : R = true := by rw [← HR.out]; exact all_done (P := onB N) HN.out HE.out
      clear hE hB
      go_wp2
      go_ret
      exact ⟨rfl, HB.out⟩
/-- A machine that may stand in a yard. -/
def okM (m : Mac) : Bool := !decide (m.nm = emp) && rightM m
set_option maxRecDepth 100000 in
set_option maxHeartbeats 2000000 in
theorem rmacs_any (a : Option Addr) (ka : Nat) (ms : List Mac) (w : World) (hF : MacL w a ms) (hA : ∀ m ∈ ms, MacIn w m) (hLt : ∀ m ∈ ms, lightM m = true) (hl : ms.length ≤ 1000000) :
    Calls Try.prog 45 #[.slice a ms.length ka] w fun e w' => e = .returned (.bool (ms.all okM)) ∧ Below w.heap.size w w' := by
  obtain ⟨n, hn⟩ : ∃ n, ms.length = n := ⟨_, rfl⟩
  have HC := Lib.hid (fun (m : Mac) (hm : m ∈ ms) (V : World) (hV : Below w.heap.size w V) => srightm_any m V ((hA m hm).mono hV) (hLt m hm))
  have HN := Lib.hid hn
  obtain ⟨R, hR⟩ : ∃ R, ms.all okM = R := ⟨_, rfl⟩
  have HR := Lib.hid hR
  have HF := Lib.hid hF
  rw [hn] at hl ⊢
  rw [hR]
  clear hn hR hF hA hLt
  go_enter Try.func45, Try.ntmps45
  go_wp2
  go_loopw [6] (fun vi wr => ∃ k : Nat, k ≤ n ∧ vi = .int .i64 k ∧ (ms.take k).all okM = true ∧ Below w.heap.size w wr) (fun vi _ => n - (intOf vi).toNat)
  case atStart => exact ⟨0, Nat.zero_le _, rfl, rfl, by (repeat' (first | with_reducible exact Below.refl _ _ | with_reducible assumption | with_reducible refine Below.drew ?_ | with_reducible refine below_drewN' ?_ _ | with_reducible refine Below.alloc ?_ ?_ _ | with_reducible refine Below.setCell ?_ ?_ _ | with_reducible refine below_step (by assumption) ?_ ?_ | omega | (simp; done) | (simp; omega)))⟩
  case round =>
    obtain ⟨k, hk, rfl, hE, hB⟩ := hrel
    have HE := Lib.hid hE
    have HB := Lib.hid hB
    have hbz := hB.size
    by_cases hlt : k < n
    · obtain ⟨m, hm⟩ := mem_at (l := ms) (k := k) (by rw [HN.out]; exact hlt)
      obtain ⟨b, o, rfl, hb, hc⟩ := (HF.out.mono hB) (by rw [HN.out]; omega)
      have hrg : wr.rangeAt b (o + k * 10) (mrow m) := fun j v hj => by rw [hc k m hm j (by have := (List.getElem?_eq_some_iff.1 hj).1; exact this)]; exact hj
      have HRg := Lib.hid hrg
      have c0 : wr.cell? ⟨b, o + k * 10, none⟩ = some (.string m.nm) := hc k m hm 0 (by decide)
      have Hm := Lib.hid hm
      have HCm := Lib.hid (fun V hV => HC.out m (List.mem_of_getElem? hm) V hV)
      have hok : okM m = (!decide (m.nm = emp) && rightM m) := rfl
      obtain ⟨z, hz⟩ : ∃ z, rightM m = z := ⟨_, rfl⟩
      rw [hz] at HCm hok
      have HOk := Lib.hid hok
      obtain ⟨nm, gp, r0, r1, r2, r3, r4, la, lk, L, ta, tk, T, rd⟩ := m
      dsimp only at c0
      clear hE hB hc hm hz hok hrg
      by_cases he : nm = emp
      · obtain ⟨q1, q2, q3, q4⟩ := emp_lits he
        obtain rfl : R = false := by
          rw [← HR.out]
          exact all_bad (P := okM) Hm.out (by rw [HOk.out, decide_eq_true he]; rfl)
        clear he
        go_wp2
        go_ret
        exact ⟨rfl, HB.out⟩
      · obtain ⟨q1, q2, q3, q4⟩ := emp_litn he
        cases z with
        | false =>
          obtain rfl : R = false := by
            rw [← HR.out]
            exact all_bad (P := okM) Hm.out (by rw [HOk.out, Bool.and_false])
          clear he
          go_wp2_with (first
            | ((with_reducible refine at_load (ty := 35) ?_); refine load_cells rfl 35 (.tmp 18) rfl b (o + k * 10) rfl [.string nm, .string gp, .int .i64 r0, .int .i64 r1, .int .i64 r2, .int .i64 r3, .int .i64 r4, .slice la L.length lk, .slice ta T.length tk, .bool rd] _ Try.underlying35 rfl (by kernel_rfl) HRg.out ?_)
            | (go_at_call 80; (with_reducible refine (HCm.out _ HB.out).mono ?_); rintro e w3 ⟨rfl, hb3⟩; have HB3 := Lib.hid (HB.out.trans (hb3.mono hbz)); clear hb3))
          go_ret
          exact ⟨rfl, HB3.out⟩
        | true =>
          have HE2 := Lib.hid (all_take1 (P := okM) Hm.out (by rw [HOk.out, decide_eq_false he]; rfl) HE.out)
          clear he
          go_wp2_with (first
            | ((with_reducible refine at_load (ty := 35) ?_); refine load_cells rfl 35 (.tmp 18) rfl b (o + k * 10) rfl [.string nm, .string gp, .int .i64 r0, .int .i64 r1, .int .i64 r2, .int .i64 r3, .int .i64 r4, .slice la L.length lk, .slice ta T.length tk, .bool rd] _ Try.underlying35 rfl (by kernel_rfl) HRg.out ?_)
            | (go_at_call 80; (with_reducible refine (HCm.out _ HB.out).mono ?_); rintro e w3 ⟨rfl, hb3⟩; have HB3 := Lib.hid (HB.out.trans (hb3.mono hbz)); clear hb3))
          go_roundw
          case rel => exact ⟨k + 1, by omega, by go_num, HE2.out, HB3.out⟩
          case measure => simp [intOf]; omega
    · obtain rfl : k = n := by omega
      obtain rfl : R = true := by rw [← HR.out]; exact all_done (P := okM) HN.out HE.out
      clear hE hB
      go_wp2
      go_ret
      exact ⟨rfl, HB.out⟩
end Go.Proofs.Ythbpnfpalcgfeaa
