/-
  Groups in a slice: the contracts of similar.Of's closure, slices.IndexFunc at it, triremeref16.Find.
-/
import Derived.Test.YtlgbbfaeclaghaaSimA
namespace Go.Proofs.Ytlgbbfaeclaghaa
open Go.RowKit
set_option linter.unusedVariables false

def GrpsAt (w : World) (a : Option Addr) (n : Nat) (G : Nat → Grp) : Prop :=
  0 < n → ∃ b off, a = some ⟨b, off, none⟩ ∧ b < w.heap.size ∧ ∀ i, i < n → ∀ r, r < 15 → w.cell? ⟨b, off + i * 15 + r, none⟩ = (G i).l[r]?

theorem GrpsAt.mono {w w' : World} {a : Option Addr} {n : Nat} {G : Nat → Grp} (h : GrpsAt w a n G) (hb : Below w.heap.size w w') : GrpsAt w' a n G := fun h0 => by
  obtain ⟨b, off, e, hlt, hc⟩ := h h0
  refine ⟨b, off, e, Nat.lt_of_lt_of_le hlt hb.size, fun i hi r hr => ?_⟩
  rw [hb.cell (p := ⟨b, _, none⟩) hlt]
  exact hc i hi r hr

theorem grp_cells {w : World} {b o : Nat} {g : Grp} (h : ∀ r, r < 15 → w.cell? ⟨b, o + r, none⟩ = g.l[r]?) :
    w.cell? ⟨b, o, none⟩ = some (.string g.nm) ∧ w.cell? ⟨b, o + 1, none⟩ = some (.int .i64 g.mn) ∧ w.cell? ⟨b, o + 2, none⟩ = some (.int .i64 g.mx) ∧ w.cell? ⟨b, o + 3, none⟩ = some (.string g.mm) ∧
    w.cell? ⟨b, o + 4, none⟩ = some (.string g.mg) ∧ w.cell? ⟨b, o + 5, none⟩ = some (.int .i64 g.r0) ∧ w.cell? ⟨b, o + 6, none⟩ = some (.int .i64 g.r1) ∧ w.cell? ⟨b, o + 7, none⟩ = some (.int .i64 g.r2) ∧
    w.cell? ⟨b, o + 8, none⟩ = some (.int .i64 g.r3) ∧ w.cell? ⟨b, o + 9, none⟩ = some (.int .i64 g.r4) ∧ w.cell? ⟨b, o + 10, none⟩ = some (.slice g.la g.ll g.lk) ∧ w.cell? ⟨b, o + 11, none⟩ = some (.slice g.ta g.tl g.tk) ∧
    w.cell? ⟨b, o + 12, none⟩ = some (.bool g.rd) ∧ w.cell? ⟨b, o + 13, none⟩ = some (.int .i64 g.pr) ∧ w.cell? ⟨b, o + 14, none⟩ = some (.int .i64 g.rk) :=
  ⟨h 0 (by decide), h 1 (by decide), h 2 (by decide), h 3 (by decide), h 4 (by decide), h 5 (by decide), h 6 (by decide), h 7 (by decide), h 8 (by decide), h 9 (by decide), h 10 (by decide), h 11 (by decide), h 12 (by decide), h 13 (by decide), h 14 (by decide)⟩

/-- The first place of a name, or -1. -/
def findN (N : Nat → ByteArray) (key : ByteArray) : Nat → Int
  | 0 => -1
  | k + 1 => if 0 ≤ findN N key k then findN N key k else if N k = key then k else -1

theorem findN_no (N : Nat → ByteArray) (key : ByteArray) (k : Nat) (h : ∀ j, j < k → N j ≠ key) : findN N key k = -1 := by
  induction k with
  | zero => rfl
  | succ k ih =>
    unfold findN
    rw [ih (fun j hj => h j (by omega)), if_neg (by omega), if_neg (h k (by omega))]
theorem findN_at (N : Nat → ByteArray) (key : ByteArray) (n k : Nat) (hk : k < n) (h : ∀ j, j < k → N j ≠ key) (he : N k = key) : findN N key n = k := by
  induction n with
  | zero => omega
  | succ n ih =>
    by_cases e : k = n
    · subst e
      unfold findN
      rw [findN_no N key k h, if_neg (by omega), if_pos he]
    · have := ih (by omega)
      unfold findN
      rw [this, if_pos (by omega)]
theorem findN_bd (N : Nat → ByteArray) (key : ByteArray) (n : Nat) : -1 ≤ findN N key n ∧ findN N key n < n := by
  induction n with
  | zero => simp [findN]
  | succ n ih => unfold findN; split <;> (try split) <;> omega

def nmB (a b : ByteArray) : Bool := decide (a = b)
theorem nmB_list (a b : ByteArray) : (a.toList == b.toList) = nmB a b := by
  unfold nmB
  by_cases h : a = b
  · subst h; simp
  · rw [decide_eq_false h, beq_eq_false_iff_ne]; exact fun e => h ((toList_inj _ _).1 e)

set_option maxRecDepth 100000 in
set_option maxHeartbeats 1000000 in
theorem ofc_any (g : Grp) (key : ByteArray) (b : Nat) (w : World) (hb : b < w.heap.size) (hc : w.cell? ⟨b, 0, none⟩ = some (.string key)) :
    Calls Try.prog 28 #[.agg g.l.toArray, .pointer (some ⟨b, 0, none⟩)] w fun e w' => e = .returned (.bool (nmB g.nm key)) ∧ Below w.heap.size w w' := by
  have He := Lib.hid (nmB_list g.nm key)
  cases h : nmB g.nm key
  all_goals
    have hd := He.out
    rw [h] at hd
    have H := Lib.hid h
    clear h
    unfold Grp.l
    go_enter Try.func28, Try.ntmps28
    go_wp2
    go_ret
    exact ⟨rfl, by (repeat' (first | with_reducible exact Below.refl _ _ | with_reducible assumption | with_reducible refine Below.drew ?_ | with_reducible refine below_drewN' ?_ _ | with_reducible refine Below.alloc ?_ ?_ _ | with_reducible refine Below.setCell ?_ ?_ _ | with_reducible refine below_step (by assumption) ?_ ?_ | omega | (simp; done) | (simp; omega)))⟩

set_option maxRecDepth 100000 in
set_option maxHeartbeats 2000000 in
theorem indexfunc_any (a : Option Addr) (n ka : Nat) (G : Nat → Grp) (key : ByteArray) (b : Nat) (w : World) (hG : GrpsAt w a n G) (hn : n ≤ 1000000) (hb : b < w.heap.size) (hc : w.cell? ⟨b, 0, none⟩ = some (.string key)) :
    Calls Try.prog 27 #[.slice a n ka, .func (.func 28) #[] #[.pointer (some ⟨b, 0, none⟩)]] w fun e w' => e = .returned (.int .i64 (findN (fun i => (G i).nm) key n)) ∧ Below w.heap.size w w' := by
  have HG := Lib.hid hG
  have Hc := Lib.hid hc
  clear hG hc
  go_enter Try.func27, Try.ntmps27
  go_wp2
  go_loopw [8] (fun i wr => ∃ k : Nat, k ≤ n ∧ i = .int .i64 k ∧ Below w.heap.size w wr ∧ ∀ j, j < k → (G j).nm ≠ key) (fun i _ => n - (intOf i).toNat)
  case atStart => exact ⟨0, by omega, rfl, by (repeat' (first | with_reducible exact Below.refl _ _ | with_reducible assumption | with_reducible refine Below.drew ?_ | with_reducible refine below_drewN' ?_ _ | with_reducible refine Below.alloc ?_ ?_ _ | with_reducible refine Below.setCell ?_ ?_ _ | with_reducible refine below_step (by assumption) ?_ ?_ | omega | (simp; done) | (simp; omega))), fun j hj => by omega⟩
  case round =>
    obtain ⟨k, hk, rfl, hB, hE⟩ := hrel
    obtain ⟨hcB, hfB⟩ := bcell hB
    have HE := Lib.hid hE
    have hzB := hB.size
    clear hE
    by_cases hlt : k < n
    · obtain ⟨b2, off, rfl, hb2, hc2⟩ := HG.out (by omega)
      have hbw2 : b2 < wr.heap.size := by omega
      have hbw : b < wr.heap.size := by omega
      obtain ⟨c0, c1, c2, c3, c4, c5, c6, c7, c8, c9, c10, c11, c12, c13, c14⟩ := grp_cells (hc2 k hlt)
      clear hc2
      by_cases he : (G k).nm = key
      · have hv : nmB (G k).nm key = true := decide_eq_true he
        have Hr := Lib.hid (findN_at (fun i => (G i).nm) key n k hlt HE.out he)
        have HF := Lib.hid (ofc_any (G k) key b wr hbw ((hcB b 0 hb).trans Hc.out))
        rw [hv] at HF
        unfold Grp.l at HF
        clear he hv
        go_wp2_with (go_at_call 28; (with_reducible refine (HF.out).mono ?_); rintro e w1 ⟨rfl, hb1⟩)
        go_ret
        exact ⟨by rw [Hr.out]; rfl, by (repeat' (first | with_reducible exact Below.refl _ _ | with_reducible assumption | with_reducible refine Below.drew ?_ | with_reducible refine below_drewN' ?_ _ | with_reducible refine Below.alloc ?_ ?_ _ | with_reducible refine Below.setCell ?_ ?_ _ | with_reducible refine below_step (by assumption) ?_ ?_ | omega | (simp; done) | (simp; omega)))⟩
      · have hv : nmB (G k).nm key = false := decide_eq_false he
        have HF := Lib.hid (ofc_any (G k) key b wr hbw ((hcB b 0 hb).trans Hc.out))
        have He := Lib.hid he
        rw [hv] at HF
        unfold Grp.l at HF
        clear he hv
        go_wp2_with (go_at_call 28; (with_reducible refine (HF.out).mono ?_); rintro e w1 ⟨rfl, hb1⟩)
        go_roundw
        case rel => exact ⟨k + 1, by omega, by go_num, by (repeat' (first | with_reducible exact Below.refl _ _ | with_reducible assumption | with_reducible refine Below.drew ?_ | with_reducible refine below_drewN' ?_ _ | with_reducible refine Below.alloc ?_ ?_ _ | with_reducible refine Below.setCell ?_ ?_ _ | with_reducible refine below_step (by assumption) ?_ ?_ | omega | (simp; done) | (simp; omega))), fun j hj => (Nat.lt_succ_iff_lt_or_eq.1 hj).elim (HE.out j) (fun e => e ▸ He.out)⟩
        case measure => simp [intOf]; omega
    · obtain rfl : k = n := by omega
      have Hr := Lib.hid (findN_no (fun i => (G i).nm) key k HE.out)
      go_wp2
      go_ret
      exact ⟨by rw [Hr.out]; rfl, by (repeat' (first | with_reducible exact Below.refl _ _ | with_reducible assumption | with_reducible refine Below.drew ?_ | with_reducible refine below_drewN' ?_ _ | with_reducible refine Below.alloc ?_ ?_ _ | with_reducible refine Below.setCell ?_ ?_ _ | with_reducible refine below_step (by assumption) ?_ ?_ | omega | (simp; done) | (simp; omega)))⟩

set_option maxRecDepth 100000 in
set_option maxHeartbeats 2000000 in
theorem find_any (a : Option Addr) (n ka : Nat) (G : Nat → Grp) (key : ByteArray) (w : World) (hG : GrpsAt w a n G) (hn : n ≤ 1000000) :
    Calls Try.prog 20 #[.slice a n ka, .string key] w fun e w' => e = .returned (.int .i64 (findN (fun i => (G i).nm) key n)) ∧ Below w.heap.size w w' := by
  have HG := Lib.hid hG
  clear hG
  go_enter Try.func20, Try.ntmps20
  go_wp2
  go_loopw [5] (fun i wr => ∃ k : Nat, k ≤ n ∧ i = .int .i64 k ∧ Below w.heap.size w wr ∧ ∀ j, j < k → (G j).nm ≠ key) (fun i _ => n - (intOf i).toNat)
  case atStart => exact ⟨0, by omega, rfl, by (repeat' (first | with_reducible exact Below.refl _ _ | with_reducible assumption | with_reducible refine Below.drew ?_ | with_reducible refine below_drewN' ?_ _ | with_reducible refine Below.alloc ?_ ?_ _ | with_reducible refine Below.setCell ?_ ?_ _ | with_reducible refine below_step (by assumption) ?_ ?_ | omega | (simp; done) | (simp; omega))), fun j hj => by omega⟩
  case round =>
    obtain ⟨k, hk, rfl, hB, hE⟩ := hrel
    obtain ⟨hcB, hfB⟩ := bcell hB
    have HE := Lib.hid hE
    have hzB := hB.size
    clear hE
    by_cases hlt : k < n
    · obtain ⟨b2, off, rfl, hb2, hc2⟩ := HG.out (by omega)
      have hbw2 : b2 < wr.heap.size := by omega
      obtain ⟨c0, -⟩ := grp_cells (hc2 k hlt)
      clear hc2
      have hd := nmB_list (G k).nm key
      by_cases he : (G k).nm = key
      · have hv : nmB (G k).nm key = true := decide_eq_true he
        have Hr := Lib.hid (findN_at (fun i => (G i).nm) key n k hlt HE.out he)
        rw [hv] at hd
        clear he hv
        go_wp2
        go_ret
        exact ⟨by rw [Hr.out]; rfl, by (repeat' (first | with_reducible exact Below.refl _ _ | with_reducible assumption | with_reducible refine Below.drew ?_ | with_reducible refine below_drewN' ?_ _ | with_reducible refine Below.alloc ?_ ?_ _ | with_reducible refine Below.setCell ?_ ?_ _ | with_reducible refine below_step (by assumption) ?_ ?_ | omega | (simp; done) | (simp; omega)))⟩
      · have hv : nmB (G k).nm key = false := decide_eq_false he
        have He := Lib.hid he
        rw [hv] at hd
        clear he hv
        go_wp2
        go_roundw
        case rel => exact ⟨k + 1, by omega, by go_num, by (repeat' (first | with_reducible exact Below.refl _ _ | with_reducible assumption | with_reducible refine Below.drew ?_ | with_reducible refine below_drewN' ?_ _ | with_reducible refine Below.alloc ?_ ?_ _ | with_reducible refine Below.setCell ?_ ?_ _ | with_reducible refine below_step (by assumption) ?_ ?_ | omega | (simp; done) | (simp; omega))), fun j hj => (Nat.lt_succ_iff_lt_or_eq.1 hj).elim (HE.out j) (fun e => e ▸ He.out)⟩
        case measure => simp [intOf]; omega
    · obtain rfl : k = n := by omega
      have Hr := Lib.hid (findN_no (fun i => (G i).nm) key k HE.out)
      go_wp2
      go_ret
      exact ⟨by rw [Hr.out]; rfl, by (repeat' (first | with_reducible exact Below.refl _ _ | with_reducible assumption | with_reducible refine Below.drew ?_ | with_reducible refine below_drewN' ?_ _ | with_reducible refine Below.alloc ?_ ?_ _ | with_reducible refine Below.setCell ?_ ?_ _ | with_reducible refine below_step (by assumption) ?_ ?_ | omega | (simp; done) | (simp; omega)))⟩
end Go.Proofs.Ytlgbbfaeclaghaa
