/-
  End: where a tree ends.
-/
import Derived.Test.YtlndfognkkobaaaTrP
namespace Go.Proofs.Ytlndfognkkobaaa
open Go.RowKit
set_option linter.unusedVariables false
set_option linter.unusedSimpArgs false

theorem nd_cells {w : World} {b o : Nat} {t : Nd} (h : ∀ r, r < 4 → w.cell? ⟨b, o + r, none⟩ = (ndrow t)[r]?) :
    w.cell? ⟨b, o, none⟩ = some (.int .i64 t.kd) ∧ w.cell? ⟨b, o + 1, none⟩ = some (.string t.tx) ∧ w.cell? ⟨b, o + 2, none⟩ = some (.int .i64 t.ki) ∧ w.cell? ⟨b, o + 3, none⟩ = some (.int .i64 t.po) :=
  ⟨h 0 (by decide), h 1 (by decide), h 2 (by decide), h 3 (by decide)⟩
theorem drop_at {l : List Nd} {k : Nat} {x : Nd} (h : l[k]? = some x) : l.drop k = x :: l.drop (k + 1) := by
  obtain ⟨h1, h2⟩ := List.getElem?_eq_some_iff.1 h
  rw [List.drop_eq_getElem_cons h1, h2]
theorem end_in {l : List Nd} {i : Nat} (h : i < l.length) : endB l i = match fin (l.drop i) 1 with
    | none => -1
    | some r => ((l.length - r.length : Nat) : Int) := by
  unfold endB
  rw [if_neg (by omega)]
  rfl
theorem end_some {l : List Nd} {i k : Nat} (h : i < l.length) (hk : k ≤ l.length) (hf : fin (l.drop i) 1 = fin (l.drop k) 0) : endB l i = k := by
  rw [end_in h, hf, fin_zero]
  show ((l.length - (l.drop k).length : Nat) : Int) = k
  rw [List.length_drop]
  omega
theorem end_none {l : List Nd} {i : Nat} (h : i < l.length) (hf : fin (l.drop i) 1 = none) : endB l i = -1 := by
  rw [end_in h, hf]
set_option maxRecDepth 100000 in
set_option maxHeartbeats 2000000 in
theorem end_any (a : Option Addr) (ka : Nat) (l : List Nd) (i : Int) (w : World) (hF : NdL w a l) (hl : l.length ≤ 1000000) :
    Calls Try.prog 13 #[.slice a l.length ka, .int .i64 i] w fun e w' => e = .returned (.int .i64 (endB l i)) ∧ Below w.heap.size w w' := by
  have HF := Lib.hid hF
  obtain ⟨n, hn⟩ : ∃ n, l.length = n := ⟨_, rfl⟩
  have HN := Lib.hid hn
  obtain ⟨R, hR⟩ : ∃ R, endB l i = R := ⟨_, rfl⟩
  have HR := Lib.hid hR
  rw [hn] at hl ⊢
  rw [hR]
  clear hF hn hR
  by_cases h0 : i < 0
  · have k1 : decide (i < 0) = true := decide_eq_true h0
    have hr : R = -1 := by rw [← HR.out]; unfold endB; rw [if_pos (.inl h0)]
    subst hr
    clear h0
    go_enter Try.func13, Try.ntmps13
    go_wp2
    go_ret
    exact ⟨rfl, by (repeat' (first | with_reducible exact Below.refl _ _ | with_reducible assumption | with_reducible refine Below.drew ?_ | with_reducible refine below_drewN' ?_ _ | with_reducible refine Below.alloc ?_ ?_ _ | with_reducible refine Below.setCell ?_ ?_ _ | with_reducible refine below_step (by assumption) ?_ ?_ | omega | (simp; done) | (simp; omega)))⟩
  have k1 : decide (i < 0) = false := decide_eq_false h0
  by_cases h1 : (n : Int) ≤ i
  · have k2 : decide ((n : Int) ≤ i) = true := decide_eq_true h1
    have hr : R = -1 := by rw [← HR.out]; unfold endB; rw [if_pos (.inr (by rw [HN.out]; exact h1))]
    subst hr
    clear h0 h1
    go_enter Try.func13, Try.ntmps13
    go_wp2
    go_ret
    exact ⟨rfl, by (repeat' (first | with_reducible exact Below.refl _ _ | with_reducible assumption | with_reducible refine Below.drew ?_ | with_reducible refine below_drewN' ?_ _ | with_reducible refine Below.alloc ?_ ?_ _ | with_reducible refine Below.setCell ?_ ?_ _ | with_reducible refine below_step (by assumption) ?_ ?_ | omega | (simp; done) | (simp; omega)))⟩
  obtain ⟨i0, rfl⟩ : ∃ i0 : Nat, i = (i0 : Int) := ⟨i.toNat, by omega⟩
  have hi : i0 < n := by omega
  have Hi := Lib.hid (show i0 < l.length by rw [HN.out]; exact hi)
  have k2 : decide ((n : Int) ≤ (i0 : Int)) = false := decide_eq_false (by omega)
  clear h0 h1
  go_enter Try.func13, Try.ntmps13
  go_wp2
  go_loop [1, 5] (fun vi vn => ∃ k m : Nat, k ≤ n ∧ m ≤ 2 * n + 1 ∧ vi = .int .i64 k ∧ vn = .int .i64 m ∧ fin (l.drop i0) 1 = fin (l.drop k) m) (fun vi _ => n + 1 - (intOf vi).toNat)
  case atStart => exact ⟨i0, 1, by omega, by omega, rfl, rfl, rfl⟩
  case round =>
    obtain ⟨k, m, hk, hm, rfl, rfl, hf⟩ := hrel
    have Hf := Lib.hid hf
    clear hf k1 k2
    by_cases hm0 : m = 0
    · subst hm0
      have hr : R = k := by rw [← HR.out]; exact end_some Hi.out (by rw [HN.out]; exact hk) Hf.out
      subst hr
      go_wp2
      go_ret
      exact ⟨rfl, by (repeat' (first | with_reducible exact Below.refl _ _ | with_reducible assumption | with_reducible refine Below.drew ?_ | with_reducible refine below_drewN' ?_ _ | with_reducible refine Below.alloc ?_ ?_ _ | with_reducible refine Below.setCell ?_ ?_ _ | with_reducible refine below_step (by assumption) ?_ ?_ | omega | (simp; done) | (simp; omega)))⟩
    obtain ⟨m, rfl⟩ : ∃ q, m = q + 1 := ⟨m - 1, by omega⟩
    by_cases hmk : n - k < m + 1
    · have q1 : decide ((n : Int) - (k : Int) < (m : Int) + 1) = true := decide_eq_true (by omega)
      have hr : R = -1 := by
        rw [← HR.out]
        refine end_none Hi.out ?_
        rw [Hf.out]
        exact fin_few (by rw [List.length_drop, HN.out]; exact hmk)
      subst hr
      clear hmk hm0
      go_wp2
      go_ret
      exact ⟨rfl, by (repeat' (first | with_reducible exact Below.refl _ _ | with_reducible assumption | with_reducible refine Below.drew ?_ | with_reducible refine below_drewN' ?_ _ | with_reducible refine Below.alloc ?_ ?_ _ | with_reducible refine Below.setCell ?_ ?_ _ | with_reducible refine below_step (by assumption) ?_ ?_ | omega | (simp; done) | (simp; omega)))⟩
    have q1 : decide ((n : Int) - (k : Int) < (m : Int) + 1) = false := decide_eq_false (by omega)
    have hlt : k < n := by omega
    obtain ⟨x, hx⟩ := mem_at (l := l) (k := k) (by rw [HN.out]; exact hlt)
    obtain ⟨b, o, rfl, hb, hc⟩ := HF.out (by rw [HN.out]; omega)
    obtain ⟨_, _, c2, _⟩ := nd_cells (hc k x hx)
    have hd : fin (l.drop i0) 1 = if 0 ≤ x.ki then fin (l.drop (k + 1)) (m + x.ki.toNat) else none := by rw [Hf.out, drop_at hx, fin_cons]
    have Hd := Lib.hid hd
    obtain ⟨ki, hki⟩ : ∃ ki, x.ki = ki := ⟨_, rfl⟩
    rw [hki] at c2 Hd
    clear hc hx hki hd hmk hm0 Hf
    by_cases g0 : ki < 0
    · have q2 : decide (ki < 0) = true := decide_eq_true g0
      have hr : R = -1 := by rw [← HR.out]; exact end_none Hi.out (by rw [Hd.out, if_neg (by omega)])
      subst hr
      clear g0
      go_wp2
      go_ret
      exact ⟨rfl, by (repeat' (first | with_reducible exact Below.refl _ _ | with_reducible assumption | with_reducible refine Below.drew ?_ | with_reducible refine below_drewN' ?_ _ | with_reducible refine Below.alloc ?_ ?_ _ | with_reducible refine Below.setCell ?_ ?_ _ | with_reducible refine below_step (by assumption) ?_ ?_ | omega | (simp; done) | (simp; omega)))⟩
    have q2 : decide (ki < 0) = false := decide_eq_false g0
    by_cases g1 : (n : Int) ≤ ki
    · have q3 : decide ((n : Int) ≤ ki) = true := decide_eq_true g1
      have hr : R = -1 := by
        rw [← HR.out]
        refine end_none Hi.out ?_
        rw [Hd.out, if_pos (by omega)]
        exact fin_few (by rw [List.length_drop, HN.out]; omega)
      subst hr
      clear g0 g1
      go_wp2
      go_ret
      exact ⟨rfl, by (repeat' (first | with_reducible exact Below.refl _ _ | with_reducible assumption | with_reducible refine Below.drew ?_ | with_reducible refine below_drewN' ?_ _ | with_reducible refine Below.alloc ?_ ?_ _ | with_reducible refine Below.setCell ?_ ?_ _ | with_reducible refine below_step (by assumption) ?_ ?_ | omega | (simp; done) | (simp; omega)))⟩
    have q3 : decide ((n : Int) ≤ ki) = false := decide_eq_false g1
    have h9 : m + 1 + k ≤ n := by
      have := of_decide_eq_false q1
      omega
    go_wp2
    go_round
    case rel => exact ⟨k + 1, m + ki.toNat, by omega, by omega, by go_num, by go_num, by rw [Hd.out, if_pos (by omega)]⟩
    case measure => simp [intOf]; omega
end Go.Proofs.Ytlndfognkkobaaa
