/-
  Nodes and numbers alike: the document's ways to tell; slices that a call made.
-/
import Derived.Test.YtlndfognkkobaaaTrL
import Derived.Test.YtlndfognkkobaaaTrN
import Derived.BigQuiet
namespace Go.Proofs.Ytlndfognkkobaaa
open Go.RowKit
set_option linter.unusedVariables false
set_option linter.unusedSimpArgs false

abbrev IntL := RowsAt intE 1
theorem own_list {α : Type} {enc : α → List Value} {K : Nat} (hk : ∀ x, (enc x).length = K) (h0 : 0 < K) {w : World} {B : Nat} {t : TypeId} {v : Value} {l : List α} (h : w.ownsRow B t K v l.length (l.flatMap enc)) : ∃ a k, v = .slice a l.length k ∧ (a = none → l.length = 0 ∧ k = 0) ∧ RowsAt enc K w a l := by
  obtain ⟨a, k, e, hc⟩ := own_rows hk h h0
  refine ⟨a, k, e, fun hn => ?_, fun h0 => ?_⟩
  · subst hn
    have hl : ¬ 0 < l.length := fun h0 => by obtain ⟨b, e, _⟩ := hc h0; cases e
    rcases h.2 with ⟨e1, _⟩ | ⟨g, cap, cur, e1, _⟩
    · rw [e1] at e
      injection e with _ _ e
      exact ⟨by omega, e.symm⟩
    · rw [e1] at e
      injection e with e
      cases e
  · obtain ⟨b, rfl, _, hb, hc⟩ := hc h0
    exact ⟨b, 0, rfl, hb, hc⟩
theorem own_nds {w : World} {B : Nat} {v : Value} {l : List Nd} (h : w.ownsRow B 40 4 v l.length (l.flatMap ndrow)) : ∃ a k, v = .slice a l.length k ∧ (a = none → l.length = 0 ∧ k = 0) ∧ NdL w a l := own_list ndrow_len (by decide) h
theorem own_ints {w : World} {B : Nat} {v : Value} {l : List Nat} (h : w.ownsRow B 3 1 v l.length (l.flatMap intE)) : ∃ a k, v = .slice a l.length k ∧ (a = none → l.length = 0 ∧ k = 0) ∧ IntL w a l := own_list intE_len (by decide) h
theorem nk_at {l m : List Nd} (h : l.map nk = m.map nk) {i : Nat} {x y : Nd} (hx : l[i]? = some x) (hy : m[i]? = some y) : x.kd = y.kd ∧ x.tx = y.tx ∧ x.ki = y.ki := by
  have e : (l.map nk)[i]? = (m.map nk)[i]? := by rw [h]
  rw [List.getElem?_map, List.getElem?_map, hx, hy] at e
  have e : nk x = nk y := by injection e
  unfold nk at e
  injection e with e1 e2
  injection e2 with e2 e3
  exact ⟨e1, e2, e3⟩
set_option maxRecDepth 100000 in
set_option maxHeartbeats 4000000 in
theorem same_nd (a : Option Addr) (ka : Nat) (l : List Nd) (b : Option Addr) (kb : Nat) (m : List Nd) (w : World) (hF : NdL w a l) (hG : NdL w b m) (hl : l.length ≤ 1000000) (h : l.map nk = m.map nk) :
    Calls Try.prog 21 #[.slice a l.length ka, .slice b m.length kb, .bool false] w fun e w' => e = .returned (.bool true) ∧ Below w.heap.size w w' := by
  have hlm : m.length = l.length := by have := congrArg List.length h; simp only [List.length_map] at this; exact this.symm
  rw [hlm]
  have HF := Lib.hid hF
  have HG := Lib.hid hG
  obtain ⟨n, hn⟩ : ∃ n, l.length = n := ⟨_, rfl⟩
  rw [hn] at hlm hl ⊢
  have Hln := Lib.hid hn
  have Hmn := Lib.hid hlm
  have HK := Lib.hid h
  clear hF hG hn hlm h
  have hq : ((n : Int) != n) = false := by simp
  go_enter Try.func21, Try.ntmps21
  go_wp2
  go_loopw [7] (fun i wr => ∃ k : Nat, k ≤ n ∧ i = .int .i64 k ∧ Below w.heap.size w wr) (fun i _ => n - (intOf i).toNat)
  case atStart => exact ⟨0, by omega, rfl, by (repeat' (first | with_reducible exact Below.refl _ _ | with_reducible assumption | with_reducible refine Below.drew ?_ | with_reducible refine below_drewN' ?_ _ | with_reducible refine Below.alloc ?_ ?_ _ | with_reducible refine Below.setCell ?_ ?_ _ | with_reducible refine below_step (by assumption) ?_ ?_ | omega | (simp; done) | (simp; omega)))⟩
  case round =>
    obtain ⟨k, hk, rfl, hB⟩ := hrel
    obtain ⟨hcB, hfB⟩ := bcell hB
    have hbz := hB.size
    by_cases hlt : k < n
    · obtain ⟨x, hx⟩ := mem_at (l := l) (k := k) (by rw [Hln.out]; exact hlt)
      obtain ⟨y, hy⟩ := mem_at (l := m) (k := k) (by rw [Hmn.out]; exact hlt)
      obtain ⟨b1, o1, rfl, hb1, hc1⟩ := HF.out (by rw [Hln.out]; omega)
      obtain ⟨b2, o2, rfl, hb2, hc2⟩ := HG.out (by rw [Hmn.out]; omega)
      obtain ⟨c0, c1, c2, _⟩ := nd_cells (hc1 k x hx)
      obtain ⟨d0, d1, d2, _⟩ := nd_cells (hc2 k y hy)
      obtain ⟨e1, e2, e3⟩ := nk_at HK.out hx hy
      rw [← e1] at d0
      rw [← e2] at d1
      rw [← e3] at d2
      obtain ⟨kd, hkd⟩ : ∃ kd, x.kd = kd := ⟨_, rfl⟩
      obtain ⟨tx, htx⟩ : ∃ tx, x.tx = tx := ⟨_, rfl⟩
      obtain ⟨ki, hki⟩ : ∃ ki, x.ki = ki := ⟨_, rfl⟩
      rw [hkd] at c0 d0
      rw [htx] at c1 d1
      rw [hki] at c2 d2
      have q1 : (kd != kd) = false := by simp
      have q2 : (tx.toList != tx.toList) = false := by simp
      have q3 : (ki != ki) = false := by simp
      have hbw1 : b1 < wr.heap.size := by omega
      have hbw2 : b2 < wr.heap.size := by omega
      clear hc1 hc2 hx hy e1 e2 e3 hkd htx hki
      go_wp2
      go_quiet (fail)
      go_wp2
      go_roundw
      case rel => exact ⟨k + 1, by omega, by go_num, by (repeat' (first | with_reducible exact Below.refl _ _ | with_reducible assumption | with_reducible refine Below.drew ?_ | with_reducible refine below_drewN' ?_ _ | with_reducible refine Below.alloc ?_ ?_ _ | with_reducible refine Below.setCell ?_ ?_ _ | with_reducible refine below_step (by assumption) ?_ ?_ | omega | (simp; done) | (simp; omega)))⟩
      case measure => simp [intOf]; omega
    · obtain rfl : k = n := by omega
      go_wp2
      go_ret
      exact ⟨rfl, by (repeat' (first | with_reducible exact Below.refl _ _ | with_reducible assumption | with_reducible refine Below.drew ?_ | with_reducible refine below_drewN' ?_ _ | with_reducible refine Below.alloc ?_ ?_ _ | with_reducible refine Below.setCell ?_ ?_ _ | with_reducible refine below_step (by assumption) ?_ ?_ | omega | (simp; done) | (simp; omega)))⟩
set_option maxRecDepth 100000 in
set_option maxHeartbeats 2000000 in
theorem ints_any (a : Option Addr) (ka : Nat) (l : List Nat) (b : Option Addr) (kb : Nat) (w : World) (hF : IntL w a l) (hG : IntL w b l) (hl : l.length ≤ 1000000) :
    Calls Try.prog 15 #[.slice a l.length ka, .slice b l.length kb] w fun e w' => e = .returned (.bool true) ∧ Below w.heap.size w w' := by
  have HF := Lib.hid hF
  have HG := Lib.hid hG
  obtain ⟨n, hn⟩ : ∃ n, l.length = n := ⟨_, rfl⟩
  rw [hn] at hl ⊢
  have Hln := Lib.hid hn
  clear hF hG hn
  have hq : ((n : Int) != n) = false := by simp
  go_enter Try.func15, Try.ntmps15
  go_wp2
  go_loopw [5] (fun i wr => ∃ k : Nat, k ≤ n ∧ i = .int .i64 k ∧ Below w.heap.size w wr) (fun i _ => n - (intOf i).toNat)
  case atStart => exact ⟨0, by omega, rfl, by (repeat' (first | with_reducible exact Below.refl _ _ | with_reducible assumption | with_reducible refine Below.drew ?_ | with_reducible refine below_drewN' ?_ _ | with_reducible refine Below.alloc ?_ ?_ _ | with_reducible refine Below.setCell ?_ ?_ _ | with_reducible refine below_step (by assumption) ?_ ?_ | omega | (simp; done) | (simp; omega)))⟩
  case round =>
    obtain ⟨k, hk, rfl, hB⟩ := hrel
    obtain ⟨hcB, hfB⟩ := bcell hB
    have hbz := hB.size
    by_cases hlt : k < n
    · obtain ⟨x, hx⟩ := mem_at (l := l) (k := k) (by rw [Hln.out]; exact hlt)
      obtain ⟨b1, o1, rfl, hb1, hc1⟩ := HF.out (by rw [Hln.out]; omega)
      obtain ⟨b2, o2, rfl, hb2, hc2⟩ := HG.out (by rw [Hln.out]; omega)
      have c0 := hc1 k x hx 0 (by decide)
      have d0 := hc2 k x hx 0 (by decide)
      dsimp only [intE, List.getElem?_cons_zero] at c0 d0
      rw [Nat.mul_one, Nat.add_zero] at c0 d0
      obtain ⟨z, hz⟩ : ∃ z : Int, (x : Int) = z := ⟨_, rfl⟩
      rw [hz] at c0 d0
      have q1 : (z != z) = false := by simp
      have hbw1 : b1 < wr.heap.size := by omega
      have hbw2 : b2 < wr.heap.size := by omega
      clear hc1 hc2 hx hz
      go_wp2
      go_quiet (fail)
      go_wp2
      go_roundw
      case rel => exact ⟨k + 1, by omega, by go_num, by (repeat' (first | with_reducible exact Below.refl _ _ | with_reducible assumption | with_reducible refine Below.drew ?_ | with_reducible refine below_drewN' ?_ _ | with_reducible refine Below.alloc ?_ ?_ _ | with_reducible refine Below.setCell ?_ ?_ _ | with_reducible refine below_step (by assumption) ?_ ?_ | omega | (simp; done) | (simp; omega)))⟩
      case measure => simp [intOf]; omega
    · obtain rfl : k = n := by omega
      go_wp2
      go_ret
      exact ⟨rfl, by (repeat' (first | with_reducible exact Below.refl _ _ | with_reducible assumption | with_reducible refine Below.drew ?_ | with_reducible refine below_drewN' ?_ _ | with_reducible refine Below.alloc ?_ ?_ _ | with_reducible refine Below.setCell ?_ ?_ _ | with_reducible refine below_step (by assumption) ?_ ?_ | omega | (simp; done) | (simp; omega)))⟩
end Go.Proofs.Ytlndfognkkobaaa
