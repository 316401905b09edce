/-
  The contracts of slices.Index and Contains over texts, labels.exceeds, labels.Meets, triremeref05.Meets.
-/
import Derived.Test.YthbpnfpalcgfeaaME
import Derived.Test.YthbpnfpalcgfeaaLab6
import Derived.Test.YthbpnfpalcgfeaaQnt2
namespace Go.Proofs.Ythbpnfpalcgfeaa
namespace Lb
set_option linter.unusedSimpArgs false
open Go.RowKit
set_option linter.unusedVariables false

set_option maxRecDepth 100000 in
set_option maxHeartbeats 4000000 in
theorem indexs_any (c : Option Addr) (kc : Nat) (l : List ByteArray) (v : ByteArray) (w : World) (hF : TxtL w c l) (hm : l.length ≤ 1000000) :
    Calls Try.prog 103 #[.slice c l.length kc, .string v] w fun e w' => e = .returned (.int .i64 (idxI (strB v) l)) ∧ Below w.heap.size w w' := by
  have HF := Lib.hid hF
  clear hF
  obtain ⟨n, hln⟩ : ∃ n, l.length = n := ⟨_, rfl⟩
  rw [hln] at hm ⊢
  have Hln := Lib.hid hln
  clear hln
  go_enter Try.func103, Try.ntmps103
  go_wp2
  go_loopw [8] (fun i wr => ∃ k : Nat, k ≤ n ∧ i = .int .i64 k ∧ (l.take k).any (strB v) = false ∧ Below w.heap.size w wr) (fun i _ => n - (intOf i).toNat)
  case atStart => exact ⟨0, by omega, rfl, rfl, by (repeat' (first | with_reducible exact Below.refl _ _ | with_reducible assumption | with_reducible refine Below.drew ?_ | with_reducible refine below_drewN' ?_ _ | with_reducible refine Below.alloc ?_ ?_ _ | with_reducible refine Below.setCell ?_ ?_ _ | with_reducible refine below_step (by assumption) ?_ ?_ | omega | (simp; done) | (simp; omega)))⟩
  case round =>
    obtain ⟨k, hk, rfl, hE, hB⟩ := hrel
    obtain ⟨hcB, hfB⟩ := bcell hB
    have hbz := hB.size
    have HE := Lib.hid hE
    have HB := Lib.hid hB
    clear hE
    by_cases hlt : k < n
    · obtain ⟨x, hx⟩ := mem_at (l := l) (k := k) (by rw [Hln.out]; exact hlt)
      obtain ⟨b, off, rfl, hb, hc⟩ := HF.out (by rw [Hln.out]; omega)
      have hbw : b < wr.heap.size := by omega
      have c0 := txt_cell (hc k x hx)
      rw [Nat.mul_one] at c0
      have Hx := Lib.hid hx
      clear hc hx
      cases hv : strB v x
      · have Hs := Lib.hid (any_take1 (P := strB v) Hx.out hv HE.out)
        have k1 := (strB_list v x).trans hv
        clear hv
        go_wp2
        go_roundw
        case rel => exact ⟨k + 1, by omega, by go_num, Hs.out, by (repeat' (first | with_reducible exact Below.refl _ _ | with_reducible assumption | with_reducible refine Below.drew ?_ | with_reducible refine below_drewN' ?_ _ | with_reducible refine Below.alloc ?_ ?_ _ | with_reducible refine Below.setCell ?_ ?_ _ | with_reducible refine below_step (by assumption) ?_ ?_ | omega | (simp; done) | (simp; omega)))⟩
        case measure => simp [intOf]; omega
      · have Hs := Lib.hid (idx_at (p := strB v) Hx.out HE.out hv)
        have k1 := (strB_list v x).trans hv
        clear hv
        go_wp2
        go_ret
        exact ⟨by rw [Hs.out]; rfl, by (repeat' (first | with_reducible exact Below.refl _ _ | with_reducible assumption | with_reducible refine Below.drew ?_ | with_reducible refine below_drewN' ?_ _ | with_reducible refine Below.alloc ?_ ?_ _ | with_reducible refine Below.setCell ?_ ?_ _ | with_reducible refine below_step (by assumption) ?_ ?_ | omega | (simp; done) | (simp; omega)))⟩
    · obtain rfl : k = n := by omega
      have Hs := Lib.hid (idx_no (p := strB v) Hln.out HE.out)
      go_wp2
      go_ret
      exact ⟨by rw [Hs.out]; rfl, by (repeat' (first | with_reducible exact Below.refl _ _ | with_reducible assumption | with_reducible refine Below.drew ?_ | with_reducible refine below_drewN' ?_ _ | with_reducible refine Below.alloc ?_ ?_ _ | with_reducible refine Below.setCell ?_ ?_ _ | with_reducible refine below_step (by assumption) ?_ ?_ | omega | (simp; done) | (simp; omega)))⟩

set_option maxRecDepth 100000 in
theorem containss_any (c : Option Addr) (kc : Nat) (l : List ByteArray) (v : ByteArray) (w : World) (hF : TxtL w c l) (hm : l.length ≤ 1000000) :
    Calls Try.prog 79 #[.slice c l.length kc, .string v] w fun e w' => e = .returned (.bool (l.any (strB v))) ∧ Below w.heap.size w w' := by
  rw [← idx_geq]
  have A := fun V (h : TxtL V c l) => indexs_any c kc l v V h hm
  obtain ⟨i, hi⟩ : ∃ i, idxI (strB v) l = i := ⟨_, rfl⟩
  rw [hi]
  simp only [hi] at A
  clear hi
  have HA := Lib.hid A
  clear A
  go_enter Try.func79, Try.ntmps79
  go_wp2_with (go_at_call 103; (with_reducible refine (HA.out _ (hF.mono (by (repeat' (first | with_reducible exact Below.refl _ _ | with_reducible assumption | with_reducible refine Below.drew ?_ | with_reducible refine below_drewN' ?_ _ | with_reducible refine Below.alloc ?_ ?_ _ | with_reducible refine Below.setCell ?_ ?_ _ | with_reducible refine below_step (by assumption) ?_ ?_ | omega | (simp; done) | (simp; omega)))))).mono ?_); rintro e w1 ⟨rfl, hb1⟩; have hz1 := hb1.size; (try simp at hz1))
  go_ret
  exact ⟨by first | rfl | simp, by (repeat' (first | with_reducible exact Below.refl _ _ | with_reducible assumption | with_reducible refine Below.drew ?_ | with_reducible refine below_drewN' ?_ _ | with_reducible refine Below.alloc ?_ ?_ _ | with_reducible refine Below.setCell ?_ ?_ _ | with_reducible refine below_step (by assumption) ?_ ?_ | omega | (simp; done) | (simp; omega)))⟩

/-- Both are numbers, and the one is more than the other, or less. -/
def excB (a b : ByteArray) (op : Int) : Bool := decide ((numV a).2 = 0) && decide ((numV b).2 = 0) && (if op = 6 then decide ((numV a).1 < (numV b).1) else decide ((numV b).1 < (numV a).1))
set_option maxRecDepth 100000 in
set_option maxHeartbeats 4000000 in
theorem exceeds_any (a b : ByteArray) (op : Int) (ha : a.size ≤ 1000000000) (hb : b.size ≤ 1000000000) (w : World) :
    Calls Try.prog 117 #[.string a, .string b, .int .i64 op] w fun e w' => e = .returned (.bool (excB a b op)) ∧ Below w.heap.size w w' := by
  have A := fun V => number_any a ha V
  have B := fun V => number_any b hb V
  unfold excB
  obtain ⟨⟨x, e⟩, hx⟩ : ∃ d, numV a = d := ⟨_, rfl⟩
  obtain ⟨⟨y, f⟩, hy⟩ : ∃ d, numV b = d := ⟨_, rfl⟩
  rw [hx] at A ⊢
  rw [hy] at B ⊢
  dsimp only at A B ⊢
  have HA := Lib.hid A
  have HB := Lib.hid B
  clear A B hx hy
  by_cases h1 : e = 0
  · have g1 : (e != 0) = false := by simpa using h1
    rw [decide_eq_true h1]
    by_cases h2 : f = 0
    · have g2 : (f != 0) = false := by simpa using h2
      rw [decide_eq_true h2]
      by_cases h3 : op = 6
      · have g3 : (op == 6) = true := by simpa using h3
        rw [if_pos h3]
        clear h1 h2 h3
        go_enter Try.func117, Try.ntmps117
        go_wp2_with (first | (go_at_call 136; (with_reducible refine (number_any a ha _).mono ?_); fail) | ((with_reducible refine (HA.out _).mono ?_); rintro e w1 ⟨rfl, hb1⟩; obtain ⟨hc1, hf1⟩ := bcell hb1; have hz1 := hb1.size) | ((with_reducible refine (HB.out _).mono ?_); rintro e w2 ⟨rfl, hb2⟩; obtain ⟨hc2, hf2⟩ := bcell hb2; have hz2 := hb2.size))
        go_ret
        exact ⟨by simp, by (repeat' (first | with_reducible exact Below.refl _ _ | with_reducible assumption | with_reducible refine Below.drew ?_ | with_reducible refine below_drewN' ?_ _ | with_reducible refine Below.alloc ?_ ?_ _ | with_reducible refine Below.setCell ?_ ?_ _ | with_reducible refine below_step (by assumption) ?_ ?_ | omega | (simp; done) | (simp; omega)))⟩
      · have g3 : (op == 6) = false := by simpa using h3
        rw [if_neg h3]
        clear h1 h2 h3
        go_enter Try.func117, Try.ntmps117
        go_wp2_with (first | ((with_reducible refine (HA.out _).mono ?_); rintro e w1 ⟨rfl, hb1⟩; obtain ⟨hc1, hf1⟩ := bcell hb1; have hz1 := hb1.size) | ((with_reducible refine (HB.out _).mono ?_); rintro e w2 ⟨rfl, hb2⟩; obtain ⟨hc2, hf2⟩ := bcell hb2; have hz2 := hb2.size))
        go_ret
        exact ⟨by simp, by (repeat' (first | with_reducible exact Below.refl _ _ | with_reducible assumption | with_reducible refine Below.drew ?_ | with_reducible refine below_drewN' ?_ _ | with_reducible refine Below.alloc ?_ ?_ _ | with_reducible refine Below.setCell ?_ ?_ _ | with_reducible refine below_step (by assumption) ?_ ?_ | omega | (simp; done) | (simp; omega)))⟩
    · have g2 : (f != 0) = true := by simpa using h2
      rw [decide_eq_false h2]
      clear h1 h2
      go_enter Try.func117, Try.ntmps117
      go_wp2_with (first | ((with_reducible refine (HA.out _).mono ?_); rintro e w1 ⟨rfl, hb1⟩; obtain ⟨hc1, hf1⟩ := bcell hb1; have hz1 := hb1.size) | ((with_reducible refine (HB.out _).mono ?_); rintro e w2 ⟨rfl, hb2⟩; obtain ⟨hc2, hf2⟩ := bcell hb2; have hz2 := hb2.size))
      all_goals (go_ret; exact ⟨by simp, by (repeat' (first | with_reducible exact Below.refl _ _ | with_reducible assumption | with_reducible refine Below.drew ?_ | with_reducible refine below_drewN' ?_ _ | with_reducible refine Below.alloc ?_ ?_ _ | with_reducible refine Below.setCell ?_ ?_ _ | with_reducible refine below_step (by assumption) ?_ ?_ | omega | (simp; done) | (simp; omega)))⟩)
  · have g1 : (e != 0) = true := by simpa using h1
    rw [decide_eq_false h1]
    clear h1
    go_enter Try.func117, Try.ntmps117
    go_wp2_with (first | ((with_reducible refine (HA.out _).mono ?_); rintro e w1 ⟨rfl, hb1⟩; obtain ⟨hc1, hf1⟩ := bcell hb1; have hz1 := hb1.size) | ((with_reducible refine (HB.out _).mono ?_); rintro e w2 ⟨rfl, hb2⟩; obtain ⟨hc2, hf2⟩ := bcell hb2; have hz2 := hb2.size))
    all_goals (go_ret; exact ⟨by simp, by (repeat' (first | with_reducible exact Below.refl _ _ | with_reducible assumption | with_reducible refine Below.drew ?_ | with_reducible refine below_drewN' ?_ _ | with_reducible refine Below.alloc ?_ ?_ _ | with_reducible refine Below.setCell ?_ ?_ _ | with_reducible refine below_step (by assumption) ?_ ?_ | omega | (simp; done) | (simp; omega)))⟩)

structure Trm where
  key : ByteArray
  op : Int
  va : Option Addr
  vk : Nat
  vals : List ByteArray
def trcs (t : Trm) : List Value := [.string t.key, .int .i64 t.op, .slice t.va t.vals.length t.vk]
theorem trcs_len (t : Trm) : (trcs t).length = 3 := rfl
abbrev TrmL := RowsAt trcs 3
/-- The values of a term lie in memory. -/
def TrmAt (w : World) (t : Trm) : Prop := TxtL w t.va t.vals ∧ t.vals.length ≤ maxLen
theorem TrmAt.mono {w w' : World} {t : Trm} (h : TrmAt w t) (hb : Below w.heap.size w w') : TrmAt w' t := ⟨h.1.mono hb, h.2⟩

/-- Whether labels meet a term. -/
def meetP (l : List Lab) (t : Trm) : Bool :=
  if t.op = 2 then !(getB l t.key && t.vals.any (strB (getV l t.key)))
  else if t.op = 1 then (getB l t.key && t.vals.any (strB (getV l t.key)))
  else if t.op = 4 then !getB l t.key
  else if t.op = 3 then getB l t.key
  else if t.op = 6 ∨ t.op = 5 then getB l t.key && decide (t.vals.length = 1) && excB (getV l t.key) (t.vals[0]?.getD emp) t.op
  else false
theorem getV_size {l : List Lab} {key : ByteArray} (h : ∀ x ∈ l, x.val.size ≤ 1000000000) : (getV l key).size ≤ 1000000000 := by
  unfold getV
  split
  next x hx => exact h x (List.mem_of_find?_eq_some hx)
  next => exact (by decide : emp.size ≤ 1000000000)
theorem op_cases (op : Int) : (op = 2 ∧ (op == 2) = true) ∨ (op = 1 ∧ (op == 2) = false ∧ (op == 1) = true) ∨ (op = 4 ∧ (op == 2) = false ∧ (op == 1) = false ∧ (op == 4) = true) ∨ (op = 3 ∧ (op == 2) = false ∧ (op == 1) = false ∧ (op == 4) = false ∧ (op == 3) = true) ∨
    (op = 6 ∧ (op == 2) = false ∧ (op == 1) = false ∧ (op == 4) = false ∧ (op == 3) = false ∧ (op == 6) = true) ∨ (op = 5 ∧ (op == 2) = false ∧ (op == 1) = false ∧ (op == 4) = false ∧ (op == 3) = false ∧ (op == 6) = false ∧ (op == 5) = true) ∨
    ((op ≠ 2 ∧ op ≠ 1 ∧ op ≠ 4 ∧ op ≠ 3 ∧ op ≠ 6 ∧ op ≠ 5) ∧ (op == 2) = false ∧ (op == 1) = false ∧ (op == 4) = false ∧ (op == 3) = false ∧ (op == 6) = false ∧ (op == 5) = false) := by
  simp only [beq_iff_eq, beq_eq_false_iff_ne]
  omega
end Lb
end Go.Proofs.Ythbpnfpalcgfeaa
