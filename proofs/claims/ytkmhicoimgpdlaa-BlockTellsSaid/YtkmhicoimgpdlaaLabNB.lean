/-
  Labels: texts, terms, Right, Has, All.
-/
import Derived.Test.YtkmhicoimgpdlaaME
import Derived.Test.YtkmhicoimgpdlaaMG
import Derived.Test.YtkmhicoimgpdlaaLabNA
import Derived.Test.YtkmhicoimgpdlaaMB
import Derived.Maps.OwnSet
import Derived.StringKeys
namespace Go.Proofs.Ytkmhicoimgpdlaa
namespace Lb
open Go.RowKit
set_option linter.unusedSimpArgs false
set_option linter.unusedVariables false

/-- Both are numbers, and the one is more than the other, or less. -/
def excB (a b : ByteArray) (op : Int) : Bool := decide ((numV a).2 = 0) && decide ((numV b).2 = 0) && (if op = 6 then decide ((numV a).1 < (numV b).1) else decide ((numV b).1 < (numV a).1))
structure Trm where
  key : ByteArray
  op : Int
  va : Option Addr
  vk : Nat
  vals : List ByteArray
def trcs (t : Trm) : List Value := [.string t.key, .int .i64 t.op, .slice t.va t.vals.length t.vk]
theorem trcs_len (t : Trm) : (trcs t).length = 3 := rfl
abbrev TrmL := RowsAt trcs 3
/-- The values of a term lie in memory. -/
def TrmAt (w : World) (t : Trm) : Prop := TxtL w t.va t.vals ∧ t.vals.length ≤ maxLen
theorem TrmAt.mono {w w' : World} {t : Trm} (h : TrmAt w t) (hb : Below w.heap.size w w') : TrmAt w' t := ⟨h.1.mono hb, h.2⟩

/-- Whether labels meet a term. -/
def meetP (l : List Lab) (t : Trm) : Bool :=
  if t.op = 2 then !(getB l t.key && t.vals.any (strB (getV l t.key)))
  else if t.op = 1 then (getB l t.key && t.vals.any (strB (getV l t.key)))
  else if t.op = 4 then !getB l t.key
  else if t.op = 3 then getB l t.key
  else if t.op = 6 ∨ t.op = 5 then getB l t.key && decide (t.vals.length = 1) && excB (getV l t.key) (t.vals[0]?.getD emp) t.op
  else false
theorem getV_size {l : List Lab} {key : ByteArray} (h : ∀ x ∈ l, x.val.size ≤ 1000000000) : (getV l key).size ≤ 1000000000 := by
  unfold getV
  split
  next x hx => exact h x (List.mem_of_find?_eq_some hx)
  next => exact (by decide : emp.size ≤ 1000000000)
theorem op_cases (op : Int) : (op = 2 ∧ (op == 2) = true) ∨ (op = 1 ∧ (op == 2) = false ∧ (op == 1) = true) ∨ (op = 4 ∧ (op == 2) = false ∧ (op == 1) = false ∧ (op == 4) = true) ∨ (op = 3 ∧ (op == 2) = false ∧ (op == 1) = false ∧ (op == 4) = false ∧ (op == 3) = true) ∨
    (op = 6 ∧ (op == 2) = false ∧ (op == 1) = false ∧ (op == 4) = false ∧ (op == 3) = false ∧ (op == 6) = true) ∨ (op = 5 ∧ (op == 2) = false ∧ (op == 1) = false ∧ (op == 4) = false ∧ (op == 3) = false ∧ (op == 6) = false ∧ (op == 5) = true) ∨
    ((op ≠ 2 ∧ op ≠ 1 ∧ op ≠ 4 ∧ op ≠ 3 ∧ op ≠ 6 ∧ op ≠ 5) ∧ (op == 2) = false ∧ (op == 1) = false ∧ (op == 4) = false ∧ (op == 3) = false ∧ (op == 6) = false ∧ (op == 5) = false) := by
  simp only [beq_iff_eq, beq_eq_false_iff_ne]
  omega
/-- Whether a term is right. -/
def rtrm (t : Trm) : Bool := wordB t.key && (if t.op = 1 ∨ t.op = 2 then decide (1 ≤ t.vals.length) && (decide (t.vals.length ≤ 16) && t.vals.all weB)
  else if t.op = 3 ∨ t.op = 4 then decide (t.vals.length = 0)
  else if t.op = 5 ∨ t.op = 6 then decide (t.vals.length = 1) && decide ((numV (t.vals[0]?.getD emp)).2 = 0) else false)
theorem all_any (l : List ByteArray) : l.all weB = !(l.any fun s => !weB s) := by rw [List.not_any_eq_all_not]; simp

def hasP (l some : List Lab) : Bool := some.all fun x => l.any (labB x)

set_option maxRecDepth 100000 in
set_option maxHeartbeats 4000000 in
theorem has_any (c a : Option Addr) (kc ka : Nat) (l xs : List Lab) (w : World) (hF : LabL w c l) (hD : LabL w a xs) (hm : l.length ≤ 1000000) (hn : xs.length ≤ 1000000) :
    Calls Try.prog 92 #[.slice c l.length kc, .slice a xs.length ka] w fun e w' => e = .returned (.bool (hasP l xs)) ∧ Below w.heap.size w w' := by
  have HF := Lib.hid hF
  have HD := Lib.hid hD
  clear hF hD
  obtain ⟨n, hln⟩ : ∃ n, xs.length = n := ⟨_, rfl⟩
  rw [hln] at hn ⊢
  have Hln := Lib.hid hln
  clear hln
  go_enter Try.func92, Try.ntmps92
  go_wp2
  go_loopw [9] (fun i wr => ∃ k : Nat, k ≤ n ∧ i = .int .i64 k ∧ (xs.take k).all (fun x => l.any (labB x)) = true ∧ Below w.heap.size w wr) (fun i _ => n - (intOf i).toNat)
  case atStart => exact ⟨0, by omega, rfl, rfl, by (repeat' (first | with_reducible exact Below.refl _ _ | with_reducible assumption | with_reducible refine Below.drew ?_ | with_reducible refine below_drewN' ?_ _ | with_reducible refine Below.alloc ?_ ?_ _ | with_reducible refine Below.setCell ?_ ?_ _ | with_reducible refine below_step (by assumption) ?_ ?_ | omega | (simp; done) | (simp; omega)))⟩
  case round =>
    obtain ⟨k, hk, rfl, hE, hB⟩ := hrel
    obtain ⟨hcB, hfB⟩ := bcell hB
    have hbz := hB.size
    have HE := Lib.hid hE
    have HB := Lib.hid hB
    clear hE
    by_cases hlt : k < n
    · obtain ⟨x, hx⟩ := mem_at (l := xs) (k := k) (by rw [Hln.out]; exact hlt)
      obtain ⟨b, off, rfl, hb, hc⟩ := HD.out (by rw [Hln.out]; omega)
      have hbw : b < wr.heap.size := by omega
      obtain ⟨c0, c1⟩ := lab_cells (hc k x hx)
      have Hx := Lib.hid hx
      clear hc hx
      have A := fun V (h : LabL V c l) => containsl_any c kc l x V h hm
      cases hv : l.any (labB x)
      · have Hs := Lib.hid (show hasP l xs = false from all_bad (P := fun x => l.any (labB x)) Hx.out hv)
        rw [hv] at A
        have HA := Lib.hid A
        clear hv A
        go_wp2_with (go_at_call 94; (with_reducible refine (HA.out _ (HF.out.mono (by (repeat' (first | with_reducible exact Below.refl _ _ | with_reducible assumption | with_reducible refine Below.drew ?_ | with_reducible refine below_drewN' ?_ _ | with_reducible refine Below.alloc ?_ ?_ _ | with_reducible refine Below.setCell ?_ ?_ _ | with_reducible refine below_step (by assumption) ?_ ?_ | omega | (simp; done) | (simp; omega)))))).mono ?_); rintro e w1 ⟨rfl, hb1⟩; have hz1 := hb1.size; (try simp at hz1))
        go_ret
        exact ⟨by rw [Hs.out]; rfl, by (repeat' (first | with_reducible exact Below.refl _ _ | with_reducible assumption | with_reducible refine Below.drew ?_ | with_reducible refine below_drewN' ?_ _ | with_reducible refine Below.alloc ?_ ?_ _ | with_reducible refine Below.setCell ?_ ?_ _ | with_reducible refine below_step (by assumption) ?_ ?_ | omega | (simp; done) | (simp; omega)))⟩
      · have Hs := Lib.hid (all_take1 (P := fun x => l.any (labB x)) Hx.out hv HE.out)
        rw [hv] at A
        have HA := Lib.hid A
        clear hv A
        go_wp2_with (go_at_call 94; (with_reducible refine (HA.out _ (HF.out.mono (by (repeat' (first | with_reducible exact Below.refl _ _ | with_reducible assumption | with_reducible refine Below.drew ?_ | with_reducible refine below_drewN' ?_ _ | with_reducible refine Below.alloc ?_ ?_ _ | with_reducible refine Below.setCell ?_ ?_ _ | with_reducible refine below_step (by assumption) ?_ ?_ | omega | (simp; done) | (simp; omega)))))).mono ?_); rintro e w1 ⟨rfl, hb1⟩; have hz1 := hb1.size; (try simp at hz1))
        go_roundw
        case rel => exact ⟨k + 1, by omega, by go_num, Hs.out, by (repeat' (first | with_reducible exact Below.refl _ _ | with_reducible assumption | with_reducible refine Below.drew ?_ | with_reducible refine below_drewN' ?_ _ | with_reducible refine Below.alloc ?_ ?_ _ | with_reducible refine Below.setCell ?_ ?_ _ | with_reducible refine below_step (by assumption) ?_ ?_ | omega | (simp; done) | (simp; omega)))⟩
        case measure => simp [intOf]; omega
    · obtain rfl : k = n := by omega
      have Hs := Lib.hid (show hasP l xs = true from all_done Hln.out HE.out)
      go_wp2
      go_ret
      exact ⟨by rw [Hs.out]; rfl, by (repeat' (first | with_reducible exact Below.refl _ _ | with_reducible assumption | with_reducible refine Below.drew ?_ | with_reducible refine below_drewN' ?_ _ | with_reducible refine Below.alloc ?_ ?_ _ | with_reducible refine Below.setCell ?_ ?_ _ | with_reducible refine below_step (by assumption) ?_ ?_ | omega | (simp; done) | (simp; omega)))⟩

theorem trm_cells {w : World} {b o : Nat} {t : Trm} (h : ∀ r, r < 3 → w.cell? ⟨b, o + r, none⟩ = (trcs t)[r]?) :
    w.cell? ⟨b, o, none⟩ = some (.string t.key) ∧ w.cell? ⟨b, o + 1, none⟩ = some (.int .i64 t.op) ∧ w.cell? ⟨b, o + 2, none⟩ = some (.slice t.va t.vals.length t.vk) := ⟨h 0 (by decide), h 1 (by decide), h 2 (by decide)⟩

def tN : ByteArray := ⟨#[110]⟩
def t7 : ByteArray := ⟨#[55]⟩
def tZ : ByteArray := ⟨#[122, 111, 110, 101]⟩
def tA : ByteArray := ⟨#[97]⟩
def tB : ByteArray := ⟨#[98]⟩
def t5 : ByteArray := ⟨#[53]⟩
def tP : ByteArray := ⟨#[112]⟩
def tQ : ByteArray := ⟨#[113]⟩
def kl : List Lab := [⟨tN, t7⟩, ⟨tZ, tA⟩]
def kz : List Lab := [⟨tZ, tA⟩]
def kp : List Lab := [⟨tN, t7⟩, ⟨tP, tQ⟩, ⟨tZ, tA⟩]
theorem kv1 : getV kl tZ = tA := by decide +kernel
theorem kv2 : getB kl tZ = true := by decide +kernel
theorem kv3 : labsB kl = true := by decide +kernel
theorem kv4 (a : Option Addr) (k : Nat) : meetP kl ⟨tZ, 1, a, k, [tA, tB]⟩ = true := (rfl : meetP kl ⟨tZ, 1, a, k, [tA, tB]⟩ = meetP kl ⟨tZ, 1, none, 0, [tA, tB]⟩).trans (by decide +kernel : meetP kl ⟨tZ, 1, none, 0, [tA, tB]⟩ = true)
theorem kv5 : meetP kl ⟨tZ, 4, none, 0, []⟩ = false := by decide +kernel
theorem kv6 (a : Option Addr) (k : Nat) : meetP kl ⟨tN, 5, a, k, [t5]⟩ = true := (rfl : meetP kl ⟨tN, 5, a, k, [t5]⟩ = meetP kl ⟨tN, 5, none, 0, [t5]⟩).trans (by decide +kernel : meetP kl ⟨tN, 5, none, 0, [t5]⟩ = true)
theorem kv7 : setP kl tP tQ = kp := by decide +kernel
theorem kv8 : hasP kl kz = true := by decide +kernel
theorem kv9 : hasP kz kl = false := by decide +kernel
theorem kva : rtrm ⟨tA, 3, none, 0, []⟩ = true := by decide +kernel
theorem kvb : rtrm ⟨tA, 1, none, 0, []⟩ = false := by decide +kernel
theorem kvc : (dropL kl tN).length = 1 := by decide +kernel
theorem kl_sz : ∀ x ∈ kl, x.key.size ≤ 1000000000 ∧ x.val.size ≤ 1000000000 := by
  intro x hx
  simp only [kl, List.mem_cons, List.not_mem_nil, or_false] at hx
  rcases hx with rfl | rfl <;> decide
theorem nilT (w : World) (key : ByteArray) (op : Int) : TrmAt w ⟨key, op, none, 0, []⟩ := ⟨RowsAt.nil, Nat.zero_le _⟩

end Lb
end Go.Proofs.Ytkmhicoimgpdlaa
