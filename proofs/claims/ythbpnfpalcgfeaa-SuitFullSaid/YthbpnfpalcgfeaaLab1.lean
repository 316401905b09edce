/-
  The contracts of labels.Get, triremeref05.Get.
-/
import Derived.Test.YthbpnfpalcgfeaaMD
import Derived.Test.YthbpnfpalcgfeaaMA
namespace Go.Proofs.Ythbpnfpalcgfeaa
namespace Lb
set_option linter.unusedSimpArgs false
open Go.RowKit
set_option linter.unusedVariables false

theorem kcs_one (x : Lab) : ∀ u ∈ kcs x, u.oneCell' = true := by
  intro u hu
  simp only [kcs, List.mem_cons, List.not_mem_nil, or_false] at hu
  rcases hu with rfl | rfl <;> rfl
theorem Try.info71 : (Try.prog.info? 71).map (fun i => (i.zero, i.size, i.bytes)) = some (some (.agg #[.string ⟨#[]⟩, .string ⟨#[]⟩]), 2, 32) := by kernel_rfl

/-- What a key says, and whether it is there. -/
def getV (l : List Lab) (key : ByteArray) : ByteArray := match l.find? (fun x => strB x.key key) with | some x => x.val | none => emp
def getB (l : List Lab) (key : ByteArray) : Bool := l.any fun x => strB x.key key
theorem get_at {l : List Lab} {k : Nat} {x : Lab} {key : ByteArray} (hx : l[k]? = some x) (hn : (l.take k).any (fun x => strB x.key key) = false) (h : strB x.key key = true) : getV l key = x.val ∧ getB l key = true := by
  have e : l = l.take k ++ x :: l.drop (k + 1) := by
    obtain ⟨hk, rfl⟩ := List.getElem?_eq_some_iff.1 hx
    rw [List.getElem_cons_drop, List.take_append_drop]
  have hn2 : (l.take k).find? (fun x => strB x.key key) = none := by
    rw [List.find?_eq_none]
    rw [List.any_eq_false] at hn
    exact hn
  constructor
  · unfold getV
    rw [e, List.find?_append, hn2]
    simp [h]
  · unfold getB
    rw [e, List.any_append]
    simp [h]
theorem get_no {l : List Lab} {n : Nat} {key : ByteArray} (hl : l.length = n) (hn : (l.take n).any (fun x => strB x.key key) = false) : getV l key = emp ∧ getB l key = false := by
  rw [List.take_of_length_le (Nat.le_of_eq hl)] at hn
  refine ⟨?_, hn⟩
  have : l.find? (fun x => strB x.key key) = none := by
    rw [List.find?_eq_none]
    rw [List.any_eq_false] at hn
    exact hn
  unfold getV
  rw [this]
theorem any_take1 {α : Type} {P : α → Bool} {l : List α} {k : Nat} {x : α} (h : l[k]? = some x) (hp : P x = false) (ha : (l.take k).any P = false) : (l.take (k + 1)).any P = false := by
  rw [take_at h, List.any_append, ha]; simp [hp]

set_option maxRecDepth 100000 in
set_option maxHeartbeats 4000000 in
theorem get_any (c : Option Addr) (kc : Nat) (l : List Lab) (key : ByteArray) (w : World) (hF : LabL w c l) (hm : l.length ≤ maxLen) :
    Calls Try.prog 78 #[.slice c l.length kc, .string key] w fun e w' => e = .returned (.tuple #[.string (getV l key), .bool (getB l key)]) ∧ Below w.heap.size w w' := by
  unfold maxLen at hm
  have HF := Lib.hid hF
  clear hF
  obtain ⟨n, hln⟩ : ∃ n, l.length = n := ⟨_, rfl⟩
  rw [hln] at hm ⊢
  have Hln := Lib.hid hln
  clear hln
  go_enter Try.func78, Try.ntmps78
  go_wp2
  go_loopw [10] (fun i wr => ∃ k : Nat, k ≤ n ∧ i = .int .i64 k ∧ (l.take k).any (fun x => strB x.key key) = false ∧ Below w.heap.size w wr) (fun i _ => n - (intOf i).toNat)
  case atStart => exact ⟨0, by omega, rfl, rfl, by (repeat' (first | with_reducible exact Below.refl _ _ | with_reducible assumption | with_reducible refine Below.drew ?_ | with_reducible refine below_drewN' ?_ _ | with_reducible refine Below.alloc ?_ ?_ _ | with_reducible refine Below.setCell ?_ ?_ _ | with_reducible refine below_step (by assumption) ?_ ?_ | omega | (simp; done) | (simp; omega)))⟩
  case round =>
    obtain ⟨k, hk, rfl, hE, hB⟩ := hrel
    obtain ⟨hcB, hfB⟩ := bcell hB
    have hbz := hB.size
    have HE := Lib.hid hE
    clear hE
    by_cases hlt : k < n
    · obtain ⟨x, hx⟩ := mem_at (l := l) (k := k) (by rw [Hln.out]; exact hlt)
      obtain ⟨b, off, rfl, hb, hc⟩ := HF.out (by rw [Hln.out]; omega)
      have hbw : b < wr.heap.size := by omega
      obtain ⟨c0, c1⟩ := lab_cells (hc k x hx)
      have Hx := Lib.hid hx
      clear hc hx
      cases hv : strB x.key key
      · have Hs := Lib.hid (any_take1 (P := fun x => strB x.key key) Hx.out hv HE.out)
        have k1 := (strB_list x.key key).trans hv
        clear hv
        go_wp2
        go_roundw
        case rel => exact ⟨k + 1, by omega, by go_num, Hs.out, by (repeat' (first | with_reducible exact Below.refl _ _ | with_reducible assumption | with_reducible refine Below.drew ?_ | with_reducible refine below_drewN' ?_ _ | with_reducible refine Below.alloc ?_ ?_ _ | with_reducible refine Below.setCell ?_ ?_ _ | with_reducible refine below_step (by assumption) ?_ ?_ | omega | (simp; done) | (simp; omega)))⟩
        case measure => simp [intOf]; omega
      · have Hv := Lib.hid (get_at Hx.out HE.out hv).1
        have Hb := Lib.hid (get_at Hx.out HE.out hv).2
        have k1 := (strB_list x.key key).trans hv
        clear hv
        go_wp2
        go_ret2
        exact ⟨by rw [Hv.out, Hb.out]; rfl, by (repeat' (first | with_reducible exact Below.refl _ _ | with_reducible assumption | with_reducible refine Below.drew ?_ | with_reducible refine below_drewN' ?_ _ | with_reducible refine Below.alloc ?_ ?_ _ | with_reducible refine Below.setCell ?_ ?_ _ | with_reducible refine below_step (by assumption) ?_ ?_ | omega | (simp; done) | (simp; omega)))⟩
    · obtain rfl : k = n := by omega
      have Hv := Lib.hid (get_no Hln.out HE.out).1
      have Hb := Lib.hid (get_no Hln.out HE.out).2
      go_wp2
      go_ret2
      exact ⟨by rw [Hv.out, Hb.out]; rfl, by (repeat' (first | with_reducible exact Below.refl _ _ | with_reducible assumption | with_reducible refine Below.drew ?_ | with_reducible refine below_drewN' ?_ _ | with_reducible refine Below.alloc ?_ ?_ _ | with_reducible refine Below.setCell ?_ ?_ _ | with_reducible refine below_step (by assumption) ?_ ?_ | omega | (simp; done) | (simp; omega)))⟩

end Lb
end Go.Proofs.Ythbpnfpalcgfeaa
