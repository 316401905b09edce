/-
  Fit, the document's counts in plain words.
-/
import Derived.Test.YthbpnfpalcgfeaaGreatFt3
import Derived.Test.YthbpnfpalcgfeaaGreatNI
namespace Go.Proofs.YthbpnfpalcgfeaaGreat
open Go.RowKit
set_option linter.unusedVariables false
set_option linter.unusedSimpArgs false

theorem fold_add (f g : ByteArray → Nat) (z : ByteArray) : ∀ (ms : List Mac) (a b : Nat), ms.foldl (zAdd (fun x => f x + g x) z) (a + b) = ms.foldl (zAdd f z) a + ms.foldl (zAdd g z) b
  | [], a, b => rfl
  | m :: ms, a, b => by
    rw [List.foldl_cons, List.foldl_cons, List.foldl_cons]
    have e : zAdd (fun x => f x + g x) z (a + b) m = zAdd f z a m + zAdd g z b m := by
      unfold zAdd
      dsimp only
      split <;> omega
    rw [e]
    exact fold_add f g z ms _ _
theorem zSum_add (ms : List Mac) (f g : ByteArray → Nat) (z : ByteArray) : zSum ms (fun x => f x + g x) z = zSum ms f z + zSum ms g z := fold_add f g z ms 0 0
theorem fold_zero (z : ByteArray) : ∀ (ms : List Mac) (n : Nat), ms.foldl (zAdd (fun _ => 0) z) n = n
  | [], n => rfl
  | m :: ms, n => by
    rw [List.foldl_cons]
    have e : zAdd (fun _ => 0) z n m = n := by unfold zAdd; split <;> rfl
    rw [e]
    exact fold_zero z ms n
def zAt (ms : List Mac) (z x : ByteArray) : Bool := zB ms x && decide (zV ms x = z)
theorem fold_one (z x : ByteArray) : ∀ (ms : List Mac) (n : Nat), (ms.map Mac.nm).Pairwise (fun a b => a ≠ b) → ms.foldl (zAdd (fun y => if x = y then 1 else 0) z) n = n + if zAt ms z x = true then 1 else 0
  | [], n, _ => rfl
  | m :: ms, n, h => by
    rw [List.map_cons, List.pairwise_cons] at h
    rw [List.foldl_cons, fold_one z x ms _ h.2]
    by_cases hx : m.nm = x
    · have h1 : mOf (m :: ms) x = some m := by unfold mOf; exact List.find?_cons_of_pos (decide_eq_true hx)
      have h2 : mOf ms x = none := by
        unfold mOf
        rw [List.find?_eq_none]
        intro y hy
        simp only [decide_eq_true_eq]
        intro e
        exact h.1 y.nm (List.mem_map_of_mem hy) (hx.trans e.symm)
      have e1 : zAt ms z x = false := by unfold zAt zB; rw [h2]; rfl
      have e2 : zAt (m :: ms) z x = (Lb.getB m.labs zoneT && decide (Lb.getV m.labs zoneT = z)) := by unfold zAt zB zV; rw [h1]
      rw [e1, e2, if_neg Bool.false_ne_true]
      unfold zAdd
      dsimp only
      rw [if_pos hx.symm]
      by_cases hg : Lb.getB m.labs zoneT = true
      · by_cases hz : Lb.getV m.labs zoneT = z
        · rw [if_pos ⟨hg, hz⟩, hg, decide_eq_true hz]
          rfl
        · rw [if_neg (fun h => hz h.2), hg, decide_eq_false hz]
          rfl
      · rw [if_neg (fun h => hg h.1), Bool.not_eq_true _ |>.mp hg]
        rfl
    · have h1 : mOf (m :: ms) x = mOf ms x := by unfold mOf; exact List.find?_cons_of_neg (by simpa using hx)
      have e2 : zAt (m :: ms) z x = zAt ms z x := by unfold zAt zB zV; rw [h1]
      have e3 : zAdd (fun y => if x = y then 1 else 0) z n m = n := by
        unfold zAdd
        dsimp only
        rw [if_neg (show ¬ x = m.nm from fun e => hx e.symm)]
        split <;> rfl
      rw [e2, e3]
def rfQ (ms : List Mac) (p : Pd) (z : ByteArray) (b : Bd) : Bool := onP p b && zAt ms z b.on
def rfCnt (ms : List Mac) (bs : List Bd) (p : Pd) (z : ByteArray) : Nat := (bs.filter (rfQ ms p z)).length
theorem cnt_ref {ms : List Mac} (hn : (ms.map Mac.nm).Pairwise (fun a b => a ≠ b)) (p : Pd) (z : ByteArray) : ∀ (bs : List Bd), zCnt ms bs p z = rfCnt ms bs p z
  | [] => fold_zero z ms 0
  | b :: bs => by
    have ih := cnt_ref hn p z bs
    have e : onCnt (b :: bs) p = fun x => (if onP p b = true then (if b.on = x then 1 else 0) else 0) + onCnt bs p x := by
      funext x
      unfold onCnt
      rw [List.filter_cons]
      unfold onQ
      by_cases h1 : onP p b = true
      · by_cases h2 : b.on = x
        · simp [h1, h2]; omega
        · simp [h1, h2]
      · simp [h1]
    have e2 : zCnt ms (b :: bs) p z = zSum ms (fun x => (if onP p b = true then (if b.on = x then 1 else 0) else 0) + onCnt bs p x) z := by
      unfold zCnt
      rw [e]
      rfl
    rw [e2, zSum_add ms (fun x => if onP p b = true then (if b.on = x then 1 else 0) else 0) (onCnt bs p) z]
    have e3 : zSum ms (onCnt bs p) z = rfCnt ms bs p z := ih
    rw [e3]
    unfold rfCnt
    rw [List.filter_cons]
    unfold rfQ
    by_cases h1 : onP p b = true
    · rw [h1]
      have e4 : zSum ms (fun x => if (true = true) then (if b.on = x then 1 else 0) else 0) z = 0 + if zAt ms z b.on = true then 1 else 0 := by
        have : (fun x : ByteArray => if (true = true) then (if b.on = x then 1 else 0) else 0) = (fun x => if b.on = x then 1 else 0) := by
          funext x
          rw [if_pos rfl]
        rw [this]
        exact fold_one z b.on ms 0 hn
      rw [e4, Bool.true_and]
      split
      · rw [List.length_cons]; omega
      · omega
    · rw [Bool.not_eq_true _ |>.mp h1]
      have e4 : zSum ms (fun x => if (false = true) then (if b.on = x then 1 else 0) else 0) z = 0 := by
        have : (fun x : ByteArray => if (false = true) then (if b.on = x then 1 else 0) else 0) = (fun _ => 0) := by
          funext x
          rw [if_neg Bool.false_ne_true]
        rw [this]
        exact fold_zero z ms 0
      rw [e4, Bool.false_and, if_neg Bool.false_ne_true, Nat.zero_add]
theorem rfCnt_next {ms : List Mac} {bs : List Bd} {k : Nat} {b : Bd} (h : bs[k]? = some b) (p : Pd) (z : ByteArray) : rfCnt ms (bs.take (k + 1)) p z = rfCnt ms (bs.take k) p z + if rfQ ms p z b = true then 1 else 0 := by
  unfold rfCnt
  rw [List.take_add_one, h, List.filter_append, List.length_append]
  congr 1
  show (List.filter (rfQ ms p z) [b]).length = _
  rw [List.filter_cons]
  split <;> rfl
theorem rfCnt_le (ms : List Mac) (bs : List Bd) (p : Pd) (z : ByteArray) : rfCnt ms bs p z ≤ bs.length := List.length_filter_le _ _
/-- What a right yard has. -/
structure YQ (ms : List Mac) (bs : List Bd) : Prop where
  hm : ∀ m ∈ ms, rt5 (hasM m) = true ∧ Lb.Sorted m.labs
  hb : ∀ b ∈ bs, rtP b.p = true ∧ Lb.Sorted b.p.labs ∧ ∀ t ∈ b.p.trms, Lb.rtrm t = true
  nd : (ms.map Mac.nm).Pairwise fun a b => a ≠ b
/-- What a right pod has. -/
structure PQ (p : Pd) : Prop where
  so : Lb.Sorted p.labs
  tr : ∀ t ∈ p.trms, Lb.rtrm t = true
theorem pq_of {p : Pd} (h : rightP p = true) : PQ p := by
  unfold rightP at h
  simp only [Bool.and_eq_true, decide_eq_true_eq] at h
  refine ⟨Lb.sorted_of h.1.1.1.1.1.1.1.1.1.2, ?_⟩
  have h9 := h.1.1.1.1.1.2
  unfold trmsB at h9
  rw [Bool.and_eq_true] at h9
  exact List.all_eq_true.1 h9.1
theorem nodup_names {N : List ByteArray} (h : twiceN N = false) : N.Pairwise fun x y => x ≠ y := by
  rw [List.pairwise_iff_getElem]
  intro i j hi hj hij e
  have h1 := find_once h (List.getElem?_eq_getElem hi)
  have h2 := find_once h (List.getElem?_eq_getElem hj)
  rw [e] at h1
  omega
theorem yq_of {ms : List Mac} {bs : List Bd} (h : checkY ms bs = 0) : YQ ms bs := by
  have hc := check_zero h
  unfold checkY at h
  split at h
  · omega
  · split at h
    · omega
    · rename_i h2
      have h2' : ms.all okM = true ∧ bs.all okBd = true := Decidable.not_not.1 h2
      refine ⟨fun m hm => ?_, fun b hb => ?_, nodup_names hc.2.2.1⟩
      · have h9 := List.all_eq_true.1 h2'.1 m hm
        unfold okM rightM at h9
        simp only [Bool.and_eq_true] at h9
        exact ⟨h9.2.1.1.2, Lb.sorted_of h9.2.1.2⟩
      · have h9 := List.all_eq_true.1 h2'.2 b hb
        unfold okBd at h9
        have h8 := pq_of h9
        unfold rightP at h9
        simp only [Bool.and_eq_true, decide_eq_true_eq] at h9
        exact ⟨h9.1.1.1.1.1.1.1.1.1.1.1.2, h8.so, h8.tr⟩
end Go.Proofs.YthbpnfpalcgfeaaGreat
