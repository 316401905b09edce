/-
  Fit: where lists lie makes no difference; what comes of it, in plain words.
-/
import Derived.Test.YthbpnfpalcgfeaaGreatFtA
import Derived.Test.YthbpnfpalcgfeaaGreatNI
namespace Go.Proofs.YthbpnfpalcgfeaaGreat
open Go.RowKit
set_option linter.unusedVariables false
set_option linter.unusedSimpArgs false

def bdE (b : Bd) : Bd := ⟨podE b.p, b.on⟩
theorem place_E (m : Mac) (p : Pd) : placeS m (podE p) = placeS m p := by
  unfold placeS podE
  dsimp only
  rw [List.all_map]
  rfl
theorem usB_E (nm : ByteArray) : ∀ (l : List Bd) (e : Int) (r : R5), usB nm (l.map bdE) e r = usB nm l e r
  | [], e, r => rfl
  | b :: l, e, r => by
    show (if b.on = nm then (if rtP b.p = true then (if e = 0 then usB nm (l.map bdE) (addEP r b.p) (addP r b.p) else usB nm (l.map bdE) e r) else (12, R5.z)) else usB nm (l.map bdE) e r) = usB nm (b :: l) e r
    rw [usB_E nm l, usB_E nm l]
    rfl
theorem othL_E (bs : List Bd) (mm nn : ByteArray) : othL (bs.map bdE) mm nn = (othL bs mm nn).map bdE := by
  unfold othL
  rw [List.filter_map]
  rfl
theorem left_E (m : Mac) (bs : List Bd) : leftY m (bs.map bdE) = leftY m bs := by
  unfold leftY usedY
  rw [usB_E]
theorem share_E (bs : List Bd) (P : List Int) : shareQ (bs.map bdE) P = shareQ bs P := by
  unfold shareQ
  rw [List.any_map]
  rfl
theorem suit_E (m : Mac) (bs : List Bd) (p : Pd) : suitS m (bs.map bdE) (podE p) = suitS m bs p := by
  unfold suitS roomS
  rw [place_E]
  show (if placeS m p = 0 then (if Rs.fitsB p.n0 p.n1 p.n2 p.n3 p.n4 (leftY m (othL (bs.map bdE) m.nm p.nm)).r0 (leftY m (othL (bs.map bdE) m.nm p.nm)).r1 (leftY m (othL (bs.map bdE) m.nm p.nm)).r2 (leftY m (othL (bs.map bdE) m.nm p.nm)).r3 (leftY m (othL (bs.map bdE) m.nm p.nm)).r4 = false then 2 else if shareQ (othL (bs.map bdE) m.nm p.nm) p.prts = true then 3 else 0) else placeS m p) = _
  rw [othL_E, left_E, share_E]
theorem near_E (ms : List Mac) (bs : List Bd) (p : Pd) (on : ByteArray) : nearB ms (bs.map bdE) (podE p) on = nearB ms bs p on := by
  unfold nearB
  rw [List.any_map]
  rfl
theorem onCnt_E (bs : List Bd) (p : Pd) : onCnt (bs.map bdE) (podE p) = onCnt bs p := by
  funext x
  unfold onCnt
  rw [List.filter_map, List.length_map]
  rfl
theorem zCnt_E (ms : List Mac) (bs : List Bd) (p : Pd) : zCnt ms (bs.map bdE) (podE p) = zCnt ms bs p := by
  funext z
  unfold zCnt
  rw [onCnt_E]
theorem many_E (ms : List Mac) (bs : List Bd) (p : Pd) (on : ByteArray) : manyB ms (bs.map bdE) (podE p) on = manyB ms bs p on := by
  unfold manyB zNum numsC
  rw [zCnt_E]
  rfl
theorem why_E (ms : List Mac) (bs : List Bd) (p : Pd) (on : ByteArray) : whyF ms (bs.map bdE) (podE p) on = whyF ms bs p on := by
  unfold whyF apartW
  rw [near_E, many_E]
  split
  · rfl
  · rw [suit_E]
/-- What is alike but for places has the same reason. -/
theorem why_alike (ms : List Mac) {bs bs' : List Bd} {p p' : Pd} (h : bs'.map bdE = bs.map bdE) (hp : podE p' = podE p) (on : ByteArray) : whyF ms bs' p' on = whyF ms bs p on := by
  rw [← why_E ms bs' p' on, ← why_E ms bs p on, h, hp]
theorem feas_E (ms : List Mac) (bs : List Bd) : feasF ms (bs.map bdE) = feasF ms bs := by
  unfold feasF
  rw [List.all_map]
  congr 1
  funext b
  show (decide (b.on = emp) || decide (whyF ms (bs.map bdE) (podE b.p) b.on = 0)) = feasB ms bs b
  rw [why_E]
  rfl
theorem feas_alike (ms : List Mac) {bs bs' : List Bd} (h : bs'.map bdE = bs.map bdE) : feasF ms bs' = feasF ms bs := by
  rw [← feas_E ms bs', ← feas_E ms bs, h]
theorem tc_sum : ∀ (L : List Int), (∀ x ∈ L, 0 ≤ x ∧ x ≤ 8) → tc L 0 + tc L 1 + tc L 2 + tc L 3 + tc L 4 + tc L 5 + tc L 6 + tc L 7 + tc L 8 = L.length
  | [], _ => rfl
  | x :: L, h => by
    have ih := tc_sum L fun y hy => h y (List.mem_cons_of_mem _ hy)
    have hx := h x List.mem_cons_self
    have e : ∀ r, tc (x :: L) r = tc L r + if x = r then 1 else 0 := fun r => by
      unfold tc
      rw [List.filter_cons]
      by_cases hr : x = r <;> simp [hr]
    rw [e, e, e, e, e, e, e, e, e, List.length_cons]
    have h9 : x = 0 ∨ x = 1 ∨ x = 2 ∨ x = 3 ∨ x = 4 ∨ x = 5 ∨ x = 6 ∨ x = 7 ∨ x = 8 := by omega
    rcases h9 with rfl | rfl | rfl | rfl | rfl | rfl | rfl | rfl | rfl <;> simp <;> omega
theorem tc_where (ms : List Mac) (bs : List Bd) (p : Pd) : tc (whyL ms bs p) 0 = (whereF ms bs p).length := by
  unfold tc whyL whereF
  rw [List.filter_map, List.length_map, List.length_map]
  rfl
theorem whyL_len (ms : List Mac) (bs : List Bd) (p : Pd) : (whyL ms bs p).length = ms.length := List.length_map _
theorem whyL_range (ms : List Mac) (bs : List Bd) (p : Pd) : ∀ x ∈ whyL ms bs p, 0 ≤ x ∧ x ≤ 8 := by
  intro x hx
  unfold whyL at hx
  obtain ⟨m, _, rfl⟩ := List.mem_map.1 hx
  exact whyF_range ms bs p m.nm
theorem where_why {ms : List Mac} {bs : List Bd} {p : Pd} {x : ByteArray} (h : x ∈ whereF ms bs p) : whyF ms bs p x = 0 := by
  unfold whereF at h
  obtain ⟨m, hm, rfl⟩ := List.mem_map.1 h
  exact of_decide_eq_true (List.mem_filter.1 hm).2
theorem where_len (ms : List Mac) (bs : List Bd) (p : Pd) : (whereF ms bs p).length ≤ ms.length := by
  unfold whereF
  rw [List.length_map]
  exact List.length_filter_le _ _
end Go.Proofs.YthbpnfpalcgfeaaGreat
