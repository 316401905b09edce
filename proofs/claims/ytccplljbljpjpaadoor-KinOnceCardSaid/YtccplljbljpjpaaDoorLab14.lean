/-
  The contracts of triremeref05.Has, Meets, All.
-/
import Derived.Test.YtccplljbljpjpaaDoorLabNC
namespace Go.Proofs.YtccplljbljpjpaaDoor
namespace Lb
open Go.RowKit
set_option linter.unusedVariables false
set_option linter.unusedSimpArgs false

theorem strB_symm (a b : ByteArray) : strB a b = strB b a := by
  unfold strB
  rw [decide_eq_decide]
  exact eq_comm
/-- A label is there, as its key says. -/
def hasK (l : List Lab) (x : Lab) : Bool := getB l x.key && strB (getV l x.key) x.val
theorem hasK_eq {l : List Lab} (hs : Sorted l) (x : Lab) : hasK l x = l.any (labB x) := by
  unfold hasK getB getV
  cases hf : l.find? (fun y => strB y.key x.key) with
  | none =>
    have h1 : l.any (fun y => strB y.key x.key) = false := by
      rw [List.any_eq_false]
      exact fun y hy => List.find?_eq_none.1 hf y hy
    have h2 : l.any (labB x) = false := by
      rw [List.any_eq_false]
      intro y hy h
      have e : x = y := of_decide_eq_true h
      subst e
      have := List.find?_eq_none.1 hf x hy
      unfold strB at this
      simp at this
    rw [h1, h2]
    rfl
  | some y =>
    have hy := List.mem_of_find?_eq_some hf
    have hk : y.key = x.key := by
      have h : (fun y : Lab => strB y.key x.key) y = true := List.find?_some (p := fun y : Lab => strB y.key x.key) hf
      exact of_decide_eq_true h
    have h1 : l.any (fun y => strB y.key x.key) = true := List.any_eq_true.2 ⟨y, hy, decide_eq_true hk⟩
    rw [h1, Bool.true_and]
    dsimp only
    rw [Bool.eq_iff_iff]
    constructor
    · intro h
      have hv : y.val = x.val := of_decide_eq_true h
      refine List.any_eq_true.2 ⟨y, hy, decide_eq_true ?_⟩
      obtain ⟨a, b⟩ := x
      obtain ⟨c, d⟩ := y
      simp only at hk hv
      rw [hk, hv]
    · intro h
      obtain ⟨z, hz, he⟩ := List.any_eq_true.1 h
      have e : x = z := of_decide_eq_true he
      subst e
      have hyx : y = x := by
        by_cases hne : y = x
        · exact hne
        · have hp : ∀ a b : Lab, a ∈ l → b ∈ l → a ≠ b → (lessB a.key b.key = true ∨ lessB b.key a.key = true) := by
            intro a b ha hb hab
            obtain ⟨i, hi, rfl⟩ := List.getElem_of_mem ha
            obtain ⟨j, hj, rfl⟩ := List.getElem_of_mem hb
            have hij : i ≠ j := fun e => hab (by subst e; rfl)
            have hpw := List.pairwise_iff_getElem.1 hs
            rcases Nat.lt_or_gt_of_ne hij with h | h
            · exact .inl (hpw i j hi hj h)
            · exact .inr (hpw j i hj hi h)
          rcases hp y x hy hz hne with h | h
          · rw [hk, less_irrefl] at h; cases h
          · rw [hk, less_irrefl] at h; cases h
      rw [hyx]
      exact decide_eq_true rfl

theorem any_take2 {α : Type} {P : α → Bool} {l : List α} {k : Nat} {x : α} (h : l[k]? = some x) : (l.take (k + 1)).any P = ((l.take k).any P || P x) := by
  rw [take_at h, List.any_append]; simp
theorem rtrm_num {t : Trm} (h : rtrm t = true) (ho : t.op = 5 ∨ t.op = 6) : ∃ v0, t.vals = [v0] ∧ (numV v0).2 = 0 := by
  unfold rtrm at h
  rw [Bool.and_eq_true, if_neg (by omega), if_neg (by omega), if_pos ho, Bool.and_eq_true, decide_eq_true_eq, decide_eq_true_eq] at h
  obtain ⟨_, h1, h2⟩ := h
  match hv : t.vals, h1 with
  | [v0], _ =>
    rw [hv] at h2
    exact ⟨v0, rfl, h2⟩
theorem rtrm_op {t : Trm} (h : rtrm t = true) : t.op = 1 ∨ t.op = 2 ∨ t.op = 3 ∨ t.op = 4 ∨ t.op = 5 ∨ t.op = 6 := by
  unfold rtrm at h
  rw [Bool.and_eq_true] at h
  obtain ⟨_, h⟩ := h
  by_cases h1 : t.op = 1 ∨ t.op = 2
  · omega
  · by_cases h2 : t.op = 3 ∨ t.op = 4
    · omega
    · by_cases h3 : t.op = 5 ∨ t.op = 6
      · omega
      · rw [if_neg h1, if_neg h2, if_neg h3] at h
        cases h
end Lb
end Go.Proofs.YtccplljbljpjpaaDoor
