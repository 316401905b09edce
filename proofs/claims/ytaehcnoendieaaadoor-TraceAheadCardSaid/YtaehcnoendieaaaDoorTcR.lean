/-
  Texts that may be empty, and what holds of all of a list, where no words are asked for.
-/
import Derived.Test.YtaehcnoendieaaaDoorMB
import Derived.Test.YtaehcnoendieaaaDoorMF
import Derived.Laws.StructEq
namespace Go.Proofs.YtaehcnoendieaaaDoor
open Go.RowKit
set_option linter.unusedSimpArgs false
set_option linter.unusedVariables false

theorem str_inj (a b : ByteArray) : a.toList = b.toList ↔ a = b := by
  rw [ByteArray.toList_eq, ByteArray.toList_eq]
  exact ⟨fun h => ByteArray.ext (Array.toList_inj.mp h), fun h => by rw [h]⟩
/-- Two texts are the same. -/
def strB (a b : ByteArray) : Bool := decide (a = b)
theorem strB_list (a b : ByteArray) : (a.toList == b.toList) = strB a b := by
  unfold strB
  by_cases h : a = b
  · subst h; simp
  · rw [decide_eq_false h, beq_eq_false_iff_ne]; exact fun e => h ((str_inj _ _).1 e)

theorem wrap_in {x : Int} (h : -9223372036854775808 ≤ x) (h' : x < 9223372036854775808) : IntKind.i64.wrap x = x := by simp [IntKind.wrap, IntKind.bits, IntKind.signed]; omega
def emp : ByteArray := ⟨#[]⟩
theorem emp_list : emp.toList = [] := by rw [ByteArray.toList_eq]; rfl
theorem emp_yes {s : ByteArray} (h : s = emp) : s.toList = [] ∧ (!s.toList.isEmpty) = false ∧ s.toList.isEmpty = true := by
  subst h
  rw [emp_list]
  exact ⟨rfl, rfl, rfl⟩
theorem emp_no {s : ByteArray} (h : ¬ s = emp) : ((s.toList = []) = False) ∧ (!s.toList.isEmpty) = true ∧ s.toList.isEmpty = false := by
  have h' : s.toList ≠ [] := fun e => h ((str_inj _ _).1 (e.trans emp_list.symm))
  refine ⟨eq_iff_iff.2 ⟨h', False.elim⟩, ?_, ?_⟩ <;> cases hx : s.toList <;> first | exact absurd hx h' | rfl

def weB (s : ByteArray) : Bool := decide (s = emp) || wordB s

theorem emp_lits {s : ByteArray} (h : s = emp) : (s.toList == []) = true ∧ s.toList.isEmpty = true ∧ ((s.toList = []) = True) ∧ (!s.toList.isEmpty) = false := by
  subst h
  rw [emp_list]
  exact ⟨rfl, rfl, eq_true rfl, rfl⟩
theorem emp_litn {s : ByteArray} (h : ¬ s = emp) : (s.toList == []) = false ∧ s.toList.isEmpty = false ∧ ((s.toList = []) = False) ∧ (!s.toList.isEmpty) = true := by
  obtain ⟨a, b, c⟩ := emp_no h
  refine ⟨?_, c, a, b⟩
  rw [beq_eq_false_iff_ne]
  intro e
  rw [e] at c
  cases c

theorem tnt_str {a b : ByteArray} (h : a = b) : (a.toList == b.toList) = true := by rw [h]; simp
theorem tnt_strn {a b : ByteArray} (h : ¬ a = b) : (a.toList == b.toList) = false := by rw [beq_eq_false_iff_ne]; exact fun e => h ((str_inj _ _).1 e)

theorem all_bad {α : Type} {P : α → Bool} {l : List α} {k : Nat} {x : α} (h : l[k]? = some x) (hp : P x = false) : l.all P = false := by
  rw [Bool.eq_false_iff]
  intro he
  have := List.all_eq_true.1 he x (List.mem_of_getElem? h)
  rw [hp] at this
  cases this
theorem all_take1 {α : Type} {P : α → Bool} {l : List α} {k : Nat} {x : α} (h : l[k]? = some x) (hp : P x = true) (ha : (l.take k).all P = true) : (l.take (k + 1)).all P = true := by
  rw [take_at h, List.all_append, ha]; simp [hp]
theorem all_done {α : Type} {P : α → Bool} {l : List α} {n : Nat} (h : l.length = n) (ha : (l.take n).all P = true) : l.all P = true := by
  rw [List.take_of_length_le (Nat.le_of_eq h)] at ha
  exact ha
theorem short_cases (a b : Nat) : (300 < a ∧ ¬ (a ≤ 300 ∧ b ≤ 300)) ∨ (a ≤ 300 ∧ 300 < b ∧ ¬ (a ≤ 300 ∧ b ≤ 300)) ∨ (a ≤ 300 ∧ b ≤ 300 ∧ (a ≤ 300 ∧ b ≤ 300)) := by omega
end Go.Proofs.YtaehcnoendieaaaDoor
