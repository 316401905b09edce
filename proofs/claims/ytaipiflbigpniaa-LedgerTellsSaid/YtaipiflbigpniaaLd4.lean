/-
  The ledger: what an Add counts; the accounts behind it.
-/
import Derived.Test.YtaipiflbigpniaaLd2
import Derived.Test.YtaipiflbigpniaaMap
namespace Go.Proofs.Ytaipiflbigpniaa
open Go.RowKit
set_option linter.unusedVariables false
set_option linter.unusedSimpArgs false

structure Ins where
  nm : ByteArray
  gp : ByteArray
  st : Int
  lf : Int
  si : Int
def irow (x : Ins) : List Value := [.string x.nm, .string x.gp, .int .i64 x.st, .int .i64 x.lf, .int .i64 x.si]
abbrev InsL := RowsAt irow 5
theorem irow_cells {w : World} {b o : Nat} {x : Ins} (h : ∀ r, r < 5 → w.cell? ⟨b, o + r, none⟩ = (irow x)[r]?) :
    w.cell? ⟨b, o, none⟩ = some (.string x.nm) ∧ w.cell? ⟨b, o + 1, none⟩ = some (.string x.gp) ∧ w.cell? ⟨b, o + 2, none⟩ = some (.int .i64 x.st) ∧ w.cell? ⟨b, o + 3, none⟩ = some (.int .i64 x.lf) ∧ w.cell? ⟨b, o + 4, none⟩ = some (.int .i64 x.si) :=
  ⟨h 0 (by decide), h 1 (by decide), h 2 (by decide), h 3 (by decide), h 4 (by decide)⟩
/-- How many of a group are counted. -/
def cntI (L : List Ins) (s : ByteArray) : Nat := L.countP fun x => !decide (x.st = 3) && decide (x.gp = s)
def cntF (L : List Ins) (s : ByteArray) : Option Value := if cntI L s = 0 then none else some (.int .i64 (cntI L s))
theorem cnt_get (L : List Ins) (s : ByteArray) : (cntF L s).getD (.int .i64 0) = .int .i64 (cntI L s) := by
  unfold cntF
  split
  · rename_i h; rw [h]; rfl
  · rfl
theorem cnt_le (L : List Ins) (s : ByteArray) : cntI L s ≤ L.length := List.countP_le_length
theorem cnt_yes {L : List Ins} {k : Nat} {x : Ins} (h : L[k]? = some x) (hx : x.st ≠ 3) (s : ByteArray) : updF (cntF (L.take k)) x.gp (some (.int .i64 (cntI (L.take k) x.gp + 1 : Nat))) s = cntF (L.take (k + 1)) s := by
  have e : ∀ s, cntI (L.take (k + 1)) s = cntI (L.take k) s + if x.gp = s then 1 else 0 := fun s => by
    unfold cntI
    rw [take_at h, List.countP_append, List.countP_cons, List.countP_nil]
    by_cases e : x.gp = s <;> simp [hx, e]
  by_cases hs : s = x.gp
  · subst hs
    rw [updF_same]
    unfold cntF
    rw [e, if_pos rfl, if_neg (by omega)]
  · rw [updF_other hs]
    unfold cntF
    rw [e, if_neg (Ne.symm hs), Nat.add_zero]
theorem cnt_no {L : List Ins} {k : Nat} {x : Ins} (h : L[k]? = some x) (hx : x.st = 3) (s : ByteArray) : cntF (L.take k) s = cntF (L.take (k + 1)) s := by
  have e : cntI (L.take (k + 1)) s = cntI (L.take k) s := by
    unfold cntI
    rw [take_at h, List.countP_append, List.countP_cons, List.countP_nil]
    simp [hx]
  unfold cntF
  rw [e]
def addA (L : List Ins) (x : Ac) : Ac := ⟨x.nm, x.pr, x.su + cntI L x.nm, max x.pk (cntI L x.nm)⟩
theorem acc_set (u p : Int) : ∀ (M : List Ac) (k : Nat) (x : Ac), M[k]? = some x → ((M.flatMap acc).set (k * 4 + 2) (.int .i64 u)).set (k * 4 + 3) (.int .i64 p) = (M.set k ⟨x.nm, x.pr, u, p⟩).flatMap acc
  | [], k, x, h => by simp at h
  | y :: M, 0, x, h => by
    obtain rfl : y = x := by simpa using h
    simp [List.flatMap_cons, acc]
  | y :: M, k + 1, x, h => by
    have ih := acc_set u p M k x (by simpa using h)
    have e1 : (k + 1) * 4 + 2 = (k * 4 + 2) + 1 + 1 + 1 + 1 := by omega
    have e2 : (k + 1) * 4 + 3 = (k * 4 + 3) + 1 + 1 + 1 + 1 := by omega
    rw [e1, e2, List.set_cons_succ, List.flatMap_cons, List.flatMap_cons, ← ih]
    rfl
/-- The accounts, the first k of them turned. -/
def part (L : List Ins) (A : List Ac) (k : Nat) : List Ac := (A.take k).map (addA L) ++ A.drop k
theorem part_len (L : List Ins) (A : List Ac) (k : Nat) : (part L A k).length = A.length := by
  unfold part
  rw [List.length_append, List.length_map, ← List.length_append, List.take_append_drop]
theorem part_at {L : List Ins} {A : List Ac} {k : Nat} {x : Ac} (h : A[k]? = some x) : (part L A k)[k]? = some x := by
  have hk := lt_at h
  unfold part
  rw [List.getElem?_append_right (by simp; omega)]
  simp
  rw [Nat.min_eq_left (by omega)]
  simpa using h
theorem part_step {L : List Ins} {A : List Ac} {k : Nat} {x : Ac} (h : A[k]? = some x) : (part L A k).set k (addA L x) = part L A (k + 1) := by
  have hk := lt_at h
  unfold part
  rw [take_at h, List.map_append]
  have e : A.drop k = x :: A.drop (k + 1) := by
    obtain ⟨hl, he⟩ := List.getElem?_eq_some_iff.1 h
    rw [List.drop_eq_getElem_cons hl, he]
  rw [e, List.set_append_right _ _ (by simp; omega), List.append_assoc]
  simp
  rw [Nat.min_eq_left (by omega), Nat.sub_self]
  rfl
theorem part_all (L : List Ins) (A : List Ac) : part L A A.length = A.map (addA L) := by
  unfold part
  simp
end Go.Proofs.Ytaipiflbigpniaa
