/-
  A pod as text, the document's way: its pieces.
-/
import Derived.Test.YtccplljbljpjpaaDoorShA
import Derived.Test.YtccplljbljpjpaaDoorLabNC
import Derived.Deep.Cut
namespace Go.Proofs.YtccplljbljpjpaaDoor
open Go.RowKit
set_option linter.unusedVariables false
set_option linter.unusedSimpArgs false

/-- One text behind another. -/
theorem cat_step (a b : ByteArray) (n m : Nat) (ha : a.size ≤ n) (hb : b.size ≤ m) (h : n + m ≤ 100000000) : ∃ c, c = a ++ b ∧ c.size ≤ n + m ∧ ∀ V : World, (Op.stringOp .add a b).run Tryd.prog V = .ok (.string c) V :=
  ⟨a ++ b, rfl, by rw [ByteArray.size_append]; omega, fun V => run_string_add_sum V a b (by omega)⟩
def atB (s : ByteArray) : ByteArray := if s = emp then ⟨#[34, 34]⟩ else s
theorem atB_size {s : ByteArray} (h : s.size ≤ 300) : (atB s).size ≤ 300 := by
  unfold atB
  split
  · decide
  · exact h
def flB (nm : ByteArray) (b : Bool) : ByteArray := if b = true then ⟨#[32]⟩ ++ nm else emp
theorem flB_size {nm : ByteArray} {b : Bool} (h : nm.size ≤ 100) : (flB nm b).size ≤ 200 := by
  unfold flB
  split
  · rw [ByteArray.size_append]
    have : (⟨#[32]⟩ : ByteArray).size ≤ 1 := by decide
    omega
  · decide
def nuB (nm : ByteArray) (n : Int) : ByteArray := if n = 0 then emp else (((⟨#[32, 40]⟩ ++ nm) ++ ⟨#[32]⟩) ++ itoaB n) ++ ⟨#[41]⟩
theorem nuB_size {nm : ByteArray} {n : Int} (h : nm.size ≤ 100) (h0 : 0 ≤ n) (h9 : n ≤ 9223372036854775807) : (nuB nm n).size ≤ 200 := by
  unfold nuB
  split
  · decide
  · rw [ByteArray.size_append, ByteArray.size_append, ByteArray.size_append, ByteArray.size_append]
    have := itoaB_size n (by omega) h9
    have : (⟨#[32]⟩ : ByteArray).size ≤ 1 := by decide
    have : (⟨#[41]⟩ : ByteArray).size ≤ 1 := by decide
    have : (⟨#[32, 40]⟩ : ByteArray).size ≤ 2 := by decide
    omega
/-- Labels as fields. -/
def prS (nm : ByteArray) (s : ByteArray) (x : Lab) : ByteArray := ((((((s ++ ⟨#[32, 40]⟩) ++ nm) ++ ⟨#[32]⟩) ++ x.key) ++ ⟨#[32]⟩) ++ atB x.val) ++ ⟨#[41]⟩
def prB (nm : ByteArray) (l : List Lab) : ByteArray := l.foldl (prS nm) emp
theorem fold_next {α β : Type} {l : List α} {k : Nat} {x : α} (h : l[k]? = some x) (f : β → α → β) (b : β) : (l.take (k + 1)).foldl f b = f ((l.take k).foldl f b) x := by
  rw [List.take_add_one, h, List.foldl_append]
  rfl
end Go.Proofs.YtccplljbljpjpaaDoor
