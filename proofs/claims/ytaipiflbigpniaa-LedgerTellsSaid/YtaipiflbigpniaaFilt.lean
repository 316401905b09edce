/-
  Small lemmas for loops that filter into a slice of their own.
-/
import Derived.Test.YtaipiflbigpniaaLst
namespace Go.Proofs.Ytaipiflbigpniaa
set_option linter.unusedVariables false
set_option linter.unusedSimpArgs false
open Go.RowKit
theorem OwnL.eq {α : Type} {enc : α → List Value} {K base : Nat} {t : TypeId} {l m : List α} {v : Value} {w : World} (hl : l = m) (h : w.ownsRow base t K v m.length (m.flatMap enc)) : OwnL enc K base t l v w := hl ▸ h
theorem filt_yes {α : Type} {P : α → Bool} {xs : List α} {k : Nat} {x : α} (h : xs[k]? = some x) (hp : P x = true) : (xs.take (k + 1)).filter P = (xs.take k).filter P ++ [x] := by
  rw [take_at h, List.filter_append, List.filter_cons_of_pos hp, List.filter_nil]
theorem filt_no {α : Type} {P : α → Bool} {xs : List α} {k : Nat} {x : α} (h : xs[k]? = some x) (hp : P x = false) : (xs.take (k + 1)).filter P = (xs.take k).filter P := by
  rw [take_at h, List.filter_append, List.filter_cons_of_neg (by simp [hp]), List.filter_nil, List.append_nil]
theorem filt_len {α : Type} (P : α → Bool) (xs : List α) (k : Nat) : ((xs.take k).filter P).length ≤ k := Nat.le_trans (List.length_filter_le _ _) (List.length_take_le _ _)
theorem filt_all {α : Type} (P : α → Bool) {xs : List α} {n : Nat} (h : xs.length = n) : (xs.take n).filter P = xs.filter P := by rw [← h, List.take_length]
end Go.Proofs.Ytaipiflbigpniaa
