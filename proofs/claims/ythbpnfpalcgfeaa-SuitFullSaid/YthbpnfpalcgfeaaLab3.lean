/-
  Texts in their order; what labels are with one more.
-/
import Derived.Test.YthbpnfpalcgfeaaMG
import Derived.Test.YthbpnfpalcgfeaaLab2
namespace Go.Proofs.Ythbpnfpalcgfeaa
namespace Lb
set_option linter.unusedSimpArgs false
open Go.RowKit
set_option linter.unusedVariables false

def aheadB (key : ByteArray) (x : Lab) : Bool := lessB x.key key
/-- Labels with one more, as the program sets it. -/
def setP (l : List Lab) (key val : ByteArray) : List Lab := l.takeWhile (aheadB key) ++ ⟨key, val⟩ :: (l.dropWhile (aheadB key)).filter (otherB key)
/-- As the document has it. -/
def setR (l : List Lab) (key val : ByteArray) : List Lab := (dropL l key).takeWhile (aheadB key) ++ ⟨key, val⟩ :: (dropL l key).dropWhile (aheadB key)
def Sorted (l : List Lab) : Prop := l.Pairwise fun x y => lessB x.key y.key = true
theorem set_eq {key : ByteArray} (val : ByteArray) : ∀ {l : List Lab}, Sorted l → setP l key val = setR l key val := by
  intro l
  induction l with
  | nil => intro _; rfl
  | cons x l ih =>
    intro hs
    obtain ⟨h1, h2⟩ := List.pairwise_cons.1 hs
    have ih := ih h2
    by_cases ha : aheadB key x = true
    · have ho : otherB key x = true := by
        unfold otherB strB
        rw [Bool.not_eq_true', decide_eq_false_iff_not]
        intro e
        unfold aheadB at ha
        rw [e, less_irrefl] at ha
        cases ha
      unfold setP setR dropL at ih ⊢
      rw [List.filter_cons, if_pos ho, List.takeWhile_cons, if_pos ha, List.dropWhile_cons, if_pos ha, List.takeWhile_cons, if_pos ha, List.dropWhile_cons, if_pos ha, List.cons_append, List.cons_append, ih]
    · have ha' : aheadB key x = false := by simpa using ha
      have hall : ∀ y ∈ dropL (x :: l) key, aheadB key y = false := by
        intro y hy
        have hy2 := List.mem_filter.1 hy
        rcases List.mem_cons.1 hy2.1 with rfl | hy1
        · exact ha'
        · cases hc : aheadB key y with
          | false => rfl
          | true =>
            have := less_trans (h1 y hy1) hc
            unfold aheadB at ha'
            rw [this] at ha'
            cases ha'
      have e1 : (dropL (x :: l) key).takeWhile (aheadB key) = [] := by
        cases hd : dropL (x :: l) key with
        | nil => rfl
        | cons y m => rw [List.takeWhile_cons, hall y (by rw [hd]; exact List.mem_cons_self)]; rfl
      have e2 : (dropL (x :: l) key).dropWhile (aheadB key) = dropL (x :: l) key := by
        cases hd : dropL (x :: l) key with
        | nil => rfl
        | cons y m => rw [List.dropWhile_cons, hall y (by rw [hd]; exact List.mem_cons_self)]; rfl
      unfold setP setR
      rw [e1, e2, List.takeWhile_cons, List.dropWhile_cons, ha']
      rfl
theorem while_at {α : Type} {P : α → Bool} : ∀ {l : List α} {k : Nat}, (l.take k).all P = true → (k = l.length ∨ ∃ x, l[k]? = some x ∧ P x = false) → l.takeWhile P = l.take k ∧ l.dropWhile P = l.drop k
  | [], k, _, _ => by simp
  | a :: l, 0, _, h => by
    rcases h with h | ⟨x, hx, hp⟩
    · simp at h
    · obtain rfl : a = x := by simpa using hx
      simp [hp]
  | a :: l, k + 1, h1, h2 => by
    rw [List.take_succ_cons, List.all_cons, Bool.and_eq_true] at h1
    have h3 : k = l.length ∨ ∃ x, l[k]? = some x ∧ P x = false := by
      rcases h2 with h | ⟨x, hx, hp⟩
      · exact .inl (by simpa using h)
      · exact .inr ⟨x, by simpa using hx, hp⟩
    obtain ⟨e1, e2⟩ := while_at h1.2 h3
    constructor
    · rw [List.takeWhile_cons, if_pos h1.1, List.take_succ_cons, e1]
    · rw [List.dropWhile_cons, if_pos h1.1, List.drop_succ_cons, e2]
/-- What is left of the labels behind the place, so far. -/
def tailK (key : ByteArray) (l : List Lab) (k j : Nat) : List Lab := ((l.drop k).take (j - k)).filter (otherB key)
theorem tail_yes {key : ByteArray} {l : List Lab} {k j : Nat} {x : Lab} (hkj : k ≤ j) (hx : l[j]? = some x) (h : otherB key x = true) : tailK key l k (j + 1) = tailK key l k j ++ [x] := by
  have e : j + 1 - k = (j - k) + 1 := by omega
  have hx2 : (l.drop k)[j - k]? = some x := by rw [List.getElem?_drop, ← hx]; congr 1; omega
  unfold tailK
  rw [e]
  exact filt_yes hx2 h
theorem tail_no {key : ByteArray} {l : List Lab} {k j : Nat} {x : Lab} (hkj : k ≤ j) (hx : l[j]? = some x) (h : otherB key x = false) : tailK key l k (j + 1) = tailK key l k j := by
  have e : j + 1 - k = (j - k) + 1 := by omega
  have hx2 : (l.drop k)[j - k]? = some x := by rw [List.getElem?_drop, ← hx]; congr 1; omega
  unfold tailK
  rw [e]
  exact filt_no hx2 h
theorem tail_len (key : ByteArray) (l : List Lab) (k j : Nat) : (tailK key l k j).length ≤ j := by
  unfold tailK
  refine Nat.le_trans (List.length_filter_le _ _) ?_
  rw [List.length_take]
  omega
theorem tail_end {key : ByteArray} {l : List Lab} {k n : Nat} (h : l.length = n) : tailK key l k n = (l.drop k).filter (otherB key) := by
  unfold tailK
  rw [List.take_of_length_le (by rw [List.length_drop]; omega)]
/-- A slice from a place on. -/
theorem rows_sliced {α : Type} {enc : α → List Value} {K : Nat} {W : World} {a : Option Addr} {l : List α} {k c : Nat} (h : RowsAt enc K W a l) (hc : l.length ≤ c) : RowsAt enc K W (if c = k then a else a.map (·.add (k * K))) (l.drop k) := by
  intro h0
  rw [List.length_drop] at h0
  obtain ⟨b, off, rfl, hb, hr⟩ := h (by omega)
  rw [if_neg (by omega)]
  refine ⟨b, off + k * K, by rw [Option.map_some, Go.WideShapes.add_plain], hb, fun i x hx r hr' => ?_⟩
  rw [List.getElem?_drop] at hx
  have := hr (k + i) x hx r hr'
  have e : off + k * K + i * K + r = off + (k + i) * K + r := by rw [Nat.add_mul]; omega
  rw [e]
  exact this
end Lb
end Go.Proofs.Ythbpnfpalcgfeaa
