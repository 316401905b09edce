/-
  Texts in their order; what labels are with one more.
-/
import Derived.Test.YtemeocgmlhmooaaLab2
namespace Go.Proofs.Ytemeocgmlhmooaa
open Go.RowKit
set_option linter.unusedVariables false

theorem bl_irrefl : ∀ x : List UInt8, Op.bytesLess x x = false
  | [] => rfl
  | a :: x => by
    rw [Op.bytesLess, bl_irrefl x]
    simp [UInt8.lt_irrefl]
theorem bl_trans : ∀ x y z : List UInt8, Op.bytesLess x y = true → Op.bytesLess y z = true → Op.bytesLess x z = true
  | _, [], _, h, _ => by cases h' : (‹List UInt8›) <;> simp [Op.bytesLess] at h
  | _, _ :: _, [], _, h => by simp [Op.bytesLess] at h
  | [], _ :: _, _ :: _, _, _ => rfl
  | a :: x, b :: y, c :: z, h1, h2 => by
    simp only [Op.bytesLess, Bool.or_eq_true, Bool.and_eq_true, decide_eq_true_eq, beq_iff_eq] at h1 h2 ⊢
    rcases h1 with h1 | ⟨rfl, h1⟩
    · rcases h2 with h2 | ⟨rfl, h2⟩
      · exact .inl (UInt8.lt_trans h1 h2)
      · exact .inl h1
    · rcases h2 with h2 | ⟨rfl, h2⟩
      · exact .inl h2
      · exact .inr ⟨rfl, bl_trans x y z h1 h2⟩
theorem bl_tri : ∀ x y : List UInt8, Op.bytesLess x y = false → Op.bytesLess y x = false → x = y
  | [], [], _, _ => rfl
  | [], _ :: _, h, _ => by simp [Op.bytesLess] at h
  | _ :: _, [], _, h => by simp [Op.bytesLess] at h
  | a :: x, b :: y, h1, h2 => by
    simp only [Op.bytesLess, Bool.or_eq_false_iff, Bool.and_eq_false_iff, decide_eq_false_iff_not, beq_eq_false_iff_ne] at h1 h2
    have e : a = b := by
      have := h1.1
      have := h2.1
      exact UInt8.le_antisymm (UInt8.not_lt.1 h2.1) (UInt8.not_lt.1 h1.1)
    subst e
    have h3 := h1.2.resolve_left (fun h => h rfl)
    have h4 := h2.2.resolve_left (fun h => h rfl)
    rw [bl_tri x y h3 h4]

theorem data_drop (a : ByteArray) (i : Nat) (h : i < a.size) : ∃ u : UInt8, u.toNat = (a.get! i).toNat ∧ a.toList.drop i = u :: a.toList.drop (i + 1) := by
  rw [ByteArray.toList_eq]
  have h' : i < a.data.toList.length := by rw [Array.length_toList]; exact h
  refine ⟨a.data.toList[i], ?_, List.drop_eq_getElem_cons h'⟩
  rw [get_bang a i h]
  rfl
theorem data_end (a : ByteArray) (i : Nat) (h : a.size ≤ i) : a.toList.drop i = [] := by
  rw [ByteArray.toList_eq]
  exact List.drop_eq_nil_of_le (by rw [Array.length_toList]; exact h)
theorem less_drop (a b : ByteArray) : ∀ f i, a.size ≤ i + f → i ≤ a.size → i ≤ b.size → lessF a b f i = Op.bytesLess (a.toList.drop i) (b.toList.drop i) := by
  intro f
  have hend : ∀ i, i ≤ a.size → i ≤ b.size → ¬ (i < a.size ∧ i < b.size) → decide (a.size < b.size) = Op.bytesLess (a.toList.drop i) (b.toList.drop i) := by
    intro i h1 h2 h3
    by_cases h4 : i < b.size
    · obtain ⟨u, _, e⟩ := data_drop b i h4
      rw [data_end a i (by omega), e, decide_eq_true (by omega)]
      rfl
    · rw [data_end b i (by omega), decide_eq_false (by omega)]
      cases a.toList.drop i <;> rfl
  induction f with
  | zero =>
    intro i h1 h2 h3
    rw [lessF_end 0 i (by omega)]
    exact hend i h2 h3 (by omega)
  | succ f ih =>
    intro i h1 h2 h3
    by_cases h : i < a.size ∧ i < b.size
    · obtain ⟨u, hu, eu⟩ := data_drop a i h.1
      obtain ⟨v, hv, ev⟩ := data_drop b i h.2
      rw [lessF, if_pos h, eu, ev, Op.bytesLess, ← hu, ← hv]
      by_cases e : u.toNat = v.toNat
      · have e2 : u = v := UInt8.toNat_inj.1 e
        rw [if_pos e, ih (i + 1) (by omega) (by omega) (by omega)]
        subst e2
        simp [UInt8.lt_irrefl]
      · rw [if_neg e]
        have e2 : (u == v) = false := by rw [beq_eq_false_iff_ne]; exact fun h => e (by rw [h])
        rw [e2, Bool.false_and, Bool.or_false]
        exact decide_eq_decide.2 UInt8.lt_iff_toNat_lt.symm
    · rw [lessF_end _ i h]
      exact hend i h2 h3 h
/-- The document's order of texts is the language's. -/
theorem less_eq (a b : ByteArray) : lessB a b = Op.bytesLess a.toList b.toList := by
  have := less_drop a b a.size 0 (by omega) (Nat.zero_le _) (Nat.zero_le _)
  simpa [lessB] using this
theorem less_irrefl (a : ByteArray) : lessB a a = false := by rw [less_eq]; exact bl_irrefl _
theorem less_trans {a b c : ByteArray} (h1 : lessB a b = true) (h2 : lessB b c = true) : lessB a c = true := by
  rw [less_eq] at h1 h2 ⊢
  exact bl_trans _ _ _ h1 h2
theorem less_tri {a b : ByteArray} (h1 : lessB a b = false) (h2 : lessB b a = false) : a = b := by
  rw [less_eq] at h1 h2
  exact (str_inj _ _).1 (bl_tri _ _ h1 h2)

def aheadB (key : ByteArray) (x : Lab) : Bool := lessB x.key key
/-- Labels with one more, as the program sets it. -/
def setP (l : List Lab) (key val : ByteArray) : List Lab := l.takeWhile (aheadB key) ++ ⟨key, val⟩ :: (l.dropWhile (aheadB key)).filter (otherB key)
/-- As the document has it. -/
def setR (l : List Lab) (key val : ByteArray) : List Lab := (dropL l key).takeWhile (aheadB key) ++ ⟨key, val⟩ :: (dropL l key).dropWhile (aheadB key)
def Sorted (l : List Lab) : Prop := l.Pairwise fun x y => lessB x.key y.key = true
theorem set_eq {key : ByteArray} (val : ByteArray) : ∀ {l : List Lab}, Sorted l → setP l key val = setR l key val := by
  intro l
  induction l with
  | nil => intro _; rfl
  | cons x l ih =>
    intro hs
    obtain ⟨h1, h2⟩ := List.pairwise_cons.1 hs
    have ih := ih h2
    by_cases ha : aheadB key x = true
    · have ho : otherB key x = true := by
        unfold otherB strB
        rw [Bool.not_eq_true', decide_eq_false_iff_not]
        intro e
        unfold aheadB at ha
        rw [e, less_irrefl] at ha
        cases ha
      unfold setP setR dropL at ih ⊢
      rw [List.filter_cons, if_pos ho, List.takeWhile_cons, if_pos ha, List.dropWhile_cons, if_pos ha, List.takeWhile_cons, if_pos ha, List.dropWhile_cons, if_pos ha, List.cons_append, List.cons_append, ih]
    · have ha' : aheadB key x = false := by simpa using ha
      have hall : ∀ y ∈ dropL (x :: l) key, aheadB key y = false := by
        intro y hy
        have hy2 := List.mem_filter.1 hy
        rcases List.mem_cons.1 hy2.1 with rfl | hy1
        · exact ha'
        · cases hc : aheadB key y with
          | false => rfl
          | true =>
            have := less_trans (h1 y hy1) hc
            unfold aheadB at ha'
            rw [this] at ha'
            cases ha'
      have e1 : (dropL (x :: l) key).takeWhile (aheadB key) = [] := by
        cases hd : dropL (x :: l) key with
        | nil => rfl
        | cons y m => rw [List.takeWhile_cons, hall y (by rw [hd]; exact List.mem_cons_self)]; rfl
      have e2 : (dropL (x :: l) key).dropWhile (aheadB key) = dropL (x :: l) key := by
        cases hd : dropL (x :: l) key with
        | nil => rfl
        | cons y m => rw [List.dropWhile_cons, hall y (by rw [hd]; exact List.mem_cons_self)]; rfl
      unfold setP setR
      rw [e1, e2, List.takeWhile_cons, List.dropWhile_cons, ha']
      rfl
theorem while_at {α : Type} {P : α → Bool} : ∀ {l : List α} {k : Nat}, (l.take k).all P = true → (k = l.length ∨ ∃ x, l[k]? = some x ∧ P x = false) → l.takeWhile P = l.take k ∧ l.dropWhile P = l.drop k
  | [], k, _, _ => by simp
  | a :: l, 0, _, h => by
    rcases h with h | ⟨x, hx, hp⟩
    · simp at h
    · obtain rfl : a = x := by simpa using hx
      simp [hp]
  | a :: l, k + 1, h1, h2 => by
    rw [List.take_succ_cons, List.all_cons, Bool.and_eq_true] at h1
    have h3 : k = l.length ∨ ∃ x, l[k]? = some x ∧ P x = false := by
      rcases h2 with h | ⟨x, hx, hp⟩
      · exact .inl (by simpa using h)
      · exact .inr ⟨x, by simpa using hx, hp⟩
    obtain ⟨e1, e2⟩ := while_at h1.2 h3
    constructor
    · rw [List.takeWhile_cons, if_pos h1.1, List.take_succ_cons, e1]
    · rw [List.dropWhile_cons, if_pos h1.1, List.drop_succ_cons, e2]
/-- What is left of the labels behind the place, so far. -/
def tailK (key : ByteArray) (l : List Lab) (k j : Nat) : List Lab := ((l.drop k).take (j - k)).filter (otherB key)
theorem tail_yes {key : ByteArray} {l : List Lab} {k j : Nat} {x : Lab} (hkj : k ≤ j) (hx : l[j]? = some x) (h : otherB key x = true) : tailK key l k (j + 1) = tailK key l k j ++ [x] := by
  have e : j + 1 - k = (j - k) + 1 := by omega
  have hx2 : (l.drop k)[j - k]? = some x := by rw [List.getElem?_drop, ← hx]; congr 1; omega
  unfold tailK
  rw [e]
  exact filt_yes hx2 h
theorem tail_no {key : ByteArray} {l : List Lab} {k j : Nat} {x : Lab} (hkj : k ≤ j) (hx : l[j]? = some x) (h : otherB key x = false) : tailK key l k (j + 1) = tailK key l k j := by
  have e : j + 1 - k = (j - k) + 1 := by omega
  have hx2 : (l.drop k)[j - k]? = some x := by rw [List.getElem?_drop, ← hx]; congr 1; omega
  unfold tailK
  rw [e]
  exact filt_no hx2 h
theorem tail_len (key : ByteArray) (l : List Lab) (k j : Nat) : (tailK key l k j).length ≤ j := by
  unfold tailK
  refine Nat.le_trans (List.length_filter_le _ _) ?_
  rw [List.length_take]
  omega
theorem tail_end {key : ByteArray} {l : List Lab} {k n : Nat} (h : l.length = n) : tailK key l k n = (l.drop k).filter (otherB key) := by
  unfold tailK
  rw [List.take_of_length_le (by rw [List.length_drop]; omega)]
/-- A slice from a place on. -/
theorem rows_sliced {α : Type} {enc : α → List Value} {K : Nat} {W : World} {a : Option Addr} {l : List α} {k c : Nat} (h : RowsAt enc K W a l) (hc : l.length ≤ c) : RowsAt enc K W (if c = k then a else a.map (·.add (k * K))) (l.drop k) := by
  intro h0
  rw [List.length_drop] at h0
  obtain ⟨b, off, rfl, hb, hr⟩ := h (by omega)
  rw [if_neg (by omega)]
  refine ⟨b, off + k * K, by rw [Option.map_some, Go.WideShapes.add_plain], hb, fun i x hx r hr' => ?_⟩
  rw [List.getElem?_drop] at hx
  have := hr (k + i) x hx r hr'
  have e : off + k * K + i * K + r = off + (k + i) * K + r := by rw [Nat.add_mul]; omega
  rw [e]
  exact this
end Go.Proofs.Ytemeocgmlhmooaa
