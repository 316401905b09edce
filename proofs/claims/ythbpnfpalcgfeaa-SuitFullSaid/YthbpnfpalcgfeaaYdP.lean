/-
  Yards: what stands once, counted.
-/
import Derived.Test.YthbpnfpalcgfeaaYdK
namespace Go.Proofs.Ythbpnfpalcgfeaa
open Go.RowKit
set_option linter.unusedVariables false
set_option linter.unusedSimpArgs false

theorem findN_le : ∀ (l : List ByteArray) (x : ByteArray) (i k : Nat), l[i]? = some x → (k : Int) ≤ findN l x k ∧ findN l x k ≤ k + i
  | [], x, i, k, h => by simp at h
  | y :: l, x, 0, k, h => by
    obtain rfl : y = x := by simpa using h
    unfold findN
    rw [if_pos rfl]
    omega
  | y :: l, x, i + 1, k, h => by
    have h9 := findN_le l x i (k + 1) (by simpa using h)
    unfold findN
    split <;> omega
theorem findN_mem : ∀ (l : List ByteArray) (x : ByteArray) (k : Nat), 0 ≤ findN l x k → x ∈ l
  | [], x, k, h => by unfold findN at h; omega
  | y :: l, x, k, h => by
    unfold findN at h
    split at h
    · rename_i e; rw [e]; exact List.mem_cons_self
    · exact List.mem_cons_of_mem _ (findN_mem l x (k + 1) h)
theorem find_once {N : List ByteArray} (h : twiceN N = false) {i : Nat} {x : ByteArray} (hx : N[i]? = some x) : findN N x 0 = i := by
  unfold twiceN at h
  rw [List.any_eq_false] at h
  obtain ⟨hi, hv⟩ := List.getElem?_eq_some_iff.1 hx
  have h1 := h i (List.mem_range.2 hi)
  have h2 : N.getD i emp = x := by rw [List.getD_eq_getElem?_getD, hx]; rfl
  rw [h2] at h1
  have h3 := (findN_le N x i 0 hx).2
  simp only [decide_eq_true_eq] at h1
  omega
theorem once_take {N : List ByteArray} (h : twiceN N = false) {i : Nat} {x : ByteArray} (hx : N[i]? = some x) : x ∉ N.take i := fun hm => by
  obtain ⟨j, hj⟩ := List.mem_iff_getElem?.1 hm
  rw [List.getElem?_take] at hj
  split at hj
  · rename_i hji
    have h1 := find_once h hx
    have h2 := find_once h hj
    omega
  · cases hj
theorem filt_or {p q : Bd → Bool} : ∀ {l : List Bd}, (∀ b ∈ l, p b = true → q b = true → False) → (l.filter fun b => p b || q b).length = (l.filter p).length + (l.filter q).length
  | [], _ => rfl
  | b :: l, h => by
    have ih := filt_or (p := p) (q := q) (l := l) fun c hc => h c (List.mem_cons_of_mem _ hc)
    have hb := h b List.mem_cons_self
    rw [List.filter_cons, List.filter_cons, List.filter_cons]
    cases hp : p b <;> cases hq : q b <;> simp [hp, hq] at hb ⊢ <;> omega
def inT (N : List ByteArray) (k : Nat) (b : Bd) : Bool := decide (b.on = emp) || (N.take k).any fun y => decide (b.on = y)
def cntF (N : List ByteArray) (bs : List Bd) (k : Nat) : Nat := (bs.filter (inT N k)).length
theorem inT_iff (N : List ByteArray) (k : Nat) (b : Bd) : inT N k b = true ↔ b.on = emp ∨ b.on ∈ N.take k := by
  unfold inT
  rw [Bool.or_eq_true, decide_eq_true_eq, List.any_eq_true]
  constructor
  · rintro (h | ⟨y, hy, h⟩)
    · exact .inl h
    · rw [decide_eq_true_eq] at h
      exact .inr (h ▸ hy)
  · rintro (h | h)
    · exact .inl h
    · exact .inr ⟨_, h, decide_eq_true rfl⟩
theorem cnt_start (N : List ByteArray) (bs : List Bd) : (onL bs emp).length = cntF N bs 0 := by
  unfold onL cntF
  rw [List.length_map]
  congr 2
  funext b
  unfold isOn inT
  rw [List.take_zero, List.any_nil, Bool.or_false]
theorem cnt_next {N : List ByteArray} (bs : List Bd) {k : Nat} {x : ByteArray} (hx : N[k]? = some x) (h0 : x ≠ emp) (h1 : x ∉ N.take k) : cntF N bs (k + 1) = cntF N bs k + (onL bs x).length := by
  unfold onL cntF
  rw [List.length_map, ← filt_or]
  · congr 2
    funext b
    unfold isOn inT
    rw [List.take_add_one, hx]
    simp only [Option.toList, List.any_append, List.any_cons, List.any_nil, Bool.or_false, Bool.or_assoc]
  · intro b _ hp hq
    rw [inT_iff] at hp
    unfold isOn at hq
    rw [decide_eq_true_eq] at hq
    rw [hq] at hp
    rcases hp with hp | hp
    · exact h0 hp
    · exact h1 hp
theorem cnt_all {N : List ByteArray} {bs : List Bd} (h : ∀ b ∈ bs, b.on = emp ∨ b.on ∈ N) : cntF N bs N.length = bs.length := by
  unfold cntF
  rw [List.filter_eq_self.2]
  intro b hb
  rw [inT_iff, List.take_length]
  exact h b hb
theorem check_zero {ms : List Mac} {bs : List Bd} (h : checkY ms bs = 0) : ms.length ≤ 200 ∧ ms.all okM = true ∧ twiceN (ms.map Mac.nm) = false ∧ bs.all (onB (ms.map Mac.nm)) = true ∧ checkY ms [] = 0 := by
  unfold checkY at h
  split at h
  · omega
  · rename_i h1
    split at h
    · omega
    · rename_i h2
      split at h
      · omega
      · rename_i h3
        split at h
        · omega
        · rename_i h4
          have h2' : ms.all okM = true ∧ bs.all okBd = true := Decidable.not_not.1 h2
          have h4' := Decidable.not_not.1 h4
          have h3' : twiceN (ms.map Mac.nm) = false := by
            cases ht : twiceN (ms.map Mac.nm)
            · rfl
            · exact absurd (.inl ht) h3
          refine ⟨by omega, h2'.1, h3', h4', ?_⟩
          unfold checkY
          rw [if_neg (by simp; omega), if_neg (by simp [h2'.1]), if_neg (by rw [h3']; decide), if_neg (by simp)]
end Go.Proofs.Ythbpnfpalcgfeaa
