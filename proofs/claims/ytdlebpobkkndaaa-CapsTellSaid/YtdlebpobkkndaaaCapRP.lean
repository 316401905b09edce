/-
  CapsRoom, in plain numbers: what one more, and as many more, leave of the caps.
-/
import Derived.Test.YtdlebpobkkndaaaCapO
namespace Go.Proofs.Ytdlebpobkkndaaa
open Go.RowKit
set_option linter.unusedVariables false

theorem roomL_app : ∀ (l l' : List Int) (r : Int), 0 ≤ roomL r l → roomL r (l ++ l') = roomL (roomL r l) l'
  | [], l', r, _ => rfl
  | a :: l, l', r, h => by
    rw [List.cons_append]
    unfold roomL at h
    by_cases h1 : r - a < 0
    · rw [if_pos h1] at h; omega
    · rw [if_neg h1] at h
      rw [show roomL r (a :: (l ++ l')) = roomL (r - a) (l ++ l') by rw [roomL, if_neg h1], show roomL r (a :: l) = roomL (r - a) l by rw [roomL, if_neg h1]]
      exact roomL_app l l' (r - a) h
theorem roomL_neg : ∀ (l l' : List Int) (r : Int), 0 ≤ r → roomL r l < 0 → roomL r (l ++ l') < 0
  | [], l', r, h0, h => absurd h (by unfold roomL; omega)
  | a :: l, l', r, h0, h => by
    rw [List.cons_append]
    by_cases h1 : r - a < 0
    · rw [roomL, if_pos h1]; exact h1
    · rw [roomL, if_neg h1] at h
      rw [roomL, if_neg h1]
      exact roomL_neg l l' (r - a) (by omega) h
theorem roomL_rep (a : Int) (ha : 0 ≤ a) : ∀ (k : Nat) (r : Int), 0 ≤ r → (roomL r (List.replicate k a) < 0 ↔ r < k * a)
  | 0, r, h => by simp [roomL]
  | k + 1, r, h => by
    have e : ((k + 1 : Nat) : Int) * a = k * a + a := by rw [Int.natCast_add, Int.add_mul]; simp
    have hp : 0 ≤ (k : Int) * a := Int.mul_nonneg (by omega) ha
    rw [List.replicate_succ, roomL, e]
    by_cases h1 : r - a < 0
    · rw [if_pos h1]
      exact ⟨fun _ => by omega, fun _ => h1⟩
    · rw [if_neg h1, roomL_rep a ha k (r - a) (by omega)]
      constructor <;> intro <;> omega

def more (ms : List Mac) (like : Mac) (k : Nat) : List Mac := ms ++ List.replicate k like
theorem more_succ (ms : List Mac) (like : Mac) (k : Nat) : more ms like (k + 1) = more ms like k ++ [like] := by
  unfold more
  rw [List.replicate_succ', List.append_assoc]
theorem more_len (ms : List Mac) (like : Mac) (k : Nat) : (more ms like k).length = ms.length + k := by simp [more]
theorem more_ok {ms : List Mac} {like : Mac} (h : MacsOk ms) (hl : MacsOk [like]) (k : Nat) : MacsOk (more ms like k) := fun x hx => by
  rcases List.mem_append.1 hx with h1 | h1
  · exact h x h1
  · exact hl x (by rw [(List.mem_replicate.1 h1).2]; exact List.mem_singleton.2 rfl)
theorem more_amt (q : Nat) (ms : List Mac) (like : Mac) (k : Nat) : (more ms like k).map (amt q) = ms.map (amt q) ++ List.replicate k (amt q like) := by
  unfold more
  rw [List.map_append, List.map_replicate]
theorem amt_nn {like : Mac} (hl : MacsOk [like]) (q : Nat) : 0 ≤ amt q like := by
  have := hl like (List.mem_singleton.2 rfl)
  unfold amt
  split
  · omega
  · split <;> omega

/-- Within a cap with k more: where it is at all. -/
theorem keep_more {q : Nat} {c : Int} {ms : List Mac} {like : Mac} (hl : MacsOk [like]) (k : Nat) (hc : 0 ≤ c) (h : keepB q c ms = true) : keepB q c (more ms like k) = true ↔ (c ≠ 0 → (k : Int) * amt q like ≤ roomL c (ms.map (amt q))) := by
  have ha := amt_nn hl q
  unfold keepB at h ⊢
  by_cases h0 : c = 0
  · rw [decide_eq_true h0]
    simp [h0]
  · rw [decide_eq_false h0] at h ⊢
    have hr : 0 ≤ roomL c (ms.map (amt q)) := by
      have h2 : ¬ roomL c (ms.map (amt q)) < 0 := by simpa using h
      omega
    have e : roomL c ((more ms like k).map (amt q)) < 0 ↔ roomL c (ms.map (amt q)) < k * amt q like := by rw [more_amt, roomL_app _ _ _ hr, roomL_rep _ ha k _ hr]
    simp only [Bool.false_or, Bool.not_eq_true', decide_eq_false_iff_not, e]
    exact ⟨fun h1 _ => by omega, fun h1 => by have := h1 h0; omega⟩
theorem keep_fewer {q : Nat} {c : Int} {ms : List Mac} {like : Mac} (k : Nat) (hc : 0 ≤ c) (h : keepB q c ms = false) : keepB q c (more ms like k) = false := by
  unfold keepB at h ⊢
  by_cases h0 : c = 0
  · rw [decide_eq_true h0] at h; cases h
  · rw [decide_eq_false h0] at h ⊢
    have hr : roomL c (ms.map (amt q)) < 0 := by simpa using h
    have e : roomL c ((more ms like k).map (amt q)) < 0 := by rw [more_amt]; exact roomL_neg _ _ _ hc hr
    rw [decide_eq_true e]
    rfl
theorem step_le (q : Nat) (c : Int) (ms : List Mac) (like : Mac) (n : Int) : stepQ q c ms like n ≤ n := by
  unfold stepQ
  split
  · split <;> omega
  · omega
/-- What a step is: the number before, or just what the cap has room for. -/
theorem step_or (q : Nat) (c : Int) (ms : List Mac) (like : Mac) (n : Int) : stepQ q c ms like n = n ∨ (c ≠ 0 ∧ 0 < amt q like ∧ stepQ q c ms like n = roomL c (ms.map (amt q)) / amt q like) := by
  unfold stepQ
  split
  next h =>
    split
    · exact .inr ⟨h.1, h.2, rfl⟩
    · exact .inl rfl
  next => exact .inl rfl
theorem step_ok {q : Nat} {c : Int} {ms : List Mac} {like : Mac} {n : Int} (h : c ≠ 0 ∧ 0 < amt q like) : stepQ q c ms like n ≤ roomL c (ms.map (amt q)) / amt q like := by
  unfold stepQ
  rw [if_pos h]
  split <;> omega
theorem fits_of {q : Nat} {c : Int} {ms : List Mac} {like : Mac} (hl : MacsOk [like]) {n : Int} {k : Nat} (hk : (k : Int) ≤ stepQ q c ms like n ∨ k = 0) (hr : c ≠ 0 → 0 ≤ roomL c (ms.map (amt q))) : c ≠ 0 → (k : Int) * amt q like ≤ roomL c (ms.map (amt q)) := fun hc => by
  have ha := amt_nn hl q
  have hr := hr hc
  rcases hk with hk | rfl
  · by_cases h0 : 0 < amt q like
    · have h1 := step_ok (n := n) (ms := ms) (And.intro hc h0)
      have h2 : (k : Int) ≤ roomL c (ms.map (amt q)) / amt q like := by omega
      have h3 := Int.mul_le_mul_of_nonneg_right h2 ha
      have h4 := Int.ediv_mul_le (roomL c (ms.map (amt q))) (show amt q like ≠ 0 by omega)
      omega
    · have : amt q like = 0 := by omega
      rw [this, Int.mul_zero]
      exact hr
  · simp; exact hr
theorem full_of {q : Nat} {c : Int} {ms : List Mac} {like : Mac} (h0 : 0 < amt q like) {k : Nat} (hk : (k : Int) = roomL c (ms.map (amt q)) / amt q like) : ¬ ((k + 1 : Nat) : Int) * amt q like ≤ roomL c (ms.map (amt q)) := by
  intro h
  have h1 : (k : Int) + 1 ≤ roomL c (ms.map (amt q)) / amt q like := (Int.le_ediv_iff_mul_le h0).2 (by simpa using h)
  omega

theorem room_bounds (c0 c1 c2 : Int) (ms : List Mac) (like : Mac) (h : ms.length ≤ 30) : 0 ≤ roomV c0 c1 c2 ms like ∧ roomV c0 c1 c2 ms like ≤ 200 - ms.length := by
  have e3 : stepsTo c0 c1 c2 ms like 3 ≤ 200 - (ms.length : Int) := by
    show stepQ 2 c2 ms like (stepQ 1 c1 ms like (stepQ 0 c0 ms like (200 - (ms.length : Int)))) ≤ _
    have := step_le 0 c0 ms like (200 - (ms.length : Int))
    have := step_le 1 c1 ms like (stepQ 0 c0 ms like (200 - (ms.length : Int)))
    have := step_le 2 c2 ms like (stepQ 1 c1 ms like (stepQ 0 c0 ms like (200 - (ms.length : Int))))
    omega
  unfold roomV
  split
  · split <;> omega
  · omega
theorem room_in {c0 c1 c2 : Int} (h0 : 0 ≤ c0) (h1 : 0 ≤ c1) (h2 : 0 ≤ c2) {ms : List Mac} {like : Mac} (hl : MacsOk [like]) (hw : withinB c0 c1 c2 ms = true) {k : Nat} (hk : (k : Int) = roomV c0 c1 c2 ms like) : withinB c0 c1 c2 (more ms like k) = true := by
  obtain ⟨r0, r1, r2⟩ := within_room hw
  unfold withinB at hw ⊢
  simp only [Bool.and_eq_true] at hw ⊢
  have hs : (k : Int) ≤ stepsTo c0 c1 c2 ms like 3 ∨ k = 0 := by
    unfold roomV at hk
    rw [if_pos (by unfold withinB; simp [hw])] at hk
    split at hk <;> omega
  have e3 : stepsTo c0 c1 c2 ms like 3 = stepQ 2 c2 ms like (stepQ 1 c1 ms like (stepQ 0 c0 ms like (200 - (ms.length : Int)))) := rfl
  rw [e3] at hs
  have s2 := step_le 2 c2 ms like (stepQ 1 c1 ms like (stepQ 0 c0 ms like (200 - (ms.length : Int))))
  have s1 := step_le 1 c1 ms like (stepQ 0 c0 ms like (200 - (ms.length : Int)))
  exact ⟨⟨(keep_more hl k h0 hw.1.1).2 (fits_of hl (n := 200 - (ms.length : Int)) (by omega) r0), (keep_more hl k h1 hw.1.2).2 (fits_of hl (n := stepQ 0 c0 ms like (200 - (ms.length : Int))) (by omega) r1)⟩, (keep_more hl k h2 hw.2).2 (fits_of hl hs r2)⟩
theorem room_out {c0 c1 c2 : Int} (h0 : 0 ≤ c0) (h1 : 0 ≤ c1) (h2 : 0 ≤ c2) {ms : List Mac} {like : Mac} (hl : MacsOk [like]) (hm : ms.length ≤ 30) {k : Nat} (hk : (k : Int) = roomV c0 c1 c2 ms like) : 200 < ms.length + k + 1 ∨ withinB c0 c1 c2 (more ms like (k + 1)) = false := by
  cases hw : withinB c0 c1 c2 ms
  · refine .inr ?_
    unfold withinB at hw ⊢
    rw [Bool.and_eq_false_iff, Bool.and_eq_false_iff] at hw ⊢
    rcases hw with (h | h) | h
    · exact .inl (.inl (keep_fewer _ h0 h))
    · exact .inl (.inr (keep_fewer _ h1 h))
    · exact .inr (keep_fewer _ h2 h)
  · obtain ⟨r0, r1, r2⟩ := within_room hw
    have hw2 := hw
    unfold withinB at hw
    simp only [Bool.and_eq_true] at hw
    have hq : ∀ q c, (c ≠ 0 → 0 ≤ roomL c (ms.map (amt q))) → c ≠ 0 → 0 < amt q like → 0 ≤ roomL c (ms.map (amt q)) / amt q like := fun q c hr hc ha => Int.ediv_nonneg (hr hc) (by omega)
    have e3 : stepsTo c0 c1 c2 ms like 3 = stepQ 2 c2 ms like (stepQ 1 c1 ms like (stepQ 0 c0 ms like (200 - (ms.length : Int)))) := rfl
    obtain ⟨n1, hn1⟩ : ∃ n1, stepQ 0 c0 ms like (200 - (ms.length : Int)) = n1 := ⟨_, rfl⟩
    obtain ⟨n2, hn2⟩ : ∃ n2, stepQ 1 c1 ms like n1 = n2 := ⟨_, rfl⟩
    obtain ⟨n3, hn3⟩ : ∃ n3, stepQ 2 c2 ms like n2 = n3 := ⟨_, rfl⟩
    rw [hn1, hn2, hn3] at e3
    have p1 := step_or 0 c0 ms like (200 - (ms.length : Int))
    have p2 := step_or 1 c1 ms like n1
    have p3 := step_or 2 c2 ms like n2
    rw [hn1] at p1
    rw [hn2] at p2
    rw [hn3] at p3
    have hn1' : 0 ≤ n1 := by
      rcases p1 with h | ⟨a, b, h⟩
      · omega
      · rw [h]; exact hq 0 c0 r0 a b
    have hn2' : 0 ≤ n2 := by
      rcases p2 with h | ⟨a, b, h⟩
      · omega
      · rw [h]; exact hq 1 c1 r1 a b
    have hn3' : 0 ≤ n3 := by
      rcases p3 with h | ⟨a, b, h⟩
      · omega
      · rw [h]; exact hq 2 c2 r2 a b
    have hkn : (k : Int) = n3 := by
      unfold roomV at hk
      rw [if_pos hw2, e3, if_neg (by omega)] at hk
      exact hk
    have out : ∀ q c, 0 ≤ c → keepB q c ms = true → c ≠ 0 → 0 < amt q like → (k : Int) = roomL c (ms.map (amt q)) / amt q like → keepB q c (more ms like (k + 1)) = false := by
      intro q c hc hkp ha hb e
      cases hf : keepB q c (more ms like (k + 1)) with
      | false => rfl
      | true => exact absurd ((keep_more hl (k + 1) hc hkp).1 hf ha) (full_of hb e)
    unfold withinB
    rw [Bool.and_eq_false_iff, Bool.and_eq_false_iff]
    rcases p3 with e | ⟨a, b, e⟩
    · rcases p2 with f | ⟨a, b, f⟩
      · rcases p1 with g | ⟨a, b, g⟩
        · exact .inl (by omega)
        · exact .inr (.inl (.inl (out 0 c0 h0 hw.1.1 a b (by omega))))
      · exact .inr (.inl (.inr (out 1 c1 h1 hw.1.2 a b (by omega))))
    · exact .inr (.inr (out 2 c2 h2 hw.2 a b (by omega)))
end Go.Proofs.Ytdlebpobkkndaaa
