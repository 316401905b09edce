/-
  Kin, in plain words: where a name stands; what the lists of places are.
-/
import Derived.Test.YtccplljbljpjpaaDoorKi5
namespace Go.Proofs.YtccplljbljpjpaaDoor
open Go.ChangeShapes Go.WideShapes Go.ChangeAt Go.RowKit
set_option linter.unusedVariables false
set_option linter.unusedSimpArgs false

theorem findN_spec : ∀ (N : List ByteArray) (x : ByteArray) (k i : Nat), N[i]? = some x → (findN N x k = ((k + i : Nat) : Int) ↔ ∀ j, j < i → N[j]? ≠ some x)
  | [], x, k, i, h => by simp at h
  | y :: N, x, k, 0, h => by
    have e : y = x := by simpa using h
    unfold findN
    rw [if_pos e]
    simp
  | y :: N, x, k, i + 1, h => by
    have h' : N[i]? = some x := by simpa using h
    unfold findN
    by_cases e : y = x
    · rw [if_pos e]
      constructor
      · intro hh; omega
      · intro hh; exact absurd (by simp [e]) (hh 0 (Nat.succ_pos _))
    · rw [if_neg e]
      have ih := findN_spec N x (k + 1) i h'
      rw [show k + (i + 1) = k + 1 + i by omega, ih]
      constructor
      · intro hh j hj
        cases j with
        | zero => simpa using e
        | succ j => simpa using hh j (by omega)
      · intro hh j hj
        have := hh (j + 1) (by omega)
        simpa using this
theorem nodup_find {N : List ByteArray} : N.Nodup ↔ ∀ (i : Nat) (y : ByteArray), N[i]? = some y → findN N y 0 = (i : Int) := by
  constructor
  · intro h i y hy
    have := (findN_spec N y 0 i hy).2 (fun j hj hjy => by
      obtain ⟨p1, e1⟩ := List.getElem?_eq_some_iff.1 hy
      obtain ⟨p2, e2⟩ := List.getElem?_eq_some_iff.1 hjy
      exact (List.pairwise_iff_getElem.1 h) j i p2 p1 hj (by rw [e1, e2]))
    simpa using this
  · intro h
    refine List.pairwise_iff_getElem.2 fun i j hi hj hij e => ?_
    have h1 := (findN_spec N N[j] 0 j (List.getElem?_eq_getElem hj)).1 (by simpa using h j _ (List.getElem?_eq_getElem hj)) i hij
    exact h1 (by rw [List.getElem?_eq_getElem hi, e])
theorem posB_at : ∀ {D : List ByteArray} {x : ByteArray}, posB D x < D.length → D[posB D x]? = some x
  | [], x, h => by simp at h
  | y :: D, x, h => by
    unfold posB at h ⊢
    by_cases e : y = x
    · rw [if_pos e, e]; simp
    · rw [if_neg e] at h ⊢
      rw [List.getElem?_cons_succ]
      exact posB_at (by rw [List.length_cons] at h; omega)
theorem posB_no : ∀ {D : List ByteArray} {x : ByteArray}, ¬ posB D x < D.length → x ∉ D
  | [], x, h => by simp
  | y :: D, x, h => by
    unfold posB at h
    by_cases e : y = x
    · rw [if_pos e] at h; simp at h
    · rw [if_neg e] at h
      intro hm
      rcases List.mem_cons.1 hm with rfl | hm
      · exact e rfl
      · exact posB_no (by rw [List.length_cons] at h; omega) hm
theorem posB_lt_of : ∀ {k : Nat} {D : List ByteArray} {x : ByteArray}, (∀ j, j < k → D[j]? ≠ some x) → k ≤ D.length → k ≤ posB D x
  | k, [], x, h, hk => by rw [List.length_nil] at hk; omega
  | 0, y :: D, x, h, hk => Nat.zero_le _
  | k + 1, y :: D, x, h, hk => by
    unfold posB
    have e : y ≠ x := by have := h 0 (Nat.succ_pos _); simpa using this
    rw [if_neg e]
    have := posB_lt_of (k := k) (D := D) (x := x) (fun j hj => by have := h (j + 1) (by omega); simpa using this) (by rw [List.length_cons] at hk; omega)
    omega
theorem posB_le_at : ∀ {D : List ByteArray} {x : ByteArray} {i : Nat}, D[i]? = some x → posB D x ≤ i
  | [], x, i, h => by simp at h
  | y :: D, x, 0, h => by
    have e : y = x := by simpa using h
    unfold posB
    rw [if_pos e]
    exact Nat.le_refl _
  | y :: D, x, i + 1, h => by
    have h' : D[i]? = some x := by simpa using h
    unfold posB
    split
    · exact Nat.zero_le _
    · have := posB_le_at h'
      omega
/-- What the lists are, behind the first k keys. -/
structure GInv (K : List ByteArray) (k : Nat) (D : List ByteArray) (G : List (List Int)) : Prop where
  len : D.length = G.length
  nd : D.Nodup
  mem : ∀ (i : Nat) (g : List Int) (y : ByteArray), G[i]? = some g → D[i]? = some y → ∀ x ∈ g, ∃ n : Nat, x = (n : Int) ∧ n < k ∧ K[n]? = some y
  ne : ∀ g ∈ G, g ≠ []
  perm : G.flatten.Perm ((List.range k).map Int.ofNat)
theorem GInv.nil (K : List ByteArray) : GInv K 0 [] [] := ⟨rfl, List.nodup_nil, fun i g y h => by simp at h, fun g h => by simp at h, by simp⟩
theorem flat_set : ∀ (G : List (List Int)) (p : Nat) (g : List Int) (x : Int), G[p]? = some g → (G.set p (g ++ [x])).flatten.Perm (G.flatten ++ [x])
  | [], p, g, x, h => by simp at h
  | a :: G, 0, g, x, h => by
    have e : a = g := by simpa using h
    subst e
    rw [List.set_cons_zero, List.flatten_cons, List.flatten_cons, List.append_assoc, List.append_assoc]
    exact List.Perm.append_left a List.perm_append_comm
  | a :: G, p + 1, g, x, h => by
    have h' : G[p]? = some g := by simpa using h
    rw [List.set_cons_succ, List.flatten_cons, List.flatten_cons, List.append_assoc]
    exact List.Perm.append_left a (flat_set G p g x h')
theorem range_ofNat (k : Nat) : (List.range (k + 1)).map Int.ofNat = (List.range k).map Int.ofNat ++ [(k : Int)] := by
  rw [List.range_succ, List.map_append]
  rfl
theorem GInv.step {K : List ByteArray} {k : Nat} {D : List ByteArray} {G : List (List Int)} {y : ByteArray} (h : GInv K k D G) (hy : K[k]? = some y) :
    GInv K (k + 1) (stepG D G y k).1 (stepG D G y k).2 := by
  unfold stepG
  by_cases hp : posB D y < D.length
  · rw [if_pos hp]
    have hD := posB_at hp
    obtain ⟨p, hpp⟩ : ∃ p, posB D y = p := ⟨_, rfl⟩
    rw [hpp] at hp hD ⊢
    obtain ⟨g, hg⟩ : ∃ g, G[p]? = some g := ⟨_, List.getElem?_eq_getElem (by rw [← h.len]; exact hp)⟩
    have hgd : G.getD p [] = g := by rw [List.getD_eq_getElem?_getD, hg]; rfl
    dsimp only
    rw [hgd]
    refine ⟨by rw [List.length_set]; exact h.len, h.nd, fun i g' y' hg' hy' x hx => ?_, fun g' hg' => ?_, ?_⟩
    · by_cases hi : i = p
      · subst hi
        rw [List.getElem?_set_self (by rw [← h.len]; exact hp)] at hg'
        obtain rfl := Option.some.inj hg'
        rw [hD] at hy'
        obtain rfl := Option.some.inj hy'
        rcases List.mem_append.1 hx with hx | hx
        · obtain ⟨n, e, hn, hk⟩ := h.mem i g y hg hD x hx
          exact ⟨n, e, by omega, hk⟩
        · rw [List.mem_singleton] at hx
          exact ⟨k, hx, by omega, hy⟩
      · rw [List.getElem?_set_ne (fun e => hi e.symm)] at hg'
        obtain ⟨n, e, hn, hk⟩ := h.mem i g' y' hg' hy' x hx
        exact ⟨n, e, by omega, hk⟩
    · rcases List.mem_or_eq_of_mem_set hg' with h1 | h1
      · exact h.ne g' h1
      · rw [h1]; simp
    · rw [range_ofNat]
      exact (flat_set G p g _ hg).trans (List.Perm.append_right _ h.perm)
  · rw [if_neg hp]
    dsimp only
    refine ⟨by rw [List.length_append, List.length_append, h.len]; rfl, ?_, fun i g' y' hg' hy' x hx => ?_, fun g' hg' => ?_, ?_⟩
    · rw [List.nodup_append]
      refine ⟨h.nd, by simp, fun a ha b hb => ?_⟩
      rw [List.mem_singleton] at hb
      subst hb
      exact fun e => posB_no hp (e ▸ ha)
    · rcases Nat.lt_or_ge i G.length with hi | hi
      · rw [List.getElem?_append_left hi] at hg'
        rw [List.getElem?_append_left (by rw [h.len]; exact hi)] at hy'
        obtain ⟨n, e, hn, hk⟩ := h.mem i g' y' hg' hy' x hx
        exact ⟨n, e, by omega, hk⟩
      · rw [List.getElem?_append_right hi] at hg'
        rw [List.getElem?_append_right (by rw [h.len]; exact hi)] at hy'
        have e1 := List.mem_singleton.1 (List.mem_of_getElem? hg')
        have e2 := List.mem_singleton.1 (List.mem_of_getElem? hy')
        subst e1 e2
        rw [List.mem_singleton] at hx
        exact ⟨k, hx, by omega, hy⟩
    · rcases List.mem_append.1 hg' with h1 | h1
      · exact h.ne g' h1
      · rw [List.mem_singleton.1 h1]; simp
    · rw [range_ofNat, List.flatten_append]
      exact List.Perm.append_right _ h.perm
theorem GInv.run {K : List ByteArray} : ∀ (m k : Nat) {D : List ByteArray} {G : List (List Int)}, K.length - k = m → k ≤ K.length → GInv K k D G → ∃ D', GInv K K.length D' (grS (K.drop k) k D G)
  | 0, k, D, G, hm, hk, h => by
    obtain rfl : k = K.length := by omega
    rw [List.drop_of_length_le (Nat.le_refl _)]
    exact ⟨D, h⟩
  | m + 1, k, D, G, hm, hk, h => by
    obtain ⟨y, hy⟩ : ∃ y, K[k]? = some y := ⟨_, List.getElem?_eq_getElem (by omega)⟩
    rw [grS_at hy]
    exact GInv.run m (k + 1) (by omega) (by omega) (h.step hy)
theorem grS_inv (K : List ByteArray) : ∃ D, GInv K K.length D (grS K 0 [] []) := by
  have h := GInv.run (K := K) K.length 0 (by omega) (Nat.zero_le _) (GInv.nil K)
  rwa [List.drop_zero] at h
theorem GInv.keys {K : List ByteArray} {D : List ByteArray} {G : List (List Int)} (h : GInv K K.length D G) (y : ByteArray) : y ∈ D ↔ y ∈ K := by
  constructor
  · intro hy
    obtain ⟨i, hi, e⟩ := List.mem_iff_getElem.1 hy
    have hg : i < G.length := by rw [← h.len]; exact hi
    have hne := h.ne G[i] (List.getElem_mem hg)
    obtain ⟨x, hx⟩ := List.exists_mem_of_ne_nil _ hne
    obtain ⟨n, _, _, hn⟩ := h.mem i _ y (List.getElem?_eq_getElem hg) (by rw [List.getElem?_eq_getElem hi, e]) x hx
    exact List.mem_of_getElem? hn
  · intro hy
    obtain ⟨n, hn, e⟩ := List.mem_iff_getElem.1 hy
    have hm : (n : Int) ∈ G.flatten := h.perm.mem_iff.2 (List.mem_map.2 ⟨n, List.mem_range.2 hn, rfl⟩)
    obtain ⟨g, hg, hx⟩ := List.mem_flatten.1 hm
    obtain ⟨i, hi, e2⟩ := List.mem_iff_getElem.1 hg
    have hd : i < D.length := by rw [h.len]; exact hi
    obtain ⟨n', e3, _, hn'⟩ := h.mem i g D[i] (by rw [List.getElem?_eq_getElem hi, e2]) (List.getElem?_eq_getElem hd) _ hx
    obtain rfl : n = n' := by omega
    rw [List.getElem?_eq_getElem hn, e] at hn'
    rw [Option.some.inj hn']
    exact List.getElem_mem hd
theorem nodup_len : ∀ {A B : List ByteArray}, A.Nodup → (∀ x ∈ A, x ∈ B) → A.length ≤ B.length
  | [], B, _, _ => Nat.zero_le _
  | a :: A, B, h, hs => by
    have h1 := List.nodup_cons.1 h
    have ha := hs a List.mem_cons_self
    have := nodup_len (A := A) (B := B.filter fun z => decide (z ≠ a)) h1.2 (fun x hx => List.mem_filter.2 ⟨hs x (List.mem_cons_of_mem _ hx), decide_eq_true fun e => h1.1 (by rw [← e]; exact hx)⟩)
    have hp : (B.filter fun z => decide (z ≠ a)).length < B.length := List.length_filter_lt_length_iff_exists.2 ⟨a, ha, by simp⟩
    rw [List.length_cons]
    omega
theorem grS_back (K : List ByteArray) : (grS K.reverse 0 [] []).length = (grS K 0 [] []).length := by
  obtain ⟨D, h⟩ := grS_inv K
  obtain ⟨E, k⟩ := grS_inv K.reverse
  have a := nodup_len h.nd (B := E) (fun x hx => (k.keys x).2 (List.mem_reverse.2 ((h.keys x).1 hx)))
  have b := nodup_len k.nd (B := D) (fun x hx => (h.keys x).2 (List.mem_reverse.1 ((k.keys x).1 hx)))
  have := h.len
  have := k.len
  omega
theorem stepG_le {D : List ByteArray} {G : List (List Int)} {y : ByteArray} {k j : Nat} (h : G.length ≤ k ∧ ∀ g ∈ G, g.length ≤ k) : (stepG D G y j).2.length ≤ k + 1 ∧ ∀ g ∈ (stepG D G y j).2, g.length ≤ k + 1 := by
  unfold stepG
  split
  · dsimp only
    refine ⟨by rw [List.length_set]; omega, fun g hg => ?_⟩
    rcases List.mem_or_eq_of_mem_set hg with h1 | h1
    · have := h.2 g h1; omega
    · rw [h1, List.length_append, List.getD_eq_getElem?_getD]
      cases hh : G[posB D y]? with
      | none => simp
      | some g' => have := h.2 g' (List.mem_of_getElem? hh); show g'.length + 1 ≤ k + 1; omega
  · dsimp only
    refine ⟨by rw [List.length_append]; show G.length + 1 ≤ k + 1; omega, fun g hg => ?_⟩
    rcases List.mem_append.1 hg with h1 | h1
    · have := h.2 g h1; omega
    · rw [List.mem_singleton.1 h1]; show 1 ≤ k + 1; omega
theorem grS_le : ∀ (K : List ByteArray) (j : Nat) (D : List ByteArray) (G : List (List Int)) (k : Nat), (G.length ≤ k ∧ ∀ g ∈ G, g.length ≤ k) → (grS K j D G).length ≤ k + K.length ∧ ∀ g ∈ grS K j D G, g.length ≤ k + K.length
  | [], j, D, G, k, h => h
  | y :: K, j, D, G, k, h => by
    have h2 := grS_le K (j + 1) (stepG D G y j).1 (stepG D G y j).2 (k + 1) (stepG_le h)
    rw [List.length_cons]
    have e : k + 1 + K.length = k + (K.length + 1) := by omega
    rw [e] at h2
    exact h2
theorem grpK_le (l : List Pd) : (grpK l).1.length ≤ l.length ∧ ∀ g ∈ (grpK l).1, g.length ≤ l.length := by
  unfold grpK
  split
  · split
    · exact ⟨Nat.zero_le _, fun g hg => by cases hg⟩
    · have h := grS_le (l.map keyP) 0 [] [] 0 ⟨Nat.le_refl _, fun g hg => by cases hg⟩
      rw [List.length_map, Nat.zero_add] at h
      exact h
  · exact ⟨Nat.zero_le _, fun g hg => by cases hg⟩
end Go.Proofs.YtccplljbljpjpaaDoor
