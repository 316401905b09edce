/-
  A row of numbers that is put in order: the merge of two parts.
-/
import Derived.Test.YtdfadbpepmkicaaGreatMBx
import Derived.Laws.OwnMore
import Derived.Test.YtdfadbpepmkicaaGreatRows
import Derived.WalkKit
import Derived.WalkSpells
import Derived.WalkLawsBesides
import Derived.BigQuiet
import Derived.Lib.Hide
import Derived.BigRegion
namespace Go.Proofs.YtdfadbpepmkicaaGreat
set_option linter.unusedVariables false
set_option linter.unusedSimpArgs false
structure TOrd (R : Int → Int → Prop) : Prop where
  tr : ∀ {x y z}, R x y → R y z → R x z
  asy : ∀ {x y}, R x y → ¬ R y x
  tot : ∀ {x y}, x ≠ y → R x y ∨ R y x
def at' (L : List Int) (i : Nat) : Int := L.getD i 0
def Srt (R : Int → Int → Prop) (L : List Int) (a b : Nat) : Prop := ∀ i j, a ≤ i → i < j → j < b → R (at' L i) (at' L j)
def Vs (L : List Int) (a m b : Nat) : Prop := ∀ i j, a ≤ i → i < m → m ≤ j → j < b → at' L i < at' L j
structure Mov (L L' : List Int) (a b : Nat) : Prop where
  pm : L'.Perm L
  out : ∀ i, i < a ∨ b ≤ i → at' L' i = at' L i
  frm : ∀ i, a ≤ i → i < b → ∃ j, a ≤ j ∧ j < b ∧ at' L' i = at' L j
theorem Mov.refl (L : List Int) (a b : Nat) : Mov L L a b := ⟨List.Perm.refl _, fun _ _ => rfl, fun i h1 h2 => ⟨i, h1, h2, rfl⟩⟩
theorem Mov.len {L L' : List Int} {a b : Nat} (h : Mov L L' a b) : L'.length = L.length := h.pm.length_eq
theorem Mov.trans {L L' L'' : List Int} {a b : Nat} (h : Mov L L' a b) (k : Mov L' L'' a b) : Mov L L'' a b :=
  ⟨k.pm.trans h.pm, fun i hi => (k.out i hi).trans (h.out i hi), fun i h1 h2 => by
    obtain ⟨j, j1, j2, e⟩ := k.frm i h1 h2
    obtain ⟨q, q1, q2, e2⟩ := h.frm j j1 j2
    exact ⟨q, q1, q2, e.trans e2⟩⟩
theorem Mov.wide {L L' : List Int} {a b a' b' : Nat} (h : Mov L L' a b) (ha : a' ≤ a) (hb : b ≤ b') : Mov L L' a' b' :=
  ⟨h.pm, fun i hi => h.out i (by omega), fun i h1 h2 => by
    by_cases hi : a ≤ i ∧ i < b
    · obtain ⟨j, j1, j2, e⟩ := h.frm i hi.1 hi.2
      exact ⟨j, by omega, by omega, e⟩
    · exact ⟨i, h1, h2, h.out i (by omega)⟩⟩
theorem Mov.srt_hi {R : Int → Int → Prop} {L L' : List Int} {a b c : Nat} (h : Mov L L' a b) (hs : Srt R L b c) : Srt R L' b c := fun i j i1 ij j1 => by
  rw [h.out i (by omega), h.out j (by omega)]
  exact hs i j i1 ij j1
theorem Mov.srt_hi2 {R : Int → Int → Prop} {L L' : List Int} {a b c d : Nat} (h : Mov L L' a b) (hc : b ≤ c) (hs : Srt R L c d) : Srt R L' c d := fun i j i1 ij j1 => by
  rw [h.out i (by omega), h.out j (by omega)]
  exact hs i j i1 ij j1
theorem Mov.vs_hi {L L' : List Int} {a b c d : Nat} (h : Mov L L' a b) (hs : Vs L b c d) : Vs L' b c d := fun i j i1 i2 j1 j2 => by
  rw [h.out i (by omega), h.out j (by omega)]
  exact hs i j i1 i2 j1 j2
theorem Mov.srt_lo {R : Int → Int → Prop} {L L' : List Int} {a b c : Nat} (h : Mov L L' b c) (hs : Srt R L a b) : Srt R L' a b := fun i j i1 ij j1 => by
  rw [h.out i (by omega), h.out j (by omega)]
  exact hs i j i1 ij j1
theorem vs_two {L L1 L2 : List Int} {m n : Nat} (h : ∀ i j, i < j → j < n → at' L i < at' L j) (h1 : Mov L L1 0 m) (h2 : Mov L1 L2 m n) : Vs L2 0 m n := fun i j i1 i2 j1 j2 => by
  obtain ⟨p, p1, p2, e⟩ := h1.frm i i1 i2
  obtain ⟨q, q1, q2, e2⟩ := h2.frm j j1 j2
  rw [h2.out i (.inl i2), e, e2, h1.out q (.inr q1)]
  exact h p q (by omega) q2
theorem at_lt {L : List Int} {i : Nat} (h : i < L.length) : at' L i = L[i] := by unfold at'; rw [List.getD_eq_getElem?_getD, List.getElem?_eq_getElem h]; rfl
theorem at_some {L : List Int} {i : Nat} (h : i < L.length) : L[i]? = some (at' L i) := by rw [at_lt h, List.getElem?_eq_getElem h]
theorem at_set {L : List Int} {i j : Nat} {x : Int} (h : i < L.length) : at' (L.set i x) j = if j = i then x else at' L j := by
  unfold at'
  rw [List.getD_eq_getElem?_getD, List.getD_eq_getElem?_getD]
  by_cases hj : j = i
  · subst hj
    rw [if_pos rfl, List.getElem?_set_self h]
    rfl
  · rw [if_neg hj, List.getElem?_set_ne (fun e => hj e.symm)]
def swp (L : List Int) (i j : Nat) : List Int := (L.set i (at' L j)).set j (at' L i)
theorem at_swp {L : List Int} {i j k : Nat} (hi : i < L.length) (hj : j < L.length) : at' (swp L i j) k = if k = j then at' L i else if k = i then at' L j else at' L k := by
  unfold swp
  rw [at_set (by rw [List.length_set]; exact hj), at_set hi]
theorem perm_set : ∀ {L : List Int} {i : Nat} {x : Int}, i < L.length → (L.set i x).Perm (x :: L.eraseIdx i)
  | y :: L, 0, x, h => List.Perm.refl _
  | y :: L, i + 1, x, h => by
    rw [List.set_cons_succ, List.eraseIdx_cons_succ]
    exact ((perm_set (by simpa using h)).cons y).trans (List.Perm.swap _ _ _)
theorem perm_at {L : List Int} {i : Nat} (h : i < L.length) : L.Perm (at' L i :: L.eraseIdx i) := by
  have h2 := perm_set (x := at' L i) h
  rw [at_lt h, List.set_getElem_self] at h2
  rw [at_lt h]
  exact h2
theorem swp_perm {L : List Int} {i j : Nat} (hi : i < L.length) (hj : j < L.length) : (swp L i j).Perm L := by
  rw [List.perm_iff_count]
  intro x
  have h1 := (perm_set (x := at' L i) (L := L.set i (at' L j)) (i := j) (by rw [List.length_set]; exact hj)).count_eq x
  have h2 := (perm_at (L := L.set i (at' L j)) (i := j) (by rw [List.length_set]; exact hj)).count_eq x
  have h3 := (perm_set (x := at' L j) hi).count_eq x
  have h4 := (perm_at hi).count_eq x
  rw [at_set hi] at h2
  simp only [List.count_cons] at h1 h2 h3 h4
  unfold swp
  by_cases e : j = i
  · subst e
    rw [if_pos rfl] at h2
    omega
  · rw [if_neg e] at h2
    omega
theorem swp_mov {L : List Int} {i j a b : Nat} (hb : b ≤ L.length) (hi : a ≤ i ∧ i < b) (hj : a ≤ j ∧ j < b) : Mov L (swp L i j) a b := by
  have h1 : i < L.length := by omega
  have h2 : j < L.length := by omega
  refine ⟨swp_perm h1 h2, fun k hk => ?_, fun k k1 k2 => ?_⟩
  · rw [at_swp h1 h2, if_neg (by omega), if_neg (by omega)]
  · rw [at_swp h1 h2]
    by_cases e1 : k = j
    · exact ⟨i, hi.1, hi.2, if_pos e1⟩
    · by_cases e2 : k = i
      · exact ⟨j, hj.1, hj.2, by rw [if_neg e1, if_pos e2]⟩
      · exact ⟨k, k1, k2, by rw [if_neg e1, if_neg e2]⟩
theorem sorted_unique {R : Int → Int → Prop} (hR : TOrd R) : ∀ {A B : List Int}, A.Perm B → A.Pairwise R → B.Pairwise R → A = B
  | [], B, h, _, _ => by rw [List.nil_perm.1 h]
  | x :: A, [], h, _, _ => by simpa using h.length_eq
  | x :: A, y :: B, h, ha, hb => by
    have ha' := List.pairwise_cons.1 ha
    have hb' := List.pairwise_cons.1 hb
    have e : x = y := by
      by_cases e : x = y
      · exact e
      · exfalso
        have hx : x ∈ B := by
          rcases List.mem_cons.1 (h.mem_iff.1 (List.mem_cons_self)) with e2 | h2
          · exact absurd e2 e
          · exact h2
        have hy : y ∈ A := by
          rcases List.mem_cons.1 (h.mem_iff.2 (List.mem_cons_self)) with e2 | h2
          · exact absurd e2.symm e
          · exact h2
        exact hR.asy (ha'.1 y hy) (hb'.1 x hx)
    subst e
    rw [sorted_unique hR ((List.perm_cons x).1 h) ha'.2 hb'.2]
theorem srt_pair {R : Int → Int → Prop} {L : List Int} (h : Srt R L 0 L.length) : L.Pairwise R := by
  rw [List.pairwise_iff_getElem]
  intro i j hi hj hij
  have := h i j (Nat.zero_le _) hij hj
  rwa [at_lt hi, at_lt hj] at this
structure Rot (L L' : List Int) (a m b : Nat) : Prop where
  mv : Mov L L' a b
  lo : ∀ i, a ≤ i → i < a + (b - m) → at' L' i = at' L (m + (i - a))
  hi : ∀ i, a + (b - m) ≤ i → i < b → at' L' i = at' L (a + (i - (a + (b - m))))
theorem sym_parts {R : Int → Int → Prop} (hR : TOrd R) {less : Int → Int → Bool} (hless : ∀ x y, x < y → (less y x = true ↔ R y x)) {L L' : List Int} {a m b mid n start e : Nat}
    (ham : a < m) (hmb : m < b) (hmid : mid = (a + b) / 2) (hn : n = mid + m) (he : e = n - start)
    (h1 : Srt R L a m) (h2 : Srt R L m b) (hV : Vs L a m b)
    (s0 : a ≤ start) (s1 : start ≤ m) (s2 : start ≤ mid) (s3 : m ≤ e) (s4 : mid ≤ e) (s5 : e ≤ b)
    (hlo : start = a ∨ e = b ∨ less (at' L e) (at' L (start - 1)) = false)
    (hhi : start = m ∨ e = m ∨ less (at' L (e - 1)) (at' L start) = true)
    (hrot : Rot L L' start m e) :
    Mov L L' a b ∧ Srt R L' a start ∧ Srt R L' start mid ∧ Srt R L' mid e ∧ Srt R L' e b ∧ Vs L' a start mid ∧ Vs L' mid e b ∧ (∀ i j, a ≤ i → i < mid → mid ≤ j → j < b → R (at' L' i) (at' L' j)) := by
  have hse : start + (e - m) = mid := by omega
  have o1 : ∀ i, i < start → at' L' i = at' L i := fun i hi => hrot.mv.out i (by omega)
  have o2 : ∀ i, e ≤ i → at' L' i = at' L i := fun i hi => hrot.mv.out i (by omega)
  have o3 : ∀ i, start ≤ i → i < mid → at' L' i = at' L (m + (i - start)) := fun i h3 h4 => hrot.lo i h3 (by omega)
  have o4 : ∀ i, mid ≤ i → i < e → at' L' i = at' L (start + (i - mid)) := fun i h3 h4 => by
    have := hrot.hi i (by omega) h4
    rwa [hse] at this
  refine ⟨hrot.mv.wide s0 s5, ?_, ?_, ?_, ?_, ?_, ?_, ?_⟩
  · intro i j i1 ij j1
    rw [o1 i (by omega), o1 j j1]
    exact h1 i j i1 ij (by omega)
  · intro i j i1 ij j1
    rw [o3 i i1 (by omega), o3 j (by omega) j1]
    exact h2 _ _ (by omega) (by omega) (by omega)
  · intro i j i1 ij j1
    rw [o4 i i1 (by omega), o4 j (by omega) j1]
    exact h1 _ _ (by omega) (by omega) (by omega)
  · intro i j i1 ij j1
    rw [o2 i i1, o2 j (by omega)]
    exact h2 i j (by omega) ij j1
  · intro i j i1 i2 j1 j2
    rw [o1 i i2, o3 j j1 j2]
    exact hV _ _ i1 (by omega) (by omega) (by omega)
  · intro i j i1 i2 j1 j2
    rw [o4 i i1 i2, o2 j j1]
    exact hV _ _ (by omega) (by omega) (by omega) j2
  · have key1 : ∀ c d, a ≤ c → c < start → e ≤ d → d < b → R (at' L c) (at' L d) := fun c d c1 c2 d1 d2 => by
      rcases hlo with h | h | h
      · omega
      · omega
      · have hv := hV (start - 1) e (by omega) (by omega) (by omega) (by omega)
        have hn : ¬ R (at' L e) (at' L (start - 1)) := fun hh => by
          rw [(hless _ _ hv).2 hh] at h
          cases h
        have h3 : R (at' L (start - 1)) (at' L e) := by
          rcases hR.tot (x := at' L (start - 1)) (y := at' L e) (by omega) with h4 | h4
          · exact h4
          · exact absurd h4 hn
        have h4 : R (at' L c) (at' L e) := by
          by_cases hc : c = start - 1
          · rw [hc]; exact h3
          · exact hR.tr (h1 c (start - 1) c1 (by omega) (by omega)) h3
        by_cases hd : d = e
        · rw [hd]; exact h4
        · exact hR.tr h4 (h2 e d (by omega) (by omega) d2)
    have key2 : ∀ d c, m ≤ d → d < e → start ≤ c → c < m → R (at' L d) (at' L c) := fun d c d1 d2 c1 c2 => by
      rcases hhi with h | h | h
      · omega
      · omega
      · have hv := hV start (e - 1) (by omega) (by omega) (by omega) (by omega)
        have h3 := (hless _ _ hv).1 h
        have h4 : R (at' L d) (at' L start) := by
          by_cases hd : d = e - 1
          · rw [hd]; exact h3
          · exact hR.tr (h2 d (e - 1) d1 (by omega) (by omega)) h3
        by_cases hc : c = start
        · rw [hc]; exact h4
        · exact hR.tr h4 (h1 start c s0 (by omega) c2)
    intro i j i1 i2 j1 j2
    by_cases hi : i < start
    · rw [o1 i hi]
      by_cases hj : j < e
      · rw [o4 j j1 hj]
        exact h1 _ _ i1 (by omega) (by omega)
      · rw [o2 j (by omega)]
        exact key1 i j i1 hi (by omega) j2
    · rw [o3 i (by omega) i2]
      by_cases hj : j < e
      · rw [o4 j j1 hj]
        exact key2 _ _ (by omega) (by omega) (by omega) (by omega)
      · rw [o2 j (by omega)]
        exact h2 _ _ (by omega) (by omega) j2
theorem srt_join {R : Int → Int → Prop} {L L1 L2 : List Int} {a mid b : Nat} (hx : ∀ i j, a ≤ i → i < mid → mid ≤ j → j < b → R (at' L i) (at' L j)) (m1 : Mov L L1 a mid) (m2 : Mov L1 L2 mid b) (s1 : Srt R L1 a mid) (s2 : Srt R L2 mid b) (ham : a ≤ mid) (hmb : mid ≤ b) :
    Mov L L2 a b ∧ Srt R L2 a b := by
  refine ⟨(m1.wide (Nat.le_refl _) hmb).trans (m2.wide ham (Nat.le_refl _)), fun i j i1 ij j1 => ?_⟩
  by_cases hj : j < mid
  · rw [m2.out i (by omega), m2.out j (by omega)]
    exact s1 i j i1 ij hj
  · by_cases hi : i < mid
    · obtain ⟨p, p1, p2, e⟩ := m1.frm i i1 hi
      obtain ⟨q, q1, q2, e2⟩ := m2.frm j (by omega) j1
      rw [m2.out i (by omega), e, e2, m1.out q (by omega)]
      exact hx p q p1 p2 q1 q2
    · exact s2 i j (by omega) ij j1
theorem srt_all {R : Int → Int → Prop} {L L' : List Int} {a m b start e : Nat} (h1 : Srt R L a m) (h2 : Srt R L m b) (hrot : Rot L L' start m e) (s0 : a ≤ start) (s1 : start ≤ m) (s3 : m ≤ e) (s5 : e ≤ b)
    (hA : ∀ c d, a ≤ c → c < start → m ≤ d → d < b → R (at' L c) (at' L d)) (hB : ∀ c d, start ≤ c → c < m → m ≤ d → d < e → R (at' L d) (at' L c)) (hC : ∀ c d, start ≤ c → c < m → e ≤ d → d < b → R (at' L c) (at' L d)) : Srt R L' a b := by
  obtain ⟨q, hq⟩ : ∃ q, q = start + (e - m) := ⟨_, rfl⟩
  have o1 : ∀ i, i < start → at' L' i = at' L i := fun i hi => hrot.mv.out i (by omega)
  have o2 : ∀ i, e ≤ i → at' L' i = at' L i := fun i hi => hrot.mv.out i (by omega)
  have o3 : ∀ i, start ≤ i → i < q → at' L' i = at' L (m + (i - start)) := fun i h3 h4 => hrot.lo i h3 (by omega)
  have o4 : ∀ i, q ≤ i → i < e → at' L' i = at' L (start + (i - q)) := fun i h3 h4 => by
    have := hrot.hi i (by omega) h4
    rwa [← hq] at this
  intro i j i1 ij j1
  by_cases hi : i < start
  · rw [o1 i hi]
    by_cases hj : j < start
    · rw [o1 j hj]; exact h1 i j i1 ij (by omega)
    · by_cases hj2 : j < q
      · rw [o3 j (by omega) hj2]; exact hA _ _ i1 hi (by omega) (by omega)
      · by_cases hj3 : j < e
        · rw [o4 j (by omega) hj3]; exact h1 _ _ i1 (by omega) (by omega)
        · rw [o2 j (by omega)]; exact hA _ _ i1 hi (by omega) j1
  · by_cases hi2 : i < q
    · rw [o3 i (by omega) hi2]
      by_cases hj2 : j < q
      · rw [o3 j (by omega) hj2]; exact h2 _ _ (by omega) (by omega) (by omega)
      · by_cases hj3 : j < e
        · rw [o4 j (by omega) hj3]; exact hB _ _ (by omega) (by omega) (by omega) (by omega)
        · rw [o2 j (by omega)]; exact h2 _ _ (by omega) (by omega) j1
    · by_cases hi3 : i < e
      · rw [o4 i (by omega) hi3]
        by_cases hj3 : j < e
        · rw [o4 j (by omega) hj3]; exact h1 _ _ (by omega) (by omega) (by omega)
        · rw [o2 j (by omega)]; exact hC _ _ (by omega) (by omega) (by omega) j1
      · rw [o2 i (by omega), o2 j (by omega)]; exact h2 i j (by omega) ij j1
theorem Rot.refl_up (L : List Int) (a : Nat) : Rot L L a (a + 1) (a + 1) :=
  ⟨Mov.refl _ _ _, fun i h1 h2 => by omega, fun i h1 h2 => congrArg (at' L) (by omega)⟩
theorem Rot.up {L L' : List Int} {a k : Nat} (h : Rot L L' a (a + 1) (k + 1)) (hak : a ≤ k) (hl : k + 1 < L.length) : Rot L (swp L' k (k + 1)) a (a + 1) (k + 2) := by
  have hl' : k + 1 < L'.length := by rw [h.mv.len]; exact hl
  have hk' : k < L'.length := by omega
  have hx : at' L' k = at' L a := by
    have := h.hi k (by omega) (by omega)
    rw [this]
    exact congrArg (at' L) (by omega)
  have hy : at' L' (k + 1) = at' L (k + 1) := h.mv.out _ (by omega)
  refine ⟨(h.mv.wide (Nat.le_refl _) (by omega)).trans (swp_mov (by omega) ⟨hak, by omega⟩ ⟨by omega, by omega⟩), fun i h1 h2 => ?_, fun i h1 h2 => ?_⟩
  · rw [at_swp hk' hl', if_neg (by omega)]
    by_cases e : i = k
    · rw [if_pos e, hy]
      exact congrArg (at' L) (by omega)
    · rw [if_neg e]
      exact h.lo i h1 (by omega)
  · obtain rfl : i = k + 1 := by omega
    rw [at_swp hk' hl', if_pos rfl, hx]
    exact congrArg (at' L) (by omega)
theorem Rot.refl_dn (L : List Int) (m : Nat) : Rot L L m m (m + 1) :=
  ⟨Mov.refl _ _ _, fun i h1 h2 => congrArg (at' L) (by omega), fun i h1 h2 => by omega⟩
theorem Rot.dn {L L' : List Int} {k m : Nat} (h : Rot L L' (k + 1) m (m + 1)) (hkm : k + 1 ≤ m) (hl : m < L.length) : Rot L (swp L' (k + 1) k) k m (m + 1) := by
  have hk' : k + 1 < L'.length := by rw [h.mv.len]; omega
  have hk2 : k < L'.length := by omega
  have hx : at' L' (k + 1) = at' L m := by
    rw [h.lo (k + 1) (by omega) (by omega)]
    exact congrArg (at' L) (by omega)
  have hy : at' L' k = at' L k := h.mv.out _ (by omega)
  refine ⟨(h.mv.wide (by omega) (Nat.le_refl _)).trans (swp_mov (by rw [h.mv.len]; omega) ⟨by omega, by omega⟩ ⟨by omega, by omega⟩), fun i h1 h2 => ?_, fun i h1 h2 => ?_⟩
  · obtain rfl : i = k := by omega
    rw [at_swp hk' hk2, if_pos rfl, hx]
    exact congrArg (at' L) (by omega)
  · rw [at_swp hk' hk2, if_neg (by omega)]
    by_cases e : i = k + 1
    · rw [if_pos e, hy]
      exact congrArg (at' L) (by omega)
    · rw [if_neg e, h.hi i (by omega) h2]
      exact congrArg (at' L) (by omega)
structure SwR (L L' : List Int) (a b n : Nat) : Prop where
  pm : L'.Perm L
  x : ∀ k, a ≤ k → k < a + n → at' L' k = at' L (b + (k - a))
  y : ∀ k, b ≤ k → k < b + n → at' L' k = at' L (a + (k - b))
  z : ∀ k, (k < a ∨ a + n ≤ k) → (k < b ∨ b + n ≤ k) → at' L' k = at' L k
theorem SwR.refl (L : List Int) (a b : Nat) : SwR L L a b 0 := ⟨List.Perm.refl _, fun k h1 h2 => by omega, fun k h1 h2 => by omega, fun _ _ _ => rfl⟩
theorem SwR.step {L L' : List Int} {a b n : Nat} (h : SwR L L' a b n) (hab : a + n < b) (hl : b + n < L.length) : SwR L (swp L' (a + n) (b + n)) a b (n + 1) := by
  have e := h.pm.length_eq
  have h1 : a + n < L'.length := by omega
  have h2 : b + n < L'.length := by omega
  have ha : at' L' (a + n) = at' L (a + n) := h.z _ (by omega) (by omega)
  have hb : at' L' (b + n) = at' L (b + n) := h.z _ (by omega) (by omega)
  refine ⟨(swp_perm h1 h2).trans h.pm, fun k k1 k2 => ?_, fun k k1 k2 => ?_, fun k k1 k2 => ?_⟩
  · rw [at_swp h1 h2, if_neg (by omega)]
    by_cases e : k = a + n
    · rw [if_pos e, hb]; exact congrArg (at' L) (by omega)
    · rw [if_neg e]; exact h.x k k1 (by omega)
  · rw [at_swp h1 h2]
    by_cases e : k = b + n
    · rw [if_pos e, ha]; exact congrArg (at' L) (by omega)
    · rw [if_neg e, if_neg (by omega)]; exact h.y k k1 (by omega)
  · rw [at_swp h1 h2, if_neg (by omega), if_neg (by omega)]
    exact h.z k (by omega) (by omega)
theorem SwR.mov {L L' : List Int} {a b n lo hi : Nat} (h : SwR L L' a b n) (hab : a + n ≤ b) (h1 : lo ≤ a) (h2 : b + n ≤ hi) : Mov L L' lo hi := by
  refine ⟨h.pm, fun i hi => h.z i (by omega) (by omega), fun i i1 i2 => ?_⟩
  by_cases e1 : a ≤ i ∧ i < a + n
  · exact ⟨_, by omega, by omega, h.x i e1.1 e1.2⟩
  · by_cases e2 : b ≤ i ∧ i < b + n
    · exact ⟨_, by omega, by omega, h.y i e2.1 e2.2⟩
    · exact ⟨i, i1, i2, h.z i (by omega) (by omega)⟩
def rotF (L : List Int) (a m b p : Nat) : Int := if a ≤ p ∧ p < a + (b - m) then at' L (m + (p - a)) else if a + (b - m) ≤ p ∧ p < b then at' L (a + (p - (a + (b - m)))) else at' L p
theorem rot_gt {L L' : List Int} {m i j : Nat} (h : SwR L L' (m - i) m j) (hij : j < i) (him : i ≤ m) (p : Nat) : rotF L' (m - i + j) m (m + j) p = rotF L (m - i) m (m + j) p := by
  unfold rotF
  by_cases c1 : m - i ≤ p ∧ p < m - i + j
  · rw [if_neg (by omega), if_neg (by omega), if_pos (by omega), h.x p c1.1 c1.2]
  · by_cases c2 : m - i + j ≤ p ∧ p < m - i + j + j
    · rw [if_pos (by omega), if_neg (by omega), if_pos (by omega), h.y _ (by omega) (by omega)]
      exact congrArg (at' L) (by omega)
    · by_cases c3 : m - i + j + j ≤ p ∧ p < m + j
      · rw [if_neg (by omega), if_pos (by omega), if_neg (by omega), if_pos (by omega), h.z _ (by omega) (by omega)]
        exact congrArg (at' L) (by omega)
      · rw [if_neg (by omega), if_neg (by omega), if_neg (by omega), if_neg (by omega), h.z _ (by omega) (by omega)]
theorem rot_lt {L L' : List Int} {m i j : Nat} (h : SwR L L' (m - i) (m + j - i) i) (hij : i < j) (him : i ≤ m) (p : Nat) : rotF L' (m - i) m (m + j - i) p = rotF L (m - i) m (m + j) p := by
  unfold rotF
  by_cases c1 : m - i ≤ p ∧ p < m - i + (j - i)
  · rw [if_pos (by omega), if_pos (by omega), h.z _ (by omega) (by omega)]
  · by_cases c2 : m - i + (j - i) ≤ p ∧ p < m + j - i
    · rw [if_neg (by omega), if_pos (by omega), if_pos (by omega), h.x _ (by omega) (by omega)]
      exact congrArg (at' L) (by omega)
    · by_cases c3 : m + j - i ≤ p ∧ p < m + j
      · rw [if_neg (by omega), if_neg (by omega), if_neg (by omega), if_pos (by omega), h.y _ (by omega) (by omega)]
        exact congrArg (at' L) (by omega)
      · rw [if_neg (by omega), if_neg (by omega), if_neg (by omega), if_neg (by omega), h.z _ (by omega) (by omega)]
theorem rot_eq {L L' : List Int} {m i : Nat} (h : SwR L L' (m - i) m i) (him : i ≤ m) (p : Nat) : at' L' p = rotF L (m - i) m (m + i) p := by
  unfold rotF
  by_cases c1 : m - i ≤ p ∧ p < m
  · rw [if_pos (by omega), h.x p (by omega) (by omega)]
  · by_cases c2 : m ≤ p ∧ p < m + i
    · rw [if_neg (by omega), if_pos (by omega), h.y p (by omega) (by omega)]
      exact congrArg (at' L) (by omega)
    · rw [if_neg (by omega), if_neg (by omega), h.z p (by omega) (by omega)]
theorem rot_of {L L' : List Int} {a m b : Nat} (hm : Mov L L' a b) (h : ∀ p, at' L' p = rotF L a m b p) : Rot L L' a m b :=
  ⟨hm, fun i h1 h2 => by rw [h]; exact if_pos ⟨h1, h2⟩, fun i h1 h2 => by rw [h]; unfold rotF; rw [if_neg (by omega), if_pos ⟨h1, h2⟩]⟩
theorem not_less {R : Int → Int → Prop} (hR : TOrd R) {less : Int → Int → Bool} (hless : ∀ x y, x < y → (less y x = true ↔ R y x)) {x y : Int} (hxy : x < y) (h : less y x = false) : R x y := by
  rcases hR.tot (x := x) (y := y) (by omega) with h4 | h4
  · exact h4
  · rw [(hless x y hxy).2 h4] at h; cases h
theorem ins_dn {R : Int → Int → Prop} (hR : TOrd R) {less : Int → Int → Bool} (hless : ∀ x y, x < y → (less y x = true ↔ R y x)) {L L' : List Int} {a m i : Nat} (h1 : Srt R L a m) (hV : Vs L a m (m + 1)) (hrot : Rot L L' i m (m + 1))
    (s0 : a ≤ i) (s1 : i ≤ m) (hlo : i = a ∨ less (at' L m) (at' L (i - 1)) = false) (hhi : i = m ∨ less (at' L m) (at' L i) = true) : Srt R L' a (m + 1) := by
  refine srt_all h1 (fun p q p1 pq q1 => by omega) hrot s0 s1 (Nat.le_succ _) (Nat.le_refl _) (fun c d c1 c2 d1 d2 => ?_) (fun c d c1 c2 d1 d2 => ?_) (fun c d c1 c2 d1 d2 => by omega)
  · obtain rfl : d = m := by omega
    rcases hlo with h | h
    · omega
    · have h3 := not_less hR hless (hV (i - 1) d (by omega) (by omega) (Nat.le_refl _) (Nat.lt_succ_self _)) h
      by_cases hc : c = i - 1
      · rw [hc]; exact h3
      · exact hR.tr (h1 c (i - 1) c1 (by omega) (by omega)) h3
  · obtain rfl : d = m := by omega
    rcases hhi with h | h
    · omega
    · have h3 := (hless _ _ (hV i d s0 (by omega) (Nat.le_refl _) (Nat.lt_succ_self _))).1 h
      by_cases hc : c = i
      · rw [hc]; exact h3
      · exact hR.tr h3 (h1 i c s0 (by omega) c2)
theorem ins_up {R : Int → Int → Prop} (hR : TOrd R) {less : Int → Int → Bool} (hless : ∀ x y, x < y → (less y x = true ↔ R y x)) {L L' : List Int} {a b i : Nat} (h2 : Srt R L (a + 1) b) (hV : Vs L a (a + 1) b) (hrot : Rot L L' a (a + 1) i)
    (s0 : a + 1 ≤ i) (s1 : i ≤ b) (hlo : i = a + 1 ∨ less (at' L (i - 1)) (at' L a) = true) (hhi : i = b ∨ less (at' L i) (at' L a) = false) : Srt R L' a b := by
  refine srt_all (fun p q p1 pq q1 => by omega) h2 hrot (Nat.le_refl _) (Nat.le_succ _) s0 s1 (fun c d c1 c2 d1 d2 => by omega) (fun c d c1 c2 d1 d2 => ?_) (fun c d c1 c2 d1 d2 => ?_)
  · obtain rfl : c = a := by omega
    rcases hlo with h | h
    · omega
    · have h3 := (hless _ _ (hV c (i - 1) (Nat.le_refl _) (Nat.lt_succ_self _) (by omega) (by omega))).1 h
      by_cases hd : d = i - 1
      · rw [hd]; exact h3
      · exact hR.tr (h2 d (i - 1) d1 (by omega) (by omega)) h3
  · obtain rfl : c = a := by omega
    rcases hhi with h | h
    · omega
    · have h3 := not_less hR hless (hV c i (Nat.le_refl _) (Nat.lt_succ_self _) (by omega) (by omega)) h
      by_cases hd : d = i
      · rw [hd]; exact h3
      · exact hR.tr h3 (h2 i d (by omega) (by omega) d2)
end Go.Proofs.YtdfadbpepmkicaaGreat
namespace Go.Proofs.YtdfadbpepmkicaaGreat
open Go.RowKit
set_option linter.unusedVariables false
set_option linter.unusedSimpArgs false
theorem at_mem {L : List Int} {i : Nat} (h : i < L.length) : at' L i ∈ L := by rw [at_lt h]; exact List.getElem_mem h
structure SRow (B g N cap : Nat) (ok : Int → Prop) (W : World) (L : List Int) (V : World) : Prop where
  ow : V.ownsRow B 3 1 (.slice (some ⟨g, 0, none⟩) N cap) N (L.map (Value.int .i64))
  on : Only [g] W V
  ok : ∀ x ∈ L, ok x
section
variable {B g N cap : Nat} {ok : Int → Prop} {W V V' : World} {L : List Int}
theorem SRow.len (h : SRow B g N cap ok W L V) : L.length = N := by
  have := h.ow.1
  rwa [List.length_map, Nat.mul_one] at this
theorem SRow.cell (h : SRow B g N cap ok W L V) {i : Nat} (hi : i < N) : V.cell? ⟨g, i, none⟩ = some (.int .i64 (at' L i)) := by
  have hl := h.len
  rw [h.ow.cellAt i (by omega), List.getElem?_map, at_some (by omega)]
  rfl
theorem SRow.frz (h : SRow B g N cap ok W L V) (i : Nat) : V.frozen? ⟨g, i, none⟩ = false := h.ow.frozenAt i
theorem SRow.lt (h : SRow B g N cap ok W L V) : g < V.heap.size := (h.ow.lt g rfl).2
theorem SRow.at_ok (h : SRow B g N cap ok W L V) {i : Nat} (hi : i < N) : ok (at' L i) := h.ok _ (at_mem (by rw [h.len]; exact hi))
theorem SRow.below (h : SRow B g N cap ok W L V) (hb : Below V.heap.size V V') : SRow B g N cap ok W L V' := ⟨own_kept h.ow hb, h.on.step (hb.mono h.on.size), h.ok⟩
theorem SRow.drew (h : SRow B g N cap ok W L V) : SRow B g N cap ok W L V.drew := h.below (Below.refl _ _).drew
theorem SRow.swap (h : SRow B g N cap ok W L V) {i j : Nat} (hi : i < N) (hj : j < N) : SRow B g N cap ok W (swp L i j) ((V.setCell ⟨g, i, none⟩ (.int .i64 (at' L j))).setCell ⟨g, j, none⟩ (.int .i64 (at' L i))) := by
  have hl := h.len
  have h1 := h.ow.stored i (.int .i64 (at' L j))
  have h2 := h1.1.stored j (.int .i64 (at' L i))
  refine ⟨?_, (h.on.grown h1.2 (fun k e => .inl (by cases e; simp))).grown h2.2 (fun k e => .inl (by cases e; simp)), fun x hx => h.ok x ((swp_perm (by omega) (by omega)).mem_iff.1 hx)⟩
  have e : (swp L i j).map (Value.int .i64) = ((L.map (Value.int .i64)).set i (.int .i64 (at' L j))).set j (.int .i64 (at' L i)) := by
    unfold swp
    rw [List.map_set, List.map_set]
  rw [e]
  exact h2.1
end
structure CmpAt (g fn : Nat) (caps : Array Value) (ok : Int → Prop) (cf : Int → Int → Int) (W : World) : Prop where
  ent : ∀ (args : Array Value) (V : World), (callFunc fn args).run Tryz.prog V = .ok (.enter fn args) V
  cmp : ∀ (x y : Int) (V : World), ok x → ok y → Only [g] W V → Calls Tryz.prog fn (#[.int .i64 x, .int .i64 y] ++ caps) V fun e w' => e = .returned (.int .i64 (cf x y)) ∧ Below V.heap.size V w'
def lessC (cf : Int → Int → Int) (x y : Int) : Bool := decide (cf x y < 0)
end Go.Proofs.YtdfadbpepmkicaaGreat
namespace Go.Proofs.YtdfadbpepmkicaaGreat
open Go.RowKit
set_option linter.unusedVariables false
set_option linter.unusedSimpArgs false
set_option maxRecDepth 100000 in
set_option maxHeartbeats 4000000 in
theorem swr_any (B g N cap fn : Nat) (caps : Array Value) (ok : Int → Prop) (W : World) (a b n : Nat) (L : List Int) (V : World) (hS : SRow B g N cap ok W L V) (hab : a + n ≤ b) (hb : b + n ≤ N) (hN : N ≤ 1000000) :
    Calls Tryz.prog 127 #[.slice (some ⟨g, 0, none⟩) N cap, .int .i64 (a : Nat), .int .i64 (b : Nat), .int .i64 (n : Nat), .func (.func fn) #[] caps] V fun e w' => e = .returned (.tuple #[]) ∧ ∃ L', SRow B g N cap ok W L' w' ∧ SwR L L' a b n := by
  have HS := Lib.hid hS
  clear hS
  go_enter Tryz.func127, Tryz.ntmps127
  go_wp2
  go_loopw [10] (fun vi wr => ∃ (k : Nat) (L' : List Int), k ≤ n ∧ vi = .int .i64 k ∧ SRow B g N cap ok W L' wr ∧ SwR L L' a b k) (fun vi _ => n - (intOf vi).toNat)
  case atStart => exact ⟨0, L, Nat.zero_le _, rfl, HS.out, SwR.refl _ _ _⟩
  case round =>
    clear HS
    obtain ⟨k, L', hk, rfl, hS, hX⟩ := hrel
    have HX := Lib.hid hX
    have HS := Lib.hid hS
    clear hS hX
    by_cases hlt : k < n
    · obtain ⟨i, hi⟩ : ∃ i, a + k = i := ⟨_, rfl⟩
      obtain ⟨j, hj⟩ : ∃ j, b + k = j := ⟨_, rfl⟩
      have c0 := HS.out.cell (i := i) (by omega)
      have c1 := HS.out.cell (i := j) (by omega)
      have f0 := HS.out.frz i
      have f1 := HS.out.frz j
      have gl := HS.out.lt
      obtain ⟨x, hx⟩ : ∃ x, at' L' i = x := ⟨_, rfl⟩
      obtain ⟨y, hy⟩ : ∃ y, at' L' j = y := ⟨_, rfl⟩
      have e0 : IntKind.i64.wrap ((a : Int) + (k : Int)) = (i : Int) := by rw [IntKind.wrap_i64]; omega
      have e1 : IntKind.i64.wrap ((b : Int) + (k : Int)) = (j : Int) := by rw [IntKind.wrap_i64]; omega
      have hiN : i < N := by omega
      have hjN : j < N := by omega
      have hij : i ≠ j := by omega
      have HSw := Lib.hid (HS.out.swap hiN hjN).drew
      have HXs := Lib.hid (HX.out.step (by omega) (by have := HX.out.pm.length_eq; have := HS.out.len; omega))
      rw [hi, hj] at HXs
      rw [hx] at c0 HSw
      rw [hy] at c1 HSw
      clear hi hj hx hy
      go_wp2
      go_region
      all_goals go_wp2
      go_roundw
      case rel => exact ⟨k + 1, swp L' i j, by omega, by go_num, HSw.out, HXs.out⟩
      case measure => simp [intOf]; omega
    · obtain rfl : k = n := by omega
      go_wp2
      go_end0
      exact ⟨rfl, L', HS.out, HX.out⟩
theorem wrap_sub {m i q : Nat} (h : q + i = m) (hm : m ≤ 4000000) : IntKind.i64.wrap ((m : Int) - (i : Int)) = (q : Int) := by rw [IntKind.wrap_i64]; omega
set_option maxRecDepth 100000 in
set_option maxHeartbeats 4000000 in
theorem rot_any (B g N cap fn : Nat) (caps : Array Value) (ok : Int → Prop) (W : World) (a m b : Nat) (L : List Int) (V : World) (hS : SRow B g N cap ok W L V) (ham : a < m) (hmb : m < b) (hb : b ≤ N) (hN : N ≤ 1000000) :
    Calls Tryz.prog 115 #[.slice (some ⟨g, 0, none⟩) N cap, .int .i64 (a : Nat), .int .i64 (m : Nat), .int .i64 (b : Nat), .func (.func fn) #[] caps] V fun e w' => e = .returned (.tuple #[]) ∧ ∃ L', SRow B g N cap ok W L' w' ∧ Rot L L' a m b := by
  have HS := Lib.hid hS
  obtain ⟨i0, hi0⟩ : ∃ i0, i0 + a = m := ⟨m - a, by omega⟩
  obtain ⟨j0, hj0⟩ : ∃ j0, j0 + m = b := ⟨b - m, by omega⟩
  have e0 := wrap_sub hi0 (by omega)
  have e1 := wrap_sub hj0 (by omega)
  have HF := Lib.hid (show ∀ p, rotF L (m - i0) m (m + j0) p = rotF L a m b p by
    obtain rfl : a = m - i0 := by omega
    obtain rfl : b = m + j0 := by omega
    exact fun p => rfl)
  have h1 : 0 < i0 := by omega
  have h2 : 0 < j0 := by omega
  clear hS
  go_enter Tryz.func115, Tryz.ntmps115
  go_wp2
  go_loopw [10, 11] (fun vi vj wr => ∃ (i j : Nat) (L' : List Int), vi = .int .i64 i ∧ vj = .int .i64 j ∧ 0 < i ∧ 0 < j ∧ a + i ≤ m ∧ m + j ≤ b ∧ SRow B g N cap ok W L' wr ∧ Mov L L' a b ∧ (∀ p, rotF L' (m - i) m (m + j) p = rotF L a m b p)) (fun vi vj _ => (intOf vi).toNat + (intOf vj).toNat)
  case atStart => exact ⟨i0, j0, L, rfl, rfl, h1, h2, by omega, by omega, HS.out, Mov.refl _ _ _, HF.out⟩
  case round =>
    clear HS HF e0 e1 hi0 hj0 h1 h2
    obtain ⟨i, j, L', rfl, rfl, hi, hj, him, hjm, hS, hM, hF⟩ := hrel
    have HS := Lib.hid hS
    have HM := Lib.hid hM
    have HF := Lib.hid hF
    clear hS hM hF
    obtain ⟨q, hq⟩ : ∃ q, q + i = m := ⟨m - i, by omega⟩
    have Hq := Lib.hid (show m - i = q by omega)
    have e2 := wrap_sub hq (by omega)
    by_cases hij : i = j
    · subst hij
      have HC := Lib.hid (swr_any B g N cap fn caps ok W q m i L' wr HS.out (by omega) (by omega) hN)
      go_wp2_with (go_at_call 127; (with_reducible refine HC.out.mono ?_); rintro e w5 ⟨rfl, L2, hS2, hX2⟩; have HS2 := Lib.hid hS2; have HX2 := Lib.hid hX2; clear hS2 hX2)
      go_end0
      refine ⟨rfl, L2, HS2.out, rot_of (HM.out.trans (HX2.out.mov (by omega) (by omega) hjm)) fun p => ?_⟩
      have h9 := rot_eq (L := L') (L' := L2) (m := m) (i := i) (by rw [Hq.out]; exact HX2.out) (by omega) p
      exact h9.trans (HF.out p)
    · have q0 : ((i : Int) == (j : Int)) = false := by simp; omega
      have q1 : ((i : Int) = (j : Int)) = False := by simp; omega
      by_cases hlt : j < i
      · obtain ⟨r, hr⟩ : ∃ r, r + j = i := ⟨i - j, by omega⟩
        have e3 := wrap_sub hr (by omega)
        have HC := Lib.hid (swr_any B g N cap fn caps ok W q m j L' wr HS.out (by omega) (by omega) hN)
        go_wp2_with (go_at_call 127; (with_reducible refine HC.out.mono ?_); rintro e w5 ⟨rfl, L2, hS2, hX2⟩; have HS2 := Lib.hid hS2; have HX2 := Lib.hid hX2; clear hS2 hX2)
        go_roundw
        case rel =>
          refine ⟨r, j, L2, by go_num, rfl, by omega, hj, by omega, hjm, HS2.out, HM.out.trans (HX2.out.mov (by omega) (by omega) hjm), fun p => ?_⟩
          have h9 := rot_gt (L := L') (L' := L2) (m := m) (i := i) (j := j) (by rw [Hq.out]; exact HX2.out) hlt (by omega) p
          rw [show m - i + j = m - r by omega] at h9
          exact h9.trans (HF.out p)
        case measure => simp [intOf]; omega
      · obtain ⟨r, hr⟩ : ∃ r, r + i = j := ⟨j - i, by omega⟩
        have e3 := wrap_sub hr (by omega)
        obtain ⟨s, hs⟩ : ∃ s, s + i = m + j := ⟨m + j - i, by omega⟩
        have e4 : IntKind.i64.wrap ((m : Int) + (j : Int)) = (m : Int) + (j : Int) := by rw [IntKind.wrap_i64]; omega
        have e5 : IntKind.i64.wrap ((m : Int) + (j : Int) - (i : Int)) = (s : Int) := by rw [IntKind.wrap_i64]; omega
        have hlt2 : i < j := by omega
        have HC := Lib.hid (swr_any B g N cap fn caps ok W q s i L' wr HS.out (by omega) (by omega) hN)
        go_wp2_with (go_at_call 127; (with_reducible refine HC.out.mono ?_); rintro e w5 ⟨rfl, L2, hS2, hX2⟩; have HS2 := Lib.hid hS2; have HX2 := Lib.hid hX2; clear hS2 hX2)
        go_roundw
        case rel =>
          refine ⟨i, r, L2, rfl, by go_num, hi, by omega, him, by omega, HS2.out, HM.out.trans (HX2.out.mov (by omega) (by omega) (by omega)), fun p => ?_⟩
          have h9 := rot_lt (L := L') (L' := L2) (m := m) (i := i) (j := j) (by rw [Hq.out, show m + j - i = s by omega]; exact HX2.out) hlt2 (by omega) p
          rw [show m + j - i = m + r by omega] at h9
          exact h9.trans (HF.out p)
        case measure => simp [intOf]; omega
end Go.Proofs.YtdfadbpepmkicaaGreat
namespace Go.Proofs.YtdfadbpepmkicaaGreat
open Go.RowKit
set_option linter.unusedVariables false
set_option linter.unusedSimpArgs false
set_option maxRecDepth 100000 in
set_option maxHeartbeats 8000000 in
theorem ins_any {R : Int → Int → Prop} (hR : TOrd R) (cf : Int → Int → Int) (hless : ∀ x y, x < y → (lessC cf y x = true ↔ R y x)) (B g N cap fn : Nat) (caps : Array Value) (ok : Int → Prop) (W : World) (hC : CmpAt g fn caps ok cf W) (a b : Nat) (L : List Int) (V : World) (hS : SRow B g N cap ok W L V) (hab : a ≤ b) (hb : b ≤ N) (hN : N ≤ 1000000)
    (hasc : ∀ i j, a ≤ i → i < j → j < b → at' L i < at' L j) :
    Calls Tryz.prog 84 #[.slice (some ⟨g, 0, none⟩) N cap, .int .i64 (a : Nat), .int .i64 (b : Nat), .func (.func fn) #[] caps] V fun e w' => e = .returned (.tuple #[]) ∧ ∃ L', SRow B g N cap ok W L' w' ∧ Mov L L' a b ∧ Srt R L' a b := by
  have HS := Lib.hid hS
  have HC := Lib.hid hC
  have HA := Lib.hid hasc
  have HRo := Lib.hid hR
  have HLs := Lib.hid hless
  have hent := hC.ent
  clear hS hC hasc hR hless
  by_cases hlt0 : a < b
  · have e0 : IntKind.i64.wrap ((a : Int) + 1) = (a : Int) + 1 := by rw [IntKind.wrap_i64]; omega
    go_enter Tryz.func84, Tryz.ntmps84
    go_wp2
    go_loopw [8] (fun vi wr => ∃ (i : Nat) (L1 : List Int), a < i ∧ i ≤ b ∧ vi = .int .i64 i ∧ SRow B g N cap ok W L1 wr ∧ Mov L L1 a i ∧ Srt R L1 a i) (fun vi _ => b - (intOf vi).toNat)
    case atStart => exact ⟨a + 1, L, Nat.lt_succ_self _, hlt0, by go_num, HS.out, Mov.refl _ _ _, fun i j i1 ij j1 => by omega⟩
    case round =>
      clear HS e0
      obtain ⟨i, L1, hai, hib, rfl, hS, hM, hSo⟩ := hrel
      have HS := Lib.hid hS
      have HM := Lib.hid hM
      have HSo := Lib.hid hSo
      clear hS hM hSo
      by_cases hlt : i < b
      · have hV : Vs L1 a i (i + 1) := fun p q p1 p2 q1 q2 => by
          obtain rfl : q = i := by omega
          obtain ⟨r, r1, r2, e⟩ := HM.out.frm p p1 p2
          rw [e, HM.out.out q (by omega)]
          exact HA.out r q r1 r2 hlt
        have HV := Lib.hid hV
        have hlen := HS.out.len
        have Hlen := Lib.hid hlen
        clear hV hlen
        go_wp2
        go_loopw [9] (fun vj wq => ∃ (j : Nat) (L2 : List Int), a ≤ j ∧ j ≤ i ∧ vj = .int .i64 j ∧ SRow B g N cap ok W L2 wq ∧ Rot L1 L2 j i (i + 1) ∧ (j = i ∨ lessC cf (at' L1 i) (at' L1 j) = true)) (fun vj _ => (intOf vj).toNat)
        case atStart => exact ⟨i, L1, Nat.le_of_lt hai, Nat.le_refl _, rfl, HS.out, Rot.refl_dn _ _, .inl rfl⟩
        case round =>
          clear HS
          obtain ⟨j, L2, haj, hji, rfl, hS, hRt, hlo⟩ := hrel
          have HS := Lib.hid hS
          have HRt := Lib.hid hRt
          have HLo := Lib.hid hlo
          clear hS hRt hlo
          by_cases hja : a < j
          · obtain ⟨p, rfl⟩ : ∃ p, j = p + 1 := ⟨j - 1, by omega⟩
            obtain ⟨j, hj⟩ : ∃ j, j = p + 1 := ⟨_, rfl⟩
            have c0 := HS.out.cell (i := j) (by omega)
            have c1 := HS.out.cell (i := p) (by omega)
            have hx : at' L2 j = at' L1 i := by
              rw [HRt.out.lo j (by omega) (by omega)]
              exact congrArg (at' L1) (by omega)
            have hy : at' L2 p = at' L1 p := HRt.out.mv.out _ (by omega)
            have okx := HS.out.at_ok (i := j) (by omega)
            have oky := HS.out.at_ok (i := p) (by omega)
            have HCc := Lib.hid (fun V (hV : Only [g] W V) => HC.out.cmp _ _ V okx oky hV)
            have Hdn := Lib.hid (HRt.out.dn (by omega) (by rw [Hlen.out]; omega))
            have gl := HS.out.lt
            have f0 := HS.out.frz j
            have f1 := HS.out.frz p
            have HSw := Lib.hid (fun V (h : Below wr.heap.size wr V) => ((HS.out.below h).swap (i := j) (j := p) (by omega) (by omega)).drew)
            have e3 : IntKind.i64.wrap ((j : Int) - 1) = (p : Int) := by rw [IntKind.wrap_i64]; omega
            rw [← hj] at Hdn
            have Hlx := Lib.hid (show lessC cf (at' L1 i) (at' L1 p) = decide (cf (at' L2 j) (at' L2 p) < 0) by rw [hx, hy]; rfl)
            obtain ⟨x, hxx⟩ : ∃ x, at' L2 j = x := ⟨_, rfl⟩
            obtain ⟨y, hyy⟩ : ∃ y, at' L2 p = y := ⟨_, rfl⟩
            rw [hxx] at c0 HCc HSw Hlx
            rw [hyy] at c1 HCc HSw Hlx
            have HOn := Lib.hid HS.out.on
            have hjN : j < N := by omega
            have hpN : p < N := by omega
            have hjp : j ≠ p := by omega
            have haj2 : a < j := by omega
            have q0 : decide ((a : Int) < (j : Int)) = true := decide_eq_true (by omega)
            have q9 : decide (a < j) = true := decide_eq_true (by omega)
            have Hj := Lib.hid hj
            rw [← hj] at hji
            rw [show ((p + 1 : Nat) : Int) = (j : Int) by rw [hj]]
            obtain ⟨c, hc⟩ : ∃ c, cf x y = c := ⟨_, rfl⟩
            rw [hc] at HCc Hlx
            clear hx hy okx oky hxx hyy hc hj haj
            obtain ⟨Q, hQ⟩ : ∃ V, V = wr := ⟨_, rfl⟩
            subst hQ
            by_cases hc0 : c < 0
            · have hd0 : decide (c < 0) = true := decide_eq_true hc0
              go_wp2
              have hcH := held_cell
              refine region_rel (by kernel_rfl) (by kernel_rfl) ?_
              repeat
                ((with_reducible refine relStep (fun K hK => ?_))
                 (have HK := Lib.hid hK)
                 clear hK
                 (apply relInl
                  · intro r n hf
                    have Hf := Lib.hid hf
                    clear hf
                    (first
                      | (fail)
                      | (unfold relAt
                         go_simp
                         (first | (refine relUpon_val ?_ (Below.refl _ _); exact rfl) | exact rfl | (refine relUpon_enter ?_; ((with_reducible refine (HCc.out _ (HOn.out.step (n.below.mono HOn.out.size))).mono ?_); rintro e w9 ⟨rfl, hb⟩; exact ⟨⟨_, rfl, rfl⟩, hb⟩)))))
                  (simp only [Act.put, List.setIfInBounds_toArray, List.set_cons_zero, List.set_cons_succ])
                  (with_reducible refine HK.out _ _ ?_)
                  clear HK K))
              refine relNil ?_
              intro r9 n9 hx9
              clear hcH
              (try simp only [List.nil_append, List.cons_append, List.mem_cons, List.not_mem_nil, or_false, forall_eq_or_imp, forall_eq, false_implies, implies_true] at hx9)
              obtain ⟨w9, hb9⟩ := n9
              (try dsimp only)
              obtain ⟨hc9, hf9⟩ := bcell hb9
              have hz9 := hb9.size
              (try simp at hz9)
              have HSw9 := Lib.hid (HSw.out _ hb9)
              go_wp2
              go_region
              all_goals go_wp2
              go_roundw
              case rel => exact ⟨p, swp L2 j p, by have := Hj.out; omega, by have := Hj.out; omega, by go_num, HSw9.out, Hdn.out, .inr (by rw [Hlx.out]; exact hd0)⟩
              case measure =>
                have := Hj.out
                simp [intOf]; omega
            · have hd0 : decide (c < 0) = false := decide_eq_false hc0
              have HS9 := Lib.hid (fun V (h : Below Q.heap.size Q V) => HS.out.below h)
              have HFin := Lib.hid (ins_dn HRo.out HLs.out HSo.out HV.out (by rw [← Hj.out] at HRt; exact HRt.out) (by omega) hji (.inr (by rw [show j - 1 = p by have := Hj.out; omega, Hlx.out]; exact hd0)) (by rw [← Hj.out] at HLo; exact HLo.out))
              go_wp2
              have hcH := held_cell
              refine region_rel (by kernel_rfl) (by kernel_rfl) ?_
              repeat
                ((with_reducible refine relStep (fun K hK => ?_))
                 (have HK := Lib.hid hK)
                 clear hK
                 (apply relInl
                  · intro r n hf
                    have Hf := Lib.hid hf
                    clear hf
                    (first
                      | (fail)
                      | (unfold relAt
                         go_simp
                         (first | (refine relUpon_val ?_ (Below.refl _ _); exact rfl) | exact rfl | (refine relUpon_enter ?_; ((with_reducible refine (HCc.out _ (HOn.out.step (n.below.mono HOn.out.size))).mono ?_); rintro e w9 ⟨rfl, hb⟩; exact ⟨⟨_, rfl, rfl⟩, hb⟩)))))
                  (simp only [Act.put, List.setIfInBounds_toArray, List.set_cons_zero, List.set_cons_succ])
                  (with_reducible refine HK.out _ _ ?_)
                  clear HK K))
              refine relNil ?_
              intro r9 n9 hx9
              clear hcH
              (try simp only [List.nil_append, List.cons_append, List.mem_cons, List.not_mem_nil, or_false, forall_eq_or_imp, forall_eq, false_implies, implies_true] at hx9)
              obtain ⟨w9, hb9⟩ := n9
              (try dsimp only)
              obtain ⟨hc9, hf9⟩ := bcell hb9
              have hz9 := hb9.size
              (try simp at hz9)
              have HS8 := Lib.hid (HS9.out _ hb9)
              go_wp2
              go_roundw
              case rel => exact ⟨i + 1, L2, by omega, by omega, by go_num, HS8.out, (HM.out.wide (Nat.le_refl _) (Nat.le_succ _)).trans (HRt.out.mv.wide (by omega) (Nat.le_refl _)), HFin.out⟩
              case measure => simp [intOf]; omega
          · obtain rfl : j = a := by omega
            have HS9 := Lib.hid (fun V (h : Below wr.heap.size wr V) => HS.out.below h)
            have HFin := Lib.hid (ins_dn HRo.out HLs.out HSo.out HV.out HRt.out (Nat.le_refl _) hji (.inl rfl) HLo.out)
            have q0 : decide ((j : Int) < (j : Int)) = false := by simp
            obtain ⟨Q, hQ⟩ : ∃ V, V = wr := ⟨_, rfl⟩
            subst hQ
            go_wp2
            have hcH := held_cell
            refine region_rel (by kernel_rfl) (by kernel_rfl) ?_
            repeat
              ((with_reducible refine relStep (fun K hK => ?_))
               (have HK := Lib.hid hK)
               clear hK
               (apply relInl
                · intro r n hf
                  have Hf := Lib.hid hf
                  clear hf
                  (first
                    | (fail)
                    | (unfold relAt
                       go_simp
                       (first | (refine relUpon_val ?_ (Below.refl _ _); exact rfl) | exact rfl | (refine relUpon_enter ?_; fail))))
                (simp only [Act.put, List.setIfInBounds_toArray, List.set_cons_zero, List.set_cons_succ])
                (with_reducible refine HK.out _ _ ?_)
                clear HK K))
            refine relNil ?_
            intro r9 n9 hx9
            clear hcH
            (try simp only [List.nil_append, List.cons_append, List.mem_cons, List.not_mem_nil, or_false, forall_eq_or_imp, forall_eq, false_implies, implies_true] at hx9)
            obtain ⟨w9, hb9⟩ := n9
            (try dsimp only)
            obtain ⟨hc9, hf9⟩ := bcell hb9
            have hz9 := hb9.size
            (try simp at hz9)
            have HS8 := Lib.hid (HS9.out _ hb9)
            go_wp2
            go_roundw
            case rel => exact ⟨i + 1, L2, by omega, by omega, by go_num, HS8.out, (HM.out.wide (Nat.le_refl _) (Nat.le_succ _)).trans (HRt.out.mv.wide (Nat.le_refl _) (Nat.le_refl _)), HFin.out⟩
            case measure => simp [intOf]; omega
      · obtain rfl : i = b := by omega
        go_wp2
        go_end0
        exact ⟨rfl, L1, HS.out, HM.out, HSo.out⟩
  · obtain rfl : a = b := by omega
    have e0 : IntKind.i64.wrap ((a : Int) + 1) = (a : Int) + 1 := by rw [IntKind.wrap_i64]; omega
    have q0 : decide ((a : Int) + 1 < (a : Int)) = false := decide_eq_false (by omega)
    go_enter Tryz.func84, Tryz.ntmps84
    go_wp2
    refine wp_loop_rounds 1 ?_
    rw [rounds_succ]
    go_wp2
    go_end0
    exact ⟨rfl, L, HS.out, Mov.refl _ _ _, fun i j i1 ij j1 => by omega⟩
end Go.Proofs.YtdfadbpepmkicaaGreat
namespace Go.Proofs.YtdfadbpepmkicaaGreat
open Go.RowKit
set_option linter.unusedVariables false
set_option linter.unusedSimpArgs false
def MergeOf (R : Int → Int → Prop) (B g N cap : Nat) (ok : Int → Prop) (W : World) (L : List Int) (a b : Nat) : Ending → World → Prop :=
  fun e w' => e = .returned (.tuple #[]) ∧ ∃ L', SRow B g N cap ok W L' w' ∧ Mov L L' a b ∧ Srt R L' a b
theorem half_w {i j h : Nat} (hh : h = (i + j) / 2) (hi : i + j ≤ 2000000) : IntKind.i64.wrap ((i : Int) + (j : Int)) = (i : Int) + (j : Int) ∧ IntKind.u64.wrap ((i : Int) + (j : Int)) = (i : Int) + (j : Int) ∧ IntKind.i64.wrap (((i : Int) + (j : Int)) / 2) = (h : Int) := by
  refine ⟨by rw [IntKind.wrap_i64]; omega, by rw [IntKind.wrap_u64]; omega, by rw [IntKind.wrap_i64]; omega⟩
set_option maxRecDepth 100000 in
set_option maxHeartbeats 8000000 in
theorem sym_one {R : Int → Int → Prop} (hR : TOrd R) (cf : Int → Int → Int) (hless : ∀ x y, x < y → (lessC cf y x = true ↔ R y x)) (B g N cap fn : Nat) (caps : Array Value) (ok : Int → Prop) (W : World) (hC : CmpAt g fn caps ok cf W) (a m b : Nat) (L : List Int) (V : World) (hS : SRow B g N cap ok W L V) (ham : m = a + 1) (hmb : m < b) (hb : b ≤ N) (hN : N ≤ 1000000)
    (h2 : Srt R L m b) (hV : Vs L a m b) :
    Calls Tryz.prog 85 #[.slice (some ⟨g, 0, none⟩) N cap, .int .i64 (a : Nat), .int .i64 (m : Nat), .int .i64 (b : Nat), .func (.func fn) #[] caps] V (MergeOf R B g N cap ok W L a b) := by
  have HS := Lib.hid hS
  have HC := Lib.hid hC
  have HRo := Lib.hid hR
  have HLs := Lib.hid hless
  have H2 := Lib.hid h2
  have HV := Lib.hid hV
  have hent := hC.ent
  have Hlen := Lib.hid hS.len
  have Ham := Lib.hid ham
  have e0 : IntKind.i64.wrap ((m : Int) - (a : Int)) = 1 := by rw [IntKind.wrap_i64]; omega
  have ham1 : a < m := by omega
  clear hS hC hR hless h2 hV ham
  go_enter Tryz.func85, Tryz.ntmps85
  go_wp2
  go_loopw [10, 11] (fun vi vj wr => ∃ i j : Nat, m ≤ i ∧ i ≤ j ∧ j ≤ b ∧ vi = .int .i64 i ∧ vj = .int .i64 j ∧ SRow B g N cap ok W L wr ∧ (i = m ∨ lessC cf (at' L (i - 1)) (at' L a) = true) ∧ (j = b ∨ lessC cf (at' L j) (at' L a) = false)) (fun vi vj _ => (intOf vj).toNat - (intOf vi).toNat)
  case atStart => exact ⟨m, b, Nat.le_refl _, Nat.le_of_lt hmb, Nat.le_refl _, rfl, rfl, HS.out, .inl rfl, .inl rfl⟩
  case round =>
    clear HS
    obtain ⟨i, j, hmi, hij, hjb, rfl, rfl, hS, hlo, hhi⟩ := hrel
    have HS := Lib.hid hS
    have HLo := Lib.hid hlo
    have HHi := Lib.hid hhi
    clear hS hlo hhi
    by_cases hlt : i < j
    · obtain ⟨h, hh⟩ : ∃ h, h = (i + j) / 2 := ⟨_, rfl⟩
      obtain ⟨w0, w1, w2⟩ := half_w hh (by omega)
      have hhi : i ≤ h := by omega
      have hhj : h < j := by omega
      have hhN : h < N := by omega
      have haN : a < N := by omega
      have c0 := HS.out.cell (i := h) hhN
      have c1 := HS.out.cell (i := a) haN
      have okx := HS.out.at_ok (i := h) hhN
      have oky := HS.out.at_ok (i := a) haN
      have HCc := Lib.hid (fun V (hV : Only [g] W V) => HC.out.cmp _ _ V okx oky hV)
      have gl := HS.out.lt
      have HOn := Lib.hid HS.out.on
      have Hlx := Lib.hid (show lessC cf (at' L h) (at' L a) = decide (cf (at' L h) (at' L a) < 0) from rfl)
      obtain ⟨x, hxx⟩ : ∃ x, at' L h = x := ⟨_, rfl⟩
      obtain ⟨y, hyy⟩ : ∃ y, at' L a = y := ⟨_, rfl⟩
      have Hx := Lib.hid hxx
      have Hy := Lib.hid hyy
      rw [hxx] at c0 HCc Hlx
      rw [hyy] at c1 HCc Hlx
      obtain ⟨c, hc⟩ : ∃ c, cf x y = c := ⟨_, rfl⟩
      rw [hc] at HCc Hlx
      clear hh okx oky hxx hyy hc
      go_wp2
      obtain ⟨Q, hQ⟩ : ∃ V, V = wr := ⟨_, rfl⟩
      subst hQ
      by_cases hc0 : c < 0
      · have hd0 : decide (c < 0) = true := decide_eq_true hc0
        have hcH := held_cell
        refine region_rel (by kernel_rfl) (by kernel_rfl) ?_
        repeat
          ((with_reducible refine relStep (fun K hK => ?_))
           (have HK := Lib.hid hK)
           clear hK
           (apply relInl
            · intro r n hf
              have Hf := Lib.hid hf
              clear hf
              (first
                | (fail)
                | (unfold relAt
                   go_simp
                   (first | (refine relUpon_val ?_ (Below.refl _ _); exact rfl) | exact rfl | (refine relUpon_enter ?_; ((with_reducible refine (HCc.out _ (HOn.out.step (n.below.mono HOn.out.size))).mono ?_); rintro e w9 ⟨rfl, hb⟩; exact ⟨⟨_, rfl, rfl⟩, hb⟩)))))
            (simp only [Act.put, List.setIfInBounds_toArray, List.set_cons_zero, List.set_cons_succ])
            (with_reducible refine HK.out _ _ ?_)
            clear HK K))
        refine relNil ?_
        intro r9 n9 hx9
        clear hcH
        (try simp only [List.nil_append, List.cons_append, List.mem_cons, List.not_mem_nil, or_false, forall_eq_or_imp, forall_eq, false_implies, implies_true] at hx9)
        obtain ⟨w9, hb9⟩ := n9
        (try dsimp only)
        obtain ⟨hc9, hf9⟩ := bcell hb9
        have hz9 := hb9.size
        (try simp at hz9)
        have HS9 := Lib.hid (HS.out.below hb9)
        go_wp2
        go_roundw
        case rel => exact ⟨h + 1, j, by omega, by omega, hjb, by go_num, rfl, HS9.out, .inr (by rw [Nat.add_sub_cancel, Hx.out, Hy.out, Hlx.out]; exact hd0), HHi.out⟩
        case measure => simp [intOf]; omega
      · have hd0 : decide (c < 0) = false := decide_eq_false hc0
        have hcH := held_cell
        refine region_rel (by kernel_rfl) (by kernel_rfl) ?_
        repeat
          ((with_reducible refine relStep (fun K hK => ?_))
           (have HK := Lib.hid hK)
           clear hK
           (apply relInl
            · intro r n hf
              have Hf := Lib.hid hf
              clear hf
              (first
                | (fail)
                | (unfold relAt
                   go_simp
                   (first | (refine relUpon_val ?_ (Below.refl _ _); exact rfl) | exact rfl | (refine relUpon_enter ?_; ((with_reducible refine (HCc.out _ (HOn.out.step (n.below.mono HOn.out.size))).mono ?_); rintro e w9 ⟨rfl, hb⟩; exact ⟨⟨_, rfl, rfl⟩, hb⟩)))))
            (simp only [Act.put, List.setIfInBounds_toArray, List.set_cons_zero, List.set_cons_succ])
            (with_reducible refine HK.out _ _ ?_)
            clear HK K))
        refine relNil ?_
        intro r9 n9 hx9
        clear hcH
        (try simp only [List.nil_append, List.cons_append, List.mem_cons, List.not_mem_nil, or_false, forall_eq_or_imp, forall_eq, false_implies, implies_true] at hx9)
        obtain ⟨w9, hb9⟩ := n9
        (try dsimp only)
        obtain ⟨hc9, hf9⟩ := bcell hb9
        have hz9 := hb9.size
        (try simp at hz9)
        have HS9 := Lib.hid (HS.out.below hb9)
        go_wp2
        go_roundw
        case rel => exact ⟨i, h, hmi, hhi, by omega, rfl, rfl, HS9.out, HLo.out, .inr (by rw [Hx.out, Hy.out, Hlx.out]; exact hd0)⟩
        case measure => simp [intOf]; omega
    · obtain rfl : i = j := by omega
      clear hij
      have e3 : IntKind.i64.wrap ((i : Int) - 1) = (i : Int) - 1 := by rw [IntKind.wrap_i64]; omega
      go_wp2
      go_loopw [13] (fun vk wq => ∃ (k : Nat) (L2 : List Int), a ≤ k ∧ k + 1 ≤ i ∧ vk = .int .i64 k ∧ SRow B g N cap ok W L2 wq ∧ Rot L L2 a (a + 1) (k + 1)) (fun vk _ => i - (intOf vk).toNat)
      case atStart => exact ⟨a, L, Nat.le_refl _, by have := Ham.out; omega, rfl, HS.out, Rot.refl_up _ _⟩
      case round =>
        clear HS
        obtain ⟨k, L2, hak, hki, rfl, hS, hRt⟩ := hrel
        have HS := Lib.hid hS
        have HRt := Lib.hid hRt
        clear hS hRt
        by_cases hlt : k + 1 < i
        · obtain ⟨p, hp⟩ : ∃ p, p = k + 1 := ⟨_, rfl⟩
          have hkN : k < N := by omega
          have hpN : p < N := by omega
          have c0 := HS.out.cell (i := k) hkN
          have c1 := HS.out.cell (i := p) hpN
          have f0 := HS.out.frz k
          have f1 := HS.out.frz p
          have gl := HS.out.lt
          have HSw := Lib.hid (HS.out.swap hkN hpN).drew
          have Hup := Lib.hid (HRt.out.up hak (by rw [Hlen.out]; omega))
          rw [← hp] at Hup
          obtain ⟨x, hxx⟩ : ∃ x, at' L2 k = x := ⟨_, rfl⟩
          obtain ⟨y, hyy⟩ : ∃ y, at' L2 p = y := ⟨_, rfl⟩
          rw [hxx] at c0 HSw
          rw [hyy] at c1 HSw
          have e4 : IntKind.i64.wrap ((k : Int) + 1) = (p : Int) := by rw [IntKind.wrap_i64]; omega
          have hkp : k ≠ p := by omega
          have hlz : (k : Int) < (i : Int) - 1 := by omega
          have Hp := Lib.hid hp
          clear hxx hyy hp
          go_wp2
          go_region
          all_goals go_wp2
          go_roundw
          case rel => exact ⟨p, swp L2 k p, by have := Hp.out; omega, by have := Hp.out; omega, by go_num, HSw.out, by have h9 := Hup.out; rw [show k + 2 = p + 1 by have := Hp.out; omega] at h9; exact h9⟩
          case measure =>
            have := Hp.out
            simp [intOf]; omega
        · have hki2 : k + 1 = i := by omega
          have hlz : ¬ (k : Int) < (i : Int) - 1 := by omega
          have HFin := Lib.hid (ins_up HRo.out HLs.out (by rw [← Ham.out]; exact H2.out) (by rw [← Ham.out]; exact HV.out) (by rw [← hki2]; exact HRt.out) (by have := Ham.out; omega) hjb (by rw [← Ham.out]; exact HLo.out) HHi.out)
          have HMv := Lib.hid (HRt.out.mv.wide (Nat.le_refl _) (by omega : k + 1 ≤ b))
          clear hki2
          go_wp2
          refine bodyPost_ret (results_none rfl _ _ _) rfl ⟨rfl, L2, HS.out, HMv.out, HFin.out⟩
set_option maxRecDepth 100000 in
set_option maxHeartbeats 8000000 in
theorem sym_two {R : Int → Int → Prop} (hR : TOrd R) (cf : Int → Int → Int) (hless : ∀ x y, x < y → (lessC cf y x = true ↔ R y x)) (B g N cap fn : Nat) (caps : Array Value) (ok : Int → Prop) (W : World) (hC : CmpAt g fn caps ok cf W) (a m b : Nat) (L : List Int) (V : World) (hS : SRow B g N cap ok W L V) (ham : a + 1 < m) (hmb : b = m + 1) (hb : b ≤ N) (hN : N ≤ 1000000)
    (h1 : Srt R L a m) (hV : Vs L a m b) :
    Calls Tryz.prog 85 #[.slice (some ⟨g, 0, none⟩) N cap, .int .i64 (a : Nat), .int .i64 (m : Nat), .int .i64 (b : Nat), .func (.func fn) #[] caps] V (MergeOf R B g N cap ok W L a b) := by
  have HS := Lib.hid hS
  have HC := Lib.hid hC
  have HRo := Lib.hid hR
  have HLs := Lib.hid hless
  have H1 := Lib.hid h1
  have HV := Lib.hid hV
  have hent := hC.ent
  have Hlen := Lib.hid hS.len
  have Hmb := Lib.hid hmb
  obtain ⟨d0, hd0⟩ : ∃ d0, d0 + a = m := ⟨m - a, by omega⟩
  have e0 := wrap_sub hd0 (by omega)
  have hd1 : ((d0 : Int) == 1) = false := by simp; omega
  have hd2 : ((d0 : Int) = 1) = False := by simp; omega
  have e1 : IntKind.i64.wrap ((b : Int) - (m : Int)) = 1 := by rw [IntKind.wrap_i64]; omega
  have hmN : m < N := by omega
  have hmb1 : m < b := by omega
  clear hS hC hR hless h1 hV hmb hd0
  go_enter Tryz.func85, Tryz.ntmps85
  go_wp2
  go_loopw [14, 15] (fun vi vj wr => ∃ i j : Nat, a ≤ i ∧ i ≤ j ∧ j ≤ m ∧ vi = .int .i64 i ∧ vj = .int .i64 j ∧ SRow B g N cap ok W L wr ∧ (i = a ∨ lessC cf (at' L m) (at' L (i - 1)) = false) ∧ (j = m ∨ lessC cf (at' L m) (at' L j) = true)) (fun vi vj _ => (intOf vj).toNat - (intOf vi).toNat)
  case atStart => exact ⟨a, m, Nat.le_refl _, by omega, Nat.le_refl _, rfl, rfl, HS.out, .inl rfl, .inl rfl⟩
  case round =>
    clear HS
    obtain ⟨i, j, hmi, hij, hjb, rfl, rfl, hS, hlo, hhi⟩ := hrel
    have HS := Lib.hid hS
    have HLo := Lib.hid hlo
    have HHi := Lib.hid hhi
    clear hS hlo hhi
    by_cases hlt : i < j
    · obtain ⟨h, hh⟩ : ∃ h, h = (i + j) / 2 := ⟨_, rfl⟩
      obtain ⟨w0, w1, w2⟩ := half_w hh (by omega)
      have hhi : i ≤ h := by omega
      have hhj : h < j := by omega
      have hhN : h < N := by omega
      have c0 := HS.out.cell (i := m) hmN
      have c1 := HS.out.cell (i := h) hhN
      have okx := HS.out.at_ok (i := m) hmN
      have oky := HS.out.at_ok (i := h) hhN
      have HCc := Lib.hid (fun V (hV : Only [g] W V) => HC.out.cmp _ _ V okx oky hV)
      have gl := HS.out.lt
      have HOn := Lib.hid HS.out.on
      have Hlx := Lib.hid (show lessC cf (at' L m) (at' L h) = decide (cf (at' L m) (at' L h) < 0) from rfl)
      obtain ⟨x, hxx⟩ : ∃ x, at' L m = x := ⟨_, rfl⟩
      obtain ⟨y, hyy⟩ : ∃ y, at' L h = y := ⟨_, rfl⟩
      have Hx := Lib.hid hxx
      have Hy := Lib.hid hyy
      rw [hxx] at c0 HCc Hlx
      rw [hyy] at c1 HCc Hlx
      obtain ⟨c, hc⟩ : ∃ c, cf x y = c := ⟨_, rfl⟩
      rw [hc] at HCc Hlx
      clear hh okx oky hxx hyy hc
      go_wp2
      obtain ⟨Q, hQ⟩ : ∃ V, V = wr := ⟨_, rfl⟩
      subst hQ
      by_cases hc0 : c < 0
      · have hd0 : decide (c < 0) = true := decide_eq_true hc0
        have hcH := held_cell
        refine region_rel (by kernel_rfl) (by kernel_rfl) ?_
        repeat
          ((with_reducible refine relStep (fun K hK => ?_))
           (have HK := Lib.hid hK)
           clear hK
           (apply relInl
            · intro r n hf
              have Hf := Lib.hid hf
              clear hf
              (first
                | (fail)
                | (unfold relAt
                   go_simp
                   (first | (refine relUpon_val ?_ (Below.refl _ _); exact rfl) | exact rfl | (refine relUpon_enter ?_; ((with_reducible refine (HCc.out _ (HOn.out.step (n.below.mono HOn.out.size))).mono ?_); rintro e w9 ⟨rfl, hb⟩; exact ⟨⟨_, rfl, rfl⟩, hb⟩)))))
            (simp only [Act.put, List.setIfInBounds_toArray, List.set_cons_zero, List.set_cons_succ])
            (with_reducible refine HK.out _ _ ?_)
            clear HK K))
        refine relNil ?_
        intro r9 n9 hx9
        clear hcH
        (try simp only [List.nil_append, List.cons_append, List.mem_cons, List.not_mem_nil, or_false, forall_eq_or_imp, forall_eq, false_implies, implies_true] at hx9)
        obtain ⟨w9, hb9⟩ := n9
        (try dsimp only)
        obtain ⟨hc9, hf9⟩ := bcell hb9
        have hz9 := hb9.size
        (try simp at hz9)
        have HS9 := Lib.hid (HS.out.below hb9)
        go_wp2
        go_roundw
        case rel => exact ⟨i, h, hmi, hhi, by omega, rfl, rfl, HS9.out, HLo.out, .inr (by rw [Hx.out, Hy.out, Hlx.out]; exact hd0)⟩
        case measure => simp [intOf]; omega
      · have hd0 : decide (c < 0) = false := decide_eq_false hc0
        have hcH := held_cell
        refine region_rel (by kernel_rfl) (by kernel_rfl) ?_
        repeat
          ((with_reducible refine relStep (fun K hK => ?_))
           (have HK := Lib.hid hK)
           clear hK
           (apply relInl
            · intro r n hf
              have Hf := Lib.hid hf
              clear hf
              (first
                | (fail)
                | (unfold relAt
                   go_simp
                   (first | (refine relUpon_val ?_ (Below.refl _ _); exact rfl) | exact rfl | (refine relUpon_enter ?_; ((with_reducible refine (HCc.out _ (HOn.out.step (n.below.mono HOn.out.size))).mono ?_); rintro e w9 ⟨rfl, hb⟩; exact ⟨⟨_, rfl, rfl⟩, hb⟩)))))
            (simp only [Act.put, List.setIfInBounds_toArray, List.set_cons_zero, List.set_cons_succ])
            (with_reducible refine HK.out _ _ ?_)
            clear HK K))
        refine relNil ?_
        intro r9 n9 hx9
        clear hcH
        (try simp only [List.nil_append, List.cons_append, List.mem_cons, List.not_mem_nil, or_false, forall_eq_or_imp, forall_eq, false_implies, implies_true] at hx9)
        obtain ⟨w9, hb9⟩ := n9
        (try dsimp only)
        obtain ⟨hc9, hf9⟩ := bcell hb9
        have hz9 := hb9.size
        (try simp at hz9)
        have HS9 := Lib.hid (HS.out.below hb9)
        go_wp2
        go_roundw
        case rel => exact ⟨h + 1, j, by omega, by omega, hjb, by go_num, rfl, HS9.out, .inr (by rw [Nat.add_sub_cancel, Hx.out, Hy.out, Hlx.out]; exact hd0), HHi.out⟩
        case measure => simp [intOf]; omega
    · obtain rfl : i = j := by omega
      clear hij
      go_wp2
      go_loopw [17] (fun vk wq => ∃ (k : Nat) (L2 : List Int), i ≤ k ∧ k ≤ m ∧ vk = .int .i64 k ∧ SRow B g N cap ok W L2 wq ∧ Rot L L2 k m (m + 1)) (fun vk _ => (intOf vk).toNat)
      case atStart => exact ⟨m, L, hjb, Nat.le_refl _, rfl, HS.out, Rot.refl_dn _ _⟩
      case round =>
        clear HS
        obtain ⟨k, L2, hik, hkm, rfl, hS, hRt⟩ := hrel
        have HS := Lib.hid hS
        have HRt := Lib.hid hRt
        clear hS hRt
        by_cases hlt : i < k
        · obtain ⟨p, hp⟩ : ∃ p, k = p + 1 := ⟨k - 1, by omega⟩
          have hkN : k < N := by omega
          have hpN : p < N := by omega
          have c0 := HS.out.cell (i := k) hkN
          have c1 := HS.out.cell (i := p) hpN
          have f0 := HS.out.frz k
          have f1 := HS.out.frz p
          have gl := HS.out.lt
          have HSw := Lib.hid (HS.out.swap hkN hpN).drew
          have Hdn := Lib.hid (Rot.dn (L := L) (L' := L2) (k := p) (m := m) (by rw [← hp]; exact HRt.out) (by omega) (by rw [Hlen.out]; exact hmN))
          rw [← hp] at Hdn
          obtain ⟨x, hxx⟩ : ∃ x, at' L2 k = x := ⟨_, rfl⟩
          obtain ⟨y, hyy⟩ : ∃ y, at' L2 p = y := ⟨_, rfl⟩
          rw [hxx] at c0 HSw
          rw [hyy] at c1 HSw
          have e4 : IntKind.i64.wrap ((k : Int) - 1) = (p : Int) := by rw [IntKind.wrap_i64]; omega
          have hkp : k ≠ p := by omega
          have Hp := Lib.hid hp
          clear hxx hyy hp
          go_wp2
          go_region
          all_goals go_wp2
          go_roundw
          case rel => exact ⟨p, swp L2 k p, by have := Hp.out; omega, by have := Hp.out; omega, by go_num, HSw.out, Hdn.out⟩
          case measure =>
            have := Hp.out
            simp [intOf]; omega
        · obtain rfl : k = i := by omega
          have HFin := Lib.hid (ins_dn HRo.out HLs.out H1.out (by rw [← Hmb.out]; exact HV.out) HRt.out hmi hkm HLo.out HHi.out)
          have HMv := Lib.hid (HRt.out.mv.wide hmi (Nat.le_refl _))
          rw [← Hmb.out] at HFin HMv
          go_wp2
          refine bodyPost_ret (results_none rfl _ _ _) rfl ⟨rfl, L2, HS.out, HMv.out, HFin.out⟩
end Go.Proofs.YtdfadbpepmkicaaGreat
