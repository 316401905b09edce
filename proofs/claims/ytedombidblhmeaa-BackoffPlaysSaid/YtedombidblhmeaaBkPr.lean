/-
  The program's table and the document's, side by side.
-/
import Derived.Test.YtedombidblhmeaaBkRef6
import Derived.Test.YtedombidblhmeaaBkGrp
import Derived.Test.YtedombidblhmeaaBkCpy
namespace Go.Proofs.Ytedombidblhmeaa
open Go.RowKit
set_option linter.unusedVariables false
set_option linter.unusedSimpArgs false

theorem TB.more2 {w : World} {b m : Nat} {fi mo re : Int} {E : ByteArray → Option En} {cr : Int} {n k : Nat} (h : TB w b m fi mo re E cr n) (hk : n ≤ k) : TB w b m fi mo re E cr k :=
  ⟨h.row, h.mp.mono hk, h.ok, h.p1, h.p2, h.p3, h.p4, h.p5, h.c0, by have := h.c1; omega⟩
/-- The entries as the document lists them. -/
structure EM (E : ByteArray → Option En) (M : List Nt) (cr : Int) : Prop where
  hit : ∀ x ∈ M, E x.1 = some x.2
  miss : ∀ s, (∀ x ∈ M, x.1 ≠ s) → E s = none
  asc : M.Pairwise (fun x y => x.2.n < y.2.n)
  top : ∀ x ∈ M, x.2.n ≤ cr
theorem EM.look {E : ByteArray → Option En} {M : List Nt} {cr : Int} (h : EM E M cr) (g : ByteArray) : Look M g (E g) := by
  obtain ⟨o, ⟨k, x, h1, h2, h3, h4⟩ | ⟨h1, h2⟩⟩ := look_total M g
  · exact .inl ⟨k, x, h1, h2, h3, by rw [← h2]; exact h.hit x (List.mem_of_getElem? h1)⟩
  · exact .inr ⟨h1, h.miss g h1⟩
theorem EM.nil (cr : Int) : EM (fun _ => none) [] cr := ⟨fun _ h => by simp at h, fun _ _ => rfl, List.Pairwise.nil, fun _ h => by simp at h⟩
theorem EM.uniq {E : ByteArray → Option En} {M : List Nt} {cr : Int} (h : EM E M cr) {i j : Nat} {x y : Nt} (hi : M[i]? = some x) (hj : M[j]? = some y) (e : x.1 = y.1) : i = j := by
  have e2 : x.2 = y.2 := by
    have h1 := h.hit x (List.mem_of_getElem? hi)
    rw [e, h.hit y (List.mem_of_getElem? hj)] at h1
    exact (Option.some.inj h1).symm
  have hp := List.pairwise_iff_getElem.1 h.asc
  have li := (List.getElem?_eq_some_iff.1 hi)
  have lj := (List.getElem?_eq_some_iff.1 hj)
  obtain ⟨li, ei⟩ := li
  obtain ⟨lj, ej⟩ := lj
  rcases Nat.lt_trichotomy i j with h1 | h1 | h1
  · have := hp i j li lj h1
    rw [ei, ej, e2] at this
    omega
  · exact h1
  · have := hp j i lj li h1
    rw [ei, ej, e2] at this
    omega
theorem EM.add {E : ByteArray → Option En} {M : List Nt} {cr : Int} (h : EM E M cr) {g : ByteArray} (hg : ∀ x ∈ M, x.1 ≠ g) (l u : Int) : EM (updE E g (some ⟨l, u, cr + 1⟩)) (M ++ [(g, ⟨l, u, cr + 1⟩)]) (cr + 1) := by
  refine ⟨fun x hx => ?_, fun s hs => ?_, ?_, fun x hx => ?_⟩
  · rcases List.mem_append.1 hx with hx | hx
    · rw [updE_other (hg x hx)]; exact h.hit x hx
    · obtain rfl : x = (g, ⟨l, u, cr + 1⟩) := by simpa using hx
      exact updE_same _ _ _
  · have hsg : s ≠ g := fun e => hs (g, ⟨l, u, cr + 1⟩) (by simp) e.symm
    rw [updE_other hsg]
    exact h.miss s fun x hx => hs x (List.mem_append_left _ hx)
  · refine List.pairwise_append.2 ⟨h.asc, by simp, fun x hx y hy => ?_⟩
    obtain rfl : y = (g, ⟨l, u, cr + 1⟩) := by simpa using hy
    have := h.top x hx
    show x.2.n < cr + 1
    omega
  · rcases List.mem_append.1 hx with hx | hx
    · have := h.top x hx; omega
    · obtain rfl : x = (g, ⟨l, u, cr + 1⟩) := by simpa using hx
      exact Int.le_refl _
theorem EM.set {E : ByteArray → Option En} {M : List Nt} {cr : Int} (h : EM E M cr) {k : Nat} {x : Nt} (hk : M[k]? = some x) (l u : Int) : EM (updE E x.1 (some ⟨l, u, x.2.n⟩)) (M.set k (x.1, ⟨l, u, x.2.n⟩)) cr := by
  have hkl := lt_at hk
  have hmem : ∀ y, y ∈ M.set k (x.1, (⟨l, u, x.2.n⟩ : En)) → y = (x.1, ⟨l, u, x.2.n⟩) ∨ (y ∈ M ∧ y.1 ≠ x.1) := by
    intro y hy
    obtain ⟨i, hi⟩ := List.getElem?_of_mem hy
    by_cases e : k = i
    · subst e
      rw [List.getElem?_set_self hkl] at hi
      exact .inl (Option.some.inj hi).symm
    · rw [List.getElem?_set_ne e] at hi
      exact .inr ⟨List.mem_of_getElem? hi, fun e2 => e (h.uniq hk hi e2.symm)⟩
  refine ⟨fun y hy => ?_, fun s hs => ?_, ?_, fun y hy => ?_⟩
  · rcases hmem y hy with rfl | ⟨h1, h2⟩
    · exact updE_same _ _ _
    · rw [updE_other h2]; exact h.hit y h1
  · have hk2 : (M.set k (x.1, (⟨l, u, x.2.n⟩ : En)))[k]? = some (x.1, ⟨l, u, x.2.n⟩) := List.getElem?_set_self hkl
    have hsx : s ≠ x.1 := fun e => hs _ (List.mem_of_getElem? hk2) e.symm
    rw [updE_other hsx]
    refine h.miss s fun y hy => ?_
    obtain ⟨i, hi⟩ := List.getElem?_of_mem hy
    by_cases e : k = i
    · subst e
      rw [hk] at hi
      obtain rfl := Option.some.inj hi
      exact fun e => hsx e.symm
    · exact hs y (List.mem_of_getElem? (by rw [List.getElem?_set_ne e]; exact hi))
  · have hn : ∀ (N : List Nt) (j : Nat) (z : Nt), N[j]? = some z → (N.set j (z.1, ⟨l, u, z.2.n⟩)).map (fun y => y.2.n) = N.map (fun y => y.2.n) := by
      intro N j z hz
      rw [List.map_set]
      apply List.ext_getElem?
      intro i
      by_cases e : j = i
      · subst e
        have := lt_at hz
        rw [List.getElem?_set_self (by simpa using this), List.getElem?_map, hz]
        rfl
      · rw [List.getElem?_set_ne e]
    have h1 : (M.map (fun y : Nt => y.2.n)).Pairwise (· < ·) := List.pairwise_map.2 h.asc
    rw [← hn M k x hk] at h1
    exact List.pairwise_map.1 h1
  · rcases hmem y hy with rfl | ⟨h1, h2⟩
    · exact h.top x (List.mem_of_getElem? hk)
    · exact h.top y h1
theorem EM.drop {E : ByteArray → Option En} {M : List Nt} {cr : Int} (h : EM E M cr) (g : ByteArray) : EM (updE E g none) (M.filter (notG g)) cr := by
  have hm : ∀ x, x ∈ M.filter (notG g) ↔ x ∈ M ∧ x.1 ≠ g := fun x => by
    rw [List.mem_filter]
    simp [notG]
  refine ⟨fun x hx => ?_, fun s hs => ?_, h.asc.filter _, fun x hx => h.top x ((hm x).1 hx).1⟩
  · obtain ⟨h1, h2⟩ := (hm x).1 hx
    rw [updE_other h2]
    exact h.hit x h1
  · by_cases e : s = g
    · rw [e, updE_same]
    · rw [updE_other e]
      exact h.miss s fun x hx e2 => hs x ((hm x).2 ⟨hx, fun e3 => e (e2 ▸ e3)⟩) e2
/-- The groups in their order are the listed names. -/
theorem EM.groups {E : ByteArray → Option En} {M : List Nt} {cr : Int} (h : EM E M cr) {l : List ByteArray} (hl : Ordered E l) : l = M.map (·.1) := by
  have hnd : (M.map (·.1)).Nodup := by
    refine List.pairwise_map.2 ?_
    rw [List.pairwise_iff_getElem]
    intro i j hi hj hij e
    have := h.uniq (List.getElem?_eq_getElem hi) (List.getElem?_eq_getElem hj) e
    omega
  have hmem : ∀ s, s ∈ M.map (·.1) ↔ (E s).isSome = true := fun s => by
    rw [List.mem_map]
    constructor
    · rintro ⟨x, hx, rfl⟩
      rw [h.hit x hx]; rfl
    · intro hs
      by_cases e : ∃ x ∈ M, x.1 = s
      · obtain ⟨x, hx, hxs⟩ := e
        exact ⟨x, hx, hxs⟩
      · rw [h.miss s fun x hx e2 => e ⟨x, hx, e2⟩] at hs
        cases hs
  have hp : l.Perm (M.map (·.1)) := (List.perm_ext_iff_of_nodup hl.nd hnd).2 fun s => by rw [hl.mem s, hmem s]
  have hasc : (M.map (·.1)).Pairwise fun x y => ordE E x ≤ ordE E y := by
    refine List.pairwise_map.2 (h.asc.imp_of_mem fun {x y} hx hy hxy => ?_)
    unfold ordE
    rw [h.hit x hx, h.hit y hy]
    exact Int.le_of_lt hxy
  refine hp.eq_of_pairwise (le := fun x y => ordE E x ≤ ordE E y) (fun x y hx hy h1 h2 => ?_) hl.asc hasc
  have hx' := hp.mem_iff.1 hx
  obtain ⟨a, ha, rfl⟩ := List.mem_map.1 hx'
  obtain ⟨c, hc, rfl⟩ := List.mem_map.1 hy
  obtain ⟨i, hi⟩ := List.getElem?_of_mem ha
  obtain ⟨j, hj⟩ := List.getElem?_of_mem hc
  unfold ordE at h1 h2
  rw [h.hit a ha, h.hit c hc] at h1 h2
  have e : a.2.n = c.2.n := Int.le_antisymm h1 h2
  have hq := List.pairwise_iff_getElem.1 h.asc
  obtain ⟨li, ei⟩ := List.getElem?_eq_some_iff.1 hi
  obtain ⟨lj, ej⟩ := List.getElem?_eq_some_iff.1 hj
  rcases Nat.lt_trichotomy i j with h3 | h3 | h3
  · have := hq i j li lj h3
    rw [ei, ej] at this
    omega
  · subst h3
    rw [hi] at hj
    rw [Option.some.inj hj]
  · have := hq j i lj li h3
    rw [ei, ej] at this
    omega
end Go.Proofs.Ytedombidblhmeaa
