/-
  The accounts tick by tick: sums, peaks and totals never fall.
-/
import Derived.Test.YtaipiflbigpniaaLdF
import Derived.Test.YtaipiflbigpniaaLd3
import Derived.Test.YtaipiflbigpniaaLd4
namespace Go.Proofs.Ytaipiflbigpniaa
open Go.RowKit
set_option linter.unusedVariables false
set_option linter.unusedSimpArgs false

theorem add_nm (L : List Ins) (x : Ac) : (addA L x).nm = x.nm := rfl
theorem find_map (L : List Ins) : ∀ (A : List Ac) (s : ByteArray), (∃ x ∈ A, x.nm = s) → ∃ x ∈ A, findAc A s = x ∧ findAc (A.map (addA L)) s = addA L x
  | [], s, h => by
    obtain ⟨x, hx, _⟩ := h
    simp at hx
  | y :: A, s, h => by
    by_cases hy : y.nm = s
    · exact ⟨y, List.mem_cons_self, if_pos hy, if_pos hy⟩
    · obtain ⟨x, hx, hs⟩ := h
      have hx' : x ∈ A := by
        rcases List.mem_cons.1 hx with rfl | h
        · exact absurd hs hy
        · exact h
      obtain ⟨z, hz, h1, h2⟩ := find_map L A s ⟨x, hx', hs⟩
      exact ⟨z, List.mem_cons_of_mem _ hz, (if_neg hy).trans h1, (show (if (addA L y).nm = s then addA L y else findAc (A.map (addA L)) s) = _ from (if_neg hy).trans h2)⟩
/-- The accounts of the groups l behind tk ticks. -/
structure GI (l : List Gp) (A : List Ac) (tk : Nat) : Prop where
  nm : A.map (·.nm) = l.map (·.nm)
  ok : ∀ x ∈ A, x.nm.size ≤ 300 ∧ 0 ≤ x.pr ∧ x.pr ≤ 1125899906842624 ∧ ∃ s p : Nat, x.su = s ∧ x.pk = p ∧ p ≤ 60 ∧ s ≤ tk * p
section
variable {l : List Gp} {A : List Ac} {tk : Nat}
theorem GI.len (h : GI l A tk) : A.length = l.length := by
  have := congrArg List.length h.nm
  simpa using this
theorem GI.start (hs : ∀ g ∈ l, g.nm.size ≤ 300) (hp : ∀ g ∈ l, 0 ≤ g.pr ∧ g.pr ≤ 1125899906842624) : GI l (l.map acN) 0 := by
  refine ⟨by rw [List.map_map]; rfl, fun x hx => ?_⟩
  obtain ⟨g, hg, rfl⟩ := List.mem_map.1 hx
  exact ⟨hs g hg, (hp g hg).1, (hp g hg).2, 0, 0, rfl, rfl, by decide, by decide⟩
theorem GI.add (h : GI l A tk) {L : List Ins} (hL : L.length ≤ 60) : GI l (A.map (addA L)) (tk + 1) := by
  refine ⟨by rw [List.map_map]; exact h.nm, fun x hx => ?_⟩
  obtain ⟨y, hy, rfl⟩ := List.mem_map.1 hx
  obtain ⟨h1, h2, h3, s, p, e1, e2, h4, h5⟩ := h.ok y hy
  have hc := cnt_le L y.nm
  refine ⟨h1, h2, h3, s + cntI L y.nm, max p (cntI L y.nm), ?_, ?_, by omega, ?_⟩
  · show y.su + (cntI L y.nm : Int) = _
    rw [e1]
    omega
  · show max y.pk (cntI L y.nm : Int) = _
    rw [e2]
    omega
  · have h6 : tk * p ≤ tk * max p (cntI L y.nm) := Nat.mul_le_mul_left _ (Nat.le_max_left _ _)
    rw [Nat.succ_mul]
    omega
theorem GI.num (h : GI l A tk) (ht : tk ≤ 100) {x : Ac} (hx : x ∈ A) : okA x ∧ x.nm.size ≤ maxLen ∧ 0 ≤ x.su ∧ x.su ≤ 1000000000 ∧ 0 ≤ x.pk ∧ x.pk ≤ 1000000000 := by
  obtain ⟨h1, h2, h3, s, p, e1, e2, h4, h5⟩ := h.ok x hx
  have h6 : tk * p ≤ 100 * 60 := Nat.mul_le_mul ht h4
  unfold okA
  refine ⟨⟨h2, h3, by omega, by omega⟩, by unfold maxLen; omega, by omega, by omega, by omega, by omega⟩
theorem GI.find (h : GI l A tk) {s : ByteArray} (hs : ∃ g ∈ l, g.nm = s) : ∃ x ∈ A, x.nm = s := by
  obtain ⟨g, hg, e⟩ := hs
  have h1 : s ∈ A.map (·.nm) := by rw [h.nm]; exact List.mem_map.2 ⟨g, hg, e⟩
  obtain ⟨x, hx, e⟩ := List.mem_map.1 h1
  exact ⟨x, hx, e⟩
theorem cost_grows {x : Ac} {L : List Ins} (h : okA x) (h' : okA (addA L x)) : costA x ≤ costA (addA L x) := by
  rw [costA_min h, costA_min h']
  have h1 : x.pr * x.su ≤ x.pr * (x.su + (cntI L x.nm : Int)) := Int.mul_le_mul_of_nonneg_left (by omega) h.1
  show min (x.pr * x.su) _ ≤ min (x.pr * (x.su + (cntI L x.nm : Int))) _
  omega
theorem tot_grows {L : List Ins} (h : ∀ x ∈ A, okA x ∧ okA (addA L x)) : ∀ k, k ≤ A.length → totA A k ≤ totA (A.map (addA L)) k
  | 0, _ => Int.le_refl _
  | k + 1, hk => by
    have ih := tot_grows h k (by omega)
    obtain ⟨x, hx⟩ : ∃ x, A[k]? = some x := ⟨_, List.getElem?_eq_getElem (by omega)⟩
    have hx' : (A.map (addA L))[k]? = some (addA L x) := by rw [List.getElem?_map, hx]; rfl
    rw [totA_step hx, totA_step hx']
    have := cost_grows (h x (List.mem_of_getElem? hx)).1 (h x (List.mem_of_getElem? hx)).2
    omega
end
end Go.Proofs.Ytaipiflbigpniaa
