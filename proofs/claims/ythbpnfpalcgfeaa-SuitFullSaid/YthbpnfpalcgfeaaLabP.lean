/-
  Terms that came in.
-/
import Derived.Test.YthbpnfpalcgfeaaME
import Derived.Test.YthbpnfpalcgfeaaLab13
namespace Go.Proofs.Ythbpnfpalcgfeaa
namespace Lb
set_option linter.unusedSimpArgs false
open Go.ChangeShapes Go.WideShapes Go.ChangeAt Go.RowKit
set_option linter.unusedVariables false

theorem Try.cells81 : Try.prog.cellsOf 81 = 3 := by kernel_rfl
theorem Try.cells65 : Try.prog.cellsOf 65 = 1 := by kernel_rfl
set_option maxRecDepth 100000 in
theorem txt_open {H : Type} {enc : TypeId × Value → H} {W : World} {fuel : Nat} {cs : List Value} {y : DataW H × List MemPlace} (hl : cs.length = 1)
    (h : DataW.trod enc Try.prog W 0 (fun _ => true) true fuel 9 cs = some y) : ∃ s : ByteArray, cs = scs s := by
  obtain ⟨s0, q0, _⟩ := DataW.trod_string Try.underlying9 h
  exact ⟨s0, q0⟩

set_option maxRecDepth 100000 in
theorem trm_open {H : Type} {enc : TypeId × Value → H} {W : World} {fuel : Nat} {cs : List Value} {y : DataW H × List MemPlace} (hl : cs.length = 3)
    (h : DataW.trod enc Try.prog W 0 (fun _ => true) true fuel 81 cs = some y) : ∃ t : Trm, cs = trcs t ∧ TrmAt W t := by
  obtain ⟨zs, _, _, _, _, hlen3, hk⟩ := DataW.trod_struct Try.underlying81 h
  match cs, hl with
  | [c0, c1, c2], _ =>
    match zs, hlen3 with
    | [z0, z1, z2], _ =>
      have k0 := hk 0 _ rfl
      have k1 := hk 1 _ rfl
      have k2 := hk 2 _ rfl
      obtain ⟨m0, r0, _⟩ := DataW.trod_string Try.underlying9 k0
      obtain ⟨i1, r1, _⟩ := DataW.trod_int Try.underlying3 k1
      obtain ⟨a2, l2, k2', r2⟩ := Go.Joins.slice_form Try.underlying65 k2
      rw [r2] at k2
      obtain ⟨L, hL1, hL2, hL3⟩ := open_nested (K := 1) (enc := scs) Try.underlying65 Try.cells9 (by decide) (fun cs fuel y hl h => txt_open hl h) k2
      simp [cells_int, Try.cells9, Try.cells65] at r0 r1 r2
      subst hL1
      exact ⟨⟨m0, i1, a2, k2', L⟩, by rw [r0, r1, r2]; rfl, ⟨hL2, hL3⟩⟩

set_option maxRecDepth 100000 in
theorem open_trm {H : Type} {enc : TypeId × Value → H} {W : World} {base : Nat} {v : Value} {d : DataW H} {p : List MemPlace}
    (hv : Value.okWide Try.prog W .any base 81 v) (h : DataW.Trod enc Try.prog W 0 (fun _ => true) true 81 v d p) :
    ∃ t : Trm, v = .agg #[.string t.key, .int .i64 t.op, .slice t.va t.vals.length t.vk] ∧ TrmAt W t := by
  obtain ⟨cs, rfl, hsz⟩ := okWide_struct Try.underlying81 hv
  rw [Try.cells81] at hsz
  obtain ⟨fuel, hf⟩ := h
  obtain ⟨l⟩ := cs
  obtain ⟨t, ht, hA⟩ := trm_open (cs := l) hsz hf
  exact ⟨t, by rw [ht]; rfl, hA⟩
set_option maxRecDepth 100000 in
theorem open_trms {H : Type} {enc : TypeId × Value → H} {W : World} {base : Nat} {v : Value} {d : DataW H} {p : List MemPlace}
    (hv : Value.okWide Try.prog W .any base 43 v) (h : DataW.Trod enc Try.prog W 0 (fun _ => true) true 43 v d p) :
    ∃ (a : Option Addr) (l : List Trm) (k : Nat), v = .slice a l.length k ∧ NilOk a l.length k ∧ TrmL W a l ∧ l.length ≤ maxLen ∧ ∀ x ∈ l, TrmAt W x := by
  rcases open_rows Try.underlying43 Try.cells81 (by decide) hv h with rfl | ⟨a, cap, rfl⟩ | ⟨b, off, n, cap, rfl, hn, hnc, hcm, hb, hr⟩
  · exact ⟨none, [], 0, rfl, fun _ => ⟨rfl, rfl⟩, RowsAt.nil, Nat.zero_le _, fun x hx => by cases hx⟩
  · exact ⟨some a, [], cap, rfl, (fun h => by cases h), RowsAt.nil, Nat.zero_le _, fun x hx => by cases hx⟩
  · have hD : ∀ m, m ≤ n → ∃ l : List Trm, l.length = m ∧ (∀ i x, l[i]? = some x → ∀ j, j < 3 → W.cell? ⟨b, off + i * 3 + j, none⟩ = (trcs x)[j]?) ∧ ∀ x ∈ l, TrmAt W x := by
      intro m
      induction m with
      | zero => exact fun _ => ⟨[], rfl, fun i x hx => by simp at hx, fun x hx => by cases hx⟩
      | succ m ih =>
        intro hm
        obtain ⟨l, hl, hc, hA⟩ := ih (by omega)
        obtain ⟨cs, hcl, hcs, fuel, y, hy⟩ := hr m (by omega)
        obtain ⟨x, rfl, hx⟩ := trm_open hcl hy
        refine ⟨l ++ [x], by simp [hl], fun i z hz j hj => ?_, fun z hz => ?_⟩
        · by_cases hi : i < l.length
          · rw [List.getElem?_append_left hi] at hz
            exact hc i z hz j hj
          · rw [List.getElem?_append_right (by omega)] at hz
            have h0 : i - l.length = 0 := by
              have := (List.getElem?_eq_some_iff.1 hz).1
              simp at this
              omega
            rw [h0] at hz
            obtain rfl : x = z := by simpa using hz
            obtain rfl : i = m := by omega
            exact hcs j hj
        · rcases List.mem_append.1 hz with h | h
          · exact hA z h
          · obtain rfl : z = x := by simpa using h
            exact hx
    obtain ⟨l, hl, hc, hA⟩ := hD n (Nat.le_refl n)
    subst hl
    exact ⟨some ⟨b, off, none⟩, l, cap, rfl, (fun h => by cases h), fun _ => ⟨b, off, rfl, hb, hc⟩, Nat.le_trans hnc hcm, hA⟩
end Lb
end Go.Proofs.Ythbpnfpalcgfeaa
