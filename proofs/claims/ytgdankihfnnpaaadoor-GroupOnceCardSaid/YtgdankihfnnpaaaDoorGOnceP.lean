/-
  Names of machines: their numbers, and that they are their own: plain.
-/
import Derived.Test.YtgdankihfnnpaaaDoorGLaw0
import Derived.Test.YtgdankihfnnpaaaDoorWordP
namespace Go.Proofs.YtgdankihfnnpaaaDoor
open Go.RowKit
set_option linter.unusedVariables false

theorem dec_len (k : Nat) (h1 : 1 ≤ k) (h : k ≤ 999999999) : (Lib.decDigits k).length ≤ 9 := by
  obtain ⟨c, r, e, hc⟩ := dec_head k h1
  have hn := dec_num k h1
  have hd := dec_digits k
  rw [e] at hn hd
  rw [numL_cons] at hn
  have hcd := hd c List.mem_cons_self
  have hc1 : 1 ≤ c.toNat - 48 := by
    refine Nat.pos_of_ne_zero fun h0 => hc ?_
    have : c.toNat = 48 := by have := hcd.1; omega
    exact UInt8.toNat_inj.1 (by rw [this]; rfl)
  have hp : 10 ^ r.length ≤ k := by
    have := Nat.mul_le_mul_right (10 ^ r.length) hc1
    omega
  rw [e, List.length_cons]
  rcases Nat.lt_or_ge r.length 9 with h9 | h9
  · omega
  · have := Nat.pow_le_pow_right (show 0 < 10 by decide) h9
    omega
theorem dec_is (k : Nat) : (Lib.decDigits k).all isDb = true := by
  rw [List.all_eq_true]
  exact fun c hc => decide_eq_true (dec_digits k c hc)
/-- The number of a machine's own name. -/
theorem numG_own (nm : ByteArray) (k : Nat) (h1 : 1 ≤ k) (h : k ≤ 999999999) : numG nm (nameB nm k) = k := by
  show numG nm ((nm ++ dash) ++ lsB (Lib.decDigits k)) = k
  rw [numG_yes]
  have hl := dec_len k h1 h
  have hne : (Lib.decDigits k).head? ≠ some 48 := by
    obtain ⟨c, r, e, hc⟩ := dec_head k h1
    rw [e]
    exact fun h => hc (by simpa using h)
  unfold numR
  rw [if_pos ⟨hl, dec_is k, hne⟩, dec_num k h1]
theorem split_last : ∀ {A B D E : List UInt8}, A ++ 45 :: D = B ++ 45 :: E → (∀ c ∈ D, c ≠ 45) → (∀ c ∈ E, c ≠ 45) → A = B ∧ D = E := by
  intro A B D E h hD hE
  rcases List.append_eq_append_iff.1 h with ⟨a, h1, h2⟩ | ⟨a, h1, h2⟩
  · cases a with
    | nil => exact ⟨by rw [h1, List.append_nil], by simpa using h2⟩
    | cons x a =>
      rw [List.cons_append, List.cons.injEq] at h2
      exact absurd rfl (hD 45 (by rw [h2.2]; simp))
  · cases a with
    | nil => exact ⟨by rw [h1, List.append_nil], by simpa using h2.symm⟩
    | cons x a =>
      rw [List.cons_append, List.cons.injEq] at h2
      exact absurd rfl (hE 45 (by rw [h2.2]; simp))
theorem dig_ne (k : Nat) : ∀ c ∈ Lib.decDigits k, c ≠ 45 := fun c hc e => by
  have := (dec_digits k c hc).1
  rw [e] at this
  exact absurd this (by decide)
theorem name_list (nm : ByteArray) (k : Nat) : (nameB nm k).data.toList = nm.data.toList ++ 45 :: Lib.decDigits k := by
  unfold nameB
  rw [ByteArray.data_append, ByteArray.data_append, Array.toList_append, Array.toList_append, List.append_assoc]
  rfl
/-- Machines of two numbers, or of two groups, have two names. -/
theorem name_inj {a b : ByteArray} {j k : Nat} (hj : 1 ≤ j) (hk : 1 ≤ k) (h : nameB a j = nameB b k) : a = b ∧ j = k := by
  have h2 : (nameB a j).data.toList = (nameB b k).data.toList := by rw [h]
  rw [name_list, name_list] at h2
  obtain ⟨h3, h4⟩ := split_last h2 (dig_ne j) (dig_ne k)
  refine ⟨ByteArray.ext (Array.toList_inj.1 h3), ?_⟩
  rw [← dec_num j hj, ← dec_num k hk, h4]
theorem asc_dash : ∀ c ∈ (45 : UInt8) :: Lib.decDigits 0, True := fun _ _ => trivial
theorem asc_tail (k : Nat) : ∀ c ∈ (45 : UInt8) :: Lib.decDigits k, ascW c := by
  intro c hc
  rcases List.mem_cons.1 hc with rfl | hc
  · exact ⟨by decide, by decide⟩
  · obtain ⟨h1, h2⟩ := dec_digits k c hc
    refine ⟨by omega, ?_⟩
    unfold inW
    rw [decide_eq_true_eq]
    omega
theorem name_word {nm : ByteArray} {k : Nat} (h : wordB nm = true) (hs : nm.size ≤ 48) (h1 : 1 ≤ k) (hk : k ≤ 999999999) : wordB (nameB nm k) = true := by
  have e : nameB nm k = nm ++ lsB (45 :: Lib.decDigits k) := by
    refine ByteArray.ext (Array.toList_inj.1 ?_)
    rw [name_list, ByteArray.data_append, Array.toList_append]
    rfl
  rw [e]
  have := dec_len k h1 hk
  exact word_tail h (asc_tail k) (by rw [List.length_cons]; omega)
theorem name_size {nm : ByteArray} {k : Nat} (hs : nm.size ≤ 48) (h1 : 1 ≤ k) (hk : k ≤ 999999999) : (nameB nm k).size ≤ 60 := by
  have := dec_len k h1 hk
  unfold nameB
  rw [ByteArray.size_append, ByteArray.size_append, dg_size]
  have : dash.size = 1 := rfl
  omega
/-- A right group's machine. -/
theorem mach_right {g : Gp} {k : Nat} (h : rightG g = true) (hs : g.nm.size ≤ 48) (hL : lightM g.like = true) (h1 : 1 ≤ k) (hk : k ≤ 999999999) : rightM (grpM g k) = true ∧ lightM (grpM g k) = true ∧ (grpM g k).gp = g.nm ∧ (grpM g k).nm = nameB g.nm k := by
  have e := grpM_in (g := g) (n := (k : Int)) ⟨by omega, by omega⟩
  rw [Int.toNat_natCast] at e
  rw [e]
  unfold rightG at h
  simp only [Bool.and_eq_true, decide_eq_true_eq] at h
  obtain ⟨⟨⟨⟨hw, hm⟩, -⟩, hgp⟩, -⟩ := h
  have hn := name_word hw.1.1.1.1 hs h1 hk
  have hz := name_size (nm := g.nm) hs h1 hk
  refine ⟨?_, ?_, hgp, rfl⟩
  · unfold rightM at hm ⊢
    simp only [Bool.and_eq_true] at hm ⊢
    refine ⟨⟨⟨⟨?_, hm.1.1.1.2⟩, hm.1.1.2⟩, hm.1.2⟩, hm.2⟩
    unfold weB
    rw [hn, Bool.or_true]
  · unfold lightM at hL ⊢
    simp only [Bool.and_eq_true, decide_eq_true_eq] at hL ⊢
    exact ⟨⟨⟨by omega, hL.1.1.2⟩, hL.1.2⟩, hL.2⟩
end Go.Proofs.YtgdankihfnnpaaaDoor
