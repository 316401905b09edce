/-
  The document's order of texts is the language's.
-/
import Derived.Test.YteccmjbgedmfhaaTm3
import Derived.Test.YteccmjbgedmfhaaRel
namespace Go.Proofs.Yteccmjbgedmfhaa
open Go.RowKit
set_option linter.unusedVariables false
set_option linter.unusedSimpArgs false

theorem get_bang (s : ByteArray) (i : Nat) (h : i < s.size) : s.get! i = s[i]'h := by
  have := get_at s i h
  simpa using this
theorem str_ix (s : ByteArray) (n : Nat) (h : n < s.size) (w : World) : (Instr.index 9 (.string s) (.int .i64 (n : Int))).run Try.prog w = .ok (.int .u8 (((s.get! n).toNat : Nat) : Int)) w := by
  rw [run_index_string w 9 s .i64 n Try.underlying9, dif_pos ⟨by omega, by omega⟩, get_bang s n h]
  rfl
/-- Byte by byte, which of two texts stands ahead. -/
def lessF (a b : ByteArray) : Nat → Nat → Bool
  | 0, _ => decide (a.size < b.size)
  | f + 1, i => if i < a.size ∧ i < b.size then (if (a.get! i).toNat = (b.get! i).toNat then lessF a b f (i + 1) else decide ((a.get! i).toNat < (b.get! i).toNat)) else decide (a.size < b.size)
def lessB (a b : ByteArray) : Bool := lessF a b a.size 0
theorem lessF_end {a b : ByteArray} (f i : Nat) (h : ¬ (i < a.size ∧ i < b.size)) : lessF a b f i = decide (a.size < b.size) := by
  cases f with
  | zero => rfl
  | succ f => rw [lessF, if_neg h]
set_option maxRecDepth 100000 in
set_option maxHeartbeats 2000000 in
theorem less_any (a b : ByteArray) (ha : a.size ≤ 1000000000) (w : World) :
    Calls Try.prog 38 #[.string a, .string b] w fun e w' => e = .returned (.bool (lessB a b)) ∧ Below w.heap.size w w' := by
  go_enter Try.func38, Try.ntmps38
  go_wp2
  go_loopw [5] (fun u wr => ∃ i f : Nat, u = .int .i64 i ∧ i ≤ a.size ∧ a.size ≤ i + f ∧ lessB a b = lessF a b f i ∧ Below w.heap.size w wr) (fun u _ => a.size - (intOf u).toNat)
  case atStart => exact ⟨0, a.size, rfl, Nat.zero_le _, by omega, rfl, by (repeat' (first | with_reducible exact Below.refl _ _ | with_reducible assumption | with_reducible refine Below.drew ?_ | with_reducible refine below_drewN' ?_ _ | with_reducible refine Below.alloc ?_ ?_ _ | with_reducible refine Below.setCell ?_ ?_ _ | with_reducible refine below_step (by assumption) ?_ ?_ | omega | (simp; done) | (simp; omega)))⟩
  case round =>
    obtain ⟨i, f, rfl, hi, hf, hE, hB⟩ := hrel
    have hbz := hB.size
    have HE := Lib.hid hE
    clear hE
    by_cases h : i < a.size ∧ i < b.size
    · obtain ⟨h1, h2⟩ := h
      obtain ⟨f, rfl⟩ : ∃ g, f = g + 1 := ⟨f - 1, by omega⟩
      have hx := str_ix a i h1
      have hy := str_ix b i h2
      have hE2 := HE.out
      rw [lessF, if_pos ⟨h1, h2⟩] at hE2
      obtain ⟨p, hp⟩ : ∃ p, (a.get! i).toNat = p := ⟨_, rfl⟩
      obtain ⟨q, hq⟩ : ∃ q, (b.get! i).toNat = q := ⟨_, rfl⟩
      rw [hp] at hx hE2
      rw [hq] at hy hE2
      clear hp hq
      by_cases hpq : p = q
      · rw [if_pos hpq] at hE2
        have H2 := Lib.hid hE2
        clear hE2
        subst hpq
        go_wp2
        have hcH := held_cell
        refine region_rel (by kernel_rfl) (by kernel_rfl) ?_
        repeat
          ((with_reducible refine relStep (fun K hK => ?_))
           (have HK := Lib.hid hK)
           clear hK
           (first
             | (apply relInl
                · intro r n hf
                  have Hf := Lib.hid hf
                  clear hf
                  unfold relAt
                  go_simp
                  (first | (refine relUpon_val ?_ (Below.refl _ _); exact rfl) | exact rfl | (refine relUpon_enter ?_; fail))
                (simp only [Act.put, List.setIfInBounds_toArray, List.set_cons_zero, List.set_cons_succ])
                (with_reducible refine HK.out _ _ ?_)
                clear HK K)
             | (fail)))
        refine relNil ?_
        intro r5 n5 hx5
        clear hcH
        (try simp only [List.nil_append, List.cons_append, List.mem_cons, List.not_mem_nil, or_false, forall_eq_or_imp, forall_eq, false_implies, implies_true] at hx5)
        obtain ⟨w5, hb5⟩ := n5
        (try dsimp only)
        obtain ⟨hc5, hf5⟩ := bcell hb5
        have hz5 := hb5.size
        (try simp at hz5)
        go_wp2
        go_roundw
        case rel => exact ⟨i + 1, f, by go_num, by omega, by omega, H2.out, by (repeat' (first | with_reducible exact Below.refl _ _ | with_reducible assumption | with_reducible refine Below.drew ?_ | with_reducible refine below_drewN' ?_ _ | with_reducible refine Below.alloc ?_ ?_ _ | with_reducible refine Below.setCell ?_ ?_ _ | with_reducible refine below_step (by assumption) ?_ ?_ | omega | (simp; done) | (simp; omega)))⟩
        case measure => simp [intOf]; omega
      · rw [if_neg hpq] at hE2
        have H2 := Lib.hid hE2
        clear hE2
        have hne : (((p : Nat) : Int) != ((q : Nat) : Int)) = true := by rw [bne_iff_ne]; omega
        go_wp2
        have hcH := held_cell
        refine region_rel (by kernel_rfl) (by kernel_rfl) ?_
        repeat
          ((with_reducible refine relStep (fun K hK => ?_))
           (have HK := Lib.hid hK)
           clear hK
           (first
             | (apply relInl
                · intro r n hf
                  have Hf := Lib.hid hf
                  clear hf
                  unfold relAt
                  go_simp
                  (first | (refine relUpon_val ?_ (Below.refl _ _); exact rfl) | exact rfl | (refine relUpon_enter ?_; fail))
                (simp only [Act.put, List.setIfInBounds_toArray, List.set_cons_zero, List.set_cons_succ])
                (with_reducible refine HK.out _ _ ?_)
                clear HK K)
             | (fail)))
        refine relNil ?_
        intro r5 n5 hx5
        clear hcH
        (try simp only [List.nil_append, List.cons_append, List.mem_cons, List.not_mem_nil, or_false, forall_eq_or_imp, forall_eq, false_implies, implies_true] at hx5)
        obtain ⟨w5, hb5⟩ := n5
        (try dsimp only)
        obtain ⟨hc5, hf5⟩ := bcell hb5
        have hz5 := hb5.size
        (try simp at hz5)
        go_wp2
        have hcH := held_cell
        refine region_rel (by kernel_rfl) (by kernel_rfl) ?_
        repeat
          ((with_reducible refine relStep (fun K hK => ?_))
           (have HK := Lib.hid hK)
           clear hK
           (first
             | (apply relInl
                · intro r n hf
                  have Hf := Lib.hid hf
                  clear hf
                  unfold relAt
                  go_simp
                  (first | (refine relUpon_val ?_ (Below.refl _ _); exact rfl) | exact rfl | (refine relUpon_enter ?_; fail))
                (simp only [Act.put, List.setIfInBounds_toArray, List.set_cons_zero, List.set_cons_succ])
                (with_reducible refine HK.out _ _ ?_)
                clear HK K)
             | (fail)))
        refine relNil ?_
        intro r6 n6 hx6
        clear hcH
        (try simp only [List.nil_append, List.cons_append, List.mem_cons, List.not_mem_nil, or_false, forall_eq_or_imp, forall_eq, false_implies, implies_true] at hx6)
        obtain ⟨w6, hb6⟩ := n6
        (try dsimp only)
        obtain ⟨hc6, hf6⟩ := bcell hb6
        have hz6 := hb6.size
        (try simp at hz6)
        go_wp2
        go_ret
        exact ⟨by rw [H2.out]; simp, by (repeat' (first | with_reducible exact Below.refl _ _ | with_reducible assumption | with_reducible refine Below.drew ?_ | with_reducible refine below_drewN' ?_ _ | with_reducible refine Below.alloc ?_ ?_ _ | with_reducible refine Below.setCell ?_ ?_ _ | with_reducible refine below_step (by assumption) ?_ ?_ | omega | (simp; done) | (simp; omega)))⟩
    · have H2 := Lib.hid (HE.out.trans (lessF_end f i h))
      have h3 : ¬ i < a.size ∨ (i < a.size ∧ ¬ i < b.size) := by omega
      clear h
      rcases h3 with h1 | ⟨h1, h2⟩
      · go_wp2
        go_ret
        exact ⟨by rw [H2.out]; simp, by (repeat' (first | with_reducible exact Below.refl _ _ | with_reducible assumption | with_reducible refine Below.drew ?_ | with_reducible refine below_drewN' ?_ _ | with_reducible refine Below.alloc ?_ ?_ _ | with_reducible refine Below.setCell ?_ ?_ _ | with_reducible refine below_step (by assumption) ?_ ?_ | omega | (simp; done) | (simp; omega)))⟩
      · go_wp2
        go_ret
        exact ⟨by rw [H2.out]; simp, by (repeat' (first | with_reducible exact Below.refl _ _ | with_reducible assumption | with_reducible refine Below.drew ?_ | with_reducible refine below_drewN' ?_ _ | with_reducible refine Below.alloc ?_ ?_ _ | with_reducible refine Below.setCell ?_ ?_ _ | with_reducible refine below_step (by assumption) ?_ ?_ | omega | (simp; done) | (simp; omega)))⟩
theorem data_drop (a : ByteArray) (i : Nat) (h : i < a.size) : ∃ u : UInt8, u.toNat = (a.get! i).toNat ∧ a.toList.drop i = u :: a.toList.drop (i + 1) := by
  rw [ByteArray.toList_eq]
  have h' : i < a.data.toList.length := by rw [Array.length_toList]; exact h
  refine ⟨a.data.toList[i], ?_, List.drop_eq_getElem_cons h'⟩
  rw [get_bang a i h]
  rfl
theorem data_end (a : ByteArray) (i : Nat) (h : a.size ≤ i) : a.toList.drop i = [] := by
  rw [ByteArray.toList_eq]
  exact List.drop_eq_nil_of_le (by rw [Array.length_toList]; exact h)
theorem less_drop (a b : ByteArray) : ∀ f i, a.size ≤ i + f → i ≤ a.size → i ≤ b.size → lessF a b f i = Op.bytesLess (a.toList.drop i) (b.toList.drop i) := by
  intro f
  have hend : ∀ i, i ≤ a.size → i ≤ b.size → ¬ (i < a.size ∧ i < b.size) → decide (a.size < b.size) = Op.bytesLess (a.toList.drop i) (b.toList.drop i) := by
    intro i h1 h2 h3
    by_cases h4 : i < b.size
    · obtain ⟨u, _, e⟩ := data_drop b i h4
      rw [data_end a i (by omega), e, decide_eq_true (by omega)]
      rfl
    · rw [data_end b i (by omega), decide_eq_false (by omega)]
      cases a.toList.drop i <;> rfl
  induction f with
  | zero =>
    intro i h1 h2 h3
    rw [lessF_end 0 i (by omega)]
    exact hend i h2 h3 (by omega)
  | succ f ih =>
    intro i h1 h2 h3
    by_cases h : i < a.size ∧ i < b.size
    · obtain ⟨u, hu, eu⟩ := data_drop a i h.1
      obtain ⟨v, hv, ev⟩ := data_drop b i h.2
      rw [lessF, if_pos h, eu, ev, Op.bytesLess, ← hu, ← hv]
      by_cases e : u.toNat = v.toNat
      · have e2 : u = v := UInt8.toNat_inj.1 e
        rw [if_pos e, ih (i + 1) (by omega) (by omega) (by omega)]
        subst e2
        simp [UInt8.lt_irrefl]
      · rw [if_neg e]
        have e2 : (u == v) = false := by rw [beq_eq_false_iff_ne]; exact fun h => e (by rw [h])
        rw [e2, Bool.false_and, Bool.or_false]
        exact decide_eq_decide.2 UInt8.lt_iff_toNat_lt.symm
    · rw [lessF_end _ i h]
      exact hend i h2 h3 h
/-- The document's order of texts is the language's. -/
theorem less_eq (a b : ByteArray) : lessB a b = Op.bytesLess a.toList b.toList := by
  have := less_drop a b a.size 0 (by omega) (Nat.zero_le _) (Nat.zero_le _)
  simpa [lessB] using this
theorem less_bl (a b : ByteArray) : lessB a b = bl a b := less_eq a b
end Go.Proofs.Yteccmjbgedmfhaa
