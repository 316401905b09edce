/-
  The scanner: grow, advance, finish, escape, inside, begin, endWord, step.
-/
import Derived.Test.YtlndfognkkobaaaLexA
import Derived.Test.YtlndfognkkobaaaMB
namespace Go.Proofs.Ytlndfognkkobaaa
open Go.RowKit
set_option linter.unusedVariables false
set_option linter.unusedSimpArgs false

set_option maxRecDepth 100000 in
theorem sgrow_any (base b : Nat) (src : ByteArray) (s : SC) (tv cv : Value) (w : World) (h : ST w base b src s tv cv) (hr : 0 ≤ s.ru ∧ s.ru ≤ 1000000) :
    Calls Try.prog 61 #[.pointer (some ⟨b, 0, none⟩)] w fun e w' => e = .returned (.tuple #[.int .i64 s.grow.2.1, .int .i64 s.grow.2.2]) ∧ (ST w' base b src s.grow.1 tv cv) ∧ Fr base TS w w' := by
  have c9 := h.row.cell 9
  have c5 := h.row.cell 5
  have f9 := h.row.frozen 9
  dsimp only [srow, List.getElem?_cons_zero, List.getElem?_cons_succ] at c9 c5
  have hbl := h.row.lt
  have Hh := Lib.hid h
  have hw1 : IntKind.i64.wrap (s.ru + 1) = s.ru + 1 := cwrap_in (by omega) (by omega)
  have HR := Lib.hid (show ST (w.setCell ⟨b, 9, none⟩ (.int .i64 (s.ru + 1))) base b src { s with ru := s.ru + 1 } tv cv ∧ Fr base TS w (w.setCell ⟨b, 9, none⟩ (.int .i64 (s.ru + 1))) from ⟨h.rset 9 _ rfl rfl rfl, h.fr 9 _⟩)
  clear h
  by_cases hg : 64 < s.ru + 1
  · have e : s.grow = ({ s with ru := s.ru + 1 }, 4, s.cu.po) := by unfold SC.grow; rw [if_pos hg]
    rw [e]
    have k1 : decide (64 < s.ru + 1) = true := decide_eq_true hg
    clear e
    go_enter Try.func61, Try.ntmps61
    go_wp2
    go_quiet (fail)
    go_wp2
    go_ret2
    exact ⟨rfl, HR.out.1.below (below_drewN' (Below.refl _ _) _), HR.out.2.trans (Fr.of_below (below_drewN' (Below.refl _ _) _))⟩
  · have e : s.grow = ({ s with ru := s.ru + 1 }, 0, 0) := by unfold SC.grow; rw [if_neg hg]
    rw [e]
    have k1 : decide (64 < s.ru + 1) = false := decide_eq_false hg
    clear e
    go_enter Try.func61, Try.ntmps61
    go_wp2
    go_ret2
    exact ⟨rfl, HR.out⟩
set_option maxRecDepth 100000 in
theorem sadv_any (base b : Nat) (src : ByteArray) (s : SC) (tv cv : Value) (r : Int) (w : World) (h : ST w base b src s tv cv) (hl : 0 ≤ s.ln ∧ s.ln ≤ 1000000) (hc : 0 ≤ s.cl ∧ s.cl ≤ 1000000) :
    Calls Try.prog 47 #[.pointer (some ⟨b, 0, none⟩), .int .i32 r] w fun e w' => e = .returned (.tuple #[]) ∧ (ST w' base b src (s.adv r) tv cv) ∧ Fr base TS w w' := by
  have c10 := h.row.cell 10
  have c11 := h.row.cell 11
  have f10 := h.row.frozen 10
  have f11 := h.row.frozen 11
  dsimp only [srow, List.getElem?_cons_zero, List.getElem?_cons_succ] at c10 c11
  have hbl := h.row.lt
  have hw1 : IntKind.i64.wrap (s.ln + 1) = s.ln + 1 := cwrap_in (by omega) (by omega)
  have hw2 : IntKind.i64.wrap (s.cl + 1) = s.cl + 1 := cwrap_in (by omega) (by omega)
  have h1 := h.rset (s' := { s with cl := s.cl + 1 }) 11 (.int .i64 (s.cl + 1)) rfl rfl rfl
  have h2 := h1.rset (s' := { s with cl := s.cl + 1, ln := s.ln + 1 }) 10 (.int .i64 (s.ln + 1)) rfl rfl rfl
  have h3 := h2.rset (s' := { s with cl := 1, ln := s.ln + 1 }) 11 (.int .i64 1) rfl rfl rfl
  have H1 := Lib.hid h1
  have H3 := Lib.hid h3
  have F1 := Lib.hid (h.fr 11 (.int .i64 (s.cl + 1)))
  have F3 := Lib.hid (((h.fr 11 (.int .i64 (s.cl + 1))).trans (h1.fr 10 (.int .i64 (s.ln + 1)))).trans (h2.fr 11 (.int .i64 1)))
  clear h h1 h2 h3
  by_cases hr : r = 10
  · subst hr
    go_enter Try.func47, Try.ntmps47
    go_wp2
    go_end0
    exact ⟨rfl, H3.out, F3.out⟩
  · have e : s.adv r = { s with cl := s.cl + 1 } := by unfold SC.adv; rw [if_neg hr]
    rw [e]
    have k1 : (r == 10) = false := by simpa using hr
    go_enter Try.func47, Try.ntmps47
    go_wp2
    go_end0
    exact ⟨rfl, H1.out, F1.out⟩
set_option maxRecDepth 100000 in
theorem sendw_any (base b : Nat) (src : ByteArray) (s : SC) (tv cv : Value) (i : Int) (w : World) (h : ST w base b src s tv cv) (hn : s.tk.length ≤ 1000000) (h0 : 0 ≤ s.cu.po ∧ s.cu.po ≤ i ∧ i ≤ src.size) :
    Calls Try.prog 62 #[.pointer (some ⟨b, 0, none⟩), .int .i64 i] w fun e w' => e = .returned (.tuple #[]) ∧ (∃ tv', ST w' base b src (s.endW src i) tv' cv) ∧ Fr base TS w w' := by
  have c0 := h.row.cell 0
  have c5 := h.row.cell 5
  dsimp only [srow, List.getElem?_cons_zero, List.getElem?_cons_succ] at c0 c5
  have hbl := h.row.lt
  obtain ⟨q1, q2, q3⟩ := h0
  have HA := Lib.hid (fun V (hV : Below w.heap.size w V) => sadd_any base b src s tv cv 3 (src.extract s.cu.po.toNat i.toNat) V (h.below hV) hn)
  clear h
  go_enter Try.func62, Try.ntmps62
  have hcH := held_cell
  refine region_rel_tail 12 (by kernel_rfl) (by kernel_rfl) (by kernel_rfl) ?_
  dsimp only [List.take, List.drop]
  repeat
    ((with_reducible refine relStep (fun K hK => ?_))
     (have HK := Lib.hid hK)
     clear hK
     (apply relInl
      · intro r n hf
        have Hf := Lib.hid hf
        clear hf
        (first
          | (fail)
          | (unfold relAt
             go_simp
             (first | (refine relUpon_val ?_ (Below.refl _ _); exact rfl) | exact rfl | (refine relUpon_enter ?_; fail))))
      (simp only [Act.put, List.setIfInBounds_toArray, List.set_cons_zero, List.set_cons_succ])
      (with_reducible refine HK.out _ _ ?_)
      clear HK K))
  refine relNil ?_
  intro r5 n5 hx5
  clear hcH
  (try simp only [List.nil_append, List.cons_append, List.mem_cons, List.not_mem_nil, or_false, forall_eq_or_imp, forall_eq, false_implies, implies_true] at hx5)
  obtain ⟨w5, hb5⟩ := n5
  (try dsimp only)
  obtain ⟨hc5, hf5⟩ := bcell hb5
  have hz5 := hb5.size
  (try simp at hz5)
  go_wp2_with (go_at_call 67; (with_reducible refine (HA.out _ hb5).mono ?_); rintro e w6 ⟨rfl, hT, hF⟩; have HT := Lib.hid hT; have HF := Lib.hid ((Fr.of_below hb5).trans hF); clear hT hF)
  go_end0
  exact ⟨rfl, HT.out, HF.out⟩
set_option maxRecDepth 100000 in
theorem sfin_any (base b : Nat) (src : ByteArray) (s : SC) (tv cv : Value) (w : World) (h : ST w base b src s tv cv) (hn : s.tk.length ≤ 1000000) (h0 : s.md = 1 → 0 ≤ s.cu.po ∧ s.cu.po ≤ src.size) (hz : (src.size : Int) ≤ 1000000) :
    Calls Try.prog 48 #[.pointer (some ⟨b, 0, none⟩)] w fun e w' => e = .returned (.tuple #[.int .i64 (s.fin src).2.1, .int .i64 (s.fin src).2.2]) ∧ (∃ tv', ST w' base b src (s.fin src).1 tv' cv) ∧ Fr base TS w w' := by
  have c0 := h.row.cell 0
  have c2 := h.row.cell 2
  have c5 := h.row.cell 5
  dsimp only [srow, List.getElem?_cons_zero, List.getElem?_cons_succ] at c0 c2 c5
  have hbl := h.row.lt
  have Hh := Lib.hid h
  have hw1 : IntKind.i64.wrap ((src.size : Int) - 1) = (src.size : Int) - 1 := cwrap_in (by omega) (by omega)
  by_cases m1 : s.md = 1
  · obtain ⟨q1, q2⟩ := h0 m1
    have HE := Lib.hid (sendw_any base b src s tv cv src.size w h hn ⟨q1, q2, Int.le_refl _⟩)
    have e : s.fin src = (s.endW src src.size, 0, 0) := by unfold SC.fin; rw [if_pos m1]
    rw [e]
    rw [m1] at c2
    clear h e m1 h0
    go_enter Try.func48, Try.ntmps48
    go_wp2_with (go_at_call 62; (with_reducible refine HE.out.mono ?_); rintro e w6 ⟨rfl, hT, hF⟩; have HT := Lib.hid hT; have HF := Lib.hid hF; clear hT hF)
    go_ret2
    exact ⟨rfl, HT.out, HF.out⟩
  · have k1 : (s.md == 1) = false := by simpa using m1
    by_cases m2 : s.md = 2
    · have e : s.fin src = (s, 3, s.cu.po) := by unfold SC.fin; rw [if_neg m1, if_pos m2]
      rw [e]
      rw [m2] at c2
      clear h e m1 m2 h0 k1
      go_enter Try.func48, Try.ntmps48
      go_wp2
      go_quiet (fail)
      go_wp2
      go_ret2
      exact ⟨rfl, ⟨tv, Hh.out.below (below_drewN' (Below.refl _ _) _)⟩, Fr.of_below (below_drewN' (Below.refl _ _) _)⟩
    · have k2 : (s.md == 2) = false := by simpa using m2
      by_cases m3 : s.md = 3
      · have e : s.fin src = (s, 2, (src.size : Int) - 1) := by unfold SC.fin; rw [if_neg m1, if_neg m2, if_pos m3]
        rw [e]
        rw [m3] at c2
        clear h e m1 m2 m3 h0 k1 k2
        go_enter Try.func48, Try.ntmps48
        go_wp2
        go_quiet (fail)
        go_wp2
        go_ret2
        exact ⟨rfl, ⟨tv, Hh.out.below (below_drewN' (Below.refl _ _) _)⟩, Fr.of_below (below_drewN' (Below.refl _ _) _)⟩
      · have k3 : (s.md == 3) = false := by simpa using m3
        have e : s.fin src = (s, 0, 0) := by unfold SC.fin; rw [if_neg m1, if_neg m2, if_neg m3]
        rw [e]
        clear h e m1 m2 m3 h0
        go_enter Try.func48, Try.ntmps48
        go_wp2
        go_ret2
        exact ⟨rfl, ⟨tv, Hh.out⟩, Fr.refl⟩
set_option maxRecDepth 100000 in
theorem sblank_any (r : Int) (w : World) :
    Calls Try.prog 68 #[.int .i32 r] w fun e w' => e = .returned (.bool (blankR r)) ∧ w' = w := by
  by_cases h1 : r = 32
  · subst h1
    go_enter Try.func68, Try.ntmps68
    go_wp2
    go_ret
    exact ⟨rfl, rfl⟩
  · have k1 : (r == 32) = false := by simpa using h1
    by_cases h2 : r = 9
    · subst h2
      go_enter Try.func68, Try.ntmps68
      go_wp2
      go_ret
      exact ⟨rfl, rfl⟩
    · have k2 : (r == 9) = false := by simpa using h2
      by_cases h3 : r = 10
      · subst h3
        go_enter Try.func68, Try.ntmps68
        go_wp2
        go_ret
        exact ⟨rfl, rfl⟩
      · have k3 : (r == 10) = false := by simpa using h3
        have e : blankR r = (r == 13) := by
          unfold blankR
          by_cases h4 : r = 13
          · subst h4; rfl
          · rw [decide_eq_false (by omega)]; symm; simpa using h4
        rw [e]
        go_enter Try.func68, Try.ntmps68
        go_wp2
        go_ret
        exact ⟨rfl, rfl⟩
end Go.Proofs.Ytlndfognkkobaaa
