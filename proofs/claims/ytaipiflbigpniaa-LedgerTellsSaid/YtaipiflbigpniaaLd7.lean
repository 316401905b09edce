/-
  The ledger: Mean.
-/
import Derived.Test.YtaipiflbigpniaaLd6
import Derived.Laws.FloatArith
import Derived.Laws.Cover2
namespace Go.Proofs.Ytaipiflbigpniaa
open Go.RowKit
set_option linter.unusedVariables false
set_option linter.unusedSimpArgs false

set_option maxRecDepth 100000 in
set_option maxHeartbeats 4000000 in
theorem lmean_any (base b : Nat) (A : List Ac) (v : Value) (tk : Int) (s : ByteArray) (w : World) (h : LT w base b A v tk) (hA : A.length ≤ 1000) (h0 : 0 < tk) (r : Nat) (hr : floatBits .quo .f64 (floatOfInt .f64 (findAc A s).su) (floatOfInt .f64 tk) = some r) :
    Calls Try.prog 19 #[.pointer (some ⟨b, 0, none⟩), .string s] w fun e w' => e = .returned (.float .f64 r) ∧ Below w.heap.size w w' := by
  have HF := Lib.hid (fun V (hb : Below w.heap.size w V) => find_tab base b A v tk s V (h.below hb) (by omega))
  have i2 := fun s p u k W => (ld_fld s p u k W).1
  have c0 : w.cell? ⟨b, 0, none⟩ = some (.pointer (some ⟨b, 0, none⟩)) := h.row.cell 0
  have c2 : w.cell? ⟨b, 2, none⟩ = some (.int .i64 tk) := h.row.cell 2
  have hbl := h.row.lt
  have hne : (tk == 0) = false := by rw [beq_eq_false_iff_ne]; omega
  obtain ⟨g1, hg1⟩ : ∃ z, floatOfInt .f64 (findAc A s).su = z := ⟨_, rfl⟩
  obtain ⟨g2, hg2⟩ : ∃ z, floatOfInt .f64 tk = z := ⟨_, rfl⟩
  rw [hg1, hg2] at hr
  have hq := fun V => run_float_arith (P := Try.prog) V .quo 46 .f64 g1 g2 r hr
  clear h hr
  go_enter Try.func19, Try.ntmps19
  go_wp2_with (go_at_call 27; (with_reducible refine (made_yes b _ c0).mono ?_); rintro e w1 ⟨rfl, rfl⟩)
  have hcH := held_cell
  refine region_rel (by kernel_rfl) (by kernel_rfl) ?_
  repeat
    ((with_reducible refine relStep (fun K hK => ?_))
     (have HK := Lib.hid hK)
     clear hK
     (apply relInl
      · intro r n hf
        have Hf := Lib.hid hf
        clear hf
        (first
          | (fail)
          | (unfold relAt
             go_simp
             (first | (refine relUpon_val ?_ (Below.refl _ _); exact rfl) | exact rfl | (refine relUpon_enter ?_; (go_at_call 29; (with_reducible refine (HF.out _ n.below).mono ?_); rintro e w9 ⟨rfl, hb⟩; exact ⟨⟨_, rfl, rfl⟩, hb⟩)))))
      (simp only [Act.put, List.setIfInBounds_toArray, List.set_cons_zero, List.set_cons_succ])
      (with_reducible refine HK.out _ _ ?_)
      clear HK K))
  refine relNil ?_
  intro r4 n4 hx4
  clear hcH
  (try simp only [List.nil_append, List.cons_append, List.mem_cons, List.not_mem_nil, or_false, forall_eq_or_imp, forall_eq, false_implies, implies_true] at hx4)
  obtain ⟨w4, hb4⟩ := n4
  (try dsimp only)
  obtain ⟨hc4, hf4⟩ := bcell hb4
  have hz4 := hb4.size
  (try simp at hz4)
  go_wp2
  go_ret
  exact ⟨rfl, by (repeat' (first | with_reducible exact Below.refl _ _ | with_reducible assumption | with_reducible refine Below.drew ?_ | with_reducible refine below_drewN' ?_ _ | with_reducible refine Below.alloc ?_ ?_ _ | with_reducible refine Below.setCell ?_ ?_ _ | with_reducible refine below_step (by assumption) ?_ ?_ | omega | (simp; done) | (simp; omega)))⟩
end Go.Proofs.Ytaipiflbigpniaa
