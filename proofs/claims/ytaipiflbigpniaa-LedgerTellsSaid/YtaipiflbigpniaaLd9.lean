/-
  The ledger: Copy.
-/
import Derived.Test.YtaipiflbigpniaaLd5
import Derived.Test.YtaipiflbigpniaaFilt
import Derived.Laws.OwnMore
namespace Go.Proofs.Ytaipiflbigpniaa
open Go.RowKit
set_option linter.unusedVariables false
set_option linter.unusedSimpArgs false

theorem acinfo : (Try.prog.info? 60).map (fun i => (i.zero, i.size, i.bytes)) = some (some (.agg #[.string ⟨#[]⟩, .int .i64 0, .int .i64 0, .int .i64 0]), 4, 40) := by kernel_rfl
set_option maxRecDepth 100000 in
set_option maxHeartbeats 4000000 in
theorem clonea_any (c : Option Addr) (kc : Nat) (xs : List Ac) (w : World) (hF : RowsAt acc 4 w c xs) (hok : NilOk c xs.length kc) (hm : xs.length ≤ 1000000) :
    Calls Try.prog 28 #[.slice c xs.length kc] w (Gives w (OwnL acc 4 w.heap.size 60 xs)) := by
  have HF := Lib.hid hF
  have Hok := Lib.hid hok
  clear hF
  obtain ⟨i0, hi, hz0, hz1, hz2⟩ := info_parts acinfo
  have Hi := Lib.hid hi
  have Hz0 := Lib.hid hz0
  have Hz1 := Lib.hid hz1
  have Hz2 := Lib.hid hz2
  clear hi hz0 hz1 hz2
  cases c with
  | none =>
    obtain ⟨h1, h2⟩ := hok rfl
    obtain rfl : xs = [] := List.eq_nil_of_length_eq_zero h1
    clear h1 hok
    subst h2
    have hq : ∀ V : World, (binOp .eql 51 (.slice none 0 0) (.slice none 0 0)).run Try.prog V = .ok (.bool true) V := fun V => Lib.run_eql_slice_nil V _ _ none 0 0 0 0 Try.underlying51
    go_enter Try.func28, Try.ntmps28
    go_wp2
    refine bodyPost_ret (v := .slice none 0 0) (by simp [results, Try.results28, go_sem]) rfl ⟨⟨_, rfl, World.ownsRow_nil _ _ _ _⟩, by (repeat' (first | with_reducible exact Below.refl _ _ | with_reducible assumption | with_reducible refine Below.drew ?_ | with_reducible refine below_drewN' ?_ _ | with_reducible refine Below.alloc ?_ ?_ _ | with_reducible refine Below.setCell ?_ ?_ _ | with_reducible refine below_step (by assumption) ?_ ?_ | omega | (simp; done) | (simp; omega)))⟩
  | some q =>
    clear hok
    have hc3 : 0 + xs.length ≤ maxLen := by unfold maxLen; omega
    have hc4 : (0 + xs.length) * 40 ≤ 140737488355328 := by omega
    have hq : ∀ V : World, (binOp .eql 51 (.slice (some q) xs.length kc) (.slice none 0 0)).run Try.prog V = .ok (.bool false) V := fun V => Lib.run_eql_slice_nil V _ _ (some q) _ _ 0 0 Try.underlying51
    go_enter Try.func28, Try.ntmps28
    go_wp2_with (at_builtin; refine wpList_append_src rfl (.tmp 5) (.tmp 6) 51 rfl w.heap.size 60 i0 _ 4 40 Try.underlying51 Hi.out Hz0.out Hz1.out Hz2.out rfl (by decide) _ 0 [] rfl (World.ownsRow_made w #[] 0 (Nat.le_refl w.heap.size) (Nat.zero_le _) rfl) (some q) xs.length kc (xs.flatMap acc) rfl (rows_length acc 4 acc_len xs) (RowsAt.news acc_len (HF.out.mono ((Below.refl _ w).alloc (Nat.le_refl _) _))) Hok.out (flat_ones acc_one xs) hc3 hc4 (le_alloc (Nat.le_refl w.heap.size) _) ?_; intro v1 w3 hown1 hgrow1; rw [Nat.zero_add, List.nil_append] at hown1; have HB3 := Lib.hid (own_below (World.ownsRow_made w #[] 0 (Nat.le_refl w.heap.size) (Nat.zero_le _) rfl : (w.alloc (.cells #[] 60)).ownsRow w.heap.size 60 2 (.slice (some ⟨w.heap.size, 0, none⟩) 0 0) 0 []) ((Below.refl _ w).alloc (Nat.le_refl w.heap.size) _) (le_alloc (Nat.le_refl w.heap.size) _) hgrow1); have HO3 := Lib.hid hown1; clear hown1 hgrow1)
    refine bodyPost_ret (v := v1) (by simp [results, Try.results28, go_sem]) rfl ⟨⟨_, rfl, HO3.out⟩, HB3.out⟩

set_option maxRecDepth 100000 in
set_option maxHeartbeats 4000000 in
theorem lcopy_any (base b : Nat) (A : List Ac) (v : Value) (tk : Int) (w : World) (h : LT w base b A v tk) (hA : A.length ≤ 1000) :
    Calls Try.prog 14 #[.pointer (some ⟨b, 0, none⟩)] w fun e w' => ∃ b2 v2, e = .returned (.pointer (some ⟨b2, 0, none⟩)) ∧ LT w' w.heap.size b2 A v2 tk ∧ Below w.heap.size w w' := by
  have c0 : w.cell? ⟨b, 0, none⟩ = some (.pointer (some ⟨b, 0, none⟩)) := h.row.cell 0
  have c1 : w.cell? ⟨b, 1, none⟩ = some v := h.row.cell 1
  have c2 : w.cell? ⟨b, 2, none⟩ = some (.int .i64 tk) := h.row.cell 2
  have hbl := h.row.lt
  obtain ⟨a, ka, rfl, hok, hR⟩ := IsL.of_own acc_len (by decide) h.own
  have HC := Lib.hid (fun V (hb : Below w.heap.size w V) => clonea_any a ka A V (hR.mono hb) hok (by omega))
  clear h hok hR
  go_enter Try.func14, Try.ntmps14
  go_wp2_with (go_at_call 27; (with_reducible refine (made_yes b _ c0).mono ?_); rintro e w1 ⟨rfl, rfl⟩)
  have hcH := held_cell
  refine region_rel_tail 9 (by kernel_rfl) (by kernel_rfl) (by kernel_rfl) ?_
  dsimp only [List.take, List.drop]
  repeat
    ((with_reducible refine relStep (fun K hK => ?_))
     (have HK := Lib.hid hK)
     clear hK
     (apply relInl
      · intro r n hf
        have Hf := Lib.hid hf
        clear hf
        (first
          | (fail)
          | (unfold relAt
             go_simp
             (first | (refine relUpon_val ?_ (Below.refl _ _); exact rfl) | exact rfl | (refine relUpon_enter ?_; fail))))
      (simp only [Act.put, List.setIfInBounds_toArray, List.set_cons_zero, List.set_cons_succ])
      (with_reducible refine HK.out _ _ ?_)
      clear HK K))
  (with_reducible refine relStep (fun K hK => ?_))
  (have HK := Lib.hid hK)
  clear hK
  refine relInr (fun u V => ∃ z, w1.heap.size ≤ z ∧ OwnL acc 4 z 60 A u V) ((fun u V V' hb ⟨z, hz, h⟩ => ⟨z, hz, own_kept h hb⟩)) (fun r n hf => ?_) ?_
  · have Hf := Lib.hid hf
    clear hf HK K
    unfold relAt
    (skip)
    go_simp
    ((refine relUpon_enter ?_; go_at_call 28; (with_reducible refine (HC.out _ n.below).mono ?_); rintro e w9 ⟨⟨v, rfl, hv⟩, hb⟩; exact ⟨⟨_, rfl, _, n.below.size, hv⟩, hb⟩))
  (simp only [Act.put, List.setIfInBounds_toArray, List.set_cons_zero, List.set_cons_succ])
  (with_reducible refine HK.out _ _ ?_)
  clear HK K
  repeat
    ((with_reducible refine relStep (fun K hK => ?_))
     (have HK := Lib.hid hK)
     clear hK
     (apply relInl
      · intro r n hf
        have Hf := Lib.hid hf
        clear hf
        (first
          | (fail)
          | (unfold relAt
             go_simp
             (first | (refine relUpon_val ?_ (Below.refl _ _); exact rfl) | exact rfl | (refine relUpon_enter ?_; fail))))
      (simp only [Act.put, List.setIfInBounds_toArray, List.set_cons_zero, List.set_cons_succ])
      (with_reducible refine HK.out _ _ ?_)
      clear HK K))
  refine relNil ?_
  intro r4 n4 hx4
  clear hcH
  (try simp only [List.nil_append, List.cons_append, List.mem_cons, List.not_mem_nil, or_false, forall_eq_or_imp, forall_eq, false_implies, implies_true] at hx4)
  obtain ⟨w4, hb4⟩ := n4
  (try dsimp only)
  obtain ⟨hc4, hf4⟩ := bcell hb4
  have hz4 := hb4.size
  (try simp at hz4)
  obtain ⟨z, hz, hO⟩ := hx4
  dsimp only at hO
  have hO2 := hO
  obtain ⟨sp, cap, e1, _⟩ := own_rows acc_len hO (by decide)
  rw [e1] at hO2 ⊢
  have HO := Lib.hid hO2
  have HB4 := Lib.hid hb4
  clear hO hO2
  go_wp2
  go_ret
  have hw4 : w1.heap.size ≤ w4.heap.size := HB4.out.size
  refine ⟨w4.heap.size, .slice sp A.length cap, rfl, ⟨Blk.new w4 53 [.pointer (some ⟨w4.heap.size, 0, none⟩), .slice sp A.length cap, .int .i64 tk], ?_, fun e => ?_, hw4⟩, HB4.out.alloc hw4 _⟩
  · have h9 := own_kept HO.out ((Below.refl _ w4).alloc (Nat.le_refl _) (.cells #[.pointer (some ⟨w4.heap.size, 0, none⟩), .slice sp A.length cap, .int .i64 tk] 53))
    refine ⟨h9.1, ?_⟩
    rcases h9.2 with h | ⟨g, cp, cur, e2, h2, h3⟩
    · exact .inl h
    · exact .inr ⟨g, cp, cur, e2, Nat.le_trans hz h2, h3⟩
  · have := (own_lt HO.out e).2
    omega
end Go.Proofs.Ytaipiflbigpniaa
