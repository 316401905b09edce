/-
  show at any tree.
-/
import Derived.Test.YtlndfognkkobaaaTrH
namespace Go.Proofs.Ytlndfognkkobaaa
open Go.RowKit
set_option linter.unusedVariables false
set_option linter.unusedSimpArgs false

theorem SQ.start (w : World) (X : Nat) (s : Value) (p : Nat) : SQ X w.heap.size (w.heap.size + 1) (w.heap.size + 1 + 1) s p (((w.alloc (.cells #[.pointer (some ⟨X, 0, none⟩)] 45)).alloc (.cells #[s] 22)).alloc (.cells #[.int .i64 (p : Int)] 3)) ∧ Below w.heap.size w (((w.alloc (.cells #[.pointer (some ⟨X, 0, none⟩)] 45)).alloc (.cells #[s] 22)).alloc (.cells #[.int .i64 (p : Int)] 3)) := by
  have z : ∀ (V : World) (o : Obj), (V.alloc o).heap.size = V.heap.size + 1 := fun V o => by simp
  obtain ⟨w1, h1⟩ : ∃ w1, w.alloc (.cells #[.pointer (some ⟨X, 0, none⟩)] 45) = w1 := ⟨_, rfl⟩
  obtain ⟨w2, h2⟩ : ∃ w2, w1.alloc (.cells #[s] 22) = w2 := ⟨_, rfl⟩
  rw [h1, h2]
  have z1 : w1.heap.size = w.heap.size + 1 := by rw [← h1]; exact z _ _
  have z2 : w2.heap.size = w.heap.size + 1 + 1 := by rw [← h2, z, z1]
  have b1 : Blk w1 w.heap.size 45 [.pointer (some ⟨X, 0, none⟩)] := by rw [← h1]; exact Blk.new w _ [.pointer (some ⟨X, 0, none⟩)]
  have b2 : Blk w2 (w.heap.size + 1) 22 [s] := by rw [← h2, ← z1]; exact Blk.new w1 _ [s]
  have b1' : Blk w2 w.heap.size 45 [.pointer (some ⟨X, 0, none⟩)] := by rw [← h2]; exact b1.alloc _
  have b3 : Blk (w2.alloc (.cells #[.int .i64 (p : Int)] 3)) (w.heap.size + 1 + 1) 3 [.int .i64 (p : Int)] := by rw [← z2]; exact Blk.new w2 _ [.int .i64 (p : Int)]
  have f2 : Below w.heap.size w w2 := by
    rw [← h2, ← h1]
    exact ((Below.refl _ w).alloc (Nat.le_refl _) _).alloc (by rw [h1, z1]; omega) _
  exact ⟨⟨b1'.alloc _, b2.alloc _, b3⟩, f2.alloc (by omega) _⟩
set_option maxRecDepth 100000 in
set_option maxHeartbeats 4000000 in
theorem show_tree : ∀ n : Nat, ShAt n := by
  intro n
  induction n with
  | zero => intro a ka l P x k rest X L w h; exact absurd h (Nat.not_lt_zero _)
  | succ n ih =>
    intro a ka l P x k rest X L w hk hF hl ht h hw hb hz
    have he := end_tree (rest := rest) h hw
    have h2 : l = (P ++ [x]) ++ (k.flat ++ rest) := by
      rw [h]
      show P ++ (x :: (k.flat ++ []) ++ rest) = _
      simp only [List.append_nil, List.cons_append, List.append_assoc, List.nil_append]
    have hlen : l.length = P.length + (1 + k.flat.length) + rest.length := by
      rw [h2, List.length_append, List.length_append, List.length_append, List.length_singleton]
      omega
    have hP1 : (P ++ [x]).length = P.length + 1 := by rw [List.length_append]; rfl
    have hx : l[P.length]? = some x := by
      rw [h]
      simp [Fo.flat]
    have htx := ht x (List.mem_of_getElem? hx)
    have HK := Lib.hid (fun (Y3 Y4 Y5 : Nat) (M : List UInt8) (w0 : World) (hF : ∀ V, Fr X TB w0 V → NdL V a l) (hS : SQ X Y3 Y4 Y5 (.slice a l.length ka) P.length w0) (hb : IsBld w0 X X M) (hz : M.length + (showL false k).length ≤ 900000000) => kids_show n ih a ka l (P ++ [x]) k rest P.length X Y3 Y4 Y5 M w0 hP1 (by omega) hl ht h2 hw.2.1 hF hS hb hz)
    rw [hP1] at HK
    obtain ⟨S, hS⟩ := SQ.start w X (.slice a l.length ka) P.length
    obtain ⟨W, hW⟩ : ∃ W, W = (((w.alloc (.cells #[.pointer (some ⟨X, 0, none⟩)] 45)).alloc (.cells #[.slice a l.length ka] 22)).alloc (.cells #[.int .i64 (P.length : Int)] 3)) := ⟨_, rfl⟩
    rw [← hW] at S hS
    have HFW := Lib.hid (show ∀ V, Fr X TB W V → NdL V a l from fun V hV => hF V ((Fr.of_below hS).trans hV))
    obtain ⟨b, o, rfl, hbl, hc⟩ := HFW.out W Fr.refl (by omega)
    obtain ⟨g0, g1, _, _⟩ := nd_cells (hc P.length x hx)
    obtain ⟨p, hp⟩ : ∃ p, P.length = p := ⟨_, rfl⟩
    rw [hp] at he HK hlen g0 g1 S hW ⊢
    obtain ⟨st, hst⟩ : ∃ st, p + (1 + k.flat.length) = st := ⟨_, rfl⟩
    rw [show p + 1 + k.flat.length = st by omega] at HK
    rw [hst] at he hlen
    have HE := Lib.hid (show ∀ V : World, NdL V (some ⟨b, o, none⟩) l → Calls Try.prog 13 #[.slice (some ⟨b, o, none⟩) l.length ka, .int .i64 (p : Int)] V fun e w' => e = .returned (.int .i64 (st : Int)) ∧ Below V.heap.size V w' from fun V hF => by have h9 := end_any (some ⟨b, o, none⟩) ka l (p : Int) V hF (by omega); rw [he] at h9; exact h9)
    have HQ := Lib.hid (fun V => quote_any x.tx (by omega) V)
    obtain ⟨T, hT⟩ : ∃ T, showT x (showL false k) = T := ⟨_, rfl⟩
    obtain ⟨D, hD⟩ : ∃ D, showL false k = D := ⟨_, rfl⟩
    rw [hT] at hz ⊢
    rw [hD] at HK hT
    have HT := Lib.hid hT
    have HB := Lib.hid (hb.below hS)
    have HBl := Lib.hid hS
    have hpl : p < l.length := by omega
    have x3 := S.b3.cell 0
    have x4 := S.b4.cell 0
    have x5 := S.b5.cell 0
    have y3 := S.b3.lt
    have y4 := S.b4.lt
    have y5 := S.b5.lt
    dsimp only [List.getElem?_cons_zero] at x3 x4 x5
    have HS := Lib.hid S
    obtain ⟨kd, tx, ki, po⟩ := x
    dsimp only at g0 g1 HQ htx
    have hL1 : L.length + T.length ≤ 900000000 := hz
    have HW := Lib.hid hW
    clear he h h2 hlen hP1 hp hst hF hw hx hc hT hD ht ih hk hb hS S hz hW
    by_cases k3 : kd = 3
    · subst k3
      have ht3 : T = tx.toList := HT.out.symm
      have HLx := Lib.hid (show L.length + tx.size ≤ 1000000000 by rw [ht3, toList_len] at hL1; omega)
      subst ht3
      clear HT HK HE HQ
      go_enter Try.func28, Try.ntmps28
      go_upto_region 1 with (fail)
      rw [← HW.out]
      clear HW
      go_upto_region 3 with (fail)
      have hcH := held_cell
      refine region_rel_tail 6 (by kernel_rfl) (by kernel_rfl) (by kernel_rfl) ?_
      dsimp only [List.take, List.drop]
      repeat
        ((with_reducible refine relStep (fun K hK => ?_))
         (have HK := Lib.hid hK)
         clear hK
         (apply relInl
          · intro r n hf
            have Hf := Lib.hid hf
            clear hf
            (first
              | (fail)
              | (unfold relAt
                 go_simp
                 (first | (refine relUpon_val ?_ (Below.refl _ _); exact rfl) | exact rfl | (refine relUpon_enter ?_; fail))))
          (simp only [Act.put, List.setIfInBounds_toArray, List.set_cons_zero, List.set_cons_succ])
          (with_reducible refine HK.out _ _ ?_)
          clear HK K))
      refine relNil ?_
      intro r5 n5 hx5
      clear hcH
      (try simp only [List.nil_append, List.cons_append, List.mem_cons, List.not_mem_nil, or_false, forall_eq_or_imp, forall_eq, false_implies, implies_true] at hx5)
      obtain ⟨w5, hb5⟩ := n5
      (try dsimp only)
      obtain ⟨hc5, hf5⟩ := bcell hb5
      have hz5 := hb5.size
      (try simp at hz5)
      go_wp2_with (go_at_call 42; (with_reducible refine (bstr_any X X L tx _ (HB.out.below hb5) HLx.out (Nat.le_of_lt (HB.out.below hb5).lt.1)).mono ?_); rintro e w6 ⟨rfl, hI, hF⟩; have HI := Lib.hid hI; have HF := Lib.hid hF; clear hI hF)
      go_end0
      exact ⟨rfl, HI.out, (Fr.of_below HBl.out).trans ((Fr.of_below hb5).trans HF.out)⟩
    have n3 : (kd == 3) = false := by simpa using k3
    by_cases k4 : kd = 4
    · subst k4
      obtain ⟨qs, hqs⟩ : ∃ qs, quoteB tx = qs := ⟨_, rfl⟩
      rw [hqs] at HQ
      have ht4 : T = qs.toList := by rw [← hqs]; exact HT.out.symm
      have HLx := Lib.hid (show L.length + qs.size ≤ 1000000000 by rw [ht4, toList_len] at hL1; omega)
      subst ht4
      clear HT HK HE hqs
      go_enter Try.func28, Try.ntmps28
      go_upto_region 1 with (fail)
      rw [← HW.out]
      clear HW
      go_upto_region 5 with (fail)
      have hcH := held_cell
      refine region_rel_tail 7 (by kernel_rfl) (by kernel_rfl) (by kernel_rfl) ?_
      dsimp only [List.take, List.drop]
      repeat
        ((with_reducible refine relStep (fun K hK => ?_))
         (have HK := Lib.hid hK)
         clear hK
         (apply relInl
          · intro r n hf
            have Hf := Lib.hid hf
            clear hf
            (first
              | (fail)
              | (unfold relAt
                 go_simp
                 (first | (refine relUpon_val ?_ (Below.refl _ _); exact rfl) | exact rfl | (refine relUpon_enter ?_; (go_at_call 43; (with_reducible refine (HQ.out _).mono ?_); rintro e w9 ⟨rfl, hb⟩; exact ⟨⟨_, rfl, rfl⟩, hb⟩)))))
          (simp only [Act.put, List.setIfInBounds_toArray, List.set_cons_zero, List.set_cons_succ])
          (with_reducible refine HK.out _ _ ?_)
          clear HK K))
      refine relNil ?_
      intro r5 n5 hx5
      clear hcH
      (try simp only [List.nil_append, List.cons_append, List.mem_cons, List.not_mem_nil, or_false, forall_eq_or_imp, forall_eq, false_implies, implies_true] at hx5)
      obtain ⟨w5, hb5⟩ := n5
      (try dsimp only)
      obtain ⟨hc5, hf5⟩ := bcell hb5
      have hz5 := hb5.size
      (try simp at hz5)
      go_wp2_with (go_at_call 42; (with_reducible refine (bstr_any X X L qs _ (HB.out.below hb5) HLx.out (Nat.le_of_lt (HB.out.below hb5).lt.1)).mono ?_); rintro e w6 ⟨rfl, hI, hF⟩; have HI := Lib.hid hI; have HF := Lib.hid hF; clear hI hF)
      go_end0
      exact ⟨rfl, HI.out, (Fr.of_below HBl.out).trans ((Fr.of_below hb5).trans HF.out)⟩
    have n4 : (kd == 4) = false := by simpa using k4
    by_cases k5 : kd = 5
    · subst k5
      have ht5 : T = 40 :: (D ++ [41]) := HT.out.symm
      have hTl : T.length = D.length + 2 := by rw [ht5, List.length_cons, List.length_append]; rfl
      have K40 := Lib.hid (show (40 : Int) = (((40 : UInt8).toNat : Nat) : Int) from rfl)
      have K41 := Lib.hid (show (41 : Int) = (((41 : UInt8).toNat : Nat) : Int) from rfl)
      have HLa := Lib.hid (show L.length ≤ 1000000000 by omega)
      have HLb := Lib.hid (show (L ++ [(40 : UInt8)]).length + D.length ≤ 900000000 by rw [List.length_append]; show L.length + 1 + D.length ≤ _; omega)
      have HLc := Lib.hid (show ((L ++ [(40 : UInt8)]) ++ D).length ≤ 1000000000 by rw [List.length_append, List.length_append]; show L.length + 1 + D.length ≤ _; omega)
      have HKc := Lib.hid (show ∀ (Y3 Y4 Y5 : Nat) (M : List UInt8) (w0 : World), (∀ V, Fr X TB w0 V → NdL V (some ⟨b, o, none⟩) l) → SQ X Y3 Y4 Y5 (.slice (some ⟨b, o, none⟩) l.length ka) p w0 → IsBld w0 X X M → M.length + D.length ≤ 900000000 → Calls Try.prog 22 #[.slice (some ⟨b, o, none⟩) l.length ka, .int .i64 ((p : Int) + 1), .int .i64 (st : Int), .func (.func 44) #[] #[.pointer (some ⟨Y5, 0, none⟩), .pointer (some ⟨Y3, 0, none⟩), .pointer (some ⟨Y4, 0, none⟩)]] w0 fun e w' => e = .returned (.bool true) ∧ IsBld w' X X (M ++ D) ∧ Fr X TB w0 w' from fun Y3 Y4 Y5 M w0 h1 h2 h3 h4 => HK.out Y3 Y4 Y5 M w0 h1 h2 h3 h4)
      have HT5 := Lib.hid (show L ++ T = ((L ++ [40]) ++ D) ++ [41] by rw [ht5]; simp)
      clear HT HK HQ ht5 hTl
      go_enter Try.func28, Try.ntmps28
      go_upto_region 1 with (fail)
      rw [← HW.out]
      clear HW
      go_upto_region 8 with (go_at_call 29; (with_reducible refine (bbyte_any X X L 40 40 K40.out _ HB.out HLa.out (Nat.le_of_lt (HB.out).lt.1)).mono ?_); rintro e w4 ⟨rfl, hI, hF⟩; have HI4 := Lib.hid hI; have HF4 := Lib.hid hF; have HS4 := Lib.hid (HS.out.fr hF); have u3 := HS4.out.b3.cell 0; have u4 := HS4.out.b4.cell 0; have u5 := HS4.out.b5.cell 0; have v3 := HS4.out.b3.lt; have v4 := HS4.out.b4.lt; have v5 := HS4.out.b5.lt; (dsimp only [List.getElem?_cons_zero] at u3 u4 u5); clear hI hF)
      clear g0 g1 x3 x4 x5 y3 y4 y5
      have HFN := Lib.hid (fun (V : World) (hV : Fr X TB w4 V) => HFW.out V (HF4.out.trans hV))
      have hcH := held_cell
      refine region_rel_tail 7 (by kernel_rfl) (by kernel_rfl) (by kernel_rfl) ?_
      dsimp only [List.take, List.drop]
      repeat
        ((with_reducible refine relStep (fun K hK => ?_))
         (have HK := Lib.hid hK)
         clear hK
         (apply relInl
          · intro r n hf
            have Hf := Lib.hid hf
            clear hf
            (first
              | (fail)
              | (unfold relAt
                 go_simp
                 (first | (refine relUpon_val ?_ (Below.refl _ _); exact rfl) | exact rfl | (refine relUpon_enter ?_; (go_at_call 13; (with_reducible refine (HE.out _ (HFN.out _ (Fr.of_below n.below))).mono ?_); rintro e w9 ⟨rfl, hb⟩; exact ⟨⟨_, rfl, rfl⟩, hb⟩)))))
          (simp only [Act.put, List.setIfInBounds_toArray, List.set_cons_zero, List.set_cons_succ])
          (with_reducible refine HK.out _ _ ?_)
          clear HK K))
      refine relNil ?_
      intro r5 n5 hx5
      clear hcH
      (try simp only [List.nil_append, List.cons_append, List.mem_cons, List.not_mem_nil, or_false, forall_eq_or_imp, forall_eq, false_implies, implies_true] at hx5)
      obtain ⟨w5, hb5⟩ := n5
      (try dsimp only)
      obtain ⟨hc5, hf5⟩ := bcell hb5
      have hz5 := hb5.size
      (try simp at hz5)
      have HFV := Lib.hid (fun (V : World) (hV : Fr X TB w5 V) => HFN.out V ((Fr.of_below hb5).trans hV))
      have HS5 := Lib.hid (HS4.out.fr (Fr.of_below hb5))
      have HI5 := Lib.hid (HI4.out.below hb5)
      have HF5 := Lib.hid (HF4.out.trans (Fr.of_below hb5))
      go_wp2_with (first
        | ((with_reducible refine (HKc.out _ _ _ _ _ HFV.out HS5.out HI5.out HLb.out).mono ?_); rintro e w6 ⟨rfl, hI, hF⟩; have HI6 := Lib.hid hI; have HF6 := Lib.hid (HF5.out.trans hF); have HS6 := Lib.hid (HS5.out.fr hF); have u36 := HS6.out.b3.cell 0; have v36 := HS6.out.b3.lt; (dsimp only [List.getElem?_cons_zero] at u36); clear hI hF)
        | (go_at_call 29; (with_reducible refine (bbyte_any X X ((L ++ [40]) ++ D) 41 41 K41.out _ HI6.out HLc.out (Nat.le_of_lt (HI6.out).lt.1)).mono ?_); rintro e w7 ⟨rfl, hI, hF⟩; have HI7 := Lib.hid hI; have HF7 := Lib.hid (HF6.out.trans hF); clear hI hF))
      go_end0
      exact ⟨rfl, by rw [HT5.out]; exact HI7.out, (Fr.of_below HBl.out).trans HF7.out⟩
    · have n5 : (kd == 5) = false := by simpa using k5
      have ht6 : T = [] := by rw [← HT.out]; unfold showT; rw [if_neg k3, if_neg k4, if_neg k5]
      subst ht6
      clear HT HK HE HQ k3 k4 k5
      go_enter Try.func28, Try.ntmps28
      go_upto_region 1 with (fail)
      rw [← HW.out]
      clear HW
      go_wp2
      go_end0
      exact ⟨rfl, HB.out, Fr.of_below HBl.out⟩
end Go.Proofs.Ytlndfognkkobaaa
