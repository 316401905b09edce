/-
  The scanner: begin, step.
-/
import Derived.Test.YtlndfognkkobaaaLexC
namespace Go.Proofs.Ytlndfognkkobaaa
open Go.RowKit
set_option linter.unusedVariables false
set_option linter.unusedSimpArgs false

set_option maxRecDepth 100000 in
set_option maxHeartbeats 4000000 in
theorem sbeg_any (base b : Nat) (src : ByteArray) (s : SC) (tv cv : Value) (i r : Int) (w : World) (h : ST w base b src s tv cv) (hk : s.tk.length ≤ 1000000) :
    Calls Try.prog 63 #[.pointer (some ⟨b, 0, none⟩), .int .i64 i, .int .i32 r] w fun e w' => e = .returned (.tuple #[.int .i64 (s.begin i r).2.1, .int .i64 (s.begin i r).2.2]) ∧ (∃ tv' cv', ST w' base b src (s.begin i r).1 tv' cv') ∧ Fr base TS w w' := by
  have c10 := h.row.cell 10
  have c11 := h.row.cell 11
  dsimp only [srow, List.getElem?_cons_zero, List.getElem?_cons_succ] at c10 c11
  have hbl := h.row.lt
  have Hh := Lib.hid h
  obtain ⟨R, hR⟩ : ∃ R, s.begin i r = R := ⟨_, rfl⟩
  rw [hR]
  have HR := Lib.hid hR
  clear h hR
  go_enter Try.func63, Try.ntmps63
  go_wp2
  have hcH := held_cell
  refine region_rel_tail 13 (by kernel_rfl) (by kernel_rfl) (by kernel_rfl) ?_
  dsimp only [List.take, List.drop]
  repeat
    ((with_reducible refine relStep (fun K hK => ?_))
     (have HK := Lib.hid hK)
     clear hK
     (apply relInl
      · intro r n hf
        have Hf := Lib.hid hf
        clear hf
        (first
          | (fail)
          | (unfold relAt
             go_simp
             (first | (refine relUpon_val ?_ (Below.refl _ _); exact rfl) | exact rfl | (refine relUpon_enter ?_; fail))))
      (simp only [Act.put, List.setIfInBounds_toArray, List.set_cons_zero, List.set_cons_succ])
      (with_reducible refine HK.out _ _ ?_)
      clear HK K))
  refine relNil ?_
  intro r5 n5 hx5
  clear hcH
  (try simp only [List.nil_append, List.cons_append, List.mem_cons, List.not_mem_nil, or_false, forall_eq_or_imp, forall_eq, false_implies, implies_true] at hx5)
  obtain ⟨w5, hb5⟩ := n5
  (try dsimp only)
  obtain ⟨hc5, hf5⟩ := bcell hb5
  have hz5 := hb5.size
  (try simp at hz5)
  have g5 := (Hh.out.below hb5).row
  have g3 := g5.cell 3
  have g4 := g5.cell 4
  have g5' := g5.cell 5
  have g6 := g5.cell 6
  have g7 := g5.cell 7
  have e3 := g5.frozen 3
  have e4 := g5.frozen 4
  have e5 := g5.frozen 5
  have e6 := g5.frozen 6
  have e7 := g5.frozen 7
  dsimp only [srow, List.getElem?_cons_zero, List.getElem?_cons_succ] at g3 g4 g5' g6 g7
  have HA := Lib.hid (show ST (((((w5.setCell ⟨b, 3, none⟩ (.int .i64 0)).setCell ⟨b, 4, none⟩ (.string ⟨#[]⟩)).setCell ⟨b, 5, none⟩ (.int .i64 i)).setCell ⟨b, 6, none⟩ (.int .i64 s.ln)).setCell ⟨b, 7, none⟩ (.int .i64 s.cl)) base b src (s.at i) tv cv ∧ Fr base TS w (((((w5.setCell ⟨b, 3, none⟩ (.int .i64 0)).setCell ⟨b, 4, none⟩ (.string ⟨#[]⟩)).setCell ⟨b, 5, none⟩ (.int .i64 i)).setCell ⟨b, 6, none⟩ (.int .i64 s.ln)).setCell ⟨b, 7, none⟩ (.int .i64 s.cl)) from by
    have a0 := Hh.out.below hb5
    have a1 := a0.rset (s' := { s with cu := { s.cu with kd := 0 } }) 3 (.int .i64 0) rfl rfl rfl
    have a2 := a1.rset (s' := { s with cu := { s.cu with kd := 0, tx := emp } }) 4 (.string ⟨#[]⟩) rfl rfl rfl
    have a3 := a2.rset (s' := { s with cu := { s.cu with kd := 0, tx := emp, po := i } }) 5 (.int .i64 i) rfl rfl rfl
    have a4 := a3.rset (s' := { s with cu := { s.cu with kd := 0, tx := emp, po := i, ln := s.ln } }) 6 (.int .i64 s.ln) rfl rfl rfl
    have a5 := a4.rset (s' := s.at i) 7 (.int .i64 s.cl) rfl rfl rfl
    exact ⟨a5, (((((Fr.of_below hb5).trans (a0.fr 3 _)).trans (a1.fr 4 _)).trans (a2.fr 5 _)).trans (a3.fr 6 _)).trans (a4.fr 7 _)⟩)
  have hka : (s.at i).tk.length ≤ 1000000 := hk
  have hbl5 := g5.lt
  have x2 := HA.out.1.row.cell 2
  have x8 := HA.out.1.row.cell 8
  have x9 := HA.out.1.row.cell 9
  have y2 := HA.out.1.row.frozen 2
  have y8 := HA.out.1.row.frozen 8
  have y9 := HA.out.1.row.frozen 9
  dsimp only [srow, SC.at, List.getElem?_cons_zero, List.getElem?_cons_succ] at x2 x8 x9
  clear g5 c10 c11 hbl hb5 hc5 hf5
  by_cases r1 : r = 40
  · subst r1
    have e : R = ((s.at i).add 1 (chB 40), 0, 0) := HR.out.symm
    have E := Lib.hid e
    clear e
    go_wp2_with (go_at_call 67; (with_reducible refine (sadd_any base b src (s.at i) tv cv 1 ⟨#[40]⟩ _ HA.out.1 hka).mono ?_); rintro e w6 ⟨rfl, hT, hF⟩; have HT := Lib.hid hT; have HF := Lib.hid (HA.out.2.trans hF); clear hT hF)
    go_ret2
    rw [E.out]
    exact ⟨rfl, HT.out.imp fun tv' h => ⟨cv, h⟩, HF.out⟩
  · have n1 : (r == 40) = false := by simpa using r1
    by_cases r2 : r = 41
    · subst r2
      have e : R = ((s.at i).add 2 (chB 41), 0, 0) := HR.out.symm
      have E := Lib.hid e
      clear e
      go_wp2_with (go_at_call 67; (with_reducible refine (sadd_any base b src (s.at i) tv cv 2 ⟨#[41]⟩ _ HA.out.1 hka).mono ?_); rintro e w6 ⟨rfl, hT, hF⟩; have HT := Lib.hid hT; have HF := Lib.hid (HA.out.2.trans hF); clear hT hF)
      go_ret2
      rw [E.out]
      exact ⟨rfl, HT.out.imp fun tv' h => ⟨cv, h⟩, HF.out⟩
    · have n2 : (r == 41) = false := by simpa using r2
      by_cases r3 : r = 34
      · subst r3
        have e : R = ({ s.at i with md := 2, ct := [] }, 0, 0) := HR.out.symm
        have E := Lib.hid e
        clear e
        go_wp2
        go_ret2
        rw [E.out]
        have b1 := HA.out.1.rset (s' := { s.at i with md := 2 }) 2 (.int .i64 2) rfl rfl rfl
        have b2 := b1.newCt (S := []) (L := []) (v' := .slice none 0 0) (Only.refl _ _) (fun z hz => by cases hz) (World.ownsRow_nil _ _ _ _)
        exact ⟨rfl, ⟨_, _, b2⟩, (HA.out.2.trans (HA.out.1.fr 2 _)).trans (b1.fr 8 _)⟩
      · have n3 : (r == 34) = false := by simpa using r3
        by_cases r4 : r = 59
        · subst r4
          have e : R = ({ s.at i with md := 4 }, 0, 0) := HR.out.symm
          have E := Lib.hid e
          clear e
          go_wp2
          go_ret2
          rw [E.out]
          exact ⟨rfl, ⟨_, _, HA.out.1.rset (s' := { s.at i with md := 4 }) 2 (.int .i64 4) rfl rfl rfl⟩, HA.out.2.trans (HA.out.1.fr 2 _)⟩
        · have n4 : (r == 59) = false := by simpa using r4
          cases hi : inW r with
          | true =>
            have e : R = SC.grow { s.at i with md := 1, ru := 0 } := by rw [← HR.out]; unfold SC.begin; rw [if_neg r1, if_neg r2, if_neg r3, if_neg r4, if_pos hi]
            have E := Lib.hid e
            have H1 := Lib.hid hi
            clear e hi
            go_wp2_with (first
              | (go_at_call 49; (with_reducible refine (inwords_any _ _).mono ?_); rintro e w6 ⟨rfl, hb6⟩; rw [H1.out]; (have HA6 := Lib.hid (HA.out.1.below hb6); have HF6 := Lib.hid (HA.out.2.trans (Fr.of_below hb6)); have x2 := HA6.out.row.cell 2; have x9 := HA6.out.row.cell 9; have y2 := HA6.out.row.frozen 2; have y9 := HA6.out.row.frozen 9; have hbl6 := HA6.out.row.lt; dsimp only [srow, SC.at, List.getElem?_cons_zero, List.getElem?_cons_succ] at x2 x9; have b1 := HA6.out.rset (s' := { s.at i with md := 1 }) 2 (.int .i64 1) rfl rfl rfl; have b2 := b1.rset (s' := { s.at i with md := 1, ru := 0 }) 9 (.int .i64 0) rfl rfl rfl; have F2 := Lib.hid ((HF6.out.trans (HA6.out.fr 2 (.int .i64 1))).trans (b1.fr 9 (.int .i64 0))); have HG := Lib.hid (sgrow_any base b src { s.at i with md := 1, ru := 0 } tv cv _ b2 (by show (0 : Int) ≤ 0 ∧ (0 : Int) ≤ 1000000; decide)); clear b1 b2 hb6))
              | (go_at_call 61; (with_reducible refine HG.out.mono ?_); rintro e w7 ⟨rfl, hT, hF⟩; have HT := Lib.hid hT; have HF := Lib.hid (F2.out.trans hF); clear hT hF))
            go_ret2
            rw [E.out]
            exact ⟨rfl, ⟨tv, cv, HT.out⟩, HF.out⟩
          | false =>
            have e : R = (s.at i, (if blankR r = true then 0 else 2), (if blankR r = true then 0 else i)) := by
              rw [← HR.out]
              unfold SC.begin
              rw [if_neg r1, if_neg r2, if_neg r3, if_neg r4, if_neg (by rw [hi]; decide)]
              cases blankR r <;> rfl
            have E := Lib.hid e
            have H1 := Lib.hid hi
            obtain ⟨z, hz⟩ : ∃ z, blankR r = z := ⟨_, rfl⟩
            have HZ := Lib.hid hz
            clear e hi hz
            cases z with
            | true =>
              go_wp2_with (first
                | (go_at_call 49; (with_reducible refine (inwords_any _ _).mono ?_); rintro e w6 ⟨rfl, hb6⟩; rw [H1.out]; have HA6 := Lib.hid (HA.out.1.below hb6); have HF6 := Lib.hid (HA.out.2.trans (Fr.of_below hb6)); clear hb6)
                | (go_at_call 68; (with_reducible refine (sblank_any _ _).mono ?_); rintro e w7 ⟨rfl, hw7⟩; subst w7; rw [HZ.out]))
              go_ret2
              rw [E.out, HZ.out]
              exact ⟨rfl, ⟨tv, cv, HA6.out⟩, HF6.out⟩
            | false =>
              go_wp2_with (first
                | (go_at_call 49; (with_reducible refine (inwords_any _ _).mono ?_); rintro e w6 ⟨rfl, hb6⟩; rw [H1.out]; have HA6 := Lib.hid (HA.out.1.below hb6); have HF6 := Lib.hid (HA.out.2.trans (Fr.of_below hb6)); clear hb6)
                | (go_at_call 68; (with_reducible refine (sblank_any _ _).mono ?_); rintro e w7 ⟨rfl, hw7⟩; subst w7; rw [HZ.out]))
              go_ret2
              rw [E.out, HZ.out]
              exact ⟨rfl, ⟨tv, cv, HA6.out⟩, HF6.out⟩
end Go.Proofs.Ytlndfognkkobaaa
