/-
  What is shown of nodes: the document's Show.
-/
import Derived.Test.YtlndfognkkobaaaTsD
namespace Go.Proofs.Ytlndfognkkobaaa
open Go.RowKit
set_option linter.unusedVariables false
set_option linter.unusedSimpArgs false

set_option maxRecDepth 100000 in
set_option maxHeartbeats 4000000 in
theorem rShow_any (a : Option Addr) (ka : Nat) (l : List Nd) (f : Fo) (rest : List Nd) (w : World) (hF : NdL w a l) (hl : l.length ≤ 1000) (htx : ∀ y ∈ l, y.tx.size ≤ 300) (h : l = f.flat ++ rest) (hw : f.Wf) (hr : rest = [] ∨ (rest ≠ [] ∧ fin rest 1 = none)) :
    Calls Try.prog 12 #[.slice a l.length ka] w fun e w' => e = .returned (.string (if checkI l f rest = 0 then toB (topsL f) else emp)) ∧ Below w.heap.size w w' := by
  have HCk := Lib.hid (fun V hV => rcheck_any a ka l f rest V hV hl htx h hw hr)
  have HF := Lib.hid hF
  by_cases hc : checkI l f rest = 0
  · obtain ⟨_, rfl, hg, hp, hd⟩ := check_good hw hc
    rw [if_pos hc]
    rw [hc] at HCk
    have hT := fun V hV => rtops_any a ka l f [] V hV hl h hw (.inl rfl)
    rw [if_pos rfl] at hT
    have HTp := Lib.hid hT
    rw [List.append_nil] at h
    have hLl := places_len f 0
    have hfl := flat_len f
    have hsz : (topsL f).length ≤ 1000000 := by
      have := (shown_any 300 f false fun y hy => htx y (by rw [h]; exact hy)).2
      have h9 : f.flat.length * (2 * 300 + 5) ≤ 1000 * (2 * 300 + 5) := Nat.mul_le_mul_right _ (by rw [← h]; exact hl)
      omega
    have HC := Lib.hid (fun (Q : List Nd) (y : Nd) (c : Fo) (r' : List Nd) (V : World) (hV : NdL V a l) (he : l = Q ++ ((Fo.cons y c .nil).flat ++ r')) (hy : (Fo.cons y c .nil).Wf) (hg : (Fo.cons y c .nil).Good) => rshow_any (c.flat.length + 1) a ka l Q y c r' V (Nat.lt_succ_self _) hV hl htx he hy hg)
    obtain ⟨S, hS⟩ : ∃ S, topsL f = S := ⟨_, rfl⟩
    have HS := Lib.hid (show l = [] ++ (f.flat ++ []) ∧ f.Wf ∧ f.Good ∧ (placesF 0 f).drop 0 = placesF ([] : List Nd).length f ∧ [] ++ topsL f = S from ⟨by rw [List.append_nil]; exact h, hw, hg, rfl, hS⟩)
    rw [hS] at hsz ⊢
    obtain ⟨L, hLe⟩ : ∃ L, placesF 0 f = L := ⟨_, rfl⟩
    rw [hLe] at HTp HS hLl
    obtain ⟨m, hm⟩ : ∃ m, f.len = m := ⟨_, rfl⟩
    rw [hm] at hLl hfl
    have HLl := Lib.hid hLl
    have HM := Lib.hid (show f.len = m from hm)
    have hm9 : m ≤ 1000 := by rw [← h] at hfl; omega
    clear hT h hw hF hfl hLl hLe hm htx hc hg hp hd hS hr
    go_enter Try.func12, Try.ntmps12
    go_wp2_with (first
      | (go_at_call 10; (with_reducible refine (HCk.out _ HF.out).mono ?_); rintro e w0 ⟨rfl, hb0⟩; have HB0 := Lib.hid hb0; have HF0 := Lib.hid (HF.out.mono hb0); have hz0 := hb0.size; clear hb0)
      | (go_at_call 19; (with_reducible refine (HTp.out _ HF0.out).mono ?_); rintro e w1 ⟨⟨v, rfl, ho⟩, hb1⟩; obtain ⟨a1, k1, rfl, _, hI⟩ := own_ints ho; rw [HLl.out]; have HI := Lib.hid hI; have HB1 := Lib.hid (HB0.out.trans (hb1.mono hz0)); have HF1 := Lib.hid (HF0.out.mono hb1); have hz1 := HB1.out.size; clear ho hb1 hI))
    go_loopw [3, 5] (fun vs vj wr => ∃ (g : Fo) (Q : List Nd) (D : List UInt8) (j : Nat), vj = .int .i64 (j : Int) ∧ vs = .string (toB D) ∧ j + g.len = m ∧ D ++ topsL g = S ∧ l = Q ++ (g.flat ++ []) ∧ g.Wf ∧ g.Good ∧ L.drop j = placesF Q.length g ∧ Below w1.heap.size w1 wr) (fun _ vj _ => m - (intOf vj).toNat)
    case atStart => exact ⟨f, [], [], 0, rfl, rfl, by rw [HM.out]; omega, HS.out.2.2.2.2, HS.out.1, HS.out.2.1, HS.out.2.2.1, HS.out.2.2.2.1, Below.refl _ _⟩
    case round =>
      clear HS
      obtain ⟨g, Q, D, j, rfl, rfl, s1, s2, s3, s4, s7, s6, hB⟩ := hrel
      have HB := Lib.hid hB
      have hbz := hB.size
      have HB9 := Lib.hid (HB1.out.trans (hB.mono hz1))
      cases g with
      | nil =>
        have hjm : j = m := s1
        have t2 : D ++ [] = S := s2
        rw [List.append_nil] at t2
        subst hjm
        subst t2
        clear s1 s2 s3 s4 s6 s7 hB
        go_wp2
        refine bodyPost_ret (v := .string (toB D)) (by simp [results, Try.results12, go_sem]) rfl ⟨rfl, HB9.out⟩
      | cons y c r =>
        have t1 : j + (r.len + 1) = m := s1
        obtain ⟨p1, p2, p3⟩ := places_step s6
        obtain ⟨q1, q2⟩ := tree_step s3
        have Hq1 := Lib.hid q1
        have HR := Lib.hid s4.2.2
        have HG := Lib.hid s7.2.2
        have HP2 := Lib.hid p2
        have HCy := Lib.hid (fun V hV => HC.out Q y c _ V hV q2 ⟨s4.1, s4.2.1, trivial⟩ ⟨s7.1, s7.2.1, trivial⟩)
        obtain ⟨b1, o1, rfl, hb2, hc2⟩ := HI.out (by omega)
        have c1 := hc2 j _ p1 0 (by decide)
        rw [← hB.cell (p := ⟨b1, o1 + j * 1 + 0, none⟩) hb2] at c1
        dsimp only [intE, List.getElem?_cons_zero] at c1
        rw [Nat.mul_one, Nat.add_zero] at c1
        have hbw : b1 < wr.heap.size := by omega
        have hjm : j < m := by omega
        obtain ⟨T, ht⟩ : ∃ T, showT y (showL false c) = T := ⟨_, rfl⟩
        have t2 : D ++ (showT y (showL false c) ++ (10 :: topsL r)) = S := s2
        rw [ht] at HCy t2
        obtain ⟨q, hq⟩ : ∃ q, Q.length = q := ⟨_, rfl⟩
        rw [hq] at c1 HCy
        have hlen2 := congrArg List.length t2
        rw [List.length_append, List.length_append, List.length_cons] at hlen2
        have HT1 := Lib.hid t1
        have Hnx := Lib.hid (show (D ++ T ++ [10]) ++ topsL r = S by rw [← t2]; simp only [List.append_assoc, List.cons_append, List.nil_append])
        have e1 := fun V => str_add D T (by omega) V
        have e2 := fun V => str_add (D ++ T) [10] (by rw [List.length_append]; show _ + _ + 1 ≤ _; omega) V
        obtain ⟨z, hz⟩ : ∃ z, toB D = z := ⟨_, rfl⟩
        obtain ⟨z2, hz2⟩ : ∃ z2, toB (D ++ T) = z2 := ⟨_, rfl⟩
        obtain ⟨z3, hz3⟩ : ∃ z3, toB (D ++ T ++ [10]) = z3 := ⟨_, rfl⟩
        obtain ⟨zt, hzt⟩ : ∃ zt, toB T = zt := ⟨_, rfl⟩
        rw [hz, hz2, hzt] at e1
        rw [hz2, hz3] at e2
        have e2 : ∀ V : World, (Op.stringOp .add z2 ⟨#[10]⟩).run Try.prog V = .ok (.string z3) V := e2
        have HZ3 := Lib.hid (show z3 = toB (D ++ T ++ [10]) from hz3.symm)
        rw [hzt] at HCy
        rw [hz]
        clear s1 s2 s3 s4 s6 s7 hB p1 p2 p3 q1 q2 hc2 ht hq t1 t2 hlen2 hz hz2 hz3 hzt
        go_wp2_with (go_at_call 31; (with_reducible refine (HCy.out _ (HF1.out.mono HB.out)).mono ?_); rintro e w2 ⟨rfl, hb3⟩; have HB2 := Lib.hid (HB.out.trans (hb3.mono hbz)); clear hb3)
        go_roundw
        case rel => exact ⟨r, Q ++ (y :: c.flat), D ++ T ++ [10], j + 1, by go_num, by rw [HZ3.out], by have := HT1.out; omega, Hnx.out, Hq1.out, HR.out, HG.out, HP2.out, HB2.out⟩
        case measure => simp [intOf]; omega
  · rw [if_neg hc]
    have h12 : checkI l f rest = 12 := (check_cases l f rest).resolve_left hc
    rw [h12] at HCk
    unfold emp
    clear h hw hF hr hc h12 htx hl
    go_enter Try.func12, Try.ntmps12
    go_wp2_with (go_at_call 10; (with_reducible refine (HCk.out _ HF.out).mono ?_); rintro e w0 ⟨rfl, hb0⟩; have HB0 := Lib.hid hb0; clear hb0)
    refine bodyPost_ret (v := .string ⟨#[]⟩) (by simp [results, Try.results12, go_sem]) rfl ⟨rfl, HB0.out⟩
/-- A place where a tree stands. -/
theorem end_yes {l : List Nd} {i : Int} (h : endB l i ≠ -1) : ∃ (P : List Nd) (x : Nd) (k : Fo) (rest : List Nd), i = P.length ∧ l = P ++ ((Fo.cons x k .nil).flat ++ rest) ∧ (Fo.cons x k .nil).Wf := by
  unfold endB at h
  split at h
  · exact absurd rfl h
  rename_i hi
  split at h
  · exact absurd rfl h
  · rename_i r hr
    obtain ⟨f, h1, h2, h3⟩ := fin_forest _ _ hr
    cases f with
    | nil => cases h2
    | cons x k b =>
      cases b with
      | cons y c d => exact absurd h2 (by show ¬ (d.len + 1 + 1 = 1); omega)
      | nil =>
        refine ⟨l.take i.toNat, x, k, r, ?_, ?_, h1⟩
        · rw [List.length_take]; omega
        · rw [← h3, List.take_append_drop]
end Go.Proofs.Ytlndfognkkobaaa
