/-
  The document's Kids and Tops.
-/
import Derived.Test.YtlndfognkkobaaaTrY
namespace Go.Proofs.Ytlndfognkkobaaa
open Go.RowKit
set_option linter.unusedVariables false
set_option linter.unusedSimpArgs false

theorem one_more {w : World} {B : Nat} {v : Value} {l : List Nat} {q : Nat} (h : w.ownsRow B 3 1 v (l.length + 1) (l.flatMap intE ++ [.int .i64 (q : Int)])) : w.ownsRow B 3 1 v (l ++ [q]).length ((l ++ [q]).flatMap intE) := by
  rw [List.length_append, List.flatMap_append]
  exact h
set_option maxRecDepth 100000 in
set_option maxHeartbeats 2000000 in
theorem rkids_yes (a : Option Addr) (ka : Nat) (l P : List Nd) (x : Nd) (k : Fo) (rest : List Nd) (w : World) (hF : NdL w a l) (hl : l.length ≤ 1000) (h : l = P ++ ((Fo.cons x k .nil).flat ++ rest)) (hw : (Fo.cons x k .nil).Wf) :
    Calls Try.prog 17 #[.slice a l.length ka, .int .i64 (P.length : Int)] w (GivesI w (placesF (P.length + 1) k)) := by
  have he := end_tree (rest := rest) h hw
  have h2 : l = (P ++ [x]) ++ (k.flat ++ rest) := by
    rw [h]
    show P ++ (x :: (k.flat ++ []) ++ rest) = _
    simp only [List.append_nil, List.cons_append, List.append_assoc, List.nil_append]
  have hlen : l.length = P.length + (1 + k.flat.length) + rest.length := by
    rw [h2, List.length_append, List.length_append, List.length_append, List.length_singleton]
    omega
  have hP1 : (P ++ [x]).length = P.length + 1 := by rw [List.length_append]; rfl
  have hx : l[P.length]? = some x := by rw [h2, List.append_assoc, List.getElem?_append_right (Nat.le_refl _), Nat.sub_self]; rfl
  have hxk : x.ki = (k.len : Int) := hw.1
  have hkl := flat_len k
  obtain ⟨B, hBr⟩ : ∃ B, placesF (P.length + 1) k = B := ⟨_, rfl⟩
  have HS := Lib.hid (show ∃ (dn : List Nat) (g : Fo) (Q : List Nd), dn.length = 0 ∧ dn = [] ∧ dn.length + g.len = k.len ∧ Q.length = P.length + 1 ∧ l = Q ++ (g.flat ++ rest) ∧ g.Wf ∧ dn ++ placesF Q.length g = B from ⟨[], k, P ++ [x], rfl, rfl, Nat.zero_add _, hP1, h2, hw.2.1, by rw [hP1]; exact hBr⟩)
  rw [hBr]
  have HL := Lib.hid hl
  obtain ⟨p, hp⟩ : ∃ p, P.length = p := ⟨_, rfl⟩
  rw [hp] at he hlen hx HS ⊢
  obtain ⟨st, hst⟩ : ∃ st, p + (1 + k.flat.length) = st := ⟨_, rfl⟩
  rw [hst] at he hlen
  have HE := Lib.hid (show ∀ V : World, NdL V a l → Calls Try.prog 14 #[.slice a l.length ka, .int .i64 (p : Int)] V fun e w' => e = .returned (.int .i64 (st : Int)) ∧ Below V.heap.size V w' from fun V hF => by have h9 := rend_any a ka l (p : Int) V hF hl; rw [he] at h9; exact h9)
  obtain ⟨m, hm⟩ : ∃ m, k.len = m := ⟨_, rfl⟩
  rw [hm] at hxk HS hkl
  have hm9 : m ≤ 1000 := by omega
  have hp9 : p ≤ 1000 := by omega
  obtain ⟨b, o, rfl, hb, hc⟩ := hF (by omega)
  have HF := Lib.hid hF
  obtain ⟨_, _, c2, _⟩ := nd_cells (hc p x hx)
  rw [hxk] at c2
  have HC2 := Lib.hid c2
  have hpl : p < l.length := by omega
  clear he h h2 hlen hP1 hp hst hF hw hx hxk hc hm hBr hl hkl c2
  obtain ⟨i0, hi, hz0, hz1, hz2⟩ := info_parts Try.info3
  have Hi := Lib.hid hi
  have Hz0 := Lib.hid hz0
  have Hz1 := Lib.hid hz1
  have Hz2 := Lib.hid hz2
  clear hi hz0 hz1 hz2
  go_enter Try.func17, Try.ntmps17
  go_wp2_with (go_at_call 14; (with_reducible refine (HE.out _ HF.out).mono ?_); rintro e w1 ⟨rfl, hb1⟩; have HB1 := Lib.hid hb1; have hz1 := hb1.size; clear hb1)
  go_loopw [5, 6, 7] (fun vo va vj wr => ∃ (dn : List Nat) (g : Fo) (Q : List Nd), vj = .int .i64 (dn.length : Int) ∧ va = .int .i64 (Q.length : Int) ∧ dn.length + g.len = m ∧ l = Q ++ (g.flat ++ rest) ∧ g.Wf ∧ dn ++ placesF Q.length g = B ∧ wr.ownsRow w.heap.size 3 1 vo dn.length (dn.flatMap intE) ∧ Below w.heap.size w wr) (fun _ _ vj _ => m - (intOf vj).toNat)
  case atStart =>
    obtain ⟨dn, g, Q, s0, rfl, s1, s2, s3, s4, s5⟩ := HS.out
    exact ⟨[], g, Q, rfl, by rw [s2]; rfl, s1, s3, s4, s5, World.ownsRow_nil _ _ _ _, HB1.out⟩
  case round =>
    clear HS
    obtain ⟨dn, g, Q, rfl, rfl, s1, s3, s4, s5, hO, hB⟩ := hrel
    have HO := Lib.hid hO
    have HB := Lib.hid hB
    have hbz := hB.size
    have c2 := hB.cell (p := ⟨b, o + p * 4 + 2, none⟩) hb
    rw [HC2.out] at c2
    have hbw : b < wr.heap.size := by omega
    obtain ⟨ao, ko, rfl⟩ := own_sl hO
    cases g with
    | nil =>
      have hdm : dn.length = m := s1
      have s5 : dn ++ [] = B := s5
      rw [List.append_nil] at s5
      subst s5
      have k1 : ¬ dn.length < m := by omega
      clear hO hB s1 s3 s4
      go_wp2
      refine bodyPost_ret (v := .slice ao dn.length ko) (by simp [results, Try.results17, go_sem]) rfl ⟨⟨_, rfl, HO.out⟩, HB.out⟩
    | cons y c r =>
      have s1 : dn.length + (r.len + 1) = m := s1
      have he := end_tree (rest := rest) s3 s4
      have hq : Q.length < l.length := by
        rw [s3, List.length_append, List.length_append]
        show _ < _ + ((y :: (c.flat ++ r.flat)).length + _)
        rw [List.length_cons]
        omega
      have hnx : (Q ++ (y :: c.flat)).length = Q.length + (1 + c.flat.length) := by rw [List.length_append, List.length_cons]; omega
      have Hrel := Lib.hid (show l = (Q ++ (y :: c.flat)) ++ (r.flat ++ rest) ∧ (dn ++ [Q.length]) ++ placesF (Q ++ (y :: c.flat)).length r = B from ⟨by rw [s3]; show Q ++ (y :: (c.flat ++ r.flat) ++ rest) = _; simp only [List.append_assoc, List.cons_append], by rw [hnx, List.append_assoc]; exact s5⟩)
      have HNx := Lib.hid hnx
      have HE2 := Lib.hid (show ∀ V : World, NdL V (some ⟨b, o, none⟩) l → Calls Try.prog 14 #[.slice (some ⟨b, o, none⟩) l.length ka, .int .i64 (Q.length : Int)] V fun e w' => e = .returned (.int .i64 ((Q.length + (1 + c.flat.length) : Nat) : Int)) ∧ Below V.heap.size V w' from fun V hF => by have h9 := rend_any (some ⟨b, o, none⟩) ka l (Q.length : Int) V hF HL.out; rw [he] at h9; exact h9)
      have k1 : dn.length < m := by omega
      have HR := Lib.hid s4.2.2
      obtain ⟨q, hq9⟩ : ∃ q, Q.length = q := ⟨_, rfl⟩
      obtain ⟨nx, hnx9⟩ : ∃ nx, q + (1 + c.flat.length) = nx := ⟨_, rfl⟩
      rw [hq9] at HE2 HNx
      rw [hnx9] at HE2 HNx
      have HQ9 := Lib.hid hq9
      rw [hq9]
      clear hO hB s3 s4 s5 he hnx hq hnx9 hq9
      go_wp2_with (first
        | (at_builtin; refine wpList_append_src rfl (.tmp 23) (.tmp 25) 30 rfl w.heap.size 3 i0 _ 1 8 Try.underlying30 Hi.out Hz0.out Hz1.out Hz2.out rfl (by decide) _ dn.length (dn.flatMap intE) rfl (HO.out.alloc _) (some ⟨wr.heap.size, 0, none⟩) 1 1 [.int .i64 (q : Int)] rfl rfl (fun q e => by injection e with e; rw [← e]; exact news_at _ _ _) (fun e => by cases e) (intE_one q) (by unfold maxLen; omega) (by omega) (by simp; omega) ?_; intro v6 w6 hown6 hgrow6; obtain ⟨a6, k6, rfl⟩ := own_sl hown6; have HB6 := Lib.hid (own_below (HO.out.alloc _) (HB.out.alloc (by omega) _) (by simp; omega) hgrow6); have hz6 := HB6.out.size; have HO6 := Lib.hid hown6; clear hown6 hgrow6)
        | (go_at_call 14; (with_reducible refine (HE2.out _ (HF.out.mono HB6.out)).mono ?_); rintro e w7 ⟨rfl, hb7⟩; have HO7 := Lib.hid (own_kept HO6.out hb7); have HB7 := Lib.hid (HB6.out.trans (hb7.mono hz6)); clear hb7))
      go_roundw
      case rel =>
        refine ⟨dn ++ [q], r, Q ++ (y :: c.flat), by rw [List.length_append]; go_num, by rw [HNx.out], by rw [List.length_append]; show dn.length + 1 + _ = _; omega, Hrel.out.1, HR.out, ?_, one_more HO7.out, HB7.out⟩
        have := Hrel.out.2
        rw [HQ9.out] at this
        exact this
      case measure => simp [intOf]; omega
theorem rkids_no (a : Option Addr) (ka : Nat) (l : List Nd) (i : Int) (w : World) (hF : NdL w a l) (hl : l.length ≤ 1000) (he : endB l i = -1) :
    Calls Try.prog 17 #[.slice a l.length ka, .int .i64 i] w (GivesI w []) := by
  have HE := Lib.hid (show ∀ V : World, NdL V a l → Calls Try.prog 14 #[.slice a l.length ka, .int .i64 i] V fun e w' => e = .returned (.int .i64 (-1)) ∧ Below V.heap.size V w' from fun V hF => by have h9 := rend_any a ka l i V hF hl; rw [he] at h9; exact h9)
  have HF := Lib.hid hF
  clear he hF
  go_enter Try.func17, Try.ntmps17
  go_wp2_with (go_at_call 14; (with_reducible refine (HE.out _ HF.out).mono ?_); rintro e w1 ⟨rfl, hb1⟩; have HB1 := Lib.hid hb1; clear hb1)
  refine bodyPost_ret (v := .slice none 0 0) (by simp [results, Try.results17, go_sem]) rfl ⟨⟨_, rfl, World.ownsRow_nil _ _ _ _⟩, HB1.out⟩
set_option maxRecDepth 100000 in
set_option maxHeartbeats 2000000 in
theorem rtops_any (a : Option Addr) (ka : Nat) (l : List Nd) (f : Fo) (rest : List Nd) (w : World) (hF : NdL w a l) (hl : l.length ≤ 1000) (h : l = f.flat ++ rest) (hw : f.Wf) (hr : rest = [] ∨ (rest ≠ [] ∧ fin rest 1 = none)) :
    Calls Try.prog 19 #[.slice a l.length ka] w (GivesI w (if rest = [] then placesF 0 f else [])) := by
  have HL := Lib.hid hl
  have HF := Lib.hid hF
  have HS := Lib.hid (show l = [] ++ (f.flat ++ rest) ∧ f.Wf from ⟨h, hw⟩)
  obtain ⟨B, hBr⟩ : ∃ B, (if rest = [] then placesF 0 f else []) = B := ⟨_, rfl⟩
  rw [hBr]
  have HRs := Lib.hid (show (rest = [] ∧ B = placesF 0 f) ∨ (rest ≠ [] ∧ fin rest 1 = none ∧ B = []) from by
    rcases hr with hr | ⟨hr, h2⟩
    · exact .inl ⟨hr, by rw [← hBr, if_pos hr]⟩
    · exact .inr ⟨hr, h2, by rw [← hBr, if_neg hr]⟩)
  clear hF hr h hw hBr
  obtain ⟨i0, hi, hz0, hz1, hz2⟩ := info_parts Try.info3
  have Hi := Lib.hid hi
  have Hz0 := Lib.hid hz0
  have Hz1 := Lib.hid hz1
  have Hz2 := Lib.hid hz2
  clear hi hz0 hz1 hz2
  go_enter Try.func19, Try.ntmps19
  go_wp2
  go_loopw [3, 4] (fun vo va wr => ∃ (dn : List Nat) (g : Fo) (Q : List Nd), va = .int .i64 (Q.length : Int) ∧ dn.length ≤ Q.length ∧ l = Q ++ (g.flat ++ rest) ∧ g.Wf ∧ dn ++ placesF Q.length g = placesF 0 f ∧ wr.ownsRow w.heap.size 3 1 vo dn.length (dn.flatMap intE) ∧ Below w.heap.size w wr) (fun _ va _ => l.length - (intOf va).toNat)
  case atStart => exact ⟨[], f, [], rfl, Nat.le_refl _, HS.out.1, HS.out.2, rfl, World.ownsRow_nil _ _ _ _, by (repeat' (first | with_reducible exact Below.refl _ _ | with_reducible assumption | with_reducible refine Below.drew ?_ | with_reducible refine below_drewN' ?_ _ | with_reducible refine Below.alloc ?_ ?_ _ | with_reducible refine Below.setCell ?_ ?_ _ | with_reducible refine below_step (by assumption) ?_ ?_ | omega | (simp; done) | (simp; omega)))⟩
  case round =>
    clear HS
    obtain ⟨dn, g, Q, rfl, s1, s3, s4, s5, hO, hB⟩ := hrel
    have HO := Lib.hid hO
    have HB := Lib.hid hB
    have hbz := hB.size
    obtain ⟨ao, ko, rfl⟩ := own_sl hO
    cases g with
    | nil =>
      have t5 : dn ++ [] = placesF 0 f := s5
      rw [List.append_nil] at t5
      have t3 : l = Q ++ ([] ++ rest) := s3
      rw [List.nil_append] at t3
      clear s3 s5
      rcases HRs.out with ⟨hr, hB9⟩ | ⟨hr, hr2, hB9⟩
      · subst hB9
        have k1 : ¬ Q.length < l.length := by rw [t3, hr, List.append_nil]; omega
        have HT5 := Lib.hid t5
        clear hO hB t3 s4 t5
        go_wp2
        refine bodyPost_ret (v := .slice ao dn.length ko) (by simp [results, Try.results19, go_sem]) rfl ⟨⟨_, rfl, by rw [← HT5.out]; exact HO.out⟩, HB.out⟩
      · subst hB9
        have hpos := List.length_pos_iff.2 hr
        have k1 : Q.length < l.length := by rw [t3, List.length_append]; omega
        have he : endB l Q.length = -1 := end_stop (rest := rest) t3 hr2
        have HE := Lib.hid (fun (V : World) (hF : NdL V a l) => show Calls Try.prog 14 #[.slice a l.length ka, .int .i64 (Q.length : Int)] V fun e w' => e = .returned (.int .i64 (-1)) ∧ Below V.heap.size V w' by have h9 := rend_any a ka l (Q.length : Int) V hF HL.out; rw [he] at h9; exact h9)
        clear hO t3 s4 t5 he hpos hr hr2
        go_wp2_with (go_at_call 14; (with_reducible refine (HE.out _ (HF.out.mono HB.out)).mono ?_); rintro e w1 ⟨rfl, hb1⟩; have HB1 := Lib.hid (HB.out.trans (hb1.mono hbz)); clear hb1)
        refine bodyPost_ret (v := .slice none 0 0) (by simp [results, Try.results19, go_sem]) rfl ⟨⟨_, rfl, World.ownsRow_nil _ _ _ _⟩, HB1.out⟩
    | cons y c r =>
      have he := end_tree (rest := rest) s3 s4
      have hlen : l.length = Q.length + (1 + c.flat.length + r.flat.length) + rest.length := by
        rw [s3, List.length_append, List.length_append]
        show Q.length + ((y :: (c.flat ++ r.flat)).length + rest.length) = _
        rw [List.length_cons, List.length_append]
        omega
      have hnx : (Q ++ (y :: c.flat)).length = Q.length + (1 + c.flat.length) := by rw [List.length_append, List.length_cons]; omega
      have Hrel := Lib.hid (show l = (Q ++ (y :: c.flat)) ++ (r.flat ++ rest) ∧ (dn ++ [Q.length]) ++ placesF (Q ++ (y :: c.flat)).length r = placesF 0 f from ⟨by rw [s3]; show Q ++ (y :: (c.flat ++ r.flat) ++ rest) = _; simp only [List.append_assoc, List.cons_append], by rw [hnx, List.append_assoc]; exact s5⟩)
      have HNx := Lib.hid hnx
      have HE2 := Lib.hid (fun (V : World) (hF : NdL V a l) => show Calls Try.prog 14 #[.slice a l.length ka, .int .i64 (Q.length : Int)] V fun e w' => e = .returned (.int .i64 ((Q.length + (1 + c.flat.length) : Nat) : Int)) ∧ Below V.heap.size V w' by have h9 := rend_any a ka l (Q.length : Int) V hF HL.out; rw [he] at h9; exact h9)
      have HR := Lib.hid s4.2.2
      have hq9 : Q.length ≤ 1000 := by omega
      have k1 : Q.length < l.length := by omega
      obtain ⟨q, hqq⟩ : ∃ q, Q.length = q := ⟨_, rfl⟩
      obtain ⟨nx, hnx9⟩ : ∃ nx, q + (1 + c.flat.length) = nx := ⟨_, rfl⟩
      rw [hqq] at HE2 HNx s1 k1 hq9
      rw [hnx9] at HE2 HNx
      have HQ9 := Lib.hid hqq
      have hqn : q < nx ∧ nx ≤ l.length := by omega
      have HM := Lib.hid hqn
      have k2 : decide ((nx : Int) < 0) = false := decide_eq_false (by omega)
      rw [hqq]
      clear hO s3 s4 s5 he hnx hlen hnx9 hqq hqn
      go_wp2_with (first
        | (go_at_call 14; (with_reducible refine (HE2.out _ (HF.out.mono HB.out)).mono ?_); rintro e w1 ⟨rfl, hb1⟩; have HO1 := Lib.hid (own_kept HO.out hb1); have HB1 := Lib.hid (HB.out.trans (hb1.mono hbz)); have hz1 := HB1.out.size; clear hb1)
        | (at_builtin; refine wpList_append_src rfl (.tmp 15) (.tmp 17) 30 rfl w.heap.size 3 i0 _ 1 8 Try.underlying30 Hi.out Hz0.out Hz1.out Hz2.out rfl (by decide) _ dn.length (dn.flatMap intE) rfl (HO1.out.alloc _) (some ⟨w1.heap.size, 0, none⟩) 1 1 [.int .i64 (q : Int)] rfl rfl (fun q e => by injection e with e; rw [← e]; exact news_at _ _ _) (fun e => by cases e) (intE_one q) (by unfold maxLen; omega) (by omega) (by simp; omega) ?_; intro v6 w6 hown6 hgrow6; obtain ⟨a6, k6, rfl⟩ := own_sl hown6; have HB6 := Lib.hid (own_below (HO1.out.alloc _) (HB1.out.alloc (by omega) _) (by simp; omega) hgrow6); have hz6 := HB6.out.size; have HO6 := Lib.hid hown6; clear hown6 hgrow6))
      go_roundw
      case rel =>
        refine ⟨dn ++ [q], r, Q ++ (y :: c.flat), by rw [HNx.out], by rw [List.length_append, HNx.out]; have := HM.out; show dn.length + 1 ≤ _; omega, Hrel.out.1, HR.out, ?_, one_more HO6.out, HB6.out⟩
        have := Hrel.out.2
        rw [HQ9.out] at this
        exact this
      case measure => have := HM.out; simp [intOf]; omega
end Go.Proofs.Ytlndfognkkobaaa
