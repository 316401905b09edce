/-
  each: all trees of a stretch, one after the other.
-/
import Derived.Test.YtlndfognkkobaaaTrE
namespace Go.Proofs.Ytlndfognkkobaaa
open Go.RowKit
set_option linter.unusedVariables false
set_option linter.unusedSimpArgs false

theorem end_tree {l P rest : List Nd} {x : Nd} {k r : Fo} (h : l = P ++ ((Fo.cons x k r).flat ++ rest)) (hw : (Fo.cons x k r).Wf) : endB l P.length = ((P.length + (1 + k.flat.length) : Nat) : Int) := by
  have hd : l.drop P.length = (Fo.cons x k .nil).flat ++ (r.flat ++ rest) := by
    rw [h, List.drop_left]
    show x :: (k.flat ++ r.flat) ++ rest = x :: (k.flat ++ []) ++ (r.flat ++ rest)
    simp only [List.append_nil, List.cons_append, List.append_assoc]
  have hl : l.length = P.length + (1 + k.flat.length + (r.flat ++ rest).length) := by
    rw [h, List.length_append, List.length_append]
    show P.length + ((x :: (k.flat ++ r.flat)).length + rest.length) = _
    rw [List.length_cons, List.length_append, List.length_append]
    omega
  have hf := Fo.fin (Fo.cons x k .nil) 0 (r.flat ++ rest) ⟨hw.1, hw.2.1, trivial⟩
  rw [← hd, fin_zero] at hf
  have hf : fin (l.drop P.length) 1 = some (r.flat ++ rest) := hf
  rw [end_in (by omega), hf]
  show ((l.length - (r.flat ++ rest).length : Nat) : Int) = _
  omega
theorem end_stop {l P rest : List Nd} (h : l = P ++ rest) (hr : fin rest 1 = none) : endB l P.length = -1 := by
  by_cases hi : P.length < l.length
  · refine end_none hi ?_
    rw [h, List.drop_left]
    exact hr
  · unfold endB
    rw [if_pos (.inr (by omega))]
set_option maxRecDepth 100000 in
set_option maxHeartbeats 2000000 in
theorem each_any (a : Option Addr) (ka : Nat) (l : List Nd) (fn : Nat) (caps : Array Value) (I : Fo → World → Prop) (P : List Nd) (f : Fo) (rest : List Nd) (stop : Nat) (w : World)
    (hl : l.length ≤ 1000000) (h : l = P ++ (f.flat ++ rest)) (hw : f.Wf) (hs : P.length + f.flat.length = stop ∨ (P.length + f.flat.length < stop ∧ fin rest 1 = none)) (hs9 : stop ≤ 1000000)
    (hN : ∀ g w', I g w' → NdL w' a l) (hB : ∀ g w' w'', I g w' → Below w'.heap.size w' w'' → I g w'')
    (hstep : ∀ (x : Nd) (k r : Fo) (Q : List Nd) (w' : World), l = Q ++ ((Fo.cons x k r).flat ++ rest) → (Fo.cons x k r).Wf → I (.cons x k r) w' → Calls Try.prog fn (#[.int .i64 (Q.length : Int)] ++ caps) w' fun e w'' => e = .returned (.tuple #[]) ∧ I r w'')
    (hent : ∀ (args : Array Value) (V : World), (callFunc fn args).run Try.prog V = .ok (.enter fn args) V)
    (h0 : I f w) :
    Calls Try.prog 22 #[.slice a l.length ka, .int .i64 (P.length : Int), .int .i64 (stop : Int), .func (.func fn) #[] caps] w fun e w' => e = .returned (.bool (decide (P.length + f.flat.length = stop))) ∧ I .nil w' := by
  obtain ⟨R, hR⟩ : ∃ R, decide (P.length + f.flat.length = stop) = R := ⟨_, rfl⟩
  have HRe := Lib.hid (show decide (P.length + f.flat.length = stop) = R from hR)
  have HS := Lib.hid hs
  have HI := Lib.hid h0
  have HH := Lib.hid (show ∃ Q : List Nd, Q.length = P.length ∧ l = Q ++ (f.flat ++ rest) ∧ f.Wf ∧ Q.length + f.flat.length = P.length + f.flat.length from ⟨P, rfl, h, hw, rfl⟩)
  obtain ⟨p, hp⟩ : ∃ p, P.length + f.flat.length = p := ⟨_, rfl⟩
  rw [hp] at HH HS HRe
  obtain ⟨i0, hi0⟩ : ∃ i0, P.length = i0 := ⟨_, rfl⟩
  have HI0 := Lib.hid hi0
  have HNd := Lib.hid hN
  have HBw := Lib.hid hB
  have HSt := Lib.hid hstep
  have HL := Lib.hid hl
  rw [hR, hi0]
  rw [hi0] at HH
  clear hR h hw hs hN hB hstep h0 hp hi0
  go_enter Try.func22, Try.ntmps22
  go_wp2
  go_loopw [1, 9] (fun vi _ wr => ∃ (g : Fo) (Q : List Nd), vi = .int .i64 (Q.length : Int) ∧ l = Q ++ (g.flat ++ rest) ∧ g.Wf ∧ Q.length + g.flat.length = p ∧ I g wr) (fun vi _ _ => stop - (intOf vi).toNat)
  case atStart =>
    obtain ⟨Q, q1, q2, q3, q4⟩ := HH.out
    exact ⟨f, Q, by rw [q1], q2, q3, by omega, HI.out⟩
  case round =>
    clear HI HH
    obtain ⟨g, Q, rfl, q2, q3, q4, hg⟩ := hrel
    have HG := Lib.hid hg
    have HQ2 := Lib.hid q2
    have HQ3 := Lib.hid q3
    have hql : Q.length + g.flat.length = p := q4
    clear hg q2 q3 q4
    cases g with
    | nil =>
      have hpe : Q.length = p := hql
      rcases HS.out with hs | ⟨hs, hr⟩
      · have k1 : ¬ Q.length < stop := by omega
        have HR := Lib.hid (show R = true from by rw [← HRe.out]; exact decide_eq_true hs)
        clear hql hpe
        go_wp2
        go_ret
        exact ⟨by rw [HR.out]; rfl, HG.out⟩
      · have k1 : Q.length < stop := by omega
        have HR := Lib.hid (show R = false from by rw [← HRe.out]; exact decide_eq_false (by omega))
        have he : endB l Q.length = -1 := end_stop (rest := rest) HQ2.out hr
        have HE := Lib.hid (fun (V : World) (hF : NdL V a l) => show Calls Try.prog 13 #[.slice a l.length ka, .int .i64 (Q.length : Int)] V fun e w' => e = .returned (.int .i64 (-1)) ∧ Below V.heap.size V w' by have h9 := end_any a ka l (Q.length : Int) V hF HL.out; rw [he] at h9; exact h9)
        clear hql hpe he
        go_wp2_with (go_at_call 13; (with_reducible refine (HE.out _ (HNd.out _ _ HG.out)).mono ?_); rintro e w1 ⟨rfl, hb1⟩; have HG1 := Lib.hid (HBw.out _ _ _ HG.out hb1); clear hb1)
        go_ret
        exact ⟨by rw [HR.out]; rfl, HG1.out⟩
    | cons x k r =>
      have hfl : (Fo.cons x k r).flat.length = 1 + k.flat.length + r.flat.length := by
        show (x :: (k.flat ++ r.flat)).length = _
        rw [List.length_cons, List.length_append]
        omega
      rw [hfl] at hql
      have k1 : Q.length < stop := by rcases HS.out with hs | ⟨hs, _⟩ <;> omega
      have he := end_tree (rest := rest) HQ2.out HQ3.out
      obtain ⟨nx, hnx⟩ : ∃ nx, Q.length + (1 + k.flat.length) = nx := ⟨_, rfl⟩
      rw [hnx] at he
      have HE := Lib.hid (fun (V : World) (hF : NdL V a l) => show Calls Try.prog 13 #[.slice a l.length ka, .int .i64 (Q.length : Int)] V fun e w' => e = .returned (.int .i64 (nx : Int)) ∧ Below V.heap.size V w' by have h9 := end_any a ka l (Q.length : Int) V hF HL.out; rw [he] at h9; exact h9)
      have k2 : decide ((nx : Int) < 0) = false := decide_eq_false (by omega)
      have HSx := Lib.hid (fun V hV => HSt.out x k r Q V HQ2.out HQ3.out hV)
      have hlen : (Q ++ (x :: k.flat)).length = nx := by rw [List.length_append, List.length_cons]; omega
      have HLen := Lib.hid hlen
      have Hrel := Lib.hid (show l = (Q ++ (x :: k.flat)) ++ (r.flat ++ rest) ∧ nx + r.flat.length = p from ⟨by rw [HQ2.out]; show Q ++ (x :: (k.flat ++ r.flat) ++ rest) = _; simp only [List.append_assoc, List.cons_append], by omega⟩)
      have hms : Q.length < nx ∧ nx ≤ stop := by rcases HS.out with hs | ⟨hs, _⟩ <;> omega
      have HM := Lib.hid hms
      clear he hfl hql hnx hlen hms
      go_wp2_with (first
        | (go_at_call 13; (with_reducible refine (HE.out _ (HNd.out _ _ HG.out)).mono ?_); rintro e w1 ⟨rfl, hb1⟩; have HG1 := Lib.hid (HBw.out _ _ _ HG.out hb1); clear hb1)
        | ((with_reducible refine (HSx.out _ HG1.out).mono ?_); rintro e w2 ⟨rfl, hg2⟩; have HG2 := Lib.hid hg2; clear hg2))
      go_roundw
      case rel => exact ⟨r, Q ++ (x :: k.flat), by rw [HLen.out], Hrel.out.1, HQ3.out.2.2, by rw [HLen.out]; exact Hrel.out.2, HG2.out⟩
      case measure => have := HM.out; simp [intOf]; omega
end Go.Proofs.Ytlndfognkkobaaa
