/-
  Check.
-/
import Derived.Test.YtlndfognkkobaaaTrF
namespace Go.Proofs.Ytlndfognkkobaaa
open Go.RowKit
set_option linter.unusedVariables false
set_option linter.unusedSimpArgs false

/-- Boxes of Check's closure: what has been found, the nodes. -/
structure CQ (w0 : World) (B X1 X3 : Nat) (s : Value) (c : Bool) (w : World) : Prop where
  b3 : Blk w X3 4 [.bool c]
  b1 : Blk w X1 22 [s]
  n1 : X3 ≠ X1
  le : B ≤ X3
  f : Below B w0 w
  hB : B ≤ w.heap.size
theorem CQ.below {w0 w w' : World} {B X1 X3 : Nat} {s : Value} {c : Bool} (h : CQ w0 B X1 X3 s c w) (hb : Below w.heap.size w w') : CQ w0 B X1 X3 s c w' :=
  ⟨h.b3.below hb, h.b1.below hb, h.n1, h.le, h.f.trans (hb.mono h.hB), Nat.le_trans h.hB hb.size⟩
theorem CQ.set {w0 w : World} {B X1 X3 : Nat} {s : Value} {c : Bool} (h : CQ w0 B X1 X3 s c w) (c' : Bool) : CQ w0 B X1 X3 s c' (w.setCell ⟨X3, 0, none⟩ (.bool c')) :=
  ⟨h.b3.set 0 _, h.b1.other (by exact h.n1.symm) _, h.n1, h.le, h.f.setCell h.le _, by rw [show (w.setCell ⟨X3, 0, none⟩ (.bool c')).heap.size = w.heap.size by simp]; exact h.hB⟩
set_option maxRecDepth 100000 in
set_option maxHeartbeats 2000000 in
theorem chk1_any (w0 : World) (B X1 X3 : Nat) (s : Value) (c : Bool) (i : Nat) (R : Bool) (w : World) (h : CQ w0 B X1 X3 s c w)
    (hIH : ∀ V : World, Below w.heap.size w V → Calls Try.prog 24 #[s, .int .i64 (i : Int), .int .i64 1] V fun e w' => e = .returned (.bool R) ∧ Below V.heap.size V w') :
    Calls Try.prog 23 #[.int .i64 (i : Int), .pointer (some ⟨X3, 0, none⟩), .pointer (some ⟨X1, 0, none⟩)] w fun e w' => e = .returned (.tuple #[]) ∧ CQ w0 B X1 X3 s (c && R) w' := by
  have c3 := h.b3.cell 0
  have c1 := h.b1.cell 0
  have f3 := h.b3.frozen 0
  have l3 := h.b3.lt
  have l1 := h.b1.lt
  dsimp only [List.getElem?_cons_zero] at c3 c1
  have HH := Lib.hid h
  cases c with
  | false =>
    clear h hIH
    go_enter Try.func23, Try.ntmps23
    go_wp2
    go_end0
    exact ⟨rfl, HH.out.set false⟩
  | true =>
    have HI := Lib.hid hIH
    clear h hIH
    go_enter Try.func23, Try.ntmps23
    go_wp2_with (go_at_call 24; (with_reducible refine (HI.out _ (Below.refl _ _)).mono ?_); rintro e w1 ⟨rfl, hb1⟩; have HH1 := Lib.hid (HH.out.below hb1); have l31 := HH1.out.b3.lt; have f31 := HH1.out.b3.frozen 0; have c31 := HH1.out.b3.cell 0; dsimp only [List.getElem?_cons_zero] at c31; clear hb1)
    go_end0
    exact ⟨rfl, HH1.out.set R⟩
theorem tops_right (a : Option Addr) (ka : Nat) (l : List Nd) (f : Fo) (rest : List Nd) (c0 : Bool) (w0 : World) (B X1 X3 : Nat) (V : World) (hl : l.length ≤ 100000) (ht : ∀ y ∈ l, y.tx.size ≤ 30000) (h : l = f.flat ++ rest) (hw : f.Wf) (hs : 0 + f.flat.length = l.length ∨ (0 + f.flat.length < l.length ∧ fin rest 1 = none)) (hF : NdL w0 a l) (hB : B = w0.heap.size) (hC : CQ w0 B X1 X3 (.slice a l.length ka) c0 V) :
    Calls Try.prog 22 #[.slice a l.length ka, .int .i64 0, .int .i64 (l.length : Int), .func (.func 23) #[] #[.pointer (some ⟨X3, 0, none⟩), .pointer (some ⟨X1, 0, none⟩)]] V fun e w' => e = .returned (.bool (decide (0 + f.flat.length = l.length))) ∧ CQ w0 B X1 X3 (.slice a l.length ka) (c0 && rightF 1 f) w' := by
  have h' : l = [] ++ (f.flat ++ rest) := h
  refine (each_any a ka l 23 #[.pointer (some ⟨X3, 0, none⟩), .pointer (some ⟨X1, 0, none⟩)] (fun g w' => ∃ c, CQ w0 B X1 X3 (.slice a l.length ka) c w' ∧ (c && rightF 1 g) = (c0 && rightF 1 f)) [] f rest l.length V (by omega) h' hw hs (by omega) ?_ ?_ ?_ ?_ ?_).mono ?_
  · rintro g w' ⟨c, hk, _⟩
    exact hF.mono (hB ▸ hk.f)
  · rintro g w' w'' ⟨c, hk, e⟩ hb
    exact ⟨c, hk.below hb, e⟩
  · rintro x k r Q w' e1 hw2 ⟨c, hk2, e2⟩
    have e3 : l = Q ++ ((Fo.cons x k .nil).flat ++ (r.flat ++ rest)) := by
      rw [e1]
      show Q ++ (x :: (k.flat ++ r.flat) ++ rest) = Q ++ (x :: (k.flat ++ []) ++ (r.flat ++ rest))
      simp only [List.append_nil, List.cons_append, List.append_assoc]
    refine (chk1_any w0 B X1 X3 (.slice a l.length ka) c Q.length (rightT 1 x (rightF (1 + 1) k)) w' hk2 fun V hV => ?_).mono ?_
    · exact rtree_any _ a ka l Q x k (r.flat ++ rest) 1 V (Nat.lt_succ_self _) ((hF.mono (hB ▸ hk2.f)).mono hV) hl ht e3 ⟨hw2.1, hw2.2.1, trivial⟩ (by decide)
    · rintro e w'' ⟨rfl, hk3⟩
      refine ⟨rfl, _, hk3, ?_⟩
      rw [← e2]
      show (c && _ && _) = (c && (_ && _))
      rw [Bool.and_assoc]
  · exact enters_of Try.func23 (by kernel_rfl) rfl
  · exact ⟨c0, hC, rfl⟩
  · rintro e w' ⟨rfl, c, hk2, e2⟩
    refine ⟨rfl, ?_⟩
    have e2 : (c && true) = (c0 && rightF 1 f) := e2
    rw [Bool.and_true] at e2
    rw [← e2]
    exact hk2
theorem CQ.start (w : World) (s : Value) (c : Bool) : CQ w w.heap.size w.heap.size (w.heap.size + 1) s c ((w.alloc (.cells #[s] 22)).alloc (.cells #[.bool c] 4)) := by
  have z : ∀ (V : World) (o : Obj), (V.alloc o).heap.size = V.heap.size + 1 := fun V o => by simp
  obtain ⟨w1, h1⟩ : ∃ w1, w.alloc (.cells #[s] 22) = w1 := ⟨_, rfl⟩
  rw [h1]
  have z1 : w1.heap.size = w.heap.size + 1 := by rw [← h1]; exact z _ _
  have b1 : Blk w1 w.heap.size 22 [s] := by rw [← h1]; exact Blk.new w _ [s]
  have b3 : Blk (w1.alloc (.cells #[.bool c] 4)) (w.heap.size + 1) 4 [.bool c] := by rw [← z1]; exact Blk.new w1 _ [.bool c]
  have f1 : Below w.heap.size w w1 := by
    rw [← h1]
    exact (Below.refl _ w).alloc (Nat.le_refl _) _
  exact ⟨b3, b1.alloc _, by omega, by omega, f1.alloc (by omega) _, by rw [z]; omega⟩
/-- What is wrong of nodes: a forest, and what follows it. -/
def checkI (l : List Nd) (f : Fo) (rest : List Nd) : Int := if (decide (l.length ≤ 4000) && rightF 1 f) = true ∧ rest = [] then 0 else 12
set_option maxRecDepth 100000 in
set_option maxHeartbeats 4000000 in
theorem check_any (a : Option Addr) (ka : Nat) (l : List Nd) (f : Fo) (rest : List Nd) (w : World) (hF : NdL w a l) (hl : l.length ≤ 100000) (ht : ∀ y ∈ l, y.tx.size ≤ 30000) (h : l = f.flat ++ rest) (hw : f.Wf) (hr : rest = [] ∨ (rest ≠ [] ∧ fin rest 1 = none)) :
    Calls Try.prog 9 #[.slice a l.length ka] w fun e w' => e = .returned (.int .i64 (checkI l f rest)) ∧ Below w.heap.size w w' := by
  have hlen : l.length = f.flat.length + rest.length := by rw [h, List.length_append]
  have hst : (0 + f.flat.length = l.length ∧ rest = []) ∨ (0 + f.flat.length < l.length ∧ rest ≠ [] ∧ fin rest 1 = none) := by
    rcases hr with hr | ⟨hr, h2⟩
    · left
      exact ⟨by rw [hlen, hr]; simp, hr⟩
    · right
      have := List.length_pos_iff.2 hr
      exact ⟨by omega, hr, h2⟩
  obtain ⟨c0, hc0⟩ : ∃ c0, decide (l.length ≤ 4000) = c0 := ⟨_, rfl⟩
  obtain ⟨K9, hK9⟩ : ∃ K9, rightF 1 f = K9 := ⟨_, rfl⟩
  obtain ⟨E9, hE9⟩ : ∃ E9, decide (0 + f.flat.length = l.length) = E9 := ⟨_, rfl⟩
  have hE : (E9 = true ↔ rest = []) := by
    rcases hst with ⟨h1, h2⟩ | ⟨h1, h2, _⟩
    · rw [← hE9, decide_eq_true h1]
      exact ⟨fun _ => h2, fun _ => rfl⟩
    · rw [← hE9, decide_eq_false (by omega)]
      exact ⟨fun e => (by cases e), fun e => absurd e h2⟩
  have HK := Lib.hid (fun (V : World) (hC : CQ w w.heap.size w.heap.size (w.heap.size + 1) (.slice a l.length ka) c0 V) => tops_right a ka l f rest c0 w w.heap.size w.heap.size (w.heap.size + 1) V hl ht h hw (by rcases hst with h | h; exact .inl h.1; exact .inr ⟨h.1, h.2.2⟩) hF rfl hC)
  rw [hE9, hK9] at HK
  have hR : checkI l f rest = if (c0 && K9) = true ∧ E9 = true then 0 else 12 := by
    unfold checkI
    rw [hc0, hK9]
    congr 1
    rw [hE]
  obtain ⟨R, hRR⟩ : ∃ R, checkI l f rest = R := ⟨_, rfl⟩
  rw [hRR]
  rw [hRR] at hR
  have HRe := Lib.hid hR
  have HS := Lib.hid (CQ.start w (.slice a l.length ka) c0)
  have hci : decide ((l.length : Int) ≤ 4000) = c0 := by rw [← hc0]; exact decide_eq_decide.2 (by omega)
  clear h hw hr hst hE9 hK9 hE hR hRR hlen hF ht
  go_enter Try.func9, Try.ntmps9
  go_upto_region 2 with (fail)
  obtain ⟨W, hW⟩ : ∃ W, W = ((w.alloc (.cells #[.slice a l.length ka] 22)).alloc (.cells #[.bool c0] 4)) := ⟨_, rfl⟩
  rw [← hW] at HS ⊢
  have x1 := HS.out.b1.cell 0
  have y1 := HS.out.b1.lt
  dsimp only [List.getElem?_cons_zero] at x1
  clear hW hc0 hci
  obtain ⟨c9, hc9⟩ : ∃ c9, (c0 && K9) = c9 := ⟨_, rfl⟩
  rw [hc9] at HK
  rw [hc9] at HRe
  clear hc9
  cases c9 <;> cases E9
  all_goals
    have HR := Lib.hid (show R = _ from HRe.out)
    clear HRe
    go_wp2_with ((with_reducible refine (HK.out _ HS.out).mono ?_); rintro e w6 ⟨rfl, hC6⟩; have c8 := hC6.b3.cell 0; have l8 := hC6.b3.lt; dsimp only [List.getElem?_cons_zero] at c8; have HC6 := Lib.hid hC6; clear hC6)
    go_ret
    exact ⟨by rw [HR.out]; rfl, HC6.out.f⟩
end Go.Proofs.Ytlndfognkkobaaa
