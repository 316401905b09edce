/-
  rightText; what makes a tree right; the closure of rightTree.
-/
import Derived.Test.YtlndfognkkobaaaTrC
import Derived.Test.YtlndfognkkobaaaLexO
import Derived.Test.YtlndfognkkobaaaLexN
namespace Go.Proofs.Ytlndfognkkobaaa
open Go.RowKit
set_option linter.unusedVariables false
set_option linter.unusedSimpArgs false

set_option maxRecDepth 100000 in
set_option maxHeartbeats 2000000 in
theorem rtext_any (s : ByteArray) (hs : s.size ≤ 30000) (w : World) :
    Calls Try.prog 37 #[.string s] w fun e w' => e = .returned (.bool (!oddT s)) ∧ Below w.heap.size w w' := by
  have hqs := quote_size s
  have HQ := Lib.hid (fun V => quote_any s (by omega) V)
  have HS := Lib.hid (fun V => scan_any (quoteB s) V)
  rcases text_cases s with ⟨hodd, hok⟩ | ⟨hodd, hbad⟩
  · have hsc := scan_quote hok (by omega)
    obtain ⟨qs, hqe⟩ : ∃ qs, quoteB s = qs := ⟨_, rfl⟩
    rw [hqe] at HQ HS hsc
    rw [hsc] at HS
    rw [hodd]
    clear hqs hodd hok hsc hqe hs
    go_enter Try.func37, Try.ntmps37
    go_wp2_with (first
      | (go_at_call 43; (with_reducible refine (HQ.out _).mono ?_); rintro e8 w0 ⟨rfl, hb0⟩; have HB0 := Lib.hid hb0; clear hb0)
      | (go_at_call 34; (with_reducible refine (HS.out _).mono ?_); rintro e9 w1 ⟨⟨v, rfl, ho⟩, hb1⟩; have HB1 := Lib.hid (HB0.out.trans (hb1.mono HB0.out.size)); dsimp only at ho; obtain ⟨x1, y1, rfl, _, _⟩ := own_slice ho; clear hb1 ho))
    go_ret
    exact ⟨rfl, HB1.out⟩
  · obtain ⟨p, hsc⟩ := scan_odd hbad (by omega)
    obtain ⟨qs, hqe⟩ : ∃ qs, quoteB s = qs := ⟨_, rfl⟩
    rw [hqe] at HQ HS hsc
    rw [hsc] at HS
    rw [hodd]
    clear hqs hodd hbad hsc hqe hs
    go_enter Try.func37, Try.ntmps37
    go_wp2_with (first
      | (go_at_call 43; (with_reducible refine (HQ.out _).mono ?_); rintro e8 w0 ⟨rfl, hb0⟩; have HB0 := Lib.hid hb0; clear hb0)
      | (go_at_call 34; (with_reducible refine (HS.out _).mono ?_); rintro e9 w1 ⟨⟨v, rfl, ho⟩, hb1⟩; have HB1 := Lib.hid (HB0.out.trans (hb1.mono HB0.out.size)); dsimp only at ho; obtain ⟨x1, y1, rfl, _, _⟩ := own_slice ho; clear hb1 ho))
    go_ret
    exact ⟨rfl, HB1.out⟩
/-- Whether a node is right, of a depth, with kids that are or not. -/
def rightT (d : Nat) (x : Nd) (b : Bool) : Bool :=
  if x.po < 0 then false
  else if x.kd = 3 then (decide (x.ki = 0) && wordB x.tx)
  else if x.kd = 4 then (decide (x.ki = 0) && !oddT x.tx)
  else if x.kd = 5 then (decide (x.tx = emp) && decide (d ≤ 20) && b)
  else false
def rightF : Nat → Fo → Bool
  | _, .nil => true
  | d, .cons x k r => rightT d x (rightF (d + 1) k) && rightF d r
/-- Boxes of the closure: what has been found, the nodes, the depth. -/
structure CP (w0 : World) (B X3 X5 X8 : Nat) (s : Value) (d : Nat) (c : Bool) (w : World) : Prop where
  b8 : Blk w X8 4 [.bool c]
  b3 : Blk w X3 22 [s]
  b5 : Blk w X5 3 [.int .i64 (d : Int)]
  n3 : X8 ≠ X3
  n5 : X8 ≠ X5
  le : B ≤ X8
  f : Below B w0 w
  hB : B ≤ w.heap.size
theorem CP.below {w0 w w' : World} {B X3 X5 X8 d : Nat} {s : Value} {c : Bool} (h : CP w0 B X3 X5 X8 s d c w) (hb : Below w.heap.size w w') : CP w0 B X3 X5 X8 s d c w' :=
  ⟨h.b8.below hb, h.b3.below hb, h.b5.below hb, h.n3, h.n5, h.le, h.f.trans (hb.mono h.hB), Nat.le_trans h.hB hb.size⟩
theorem CP.set {w0 w : World} {B X3 X5 X8 d : Nat} {s : Value} {c : Bool} (h : CP w0 B X3 X5 X8 s d c w) (c' : Bool) : CP w0 B X3 X5 X8 s d c' (w.setCell ⟨X8, 0, none⟩ (.bool c')) :=
  ⟨h.b8.set 0 _, h.b3.other (by exact h.n3.symm) _, h.b5.other (by exact h.n5.symm) _, h.n3, h.n5, h.le, h.f.setCell h.le _, by rw [show (w.setCell ⟨X8, 0, none⟩ (.bool c')).heap.size = w.heap.size by simp]; exact h.hB⟩
set_option maxRecDepth 100000 in
set_option maxHeartbeats 2000000 in
theorem rt1_any (w0 : World) (B X3 X5 X8 d : Nat) (s : Value) (c : Bool) (i : Nat) (R : Bool) (w : World) (h : CP w0 B X3 X5 X8 s d c w) (hd : c = true → d ≤ 20)
    (hIH : d ≤ 20 → ∀ V : World, Below w.heap.size w V → Calls Try.prog 24 #[s, .int .i64 (i : Int), .int .i64 ((d : Int) + 1)] V fun e w' => e = .returned (.bool R) ∧ Below V.heap.size V w') :
    Calls Try.prog 38 #[.int .i64 (i : Int), .pointer (some ⟨X8, 0, none⟩), .pointer (some ⟨X3, 0, none⟩), .pointer (some ⟨X5, 0, none⟩)] w fun e w' => e = .returned (.tuple #[]) ∧ CP w0 B X3 X5 X8 s d (c && R) w' := by
  have c8 := h.b8.cell 0
  have c3 := h.b3.cell 0
  have c5 := h.b5.cell 0
  have f8 := h.b8.frozen 0
  have l8 := h.b8.lt
  have l3 := h.b3.lt
  have l5 := h.b5.lt
  dsimp only [List.getElem?_cons_zero] at c8 c3 c5
  have HH := Lib.hid h
  cases c with
  | false =>
    clear h hd hIH
    go_enter Try.func38, Try.ntmps38
    go_wp2
    go_end0
    exact ⟨rfl, HH.out.set false⟩
  | true =>
    have hd20 := hd rfl
    have HI := Lib.hid (hIH hd20)
    clear h hd hIH
    go_enter Try.func38, Try.ntmps38
    go_wp2_with (go_at_call 24; (with_reducible refine (HI.out _ (Below.refl _ _)).mono ?_); rintro e w1 ⟨rfl, hb1⟩; have HH1 := Lib.hid (HH.out.below hb1); have l81 := HH1.out.b8.lt; have f81 := HH1.out.b8.frozen 0; have c81 := HH1.out.b8.cell 0; dsimp only [List.getElem?_cons_zero] at c81; clear hb1)
    go_end0
    exact ⟨rfl, HH1.out.set R⟩
end Go.Proofs.Ytlndfognkkobaaa
