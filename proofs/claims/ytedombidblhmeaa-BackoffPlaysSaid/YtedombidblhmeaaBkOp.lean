/-
  Scripts of layer 24 that came in.
-/
import Derived.Test.YtedombidblhmeaaBk3
import Derived.Test.YtedombidblhmeaaFrame
namespace Go.Proofs.Ytedombidblhmeaa
open Go.ChangeShapes Go.WideShapes Go.ChangeAt Go.RowKit
set_option linter.unusedVariables false

structure Opn where
  kd : Int
  gp : ByteArray
  nw : Int
def oprow (x : Opn) : List Value := [.int .i64 x.kd, .string x.gp, .int .i64 x.nw]
abbrev OpL := RowsAt oprow 3
theorem op_cells {w : World} {b o : Nat} {x : Opn} (h : ∀ r, r < 3 → w.cell? ⟨b, o + r, none⟩ = (oprow x)[r]?) :
    w.cell? ⟨b, o, none⟩ = some (.int .i64 x.kd) ∧ w.cell? ⟨b, o + 1, none⟩ = some (.string x.gp) ∧ w.cell? ⟨b, o + 2, none⟩ = some (.int .i64 x.nw) :=
  ⟨h 0 (by decide), h 1 (by decide), h 2 (by decide)⟩
theorem cells_op : Try.prog.cellsOf 32 = 3 := by kernel_rfl
theorem cells_int : Try.prog.cellsOf 3 = 1 := by kernel_rfl
theorem cells_str : Try.prog.cellsOf 9 = 1 := by kernel_rfl
set_option maxRecDepth 100000 in
theorem op_open {H : Type} {enc : TypeId × Value → H} {W : World} {fuel : Nat} {cs : List Value} {y : DataW H × List MemPlace} (hl : cs.length = 3)
    (h : DataW.trod enc Try.prog W 0 (fun _ => true) true fuel 32 cs = some y) : ∃ x : Opn, cs = oprow x := by
  obtain ⟨xs, n, _, hx, _, hlen, hg⟩ := DataW.trod_struct Try.underlying32 h
  match cs, hl with
  | [c0, c1, c2], _ =>
    match xs, hlen with
    | [y0, y1, y2], _ =>
      have g0 := hg 0 _ rfl
      have g1 := hg 1 _ rfl
      have g2 := hg 2 _ rfl
      obtain ⟨n0, q0, _⟩ := DataW.trod_int Try.underlying3 g0
      obtain ⟨s1, q1, _⟩ := DataW.trod_string Try.underlying9 g1
      obtain ⟨n2, q2, _⟩ := DataW.trod_int Try.underlying3 g2
      simp [cells_int, cells_str] at q0 q1 q2
      exact ⟨⟨n0, s1, n2⟩, by rw [q0, q1, q2]; rfl⟩
set_option maxRecDepth 100000 in
theorem open_ops {H : Type} {enc : TypeId × Value → H} {W : World} {base : Nat} {v : Value} {d : DataW H} {p : List MemPlace}
    (hv : Value.okWide Try.prog W .any base 23 v) (h : DataW.Trod enc Try.prog W 0 (fun _ => true) true 23 v d p) :
    ∃ (a : Option Addr) (l : List Opn) (k : Nat), v = .slice a l.length k ∧ NilOk a l.length k ∧ OpL W a l ∧ l.length ≤ maxLen ∧ l.length ≤ k :=
  open_list Try.underlying23 cells_op (by decide) (fun cs fuel y hl hy => op_open hl hy) hv h
theorem str_eq {a b : ByteArray} (h : a = b) : (a.toList == b.toList) = true := by rw [h]; simp
theorem str_ne {a b : ByteArray} (h : ¬ a = b) : (a.toList == b.toList) = false := by
  rw [beq_eq_false_iff_ne]
  intro e
  rw [ByteArray.toList_eq, ByteArray.toList_eq] at e
  exact h (ByteArray.ext (Array.toList_inj.1 e))
end Go.Proofs.Ytedombidblhmeaa
