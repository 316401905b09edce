/-
  Instances that came in.
-/
import Derived.Test.YtaipiflbigpniaaLd4
import Derived.Test.YtaipiflbigpniaaMacO
namespace Go.Proofs.Ytaipiflbigpniaa
open Go.ChangeShapes Go.WideShapes Go.ChangeAt Go.RowKit
set_option linter.unusedVariables false
set_option linter.unusedSimpArgs false

theorem Try.cells58 : Try.prog.cellsOf 58 = 5 := by kernel_rfl
set_option maxRecDepth 100000 in
theorem ins_open {H : Type} {enc : TypeId × Value → H} {W : World} {fuel : Nat} {cs : List Value} {y : DataW H × List MemPlace} (hl : cs.length = 5)
    (h : DataW.trod enc Try.prog W 0 (fun _ => true) true fuel 58 cs = some y) : ∃ x : Ins, cs = irow x := by
  obtain ⟨xs, n, _, hx, _, hlen, hg⟩ := DataW.trod_struct Try.underlying58 h
  match cs, hl with
  | [c0, c1, c2, c3, c4], _ =>
    match xs, hlen with
    | [y0, y1, y2, y3, y4], _ =>
      have g0 := hg 0 _ rfl
      have g1 := hg 1 _ rfl
      have g2 := hg 2 _ rfl
      have g3 := hg 3 _ rfl
      have g4 := hg 4 _ rfl
      obtain ⟨s0, q0, _⟩ := DataW.trod_string Try.underlying9 g0
      obtain ⟨s1, q1, _⟩ := DataW.trod_string Try.underlying9 g1
      obtain ⟨n2, q2, _⟩ := DataW.trod_int Try.underlying3 g2
      obtain ⟨n3, q3, _⟩ := DataW.trod_int Try.underlying3 g3
      obtain ⟨n4, q4, _⟩ := DataW.trod_int Try.underlying3 g4
      simp [cells_int, Try.cells9] at q0 q1 q2 q3 q4
      exact ⟨⟨s0, s1, n2, n3, n4⟩, by rw [q0, q1, q2, q3, q4]; rfl⟩
set_option maxRecDepth 100000 in
theorem open_ins {H : Type} {enc : TypeId × Value → H} {W : World} {base : Nat} {v : Value} {d : DataW H} {p : List MemPlace}
    (hv : Value.okWide Try.prog W .any base 35 v) (h : DataW.Trod enc Try.prog W 0 (fun _ => true) true 35 v d p) :
    ∃ (a : Option Addr) (l : List Ins) (k : Nat), v = .slice a l.length k ∧ NilOk a l.length k ∧ InsL W a l ∧ l.length ≤ maxLen ∧ l.length ≤ k :=
  open_list Try.underlying35 Try.cells58 (by decide) (fun cs fuel y hl hy => ins_open hl hy) hv h
end Go.Proofs.Ytaipiflbigpniaa
