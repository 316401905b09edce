/-
  Events that came in.
-/
import Derived.Test.YtaehcnoendieaaaDoorTcZ
namespace Go.Proofs.YtaehcnoendieaaaDoor
open Go.ChangeShapes Go.WideShapes Go.ChangeAt Go.RowKit
set_option linter.unusedVariables false
set_option linter.unusedSimpArgs false

theorem Tryd.cells39 : Tryd.prog.cellsOf 39 = 4 := by kernel_rfl
theorem tc_cells_int : Tryd.prog.cellsOf 3 = 1 := by kernel_rfl
theorem tc_cells_str : Tryd.prog.cellsOf 9 = 1 := by kernel_rfl
set_option maxRecDepth 100000 in
theorem ev_open {H : Type} {enc : TypeId × Value → H} {W : World} {fuel : Nat} {cs : List Value} {y : DataW H × List MemPlace} (hl : cs.length = 4)
    (h : DataW.trod enc Tryd.prog W 0 (fun _ => true) true fuel 39 cs = some y) : ∃ x : Ev, cs = evrow x := by
  obtain ⟨xs, n, _, hx, _, hlen, hg⟩ := DataW.trod_struct Tryd.underlying39 h
  match cs, hl with
  | [c0, c1, c2, c3], _ =>
    match xs, hlen with
    | [y0, y1, y2, y3], _ =>
      have g0 := hg 0 _ rfl
      have g1 := hg 1 _ rfl
      have g2 := hg 2 _ rfl
      have g3 := hg 3 _ rfl
      obtain ⟨n0, q0, _⟩ := DataW.trod_int Tryd.underlying3 g0
      obtain ⟨s1, q1, _⟩ := DataW.trod_string Tryd.underlying9 g1
      obtain ⟨s2, q2, _⟩ := DataW.trod_string Tryd.underlying9 g2
      obtain ⟨n3, q3, _⟩ := DataW.trod_int Tryd.underlying3 g3
      simp [tc_cells_int, tc_cells_str] at q0 q1 q2 q3
      exact ⟨⟨n0, s1, s2, n3⟩, by rw [q0, q1, q2, q3]; rfl⟩
set_option maxRecDepth 100000 in
theorem open_evs {H : Type} {enc : TypeId × Value → H} {W : World} {base : Nat} {v : Value} {d : DataW H} {p : List MemPlace}
    (hv : Value.okWide Tryd.prog W .any base 27 v) (h : DataW.Trod enc Tryd.prog W 0 (fun _ => true) true 27 v d p) :
    ∃ (a : Option Addr) (l : List Ev) (k : Nat), v = .slice a l.length k ∧ NilOk a l.length k ∧ EvL W a l ∧ l.length ≤ maxLen ∧ l.length ≤ k :=
  open_list Tryd.underlying27 Tryd.cells39 (by decide) (fun cs fuel y hl hy => ev_open hl hy) hv h
end Go.Proofs.YtaehcnoendieaaaDoor
