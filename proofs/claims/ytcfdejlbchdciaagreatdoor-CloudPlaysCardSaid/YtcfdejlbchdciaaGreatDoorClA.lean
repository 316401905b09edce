/-
  A provider of right groups, and what is asked of it: made, ask; things that are to be done, as they came in.
-/
import Derived.Test.YtcfdejlbchdciaaGreatDoorClKn
import Derived.Test.YtcfdejlbchdciaaGreatDoorGLaid
import Derived.Test.YtcfdejlbchdciaaGreatDoorMA
namespace Go.Proofs.YtcfdejlbchdciaaGreatDoor
open Go.ChangeShapes Go.WideShapes Go.ChangeAt Go.RowKit
set_option linter.unusedVariables false
set_option linter.unusedSimpArgs false

structure Opn where
  k : Int
  nm : ByteArray
  gp : ByteArray
  n : Int
  is : Bool
def oprow (o : Opn) : List Value := [.int .i64 o.k, .string o.nm, .string o.gp, .int .i64 o.n, .bool o.is]
abbrev OpL := RowsAt oprow 5
theorem oprow_len (o : Opn) : (oprow o).length = 5 := rfl
theorem oprow_cells {w : World} {b o : Nat} {x : Opn} (h : ∀ r, r < 5 → w.cell? ⟨b, o + r, none⟩ = (oprow x)[r]?) :
    w.cell? ⟨b, o, none⟩ = some (.int .i64 x.k) ∧ w.cell? ⟨b, o + 1, none⟩ = some (.string x.nm) ∧ w.cell? ⟨b, o + 2, none⟩ = some (.string x.gp) ∧ w.cell? ⟨b, o + 3, none⟩ = some (.int .i64 x.n) ∧ w.cell? ⟨b, o + 4, none⟩ = some (.bool x.is) :=
  ⟨h 0 (by decide), h 1 (by decide), h 2 (by decide), h 3 (by decide), h 4 (by decide)⟩
def OpIn (w : World) (o : Opn) : Prop := -9223372036854775808 ≤ o.n ∧ o.n ≤ 9223372036854775807
theorem Tryz.cells36 : Tryz.prog.cellsOf 36 = 5 := by kernel_rfl
theorem cells_bool : Tryz.prog.cellsOf 4 = 1 := by kernel_rfl
set_option maxRecDepth 100000 in
theorem op_open {H : Type} {enc : TypeId × Value → H} {W : World} {fuel : Nat} {cs : List Value} {y : DataW H × List MemPlace} (hl : cs.length = 5)
    (h : DataW.trod enc Tryz.prog W 0 (fun _ => true) true fuel 36 cs = some y) : ∃ x : Opn, cs = oprow x ∧ OpIn W x := by
  obtain ⟨xs, n, _, hx, _, hlen, hg⟩ := DataW.trod_struct Tryz.underlying36 h
  match cs, hl with
  | [c0, c1, c2, c3, c4], _ =>
    match xs, hlen with
    | [y0, y1, y2, y3, y4], _ =>
      have g0 := hg 0 _ rfl
      have g1 := hg 1 _ rfl
      have g2 := hg 2 _ rfl
      have g3 := hg 3 _ rfl
      have g4 := hg 4 _ rfl
      obtain ⟨n0, q0, _⟩ := DataW.trod_int Tryz.underlying3 g0
      obtain ⟨s1, q1, _⟩ := DataW.trod_string Tryz.underlying9 g1
      obtain ⟨s2, q2, _⟩ := DataW.trod_string Tryz.underlying9 g2
      obtain ⟨n3, q3, _, w3⟩ := DataW.trod_int Tryz.underlying3 g3
      obtain ⟨b4, q4, _⟩ := DataW.trod_bool Tryz.underlying4 g4
      simp [cells_int, cells_bool, Tryz.cells9] at q0 q1 q2 q3 q4
      refine ⟨⟨n0, s1, s2, n3, b4⟩, by rw [q0, q1, q2, q3, q4]; rfl, ?_⟩
      simpa [OpIn, Lit.wf, IntKind.min, IntKind.max, IntKind.signed, IntKind.bits] using w3
set_option maxRecDepth 100000 in
theorem open_ops {H : Type} {enc : TypeId × Value → H} {W : World} {base : Nat} {v : Value} {d : DataW H} {p : List MemPlace}
    (hv : Value.okWide Tryz.prog W .any base 23 v) (h : DataW.Trod enc Tryz.prog W 0 (fun _ => true) true 23 v d p) :
    ∃ (a : Option Addr) (l : List Opn) (k : Nat), v = .slice a l.length k ∧ NilOk a l.length k ∧ OpL W a l ∧ l.length ≤ maxLen ∧ l.length ≤ k ∧ ∀ x ∈ l, OpIn W x :=
  open_list_in (In := OpIn) Tryz.underlying23 Tryz.cells36 (by decide) (fun cs fuel y hl hy => op_open hl hy) hv h

end Go.Proofs.YtcfdejlbchdciaaGreatDoor
