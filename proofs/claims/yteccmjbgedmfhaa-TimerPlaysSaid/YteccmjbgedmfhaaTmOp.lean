/-
  Lists of texts, and scripts of layer 27, that came in.
-/
import Derived.Test.YteccmjbgedmfhaaNest
import Derived.Test.YteccmjbgedmfhaaTxtL
import Derived.Test.YteccmjbgedmfhaaFrame
import Derived.Test.YteccmjbgedmfhaaOpen
namespace Go.Proofs.Yteccmjbgedmfhaa
open Go.ChangeShapes Go.WideShapes Go.ChangeAt Go.RowKit
set_option linter.unusedVariables false
set_option linter.unusedSimpArgs false

theorem cells_int : Try.prog.cellsOf 3 = 1 := by kernel_rfl
theorem cells_str : Try.prog.cellsOf 9 = 1 := by kernel_rfl
theorem cells_strs : Try.prog.cellsOf 29 = 1 := by kernel_rfl
theorem cells_op : Try.prog.cellsOf 31 = 4 := by kernel_rfl
theorem txt_open {H : Type} {enc : TypeId × Value → H} {W : World} {fuel : Nat} {cs : List Value} {y : DataW H × List MemPlace} (hl : cs.length = 1)
    (h : DataW.trod enc Try.prog W 0 (fun _ => true) true fuel 9 cs = some y) : ∃ x : ByteArray, cs = scs x := by
  obtain ⟨s, q, _⟩ := DataW.trod_string Try.underlying9 h
  exact ⟨s, q⟩
theorem open_strs {H : Type} {enc : TypeId × Value → H} {W : World} {base : Nat} {v : Value} {d : DataW H} {p : List MemPlace}
    (hv : Value.okWide Try.prog W .any base 29 v) (h : DataW.Trod enc Try.prog W 0 (fun _ => true) true 29 v d p) :
    ∃ (a : Option Addr) (l : List ByteArray) (k : Nat), v = .slice a l.length k ∧ NilOk a l.length k ∧ TxtL W a l ∧ l.length ≤ maxLen ∧ l.length ≤ k :=
  open_list Try.underlying29 cells_str (by decide) (fun cs fuel y hl hy => txt_open hl hy) hv h
structure Opn where
  kd : Int
  ad : Option Addr
  cp : Nat
  nm : List ByteArray
  nw : Int
  lg : Int
def oprow (x : Opn) : List Value := [.int .i64 x.kd, .slice x.ad x.nm.length x.cp, .int .i64 x.nw, .int .i64 x.lg]
/-- An operation that came in, its names lie there. -/
abbrev OpIn (W : World) := { x : Opn // TxtL W x.ad x.nm }
def opcells {W : World} (x : OpIn W) : List Value := oprow x.1
abbrev OpL (W : World) := RowsAt (opcells (W := W)) 4 W
theorem op_cells {W w : World} {b o : Nat} {x : OpIn W} (h : ∀ r, r < 4 → w.cell? ⟨b, o + r, none⟩ = (opcells x)[r]?) :
    w.cell? ⟨b, o, none⟩ = some (.int .i64 x.1.kd) ∧ w.cell? ⟨b, o + 1, none⟩ = some (.slice x.1.ad x.1.nm.length x.1.cp) ∧ w.cell? ⟨b, o + 2, none⟩ = some (.int .i64 x.1.nw) ∧ w.cell? ⟨b, o + 3, none⟩ = some (.int .i64 x.1.lg) :=
  ⟨h 0 (by decide), h 1 (by decide), h 2 (by decide), h 3 (by decide)⟩
set_option maxRecDepth 100000 in
theorem op_open {H : Type} {enc : TypeId × Value → H} {W : World} {fuel : Nat} {cs : List Value} {y : DataW H × List MemPlace} (hl : cs.length = 4)
    (h : DataW.trod enc Try.prog W 0 (fun _ => true) true fuel 31 cs = some y) : ∃ x : OpIn W, cs = opcells x := by
  obtain ⟨xs, n, _, hx, _, hlen, hg⟩ := DataW.trod_struct Try.underlying31 h
  match cs, hl with
  | [c0, c1, c2, c3], _ =>
    match xs, hlen with
    | [y0, y1, y2, y3], _ =>
      have g0 := hg 0 _ rfl
      have g1 := hg 1 _ rfl
      have g2 := hg 2 _ rfl
      have g3 := hg 3 _ rfl
      obtain ⟨n0, q0, _⟩ := DataW.trod_int Try.underlying3 g0
      obtain ⟨n2, q2, _⟩ := DataW.trod_int Try.underlying3 g2
      obtain ⟨n3, q3, _⟩ := DataW.trod_int Try.underlying3 g3
      simp [cells_int, cells_strs] at q0 q2 q3 g1
      obtain ⟨a, len, cap, rfl⟩ : ∃ a len cap, c1 = .slice a len cap := by
        rcases Go.Deep.open_slice Try.underlying29 g1 with ⟨hcs, _⟩ | ⟨a', len', cap', m, n, D, Pl, hcs, _⟩
        · exact ⟨none, 0, 0, by simpa using hcs⟩
        · exact ⟨_, _, _, by simpa using hcs⟩
      obtain ⟨l, hl1, hl2, hl3⟩ := open_nested (K := 1) (enc := scs) Try.underlying29 cells_str (by decide) (fun cs fuel y hl h => txt_open hl h) g1
      refine ⟨⟨⟨n0, a, cap, l, n2, n3⟩, hl2⟩, ?_⟩
      show [c0, _, c2, c3] = _
      rw [q0, q2, q3]
      unfold opcells oprow
      rw [hl1]
set_option maxRecDepth 100000 in
theorem open_ops {H : Type} {enc : TypeId × Value → H} {W : World} {base : Nat} {v : Value} {d : DataW H} {p : List MemPlace}
    (hv : Value.okWide Try.prog W .any base 22 v) (h : DataW.Trod enc Try.prog W 0 (fun _ => true) true 22 v d p) :
    ∃ (a : Option Addr) (l : List (OpIn W)) (k : Nat), v = .slice a l.length k ∧ NilOk a l.length k ∧ OpL W a l ∧ l.length ≤ maxLen ∧ l.length ≤ k :=
  open_list Try.underlying22 cells_op (by decide) (fun cs fuel y hl hy => op_open hl hy) hv h
end Go.Proofs.Yteccmjbgedmfhaa
