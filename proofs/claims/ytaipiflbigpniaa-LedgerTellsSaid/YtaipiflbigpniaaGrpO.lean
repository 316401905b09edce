/-
  Groups that came in, as lists.
-/
import Derived.Test.YtaipiflbigpniaaMacO
namespace Go.Proofs.Ytaipiflbigpniaa
open Go.ChangeShapes Go.WideShapes Go.ChangeAt Go.RowKit
set_option linter.unusedVariables false
set_option linter.unusedSimpArgs false

theorem Try.cells44 : Try.prog.cellsOf 44 = 15 := by kernel_rfl
structure Gp where
  nm : ByteArray
  mn : Int
  mx : Int
  like : Mac
  pr : Int
  rk : Int
def grow (g : Gp) : List Value := [.string g.nm, .int .i64 g.mn, .int .i64 g.mx] ++ mrow g.like ++ [.int .i64 g.pr, .int .i64 g.rk]
set_option maxRecDepth 100000 in
theorem grp_open {H : Type} {enc : TypeId × Value → H} {W : World} {fuel : Nat} {cs : List Value} {y : DataW H × List MemPlace} (hl : cs.length = 15)
    (h : DataW.trod enc Try.prog W 0 (fun _ => true) true fuel 44 cs = some y) : ∃ g : Gp, cs = grow g ∧ MacIn W g.like := by
  obtain ⟨xs, n, _, hx, _, hlen, hg⟩ := DataW.trod_struct Try.underlying44 h
  match cs, hl with
  | [c0, c1, c2, c3, c4, c5, c6, c7, c8, c9, c10, c11, c12, c13, c14], _ =>
    match xs, hlen with
    | [y0, y1, y2, y3, y4, y5], _ =>
      have g0 := hg 0 _ rfl
      have g1 := hg 1 _ rfl
      have g2 := hg 2 _ rfl
      have g3 := hg 3 _ rfl
      have g4 := hg 4 _ rfl
      have g5 := hg 5 _ rfl
      obtain ⟨s0, q0, _⟩ := DataW.trod_string Try.underlying9 g0
      obtain ⟨n1, q1, _⟩ := DataW.trod_int Try.underlying3 g1
      obtain ⟨n2, q2, _⟩ := DataW.trod_int Try.underlying3 g2
      obtain ⟨n4, q4, _⟩ := DataW.trod_int Try.underlying3 g4
      obtain ⟨n5, q5, _⟩ := DataW.trod_int Try.underlying3 g5
      simp [cells_int, Try.cells9, Try.cells42] at q0 q1 q2 q4 q5 g3
      obtain ⟨m, hm, hA⟩ := mac_open rfl g3
      have e : [c3, c4, c5, c6, c7, c8, c9, c10, c11, c12] = mrow m := hm
      refine ⟨⟨s0, n1, n2, m, n4, n5⟩, ?_, hA⟩
      show [c0, c1, c2] ++ [c3, c4, c5, c6, c7, c8, c9, c10, c11, c12] ++ [c13, c14] = _
      rw [e, q0, q1, q2, q4, q5]
      rfl
abbrev GpL := RowsAt grow 15
set_option maxRecDepth 100000 in
theorem open_grps {H : Type} {enc : TypeId × Value → H} {W : World} {base : Nat} {v : Value} {d : DataW H} {p : List MemPlace}
    (hv : Value.okWide Try.prog W .any base 22 v) (h : DataW.Trod enc Try.prog W 0 (fun _ => true) true 22 v d p) :
    ∃ (a : Option Addr) (l : List Gp) (k : Nat), v = .slice a l.length k ∧ NilOk a l.length k ∧ GpL W a l ∧ l.length ≤ maxLen ∧ l.length ≤ k ∧ ∀ x ∈ l, MacIn W x.like :=
  open_list_in (In := fun w (g : Gp) => MacIn w g.like) Try.underlying22 Try.cells44 (by decide) (fun cs fuel y hl hy => grp_open hl hy) hv h
set_option maxRecDepth 100000 in
theorem open_grp {H : Type} {enc : TypeId × Value → H} {W : World} {base : Nat} {v : Value} {d : DataW H} {p : List MemPlace}
    (hv : Value.okWide Try.prog W .any base 44 v) (h : DataW.Trod enc Try.prog W 0 (fun _ => true) true 44 v d p) :
    ∃ g : Gp, v = .agg (grow g).toArray ∧ MacIn W g.like := by
  obtain ⟨cs, rfl, hsz⟩ := okWide_struct Try.underlying44 hv
  rw [Try.cells44] at hsz
  obtain ⟨fuel, hf⟩ := h
  obtain ⟨l⟩ := cs
  obtain ⟨m, hm, hA⟩ := grp_open (cs := l) hsz hf
  exact ⟨m, by rw [hm], hA⟩
end Go.Proofs.Ytaipiflbigpniaa
