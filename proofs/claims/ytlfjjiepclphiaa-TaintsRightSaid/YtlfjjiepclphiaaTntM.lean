/-
  Taints and tolerations that came in.
-/
import Derived.Test.YtlfjjiepclphiaaTntL
namespace Go.Proofs.Ytlfjjiepclphiaa
open Go.ChangeShapes Go.WideShapes Go.ChangeAt Go.RowKit
set_option linter.unusedVariables false

theorem Try.cells30 : Try.prog.cellsOf 30 = 3 := by kernel_rfl
theorem Try.cells25 : Try.prog.cellsOf 25 = 4 := by kernel_rfl
theorem Try.cells3 : Try.prog.cellsOf 3 = 1 := by kernel_rfl
theorem Try.cells9 : Try.prog.cellsOf 9 = 1 := by kernel_rfl
theorem Try.cells4 : Try.prog.cellsOf 4 = 1 := by kernel_rfl

theorem tnt_open {H : Type} {enc : TypeId × Value → H} {W : World} {fuel : Nat} {cs : List Value} {y : DataW H × List MemPlace} (hl : cs.length = 3)
    (h : DataW.trod enc Try.prog W 0 (fun _ => true) true fuel 30 cs = some y) : ∃ x : Tnt, cs = tcs x := by
  obtain ⟨xs, n, _, hx, _, hlen, hg⟩ := DataW.trod_struct Try.underlying30 h
  match cs, hl with
  | [c0, c1, c2], _ =>
    match xs, hlen with
    | [y0, y1, y2], _ =>
      have g0 := hg 0 _ rfl
      have g1 := hg 1 _ rfl
      have g2 := hg 2 _ rfl
      obtain ⟨s0, q0, _⟩ := DataW.trod_string Try.underlying9 g0
      obtain ⟨s1, q1, _⟩ := DataW.trod_string Try.underlying9 g1
      obtain ⟨n2, q2, _⟩ := DataW.trod_int Try.underlying3 g2
      simp [Try.cells3, Try.cells9] at q0 q1 q2
      exact ⟨⟨s0, s1, n2⟩, by rw [q0, q1, q2]; rfl⟩
theorem tol_open {H : Type} {enc : TypeId × Value → H} {W : World} {fuel : Nat} {cs : List Value} {y : DataW H × List MemPlace} (hl : cs.length = 4)
    (h : DataW.trod enc Try.prog W 0 (fun _ => true) true fuel 25 cs = some y) : ∃ x : Tol, cs = ocs x := by
  obtain ⟨xs, n, _, hx, _, hlen, hg⟩ := DataW.trod_struct Try.underlying25 h
  match cs, hl with
  | [c0, c1, c2, c3], _ =>
    match xs, hlen with
    | [y0, y1, y2, y3], _ =>
      have g0 := hg 0 _ rfl
      have g1 := hg 1 _ rfl
      have g2 := hg 2 _ rfl
      have g3 := hg 3 _ rfl
      obtain ⟨s0, q0, _⟩ := DataW.trod_string Try.underlying9 g0
      obtain ⟨s1, q1, _⟩ := DataW.trod_string Try.underlying9 g1
      obtain ⟨b2, q2, _⟩ := DataW.trod_bool Try.underlying4 g2
      obtain ⟨n3, q3, _⟩ := DataW.trod_int Try.underlying3 g3
      simp [Try.cells3, Try.cells9, Try.cells4] at q0 q1 q2 q3
      exact ⟨⟨s0, s1, b2, n3⟩, by rw [q0, q1, q2, q3]; rfl⟩

theorem open_tnts {H : Type} {enc : TypeId × Value → H} {W : World} {base : Nat} {v : Value} {d : DataW H} {p : List MemPlace}
    (hv : Value.okWide Try.prog W .any base 23 v) (h : DataW.Trod enc Try.prog W 0 (fun _ => true) true 23 v d p) :
    ∃ (a : Option Addr) (l : List Tnt) (k : Nat), v = .slice a l.length k ∧ NilOk a l.length k ∧ TntsAt W a l ∧ l.length ≤ maxLen ∧ l.length ≤ k :=
  open_list Try.underlying23 Try.cells30 (by decide) (fun cs fuel y hl h => tnt_open hl h) hv h
theorem open_tols {H : Type} {enc : TypeId × Value → H} {W : World} {base : Nat} {v : Value} {d : DataW H} {p : List MemPlace}
    (hv : Value.okWide Try.prog W .any base 22 v) (h : DataW.Trod enc Try.prog W 0 (fun _ => true) true 22 v d p) :
    ∃ (a : Option Addr) (l : List Tol) (k : Nat), v = .slice a l.length k ∧ NilOk a l.length k ∧ TolsAt W a l ∧ l.length ≤ maxLen ∧ l.length ≤ k :=
  open_list Try.underlying22 Try.cells25 (by decide) (fun cs fuel y hl h => tol_open hl h) hv h
theorem open_tnt {H : Type} {enc : TypeId × Value → H} {W : World} {base : Nat} {v : Value} {d : DataW H} {p : List MemPlace}
    (hv : Value.okWide Try.prog W .any base 30 v) (h : DataW.Trod enc Try.prog W 0 (fun _ => true) true 30 v d p) :
    ∃ x : Tnt, v = .agg #[.string (x).key, .string (x).val, .int .i64 (x).eff] := by
  obtain ⟨cs, rfl, hsz⟩ := okWide_struct Try.underlying30 hv
  rw [Try.cells30] at hsz
  obtain ⟨fuel, hf⟩ := h
  obtain ⟨l⟩ := cs
  obtain ⟨o, ho⟩ := tnt_open (cs := l) hsz hf
  exact ⟨o, by rw [ho]; rfl⟩
theorem open_tol {H : Type} {enc : TypeId × Value → H} {W : World} {base : Nat} {v : Value} {d : DataW H} {p : List MemPlace}
    (hv : Value.okWide Try.prog W .any base 25 v) (h : DataW.Trod enc Try.prog W 0 (fun _ => true) true 25 v d p) :
    ∃ x : Tol, v = .agg #[.string (x).key, .string (x).val, .bool (x).any, .int .i64 (x).eff] := by
  obtain ⟨cs, rfl, hsz⟩ := okWide_struct Try.underlying25 hv
  rw [Try.cells25] at hsz
  obtain ⟨fuel, hf⟩ := h
  obtain ⟨l⟩ := cs
  obtain ⟨o, ho⟩ := tol_open (cs := l) hsz hf
  exact ⟨o, by rw [ho]; rfl⟩
end Go.Proofs.Ytlfjjiepclphiaa
