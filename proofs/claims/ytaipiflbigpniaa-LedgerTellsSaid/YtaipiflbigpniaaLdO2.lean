/-
  Lists of lists of instances that came in.
-/
import Derived.Test.YtaipiflbigpniaaLdO
import Derived.Test.YtaipiflbigpniaaLdL
import Derived.Test.YtaipiflbigpniaaNest
namespace Go.Proofs.Ytaipiflbigpniaa
open Go.ChangeShapes Go.WideShapes Go.ChangeAt Go.RowKit
set_option linter.unusedVariables false
set_option linter.unusedSimpArgs false

/-- A list of instances that came in. -/
abbrev SlIn (W : World) := { x : Sl // InsL W x.c x.L ∧ x.L.length ≤ maxLen }
def slin {W : World} (x : SlIn W) : List Value := slr x.1
theorem cells_sl : Try.prog.cellsOf 35 = 1 := by kernel_rfl
theorem sl_open {H : Type} {enc : TypeId × Value → H} {W : World} {fuel : Nat} {cs : List Value} {y : DataW H × List MemPlace} (hl : cs.length = 1)
    (h : DataW.trod enc Try.prog W 0 (fun _ => true) true fuel 35 cs = some y) : ∃ x : SlIn W, cs = slin x := by
  obtain ⟨a, len, cap, rfl⟩ : ∃ a len cap, cs = [.slice a len cap] := by
    rcases Go.Deep.open_slice Try.underlying35 h with ⟨hcs, _⟩ | ⟨a', len', cap', m, n, D, Pl, hcs, _⟩
    · exact ⟨none, 0, 0, hcs⟩
    · exact ⟨_, _, _, hcs⟩
  obtain ⟨l, hl1, hl2, hl3⟩ := open_nested (K := 5) (enc := irow) Try.underlying35 Try.cells58 (by decide) (fun cs fuel y hl h => ins_open hl h) h
  exact ⟨⟨⟨a, cap, l⟩, hl2, by show l.length ≤ _; omega⟩, by show _ = [Value.slice a l.length cap]; rw [hl1]⟩
theorem rows_map {α β : Type} {f : α → β} {enc : β → List Value} {K : Nat} {w : World} {a : Option Addr} {l : List α} (h : RowsAt (fun x => enc (f x)) K w a l) : RowsAt enc K w a (l.map f) := fun hp => by
  obtain ⟨b, off, e, hb, hc⟩ := h (by simpa using hp)
  refine ⟨b, off, e, hb, fun i x hx r hr => ?_⟩
  rw [List.getElem?_map] at hx
  cases hy : l[i]? with
  | none => rw [hy] at hx; cases hx
  | some y =>
    rw [hy] at hx
    obtain rfl : f y = x := by simpa using hx
    exact hc i y hy r hr
theorem open_sls {H : Type} {enc : TypeId × Value → H} {W : World} {base : Nat} {v : Value} {d : DataW H} {p : List MemPlace}
    (hv : Value.okWide Try.prog W .any base 23 v) (h : DataW.Trod enc Try.prog W 0 (fun _ => true) true 23 v d p) :
    ∃ (a : Option Addr) (l : List Sl) (k : Nat), v = .slice a l.length k ∧ SlL W a l ∧ (∀ x ∈ l, InsL W x.c x.L ∧ x.L.length ≤ maxLen) ∧ l.length ≤ maxLen := by
  obtain ⟨a, l, k, e, _, hF, hm, _⟩ := open_list (α := SlIn W) (enc := slin) (K := 1) Try.underlying23 cells_sl (by decide) (fun cs fuel y hl hy => sl_open hl hy) hv h
  refine ⟨a, l.map (·.1), k, by rw [List.length_map]; exact e, rows_map (f := fun x : SlIn W => x.1) (enc := slr) hF, fun x hx => ?_, by rw [List.length_map]; exact hm⟩
  obtain ⟨y, _, rfl⟩ := List.mem_map.1 hx
  exact y.2
end Go.Proofs.Ytaipiflbigpniaa
