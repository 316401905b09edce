/-
  A slice that lies inside what came in: its capacity.
-/
import Derived.Test.YtaipiflbigpniaaNest
namespace Go.Proofs.Ytaipiflbigpniaa
open Go.ChangeShapes Go.WideShapes Go.ChangeAt Go.RowKit
set_option linter.unusedVariables false
set_option linter.unusedSimpArgs false

theorem nested_cap {H : Type} {ec : TypeId × Value → H} {P : Program} {W : World} {t e : TypeId} {fuel : Nat} {a : Option Addr} {len cap : Nat} {y : DataW H × List MemPlace}
    (ht : P.underlying t = some (.slice e)) (h : DataW.trod ec P W 0 (fun _ => true) true fuel t [.slice a len cap] = some y) : NilOk a len cap ∧ len ≤ cap := by
  rcases Go.Deep.open_slice ht h with ⟨hcs, _⟩ | ⟨a', len', cap', m, n, D, Pl, hcs, _, hl, hm, hmm, _, hi⟩
  · have e1 : a = none ∧ len = 0 ∧ cap = 0 := by simpa using hcs
    obtain ⟨rfl, rfl, rfl⟩ := e1
    exact ⟨fun _ => ⟨rfl, rfl⟩, Nat.le_refl _⟩
  · have e1 : a = some a' ∧ len = len' ∧ cap = cap' := by simpa using hcs
    obtain ⟨rfl, rfl, rfl⟩ := e1
    have hmc : m = cap := by simpa using hmm
    exact ⟨(fun h => by cases h), by omega⟩
end Go.Proofs.Ytaipiflbigpniaa
