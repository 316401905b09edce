/-
  The contract of triremeref05.Set.
-/
import Derived.Test.YthbpnfpalcgfeaaLab4
namespace Go.Proofs.Ythbpnfpalcgfeaa
namespace Lb
set_option linter.unusedSimpArgs false
open Go.RowKit
set_option linter.unusedVariables false

theorem OwnL.cap {α : Type} {enc : α → List Value} {K B : Nat} {t : TypeId} {l : List α} {v : Value} {w : World} {a : Option Addr} {n c : Nat} (h : OwnL enc K B t l v w) (e : v = .slice a n c) : n ≤ c := by
  subst e
  obtain ⟨hl, h | ⟨g, cap, cur, hv, r⟩⟩ := h
  · obtain ⟨h, _⟩ := h
    simp only [Value.slice.injEq] at h
    omega
  · simp only [Value.slice.injEq] at hv
    obtain ⟨_, h1, h2⟩ := hv
    obtain ⟨_, hnc, _⟩ := r
    omega

end Lb
end Go.Proofs.Ythbpnfpalcgfeaa
