/-
  Whole structs loaded in a region that draws its order, without opening them cell by cell.
-/
import Derived.Test.YtgdankihfnnpaaaDoorAgg
namespace Go.Proofs.YtgdankihfnnpaaaDoor
open Go.RowKit

/-- A struct is loaded in a region that draws its order. -/
theorem rel_load {P : Program} {ops : Array Oper} {a : Act} {w : World} {R : Value → World → Prop} {d0 : Option Tmp} {ty : TypeId} {x : Operand} {t : TypeId} {p : String} {af : Array Edge} {g : Option (Nat × Bool)}
    (hw : Region.wanted { dst := d0, op := .load ty x, type := t, pos := p, after := af, guard := g } (yielded ops a.tmps) = true)
    (b off : Nat) (hx : a.eval x = .pointer (some ⟨b, off, none⟩)) (cs : List Value) (d : TypeDesc) (hu : P.underlying ty = some d) (hd : d.isRow = true) (hi : (P.info? ty).map (·.size) = some cs.length) (hc : w.rangeAt b off cs)
    (hR : R (.agg cs.toArray) w) : relAt P ops { dst := d0, op := .load ty x, type := t, pos := p, after := af, guard := g } a w R := by
  unfold relAt
  rw [if_pos hw]
  unfold execOp
  simp only [hx, Instr.loadAt, Instr.sureAddr, Sem.run_bind, Sem.run_pure, Result.andThen_ok, run_loadVar_mid w b off ty cs d hc hu hd hi]
  exact ⟨hR, Below.refl _ _⟩
end Go.Proofs.YtgdankihfnnpaaaDoor
