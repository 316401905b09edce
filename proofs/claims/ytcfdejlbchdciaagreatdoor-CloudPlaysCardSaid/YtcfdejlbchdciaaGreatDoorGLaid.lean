/-
  The tables that the library reads, as the rows list them: what they give a walk, and a world that has them.
-/
import Derived.Test.YtcfdejlbchdciaaGreatDoorGIto
import Derived.Test.YtcfdejlbchdciaaGreatDoorMA
import Derived.Test.YtcfdejlbchdciaaGreatDoorTie
import Derived.Test.YtcfdejlbchdciaaGreatDoorCards
import Derived.ChangeSame
import Derived.ChangeVars
import Derived.JoinedOf
import Derived.LaidLaws
import Derived.LaidHandle
import Derived.Lib.LaidTab
import Derived.SevenTiedAt
namespace Go.Proofs.YtcfdejlbchdciaaGreatDoor
open Go.ChangeShapes Go.WideShapes Go.ChangeAt Go.RowKit
set_option linter.unusedVariables false
set_option linter.unusedSimpArgs false

def tab32 : List Int := [0, 1, 28, 2, 29, 14, 24, 3, 30, 22, 20, 15, 25, 17, 4, 8, 31, 27, 13, 23, 21, 19, 16, 7, 26, 12, 18, 6, 11, 5, 10, 9]
def tab64 : List Int := [0, 1, 56, 2, 57, 49, 28, 3, 61, 58, 42, 50, 38, 29, 17, 4, 62, 47, 59, 36, 45, 43, 51, 22, 53, 39, 33, 30, 24, 18, 12, 5, 63, 55, 48, 27, 60, 41, 37, 16, 46, 35, 44, 21, 52, 32, 23, 11, 54, 26, 40, 15, 34, 20, 31, 10, 25, 14, 19, 9, 13, 8, 7, 6]
theorem gT : Tryz.prog.globalNamed nm10 = some 0 := by kernel_rfl
theorem gTType : (Tryz.prog.globals[0]?).map (·.type) = some 134 := by kernel_rfl
theorem cellsU : Tryz.prog.cellsOf 127 = 1 := by kernel_rfl
theorem cellsT : Tryz.prog.cellsOf 134 = 20 := by kernel_rfl

set_option maxRecDepth 100000 in
/-- From the row's condition to the table. -/
theorem tab_of {W : World} (h : laidMetH Tryz.prog Rows.cloudPlaysRow.laid W) : Tab10 W := by
  have h' : laidMet Tryz.prog Rows.cloudPlaysRow.laid W := h
  obtain ⟨ps, ⟨g1, t1, cs1, fuel1, p1, q1, a1, b1, c1, d1, ⟨g2, t2, cs2, fuel2, p2, q2, a2, b2, c2, d2, ⟨g3, t3, cs3, fuel3, p3, q3, a3, b3, c3, d3, _, _⟩, _⟩, _⟩, _⟩ := h'
  obtain rfl := Option.some.inj (gT.symm.trans a3)
  obtain rfl := Option.some.inj (gTType.symm.trans b3)
  unfold Tab10 Lib.TabIs
  refine Eq.trans c3 ?_
  rw [← Lib.cells_of_tab Tryz.underlying134 Tryz.underlying127 cellsU cellsT d3]

def lay (cs : Array Value) : Obj → Obj
  | .cells _ t frozen => .cells cs t frozen
  | o => o
/-- The settled world with the tables laid. -/
noncomputable def laidWorld (os : Os) : World :=
  let w0 := World.holding Tryz.prog os ⟨#[], #[], []⟩
  { w0 with heap := ((w0.heap.modify 0 (lay (Lib.pow10Tab.map fun z => Value.int .u64 z).toArray)).modify 1 (lay (tab32.map fun z => Value.int .u8 z).toArray)).modify 2 (lay (tab64.map fun z => Value.int .u8 z).toArray) }
theorem laidWorld_met (os : Os) (args : Array Value) : laidMetH Tryz.prog Rows.cloudPlaysRow.laid ((laidWorld os).forCall (fun _ _ => 0) ⟨#[], args, []⟩).memory := by
  have h : laidMet Tryz.prog Rows.cloudPlaysRow.laid ((laidWorld os).forCall (fun _ _ => 0) ⟨#[], args, []⟩).memory := laidMet_of_run' 8 (by kernel_rfl) (by kernel_rfl)
  exact h
end Go.Proofs.YtcfdejlbchdciaaGreatDoor
