/-
  Kin: the tables that the program reads, as the rows list them, and a world that has them.
-/
import Derived.Test.YtccplljbljpjpaaDoorKi8
import Derived.Test.YtccplljbljpjpaaDoorTie
import Derived.Test.YtccplljbljpjpaaDoorCards
import Derived.Test.YtccplljbljpjpaaDoorMA
import Derived.ChangeSame
import Derived.ChangeVars
import Derived.JoinedOf
import Derived.LaidLaws
import Derived.LaidHandle
import Derived.Lib.LaidTab
import Derived.SevenTiedAt
namespace Go.Proofs.YtccplljbljpjpaaDoor
open Go.ChangeShapes Go.WideShapes Go.ChangeAt Go.RowKit
set_option linter.unusedVariables false
set_option linter.unusedSimpArgs false

/-- An array of texts that reads as a table holds the table's texts. -/
theorem cells_of_strs {H : Type} {enc : TypeId × Value → H} {P : Program} {w : World} {base : Nat} {sp : Nat → Bool} {held : Bool} {fuel : Nat} {t e : TypeId} {n : Nat} {cs : List Value} {zs : List ByteArray} {p : List MemPlace}
    (ht : P.underlying t = some (.array n e)) (he : P.underlying e = some .string) (hce : P.cellsOf e = 1) (hct : P.cellsOf t = n)
    (h : DataW.trod enc P w base sp held fuel t cs = some (.agg (zs.map fun z => .lit (.string z.data.toList)), p)) : cs = zs.map Value.string := by
  cases fuel with
  | zero => simp [DataW.trod] at h
  | succ fuel =>
    simp only [DataW.trod, ht, hce, hct, Nat.mul_one] at h
    split at h
    · rename_i hl
      obtain ⟨xs, hm, hx⟩ := Option.map_eq_some_iff.1 h
      have hxs : xs.map (·.1) = zs.map fun z => (DataW.lit (.string z.data.toList) : DataW H) := by
        have := congrArg Prod.fst hx
        simpa using this
      have hxl : xs.length = n := by simpa using Lib.mapM_length hm
      have hzl : zs.length = n := by
        have := congrArg List.length hxs
        simp at this
        omega
      apply List.ext_getElem?
      intro i
      by_cases hi : i < n
      · obtain ⟨b, hb, hf⟩ := Lib.mapM_at hm i i (by simp [hi])
        obtain ⟨z, hc, rfl, _⟩ := DataW.trod_string he hf
        have h1 : cs[i]? = some (.string z) := by
          have := congrArg (·[0]?) hc
          simpa [List.getElem?_take, List.getElem?_drop] using this
        have h2 : (xs.map (·.1))[i]? = some (DataW.lit (.string z.data.toList) : DataW H) := by simp [hb]
        rw [hxs] at h2
        simp only [List.getElem?_map, Option.map_eq_some_iff, DataW.lit.injEq, Lit.string.injEq] at h2
        obtain ⟨z', hz', e⟩ := h2
        have e2 : z' = z := ByteArray.ext (Array.toList_inj.1 e)
        subst e2
        simp [h1, hz']
      · rw [List.getElem?_eq_none (by omega), List.getElem?_eq_none (by simp; omega)]
    · cases h
def tab32 : List Int := [0, 1, 28, 2, 29, 14, 24, 3, 30, 22, 20, 15, 25, 17, 4, 8, 31, 27, 13, 23, 21, 19, 16, 7, 26, 12, 18, 6, 11, 5, 10, 9]
def tab64 : List Int := [0, 1, 56, 2, 57, 49, 28, 3, 61, 58, 42, 50, 38, 29, 17, 4, 62, 47, 59, 36, 45, 43, 51, 22, 53, 39, 33, 30, 24, 18, 12, 5, 63, 55, 48, 27, 60, 41, 37, 16, 46, 35, 44, 21, 52, 32, 23, 11, 54, 26, 40, 15, 34, 20, 31, 10, 25, 14, 19, 9, 13, 8, 7, 6]
theorem gT : Tryd.prog.globalNamed nm10 = some 2 := by kernel_rfl
theorem gTType : (Tryd.prog.globals[2]?).map (·.type) = some 125 := by kernel_rfl
theorem cellsU : Tryd.prog.cellsOf 110 = 1 := by kernel_rfl
theorem cellsT : Tryd.prog.cellsOf 125 = 20 := by kernel_rfl
theorem gE : Tryd.prog.globalNamed "trireme/spec.effects" = some 1 := by kernel_rfl
theorem gO : Tryd.prog.globalNamed "trireme/spec.operators" = some 0 := by kernel_rfl
theorem gEType : (Tryd.prog.globals[1]?).map (·.type) = some 92 := by kernel_rfl
theorem gOType : (Tryd.prog.globals[0]?).map (·.type) = some 91 := by kernel_rfl
theorem cellsS : Tryd.prog.cellsOf 9 = 1 := by kernel_rfl
theorem cellsS4 : Tryd.prog.cellsOf 92 = 4 := by kernel_rfl
theorem cellsS7 : Tryd.prog.cellsOf 91 = 7 := by kernel_rfl
set_option maxRecDepth 100000 in
/-- From the row's condition to the tables. -/
theorem tab_of {W : World} (h : laidMetH Tryd.prog Rows.kinOnceRow.laid W) : Tab10 W ∧ W.var? Tryd.prog "trireme/spec.effects" = some (effL.map Value.string).toArray ∧ W.var? Tryd.prog "trireme/spec.operators" = some (opsL.map Value.string).toArray := by
  have h' : laidMet Tryd.prog Rows.kinOnceRow.laid W := h
  obtain ⟨ps, ⟨g1, t1, cs1, fuel1, p1, q1, a1, b1, c1, d1, ⟨g2, t2, cs2, fuel2, p2, q2, a2, b2, c2, d2, ⟨g3, t3, cs3, fuel3, p3, q3, a3, b3, c3, d3, ⟨g4, t4, cs4, fuel4, p4, q4, a4, b4, c4, d4, ⟨g5, t5, cs5, fuel5, p5, q5, a5, b5, c5, d5, _, _⟩, _⟩, _⟩, _⟩, _⟩, _⟩ := h'
  obtain rfl := Option.some.inj (gT.symm.trans a3)
  obtain rfl := Option.some.inj (gTType.symm.trans b3)
  obtain rfl := Option.some.inj (gE.symm.trans a4)
  obtain rfl := Option.some.inj (gEType.symm.trans b4)
  obtain rfl := Option.some.inj (gO.symm.trans a5)
  obtain rfl := Option.some.inj (gOType.symm.trans b5)
  refine ⟨?_, ?_, ?_⟩
  · unfold Tab10 Lib.TabIs
    refine Eq.trans c3 ?_
    rw [← Lib.cells_of_tab Tryd.underlying125 Tryd.underlying110 cellsU cellsT d3]
  · refine Eq.trans c4 ?_
    rw [← cells_of_strs (zs := effL) Tryd.underlying92 Tryd.underlying9 cellsS cellsS4 d4]
  · refine Eq.trans c5 ?_
    rw [← cells_of_strs (zs := opsL) Tryd.underlying91 Tryd.underlying9 cellsS cellsS7 d5]
theorem wt_of {W : World} (h : laidMetH Tryd.prog Rows.kinOnceRow.laid W) : WT W := by
  obtain ⟨-, hE, hO⟩ := tab_of h
  have e1 : ∀ i s, effL[i]? = some s → W.cell? ⟨1, i, none⟩ = some (.string s) := fun i s hs => by
    have h9 := World.var?_cell gE hE i
    rw [h9]
    simp [hs]
  refine ⟨fun i s hs => ?_, e1, ?_⟩
  · have h9 := World.var?_cell gO hO i
    rw [h9]
    simp [hs]
  · have h9 : W.var? Tryd.prog "trireme/spec.effects" ≠ none := by rw [hE]; exact fun h => by cases h
    rcases Nat.lt_or_ge W.heap.size 2 with hl | hl
    · refine absurd ?_ h9
      unfold World.var?
      rw [gE]
      have hn : W.heap[1]? = none := Array.getElem?_eq_none (by omega)
      simp [hn]
    · exact hl

def lay (cs : Array Value) : Obj → Obj
  | .cells _ t frozen => .cells cs t frozen
  | o => o
/-- The settled world with the tables laid. -/
noncomputable def laidWorld (os : Os) : World :=
  let w0 := World.holding Tryd.prog os ⟨#[], #[], []⟩
  { w0 with heap := ((((w0.heap.modify 0 (lay (opsL.map Value.string).toArray)).modify 1 (lay (effL.map Value.string).toArray)).modify 2 (lay (Lib.pow10Tab.map fun z => Value.int .u64 z).toArray)).modify 4 (lay (tab32.map fun z => Value.int .u8 z).toArray)).modify 5 (lay (tab64.map fun z => Value.int .u8 z).toArray) }
theorem laidWorld_met (os : Os) (args : Array Value) : laidMetH Tryd.prog Rows.kinOnceRow.laid ((laidWorld os).forCall (fun _ _ => 0) ⟨#[], args, []⟩).memory := by
  have h : laidMet Tryd.prog Rows.kinOnceRow.laid ((laidWorld os).forCall (fun _ _ => 0) ⟨#[], args, []⟩).memory := laidMet_of_run' 8 (by kernel_rfl) (by kernel_rfl)
  exact h
end Go.Proofs.YtccplljbljpjpaaDoor
