/-
  Regions that draw their order, whose operations read or call: every call leaves what was there, so one walk in the order of the text serves every order.
-/
import Derived.Test.YtaipiflbigpniaaBase
import Derived.Deep.QuietTactic
namespace Go.Proofs.Ytaipiflbigpniaa
set_option linter.unusedVariables false
set_option linter.unusedSimpArgs false
open Go.RowKit

/-- A world in which what was there when w began is as it was. -/
structure Held (W : World) where
  w : World
  below : Below W.heap.size W w

instance (W : World) : Nonempty (Held W) := ⟨⟨W, Below.refl _ _⟩⟩

theorem region_below {P : Program} {id : Nat} {Q : Exit → Act → World → Prop} {a : Act} {w : World} {l : List Oper} (hm : P.follows .mixedOrders = true) (hB : Region.lexB .any l.toArray = true)
    (h : wpQuiet P l.toArray (fun w' => ∃ n : Held w, w' = n.w) (fun a' => ∀ w', (∃ n : Held w, w' = n.w) → Q .normal a' w') l a) : (Code.region id l.toArray true).wp P Q a w :=
  wp_region_quiet (C := fun w' => ∃ n : Held w, w' = n.w) hm hB ⟨⟨w.drew, (Below.refl _ _).drew⟩, rfl⟩ (by simpa using h)

theorem held_cell (W : World) (n : Held W) (b o : Nat) (h : b < W.heap.size) : n.w.cell? ⟨b, o, none⟩ = W.cell? ⟨b, o, none⟩ := n.below.cell (p := ⟨b, o, none⟩) h

theorem held_calls {P : Program} {f : FuncId} {args : Array Value} {W : World} {n : Held W} {v : Value}
    (h : Calls P f args n.w fun e w' => e = .returned v ∧ Below n.w.heap.size n.w w') : Calls P f args n.w fun e w' => e = .returned v ∧ ∃ m : Held W, w' = m.w :=
  h.mono fun _ w' ⟨he, hb⟩ => ⟨he, ⟨w', n.below.trans (hb.mono n.below.size)⟩, rfl⟩

theorem held_calls_same {P : Program} {f : FuncId} {args : Array Value} {W : World} {n : Held W} {v : Value}
    (h : Calls P f args n.w fun e w' => e = .returned v ∧ w' = n.w) : Calls P f args n.w fun e w' => e = .returned v ∧ ∃ m : Held W, w' = m.w :=
  h.mono fun _ _ ⟨he, hb⟩ => ⟨he, n, hb⟩
end Go.Proofs.Ytaipiflbigpniaa
