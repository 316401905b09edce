/-
  Copy (maps.Clone by the library's contract, laid here) and Clear.
-/
import Derived.Test.YtedombidblhmeaaBk3
import Derived.Shelf.SlMaps.Clone
namespace Go.Proofs.Ytedombidblhmeaa
section
open Go.Shelf
def cloneL_ren : Go.Shelf.Ren := ⟨fun | 5 => 29 | 7 => 35 | n => n, fun | 23 => 49 | 25 => 9 | 3 => 54 | 4 => 4 | 20 => 20 | n => n, fun | n => n⟩
theorem cloneL : Go.Proofs.SlLaysW.n5 Try.prog cloneL_ren := {
  mixed := by kernel_rfl
  f5 := ⟨Try.f29.name, by decide, Try.func29.trans (congrArg some (by kernel_rfl))⟩
  f7 := Try.func35.trans (congrArg some (by kernel_rfl))
  t4 := Try.underlying4
  a4 := Try.isAgg4
  z4 := Try.sizeOf4
  v4 := Try.zeroValue4
  t20 := Try.underlying20
  a20 := Try.isAgg20
  z20 := Try.sizeOf20
  v20 := Try.zeroValue20
  t23 := Try.underlying49
  a23 := Try.isAgg49
  z23 := Try.sizeOf49
  v23 := Try.zeroValue49 }
end
open Go.RowKit
set_option linter.unusedVariables false

theorem MapIs.clear {P : Program} {k e t : TypeId} {w : World} {b n : Nat} {f : ByteArray → Option Value} (h : MapIs P k w b n f) (ht : P.underlying t = some (.map k e)) :
    ∃ w', (∀ ty, (Builtin.clear_ #[t] ty #[.map (some b)]).run P w = .ok (.tuple #[]) w') ∧ MapIs P k w' b 0 (fun _ => none) ∧ w.grownBy w' (some b) := by
  obtain ⟨D, ⟨es, clock, hb, F, hs, hD⟩, _⟩ := h
  have hT : w.mapTurned (Go.ChangeMaps.setBlock w b (.map #[] clock)) b := ⟨es, clock, #[], clock, hb, rfl⟩
  refine ⟨Go.ChangeMaps.setBlock w b (.map #[] clock), fun ty => ?_, ⟨.map [], ⟨#[], clock, Go.ChangeMaps.heap_setBlock_same hb _, ⟨by simp, MapKept.stamped_empty _, by simp⟩, Nat.le_refl _, rfl⟩, fun s => ⟨rfl, fun z => rfl⟩⟩, hT.grown⟩
  simp [Builtin.clear_, run_underlying ht, MapKept.run_getObj_map hb, MapKept.run_setObj_map _ hb, Result.andThen]
  rfl
theorem MapIs.clone {w : World} {b n : Nat} {f : ByteArray → Option Value} (h : MapIs Try.prog 9 w b n f) :
    Calls Try.prog 29 #[.map (some b)] w fun e w' => e = .returned (.map (some w.heap.size)) ∧ MapIs Try.prog 9 w' w.heap.size n f ∧ w.heap.size < w'.heap.size ∧ Below w.heap.size w w' := by
  obtain ⟨D, ho, r⟩ := h
  exact (AnyW.maps_Clone_owns (P := Try.prog) (ρ := cloneL_ren) cloneL 9 heldR b n D w ho).mono fun e w' ⟨he, h1, _, h3⟩ => ⟨he, ⟨D, h1, r⟩, h1.lt, h3⟩

set_option maxRecDepth 100000 in
theorem clear_any (b m : Nat) (fi mo re : Int) (E : ByteArray → Option En) (cr : Int) (n : Nat) (w : World) (h : TB w b m fi mo re E cr n) :
    Calls Try.prog 13 #[.pointer (some ⟨b, 0, none⟩)] w fun e w' => e = .returned (.tuple #[]) ∧ TB w' b m fi mo re (fun _ => none) cr n ∧ Only [b, m] w w' := by
  obtain ⟨c0, c1, c2, c3, c4, c5, f5⟩ := h.cells
  have Hh := Lib.hid h
  have hne := h.ne
  obtain ⟨W, hr, hm, hg⟩ := h.mp.clear Try.underlying49
  have HM := Lib.hid hm
  have HG := Lib.hid hg
  clear h hm hg
  go_enter Try.func13, Try.ntmps13
  go_wp2_with (first
    | (go_at_call 26; (with_reducible refine (made_yes b _ c0).mono ?_); rintro e w1 ⟨rfl, rfl⟩))
  go_end0
  exact ⟨rfl, ⟨Hh.out.row.same (HG.out.block b Hh.out.row.lt (fun e => hne (Option.some.inj e))), HM.out.mono (Nat.zero_le _), (fun s x hx => by cases hx), Hh.out.p1, Hh.out.p2, Hh.out.p3, Hh.out.p4, Hh.out.p5, Hh.out.c0, Hh.out.c1⟩, (Only.refl _ _).grown HG.out (fun k e => .inl (by cases e; simp))⟩

set_option maxRecDepth 100000 in
theorem copy_any (b m : Nat) (fi mo re : Int) (E : ByteArray → Option En) (cr : Int) (n : Nat) (w : World) (h : TB w b m fi mo re E cr n) :
    Calls Try.prog 14 #[.pointer (some ⟨b, 0, none⟩)] w fun e w' => ∃ b2 m2, e = .returned (.pointer (some ⟨b2, 0, none⟩)) ∧ TB w' b2 m2 fi mo re E cr n ∧ w.heap.size ≤ b2 ∧ w.heap.size ≤ m2 ∧ Below w.heap.size w w' := by
  obtain ⟨c0, c1, c2, c3, c4, c5, f5⟩ := h.cells
  have Hh := Lib.hid h
  have hb := h.row.lt
  clear h f5
  go_enter Try.func14, Try.ntmps14
  go_wp2_with (first
    | (go_at_call 26; (with_reducible refine (made_yes b _ c0).mono ?_); rintro e w1 ⟨rfl, rfl⟩)
    | (go_at_call 29; (with_reducible refine (MapIs.clone (Hh.out.mp.below (by (repeat' (first | with_reducible exact Below.refl _ _ | with_reducible assumption | with_reducible refine Below.drew ?_ | with_reducible refine below_drewN' ?_ _ | with_reducible refine Below.alloc ?_ ?_ _ | with_reducible refine Below.setCell ?_ ?_ _ | with_reducible refine below_step (by assumption) ?_ ?_ | omega | (simp; done) | (simp; omega)))))).mono ?_); rintro e w2 ⟨rfl, hm2, hz2, hb2⟩; have HB2 := Lib.hid hb2; have HM2 := Lib.hid hm2; have HX := Lib.hid ((Blk.new w1 51 (tcells w1.heap.size m fi mo re cr)).below hb2); have x4 : w2.cell? ⟨w1.heap.size, 4, none⟩ = some (.map (some m)) := HX.out.cell 4; have y4 : w2.frozen? ⟨w1.heap.size, 4, none⟩ = false := HX.out.frozen 4; clear hm2))
  go_ret
  have hM := HM2.out
  rw [World.size_alloc] at hM
  have hB : Below w1.heap.size w1 w2 := ((Below.refl _ w1).alloc (Nat.le_refl _) _).trans (HB2.out.mono (by simp))
  exact ⟨w1.heap.size, w1.heap.size + 1, rfl, ⟨HX.out.set 4 _, hM.same (Below.heap_setCell _ _ _ _ (Nat.succ_ne_self _)), Hh.out.ok, Hh.out.p1, Hh.out.p2, Hh.out.p3, Hh.out.p4, Hh.out.p5, Hh.out.c0, Hh.out.c1⟩, Nat.le_refl _, Nat.le_succ _, (Only.refl [w1.heap.size] w2).setCell (.inl (by simp)) _ |>.below hB hB.size (by simp)⟩
end Go.Proofs.Ytedombidblhmeaa
