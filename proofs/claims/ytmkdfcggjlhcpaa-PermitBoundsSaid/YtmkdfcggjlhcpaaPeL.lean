/-
  The law's own functions: given, call.
-/
import Derived.Test.YtmkdfcggjlhcpaaPeO
import Derived.Deep.Cut
import Derived.Test.YtmkdfcggjlhcpaaPeR
namespace Go.Proofs.Ytmkdfcggjlhcpaa
open Go.RowKit
set_option linter.unusedVariables false
set_option linter.unusedSimpArgs false

set_option maxRecDepth 100000 in
set_option maxHeartbeats 4000000 in
theorem given_any (s : St) (w : World) :
    Calls Try.prog 6 #[.agg #[.slice s.ga s.C.length s.gk, .slice s.ta s.T.length s.tk, .slice s.ia s.L.length s.ik, .int .i64 s.c0, .int .i64 s.c1, .int .i64 s.c2, .slice s.ra s.R.length s.rk, .int .i64 s.un, .int .i64 s.sh]] w fun e w' => e = .returned (.agg #[.slice s.ga s.C.length s.gk, .slice s.ta s.T.length s.tk, .slice s.ia s.L.length s.ik, .int .i64 s.c0, .int .i64 s.c1, .int .i64 s.c2, .slice s.ra s.R.length s.rk, .int .i64 s.un, .int .i64 s.sh]) ∧ Below w.heap.size w w' := by
  obtain ⟨ga, C, gk, ta, T, tk, ia, L, ik, z0, z1, z2, ra, R, rk, un, sh⟩ := s
  dsimp only
  generalize C.length = nC
  generalize T.length = nT
  generalize L.length = nL
  generalize R.length = nR
  go_enter Try.func6, Try.ntmps6
  go_wp2_with (first
    | ((with_reducible refine at_load (ty := 26) ?_); refine load_cells rfl 26 (.tmp 9) rfl w.heap.size 3 rfl [.int .i64 z0, .int .i64 z1, .int .i64 z2] _ Try.underlying26 rfl (by kernel_rfl) (((Blk.new w 29 [.slice ga nC gk, .slice ta nT tk, .slice ia nL ik, .int .i64 z0, .int .i64 z1, .int .i64 z2, .slice ra nR rk, .int .i64 un, .int .i64 sh]).alloc _).range 3 _ rfl) ?_)
    | ((with_reducible refine at_store (ty := 33) ?_); refine store_new rfl 33 (.tmp 2) (.tmp 17) rfl _ _ rfl rfl (by kernel_rfl) rfl (by rfl) rfl ?_))
  obtain ⟨W5, hW5⟩ : ∃ W5, W5 = (w.alloc (.cells #[.slice ga nC gk, .slice ta nT tk, .slice ia nL ik, .int .i64 z0, .int .i64 z1, .int .i64 z2, .slice ra nR rk, .int .i64 un, .int .i64 sh] 29)).alloc (.cells #[.slice ga nC gk, .slice ta nT tk, .slice ia nL ik, .int .i64 z0, .int .i64 z1, .int .i64 z2, .slice ra nR rk, .int .i64 un, .int .i64 sh] 33) := ⟨_, rfl⟩
  have HY5 := Lib.hid (show Blk W5 (w.heap.size + 1) 33 [.slice ga nC gk, .slice ta nT tk, .slice ia nL ik, .int .i64 z0, .int .i64 z1, .int .i64 z2, .slice ra nR rk, .int .i64 un, .int .i64 sh] by rw [hW5]; exact Blk.new_at (World.size_alloc _ _))
  have HB5 := Lib.hid (show Below w.heap.size w W5 by rw [hW5]; (repeat' (first | with_reducible exact Below.refl _ _ | with_reducible assumption | with_reducible refine Below.drew ?_ | with_reducible refine below_drewN' ?_ _ | with_reducible refine Below.alloc ?_ ?_ _ | with_reducible refine Below.setCell ?_ ?_ _ | with_reducible refine below_step (by assumption) ?_ ?_ | omega | (simp; done) | (simp; omega))))
  rw [← hW5]
  clear hW5
  have c0 := HY5.out.cell 0
  have c1 := HY5.out.cell 1
  have c2 := HY5.out.cell 2
  have c3 := HY5.out.cell 3
  have c4 := HY5.out.cell 4
  have c5 := HY5.out.cell 5
  have c6 := HY5.out.cell 6
  have c7 := HY5.out.cell 7
  have c8 := HY5.out.cell 8
  dsimp only [List.getElem?_cons_zero, List.getElem?_cons_succ] at c0 c1 c2 c3 c4 c5 c6 c7 c8
  refine bodyPost_ret (v := .agg #[.slice ga nC gk, .slice ta nT tk, .slice ia nL ik, .int .i64 z0, .int .i64 z1, .int .i64 z2, .slice ra nR rk, .int .i64 un, .int .i64 sh]) (by simp [results, Try.results6, go_sem, *]) rfl ⟨rfl, HB5.out⟩
set_option maxRecDepth 100000 in
set_option maxHeartbeats 4000000 in
theorem callc_any (c : Cv) (w : World) :
    Calls Try.prog 8 #[.agg #[.string c.what, .string c.nm, .int .i64 c.n]] w fun e w' => e = .returned (.agg #[.string c.what, .string c.nm, .int .i64 c.n]) ∧ Below w.heap.size w w' := by
  obtain ⟨what, nm, n⟩ := c
  dsimp only
  go_enter Try.func8, Try.ntmps8
  go_wp2_with ((with_reducible refine at_store (ty := 39) ?_); refine store_new rfl 39 (.tmp 2) (.tmp 9) rfl _ _ rfl rfl (by kernel_rfl) rfl (by rfl) rfl ?_)
  obtain ⟨W5, hW5⟩ : ∃ W5, W5 = (w.alloc (.cells #[.string what, .string nm, .int .i64 n] 41)).alloc (.cells #[.string what, .string nm, .int .i64 n] 39) := ⟨_, rfl⟩
  have HY5 := Lib.hid (show Blk W5 (w.heap.size + 1) 39 [.string what, .string nm, .int .i64 n] by rw [hW5]; exact Blk.new_at (World.size_alloc _ _))
  have HB5 := Lib.hid (show Below w.heap.size w W5 by rw [hW5]; (repeat' (first | with_reducible exact Below.refl _ _ | with_reducible assumption | with_reducible refine Below.drew ?_ | with_reducible refine below_drewN' ?_ _ | with_reducible refine Below.alloc ?_ ?_ _ | with_reducible refine Below.setCell ?_ ?_ _ | with_reducible refine below_step (by assumption) ?_ ?_ | omega | (simp; done) | (simp; omega))))
  rw [← hW5]
  clear hW5
  have c0 := HY5.out.cell 0
  have c1 := HY5.out.cell 1
  have c2 := HY5.out.cell 2
  dsimp only [List.getElem?_cons_zero, List.getElem?_cons_succ] at c0 c1 c2
  refine bodyPost_ret (v := .agg #[.string what, .string nm, .int .i64 n]) (by simp [results, Try.results8, go_sem, *]) rfl ⟨rfl, HB5.out⟩
end Go.Proofs.Ytmkdfcggjlhcpaa
