/-
  What is right stays so behind a call that is permitted; permit.All of a call that goes once; permit.Of of no provider.
-/
import Derived.Test.YtmkdfcggjlhcpaaPeA
namespace Go.Proofs.Ytmkdfcggjlhcpaa
open Go.RowKit
set_option linter.unusedVariables false
set_option linter.unusedSimpArgs false

theorem aft_ok {s : St} {what nm : ByteArray} {n : Int} {b : Bool} (hO : StOk s) (h : whyP s what nm n b = 0) : StOk (aft s what nm n) := by
  rcases why_zero h with ⟨j, g, t, Y⟩ | ⟨k, x, j, g, t, Y⟩
  · rw [Y.aft]
    refine ⟨by dsimp only; rw [List.length_set]; exact hO.lt, hO.g16, hO.gl, hO.gb, fun i y u hy hu => ?_, hO.lb, hO.rb, hO.cb⟩
    dsimp only at hy hu
    by_cases e : j = i
    · subst e
      rw [List.getElem?_set_self (lt_at Y.ht)] at hu
      rw [Y.hg] at hy
      obtain rfl := Option.some.inj hy
      obtain rfl := Option.some.inj hu
      have htb := hO.tb j g t Y.hg Y.ht
      have hn := Y.hn
      by_cases e2 : what = sFix
      · rw [if_pos e2]
        have := Y.fx e2
        omega
      · rw [if_neg e2]
        have := Y.mr e2
        omega
    · rw [List.getElem?_set_ne e] at hu
      exact hO.tb i y u hy hu
  · rw [Y.aft]
    refine ⟨?_, hO.g16, hO.gl, hO.gb, fun i y u hy hu => ?_, by dsimp only; rw [List.length_set]; exact hO.lb, hO.rb, hO.cb⟩
    · dsimp only
      split
      · rw [List.length_set]; exact hO.lt
      · exact hO.lt
    · dsimp only at hy hu
      split at hu
      · rename_i hlt
        by_cases e : j = i
        · subst e
          rw [List.getElem?_set_self (lt_at Y.ht)] at hu
          rw [Y.hg] at hy
          obtain rfl := Option.some.inj hy
          obtain rfl := Option.some.inj hu
          have htb := hO.tb j g t Y.hg Y.ht
          omega
        · rw [List.getElem?_set_ne e] at hu
          exact hO.tb i y u hy hu
      · exact hO.tb i y u hy hu
/-- Copies have the same calls permitted. -/
theorem PAl.gk {s s' : St} (h : PAl s s') : s'.G = s.G := nrm_gk h.c
theorem PAl.why {s s' : St} (h : PAl s s') (what nm : ByteArray) (n : Int) (b : Bool) : whyP s' what nm n b = whyP s what nm n b := by
  have hc : ∀ j, (s'.C[j]?).map gkOf = (s.C[j]?).map gkOf := fun j => by rw [← List.getElem?_map, ← List.getElem?_map]; exact congrArg (·[j]?) h.gk
  unfold whyP whyG whyI
  rw [h.gk, h.t, h.l, h.r, h.un, h.sh]
  have hk : ∀ (j : Nat) (f : Int → Int → Int → Int), (match s'.C[j]?, s.T[j]? with | some g, some t => f g.mn g.mx t | _, _ => 16) = (match s.C[j]?, s.T[j]? with | some g, some t => f g.mn g.mx t | _, _ => 16) := fun j f => by
    have e := hc j
    cases h1 : s'.C[j]? with
    | none =>
      cases h2 : s.C[j]? with
      | none => rfl
      | some g => rw [h1, h2] at e; simp at e
    | some g' =>
      cases h2 : s.C[j]? with
      | none => rw [h1, h2] at e; simp at e
      | some g =>
        rw [h1, h2] at e
        have e := Option.some.inj e
        unfold gkOf at e
        injection e with e1 e2 e3
        cases s.T[j]? with
        | none => rfl
        | some t => dsimp only; rw [e2, e3]
  split
  · cases fndK s.G nm with
    | none => rfl
    | some j =>
      dsimp only
      split
      · rfl
      · exact hk j fun mn mx t => if what = sFix then (if t - n < mn ∨ t - n < (sizeI s.L nm : Int) then 20 else 0)
          else if s.sh < s.un then 22 else if s.R.any (strB nm) = true then 25 else if mx - t < n then 21 else if what = sUp ∧ b = false then 24 else 0
  · split
    · cases fndI s.L nm with
      | none => rfl
      | some k =>
        dsimp only
        cases s.L[k]? with
        | none => rfl
        | some x =>
          dsimp only
          cases fndK s.G x.gp with
          | none => rfl
          | some j => exact hk j fun mn mx t => whyV (decide (what = sClean)) x.st s.un s.sh t mn
    · rfl
theorem none_failP (w : World) : Calls Try.prog 26 #[.pointer none, .string ⟨#[]⟩] w fun e w' => e = .returned (.int .i64 23) ∧ w' = w := by
  go_enter Try.func26, Try.ntmps26
  go_wp2_with (go_at_call 44; (with_reducible refine (made_nil _).mono ?_); rintro e w1 ⟨rfl, rfl⟩)
  go_ret
  exact ⟨rfl, rfl⟩
theorem Blk.new_at {w : World} {n : Nat} {t : TypeId} {cs : List Value} (h : w.heap.size = n) : Blk (w.alloc (.cells cs.toArray t)) n t cs := h ▸ Blk.new w t cs
set_option maxRecDepth 100000 in
set_option maxHeartbeats 4000000 in
theorem of_nil (a : Option Addr) (l : List Gp) (ka : Nat) (w : World) (hF : GpL w a l) (hI : ∀ g ∈ l, MacIn w g.like) (hL : lightGs l = true) (hr : rightGs l = true) :
    Calls Try.prog 13 #[.slice a l.length ka, .pointer none, .agg #[.int .i64 0, .int .i64 0, .int .i64 0], .slice none 0 0, .int .i64 0, .int .i64 0] w fun e w' => e = .returned (.tuple #[.agg #[.slice none 0 0, .slice none 0 0, .slice none 0 0, .int .i64 0, .int .i64 0, .int .i64 0, .slice none 0 0, .int .i64 0, .int .i64 0], .int .i64 23]) ∧ Below w.heap.size w w' := by
  have HZ0 := Lib.hid (fun (o : Obj) => World.size_alloc w o)
  have HR := Lib.hid (fun V (hV : Below w.heap.size w V) => rightgs_any a l ka V (hF.mono hV) (fun g hg => (hI g hg).mono hV) hL)
  rw [hr] at HR
  obtain ⟨N, hN⟩ : ∃ N, l.length = N := ⟨_, rfl⟩
  rw [hN] at HR ⊢
  clear hF hI hL hr hN
  go_enter Try.func13, Try.ntmps13
  go_wp2_with (first
    | (go_at_call 25; (with_reducible refine (HR.out _ (by (repeat' (first | with_reducible exact Below.refl _ _ | with_reducible assumption | with_reducible refine Below.drew ?_ | with_reducible refine below_drewN' ?_ _ | with_reducible refine Below.alloc ?_ ?_ _ | with_reducible refine Below.setCell ?_ ?_ _ | with_reducible refine below_step (by assumption) ?_ ?_ | omega | (simp; done) | (simp; omega))))).mono ?_); rintro e w1 ⟨rfl, hb1⟩; have HB1 := Lib.hid (show Below w.heap.size w w1 by (repeat' (first | with_reducible exact Below.refl _ _ | with_reducible assumption | with_reducible refine Below.drew ?_ | with_reducible refine below_drewN' ?_ _ | with_reducible refine Below.alloc ?_ ?_ _ | with_reducible refine Below.setCell ?_ ?_ _ | with_reducible refine below_step (by assumption) ?_ ?_ | omega | (simp; done) | (simp; omega)))); have HY1 := Lib.hid ((Blk.new (w.alloc _) 33 [.slice none 0 0, .slice none 0 0, .slice none 0 0, .int .i64 0, .int .i64 0, .int .i64 0, .slice none 0 0, .int .i64 0, .int .i64 0]).below hb1); rw [HZ0.out] at HY1; obtain ⟨hc1, hf1⟩ := bcell hb1; have hz1 := hb1.size; (try simp at hz1); have hy1 : w.heap.size + 1 < w1.heap.size := (by omega); clear hb1 hc1 hf1)
    | (go_at_call 26; (with_reducible refine (none_failP _).mono ?_); rintro e w2 ⟨rfl, h2⟩; rw [h2]; clear h2)
    | ((with_reducible refine at_store (ty := 33) ?_); refine wpList_store_mid rfl 33 (.tmp 12) (.tmp 24) rfl (w.heap.size + 1) 0 _ rfl rfl (HY1.out.there 0 9 (Nat.le_of_ble_eq_true rfl)) (by kernel_rfl) (by rw [← Array.all_toList]; rfl) ?_; obtain ⟨W5, hW5⟩ : ∃ W5, W5 = w1.setCells (w.heap.size + 1) 0 [.slice none 0 0, .slice none 0 0, .slice none 0 0, .int .i64 0, .int .i64 0, .int .i64 0, .slice none 0 0, .int .i64 0, .int .i64 0] := ⟨_, rfl⟩; (show wpList _ _ _ _ _ (w1.setCells (w.heap.size + 1) 0 [.slice none 0 0, .slice none 0 0, .slice none 0 0, .int .i64 0, .int .i64 0, .int .i64 0, .slice none 0 0, .int .i64 0, .int .i64 0])); rw [← hW5]; have HO5 := Lib.hid (show Only [w.heap.size + 1] w1 W5 from by rw [hW5]; exact Only.setCells (.inl (by simp)) (Only.refl _ _) _ _); have HY5 := Lib.hid (show Blk W5 (w.heap.size + 1) 33 [.slice none 0 0, .slice none 0 0, .slice none 0 0, .int .i64 0, .int .i64 0, .int .i64 0, .slice none 0 0, .int .i64 0, .int .i64 0] from by rw [hW5]; exact HY1.out.setCells 0 _); clear hW5))
  have c0 := HY5.out.cell 0
  have c1 := HY5.out.cell 1
  have c2 := HY5.out.cell 2
  have c3 := HY5.out.cell 3
  have c4 := HY5.out.cell 4
  have c5 := HY5.out.cell 5
  have c6 := HY5.out.cell 6
  have c7 := HY5.out.cell 7
  have c8 := HY5.out.cell 8
  dsimp only [List.getElem?_cons_zero, List.getElem?_cons_succ] at c0 c1 c2 c3 c4 c5 c6 c7 c8
  refine bodyPost_ret (v := .tuple #[.agg #[.slice none 0 0, .slice none 0 0, .slice none 0 0, .int .i64 0, .int .i64 0, .int .i64 0, .slice none 0 0, .int .i64 0, .int .i64 0], .int .i64 23]) (by simp [results, Try.results13, go_sem, *]) rfl ⟨rfl, HO5.out.below HB1.out (by omega) (by simp)⟩
end Go.Proofs.Ytmkdfcggjlhcpaa
