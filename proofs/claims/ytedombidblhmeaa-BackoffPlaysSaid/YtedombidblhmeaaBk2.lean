/-
  The contract of Fail.
-/
import Derived.Test.YtedombidblhmeaaBk1
namespace Go.Proofs.Ytedombidblhmeaa
open Go.RowKit
set_option linter.unusedVariables false

def updE (E : ByteArray → Option En) (g : ByteArray) (x : Option En) : ByteArray → Option En := fun s => if s = g then x else E s
theorem updE_same (E : ByteArray → Option En) (g : ByteArray) (x : Option En) : updE E g x g = x := if_pos rfl
theorem updE_other {E : ByteArray → Option En} {g s : ByteArray} {x : Option En} (h : s ≠ g) : updE E g x s = E s := if_neg h
theorem upd_map (E : ByteArray → Option En) (g : ByteArray) (x : Option En) (s : ByteArray) : updF (fun s => (E s).map ent) g (x.map ent) s = (updE E g x s).map ent := by
  unfold updF updE
  split <;> rfl
/-- The length of a failure. -/
def lenF (fi mo re : Int) (x : Option En) (now : Int) : Int := match x with
  | none => fi
  | some y => if re ≤ now - y.u then fi else min (2 * y.l) mo
def newF (fi mo re cr : Int) (x : Option En) (now : Int) : En := match x with
  | none => ⟨fi, now + fi, cr + 1⟩
  | some y => ⟨lenF fi mo re (some y) now, max y.u (now + lenF fi mo re (some y) now), y.n⟩

set_option maxRecDepth 100000 in
set_option maxHeartbeats 4000000 in
theorem fail_none (b m : Nat) (fi mo re : Int) (E : ByteArray → Option En) (cr : Int) (n : Nat) (g : ByteArray) (now : Int) (w : World) (h : TB w b m fi mo re E cr n) (hn : n ≤ 1000000) (hg : g.size ≤ maxLen) (h0 : 0 ≤ now) (h1 : now ≤ 1099511627776) (hE : E g = none) :
    Calls Try.prog 9 #[.pointer (some ⟨b, 0, none⟩), .string g, .int .i64 now] w fun e w' => e = .returned (.int .i64 fi) ∧ TB w' b m fi mo re (updE E g (some (newF fi mo re cr none now))) (cr + 1) (n + 2) ∧ Only [b, m] w w' := by
  obtain ⟨c0, c1, c2, c3, c4, c5, f5⟩ := h.cells
  have hb : b < w.heap.size := h.row.lt
  have ht : timeB now = true := decide_eq_true ⟨h0, h1⟩
  have Hh := Lib.hid h
  have Hl := Lib.hid (show (fun s => (E s).map ent) g = none by show (E g).map ent = none; rw [hE]; rfl)
  have p1 := h.p1
  have p2 := h.p2
  have p3 := h.p3
  have q0 := h.c0
  have q1 := h.c1
  clear h hE
  go_enter Try.func9, Try.ntmps9
  go_wp2_with (first
    | (go_at_call 26; (with_reducible refine (made_yes b _ c0).mono ?_); rintro e w1 ⟨rfl, rfl⟩)
    | (go_at_call 27; (with_reducible refine (time_any now _).mono ?_); rintro e w2 ⟨rfl, rfl⟩)
    | (at_lookup; refine at_look_ok rfl _ _ 49 9 54 rfl law_str Try.underlying49 Try.underlying9 _ (zero_ent _) (Hh.out.mp.below (by (repeat' (first | with_reducible exact Below.refl _ _ | with_reducible assumption | with_reducible refine Below.drew ?_ | with_reducible refine below_drewN' ?_ _ | with_reducible refine Below.alloc ?_ ?_ _ | with_reducible refine Below.setCell ?_ ?_ _ | with_reducible refine below_step (by assumption) ?_ ?_ | omega | (simp; done) | (simp; omega))))) rfl _ rfl hg ?_; rw [Hl.out]))
  obtain ⟨W, hW⟩ : ∃ W, W = (w2.setCell ⟨b, 5, none⟩ (.int .i64 (cr + 1))).alloc (.cells #[.int .i64 0, .int .i64 0, .int .i64 0] 54) := ⟨_, rfl⟩
  have HOW := Lib.hid (show Only [b, m] w2 W by rw [hW]; exact ((Only.refl _ _).setCell (.inl (by simp)) _).alloc _)
  have hne := Hh.out.ne
  have hrow := Hh.out.row
  have hTW : TB W b m fi mo re E (cr + 1) (n + 1) := ⟨by rw [hW]; exact (hrow.set 5 _).alloc _, (by rw [hW]; exact ((Hh.out.mp.same (Below.heap_setCell _ _ _ _ (Ne.symm hne))).below ((Below.refl _ _).alloc (Nat.le_refl _) _)).mono (Nat.le_succ _)), Hh.out.ok, p1, p2, p3, Hh.out.p4, Hh.out.p5, by omega, by omega⟩
  have HTW := Lib.hid hTW
  obtain ⟨d0, d1, d2, d3, d4, d5, g5⟩ := hTW.cells
  have HX := Lib.hid (show Blk W w2.heap.size 54 [.int .i64 0, .int .i64 0, .int .i64 0] by rw [hW]; have h := Blk.new (w2.setCell ⟨b, 5, none⟩ (.int .i64 (cr + 1))) 54 [.int .i64 0, .int .i64 0, .int .i64 0]; simpa using h)
  have x0 := HX.out.cell 0
  have x1 := HX.out.cell 1
  have x2 := HX.out.cell 2
  have y0 := HX.out.frozen 0
  have y1 := HX.out.frozen 1
  have y2 := HX.out.frozen 2
  have hbW : b < W.heap.size := hTW.row.lt
  have hxW : w2.heap.size < W.heap.size := HX.out.lt
  rw [← hW]
  clear hW hTW c0 c1 c2 c3 c4 c5 f5 hrow
  have hcH := held_cell
  refine region_rel_tail 9 (by kernel_rfl) (by kernel_rfl) (by kernel_rfl) ?_
  dsimp only [List.take, List.drop]
  repeat
    ((with_reducible refine relStep (fun K hK => ?_))
     (have HK := Lib.hid hK)
     clear hK
     (apply relInl
      · intro r n hf
        have Hf := Lib.hid hf
        clear hf
        (first
          | (fail)
          | (unfold relAt
             go_simp
             (first | (refine relUpon_val ?_ (Below.refl _ _); exact rfl) | exact rfl | (refine relUpon_enter ?_; fail))))
      (simp only [Act.put, List.setIfInBounds_toArray, List.set_cons_zero, List.set_cons_succ])
      (with_reducible refine HK.out _ _ ?_)
      clear HK K))
  refine relNil ?_
  intro r5 n5 hx5
  clear hcH
  (try simp only [List.nil_append, List.cons_append, List.mem_cons, List.not_mem_nil, or_false, forall_eq_or_imp, forall_eq, false_implies, implies_true] at hx5)
  obtain ⟨w5, hb5⟩ := n5
  (try dsimp only)
  obtain ⟨hc5, hf5⟩ := bcell hb5
  have hz5 := hb5.size
  (try simp at hz5)
  go_wp2
  have hO5 := Lib.hid (HOW.out.trans (Only.of_below hb5))
  have hwz : w2.heap.size ≤ w5.heap.size := by omega
  obtain ⟨V, hV⟩ : ∃ V, V = (((w5.setCell ⟨w2.heap.size, 0, none⟩ (.int .i64 fi)).setCell ⟨w2.heap.size, 1, none⟩ (.int .i64 0)).setCell ⟨w2.heap.size, 2, none⟩ (.int .i64 (cr + 1))).setCell ⟨w2.heap.size, 1, none⟩ (.int .i64 (now + fi)) := ⟨_, rfl⟩
  have HX5 := Lib.hid (HX.out.below hb5)
  have HV := Lib.hid (show Only [w2.heap.size] w5 V by rw [hV]; exact ((((Only.refl _ _).setCell (.inl (by simp)) _).setCell (.inl (by simp)) _).setCell (.inl (by simp)) _).setCell (.inl (by simp)) _)
  have hxV := Lib.hid (show Blk V w2.heap.size 54 [.int .i64 fi, .int .i64 (now + fi), .int .i64 (cr + 1)] by rw [hV]; exact ((((HX5.out.set 0 _).set 1 _).set 2 _).set 1 _))
  rw [← hV]
  clear hV
  have hmb : m < w2.heap.size := Hh.out.mp.lt
  have HTV := Lib.hid ((HTW.out.below hb5).only HV.out (by simp; omega) (by simp; omega))
  have HOV := Lib.hid (show Only [b, m] w2 V from ⟨HV.out.os.trans hO5.out.os, HV.out.tape.trans hO5.out.tape, HV.out.output.trans hO5.out.output, Nat.le_trans hO5.out.size HV.out.size, fun k hk hs => (HV.out.block k (Nat.lt_of_lt_of_le hk hO5.out.size) (by simp; omega)).trans (hO5.out.block k hk hs)⟩)
  clear hb5 hc5 hf5 hz5 x0 x1 x2 y0 y1 y2 d0 d1 d2 d3 d4 d5 g5 hbW hxW hwz
  obtain ⟨e0, e1, e2, e3, e4, e5, eg5⟩ := HTV.out.cells
  have z0 := hxV.out.cell 0
  have z1 := hxV.out.cell 1
  have z2 := hxV.out.cell 2
  have hbV : b < V.heap.size := HTV.out.row.lt
  have hxV2 : w2.heap.size < V.heap.size := hxV.out.lt
  have hcH := held_cell
  refine region_rel_tail 6 (by kernel_rfl) (by kernel_rfl) (by kernel_rfl) ?_
  dsimp only [List.take, List.drop]
  repeat
    ((with_reducible refine relStep (fun K hK => ?_))
     (have HK := Lib.hid hK)
     clear hK
     (apply relInl
      · intro r n hf
        have Hf := Lib.hid hf
        clear hf
        (first
          | (fail)
          | (unfold relAt
             go_simp
             (first | (refine relUpon_val ?_ (Below.refl _ _); exact rfl) | exact rfl | (refine relUpon_enter ?_; fail))))
      (simp only [Act.put, List.setIfInBounds_toArray, List.set_cons_zero, List.set_cons_succ])
      (with_reducible refine HK.out _ _ ?_)
      clear HK K))
  refine relNil ?_
  intro r6 n6 hx6
  clear hcH
  (try simp only [List.nil_append, List.cons_append, List.mem_cons, List.not_mem_nil, or_false, forall_eq_or_imp, forall_eq, false_implies, implies_true] at hx6)
  obtain ⟨w6, hb6⟩ := n6
  (try dsimp only)
  obtain ⟨hc6, hf6⟩ := bcell hb6
  have hz6 := hb6.size
  (try simp at hz6)
  have HO6 := Lib.hid (HOV.out.trans (Only.of_below hb6))
  have HT6 := Lib.hid (HTV.out.below hb6)
  have hx6 := hxV.out.below hb6
  have v0 := hx6.cell 0
  have v1 := hx6.cell 1
  have HX6 := Lib.hid hx6
  clear hx6
  go_wp2_with (at_mapUpdate; refine at_put rfl _ _ _ 49 9 54 rfl law_str Try.underlying49 Try.underlying9 HT6.out.mp (by unfold maxLen; omega) rfl _ rfl hg (ent (newF fi mo re cr none now)) rfl ?_; intro w7 hm7 hg7; have HM7 := Lib.hid hm7; have HG7 := Lib.hid hg7; have v70 := (HX6.out.same (hg7.block _ HX6.out.lt (fun e => by have := Option.some.inj e; omega))).cell 0; clear hm7 hg7)
  go_ret
  have hok := (show 1 ≤ fi ∧ fi ≤ mo ∧ 0 ≤ now + fi ∧ now + fi ≤ 2199023255552 by omega)
  exact ⟨rfl, ⟨HT6.out.row.same (HG7.out.block b HT6.out.row.lt (fun e => hne (Option.some.inj e))), (HM7.out.eq (upd_map E g (some (newF fi mo re cr none now)))).mono (by omega), (fun s x hx => by
      by_cases hs : s = g
      · rw [hs, updE_same] at hx
        cases hx
        exact hok
      · rw [updE_other hs] at hx
        exact Hh.out.ok s x hx), p1, p2, p3, Hh.out.p4, Hh.out.p5, by omega, by omega⟩, HO6.out.grown HG7.out (fun k e => .inl (by cases e; simp))⟩

set_option maxRecDepth 100000 in
set_option maxHeartbeats 4000000 in
theorem fail_some (b m : Nat) (fi mo re : Int) (E : ByteArray → Option En) (cr : Int) (n : Nat) (g : ByteArray) (now : Int) (y : En) (w : World) (h : TB w b m fi mo re E cr n) (hn : n ≤ 1000000) (hg : g.size ≤ maxLen) (h0 : 0 ≤ now) (h1 : now ≤ 1099511627776) (hE : E g = some y) :
    Calls Try.prog 9 #[.pointer (some ⟨b, 0, none⟩), .string g, .int .i64 now] w fun e w' => e = .returned (.int .i64 (lenF fi mo re (some y) now)) ∧ TB w' b m fi mo re (updE E g (some (newF fi mo re cr (some y) now))) cr (n + 2) ∧ Only [b, m] w w' := by
  obtain ⟨c0, c1, c2, c3, c4, c5, f5⟩ := h.cells
  have hb : b < w.heap.size := h.row.lt
  have ht : timeB now = true := decide_eq_true ⟨h0, h1⟩
  have Hh := Lib.hid h
  have hy := h.ok g y hE
  obtain ⟨yl, yu, yn⟩ := y
  simp only at hy
  obtain ⟨b1, b2, b3, b4⟩ := hy
  have Hl := Lib.hid (show (fun s => (E s).map ent) g = some (.agg #[.int .i64 yl, .int .i64 yu, .int .i64 yn]) by show (E g).map ent = _; rw [hE]; rfl)
  have p1 := h.p1
  have p2 := h.p2
  have p3 := h.p3
  have p4 := h.p4
  have p5 := h.p5
  have q0 := h.c0
  have q1 := h.c1
  have hne := h.ne
  clear h hE
  have hwr : IntKind.i64.wrap (now - yu) = now - yu := wrap_in (by omega) (by omega)
  by_cases hre : re ≤ now - yu
  · have hd : decide (re ≤ now - yu) = true := decide_eq_true hre
    have hL : lenF fi mo re (some ⟨yl, yu, yn⟩) now = fi := if_pos hre
    have hN : newF fi mo re cr (some ⟨yl, yu, yn⟩) now = ⟨fi, now + fi, yn⟩ := by
      unfold newF
      simp only [hL]
      rw [show max yu (now + fi) = now + fi by omega]
    rw [hL, hN]
    clear hL hN
    go_enter Try.func9, Try.ntmps9
    go_wp2_with (first
      | (go_at_call 26; (with_reducible refine (made_yes b _ c0).mono ?_); rintro e w1 ⟨rfl, rfl⟩)
      | (go_at_call 27; (with_reducible refine (time_any now _).mono ?_); rintro e w2 ⟨rfl, rfl⟩)
      | (at_lookup; refine at_look_ok rfl _ _ 49 9 54 rfl law_str Try.underlying49 Try.underlying9 _ (zero_ent _) (Hh.out.mp.below (by (repeat' (first | with_reducible exact Below.refl _ _ | with_reducible assumption | with_reducible refine Below.drew ?_ | with_reducible refine below_drewN' ?_ _ | with_reducible refine Below.alloc ?_ ?_ _ | with_reducible refine Below.setCell ?_ ?_ _ | with_reducible refine below_step (by assumption) ?_ ?_ | omega | (simp; done) | (simp; omega))))) rfl _ rfl hg ?_; rw [Hl.out]))
    obtain ⟨W, hW⟩ : ∃ W, W = w2.alloc (.cells #[.int .i64 yl, .int .i64 yu, .int .i64 yn] 54) := ⟨_, rfl⟩
    have HOW := Lib.hid (show Only [b, m] w2 W by rw [hW]; exact (Only.refl _ _).alloc _)
    have hTW : TB W b m fi mo re E cr n := by rw [hW]; exact Hh.out.below ((Below.refl _ _).alloc (Nat.le_refl _) _)
    have HTW := Lib.hid hTW
    obtain ⟨d0, d1, d2, d3, d4, d5, g5⟩ := hTW.cells
    have HX := Lib.hid (show Blk W w2.heap.size 54 [.int .i64 yl, .int .i64 yu, .int .i64 yn] by rw [hW]; exact Blk.new w2 54 _)
    have x0 := HX.out.cell 0
    have x1 := HX.out.cell 1
    have x2 := HX.out.cell 2
    have y0 := HX.out.frozen 0
    have y1 := HX.out.frozen 1
    have y2 := HX.out.frozen 2
    have hbW : b < W.heap.size := hTW.row.lt
    have hxW : w2.heap.size < W.heap.size := HX.out.lt
    rw [← hW]
    clear hW hTW c0 c1 c2 c3 c4 c5 f5
    have hcH := held_cell
    refine region_rel (by kernel_rfl) (by kernel_rfl) ?_
    repeat
      ((with_reducible refine relStep (fun K hK => ?_))
       (have HK := Lib.hid hK)
       clear hK
       (first
         | (apply relInl
            · intro r n hf
              have Hf := Lib.hid hf
              clear hf
              unfold relAt
              go_simp
              (first | (refine relUpon_val ?_ (Below.refl _ _); exact rfl) | exact rfl | (refine relUpon_enter ?_; fail))
            (simp only [Act.put, List.setIfInBounds_toArray, List.set_cons_zero, List.set_cons_succ])
            (with_reducible refine HK.out _ _ ?_)
            clear HK K)
         | (fail)))
    refine relNil ?_
    intro r4 n4 hx4
    clear hcH
    (try simp only [List.nil_append, List.cons_append, List.mem_cons, List.not_mem_nil, or_false, forall_eq_or_imp, forall_eq, false_implies, implies_true] at hx4)
    obtain ⟨w4, hb4⟩ := n4
    (try dsimp only)
    obtain ⟨hc4, hf4⟩ := bcell hb4
    have hz4 := hb4.size
    (try simp at hz4)
    have hO4 := Lib.hid (HOW.out.trans (Only.of_below hb4))
    have HT4 := Lib.hid (HTW.out.below hb4)
    have HX4 := Lib.hid (HX.out.below hb4)
    have z4_0 : b < w4.heap.size := (by omega); have y4_0 : b ≤ w4.heap.size := (by omega); have z4_1 : w2.heap.size < w4.heap.size := (by omega); have y4_1 : w2.heap.size ≤ w4.heap.size := (by omega)
    go_wp2
    obtain ⟨V, hV⟩ : ∃ V, V = (w4.setCell ⟨w2.heap.size, 0, none⟩ (.int .i64 fi)).setCell ⟨w2.heap.size, 1, none⟩ (.int .i64 (now + fi)) := ⟨_, rfl⟩
    have HV := Lib.hid (show Only [w2.heap.size] w4 V by rw [hV]; exact ((Only.refl _ _).setCell (.inl (by simp)) _).setCell (.inl (by simp)) _)
    have hxV := Lib.hid (show Blk V w2.heap.size 54 [.int .i64 fi, .int .i64 (now + fi), .int .i64 yn] by rw [hV]; exact (HX4.out.set 0 _).set 1 _)
    rw [← hV]
    clear hV
    have hmb : m < w2.heap.size := Hh.out.mp.lt
    have HTV := Lib.hid (HT4.out.only HV.out (by simp; omega) (by simp; omega))
    have HOV := Lib.hid (show Only [b, m] w2 V from ⟨HV.out.os.trans hO4.out.os, HV.out.tape.trans hO4.out.tape, HV.out.output.trans hO4.out.output, Nat.le_trans hO4.out.size HV.out.size, fun k hk hs => (HV.out.block k (Nat.lt_of_lt_of_le hk hO4.out.size) (by simp; omega)).trans (hO4.out.block k hk hs)⟩)
    clear hb4 hc4 hf4 hz4 x0 x1 x2 y0 y1 y2 d0 d1 d2 d3 d4 d5 g5 hbW hxW
    obtain ⟨e0, e1, e2, e3, e4, e5, eg5⟩ := HTV.out.cells
    have z0 := hxV.out.cell 0
    have z1 := hxV.out.cell 1
    have z2 := hxV.out.cell 2
    have hbV : b < V.heap.size := HTV.out.row.lt
    have hxV2 : w2.heap.size < V.heap.size := hxV.out.lt
    have hcH := held_cell
    refine region_rel_tail 6 (by kernel_rfl) (by kernel_rfl) (by kernel_rfl) ?_
    dsimp only [List.take, List.drop]
    repeat
      ((with_reducible refine relStep (fun K hK => ?_))
       (have HK := Lib.hid hK)
       clear hK
       (apply relInl
        · intro r n hf
          have Hf := Lib.hid hf
          clear hf
          (first
            | (fail)
            | (unfold relAt
               go_simp
               (first | (refine relUpon_val ?_ (Below.refl _ _); exact rfl) | exact rfl | (refine relUpon_enter ?_; fail))))
        (simp only [Act.put, List.setIfInBounds_toArray, List.set_cons_zero, List.set_cons_succ])
        (with_reducible refine HK.out _ _ ?_)
        clear HK K))
    refine relNil ?_
    intro r6 n6 hx6
    clear hcH
    (try simp only [List.nil_append, List.cons_append, List.mem_cons, List.not_mem_nil, or_false, forall_eq_or_imp, forall_eq, false_implies, implies_true] at hx6)
    obtain ⟨w6, hb6⟩ := n6
    (try dsimp only)
    obtain ⟨hc6, hf6⟩ := bcell hb6
    have hz6 := hb6.size
    (try simp at hz6)
    have HO6 := Lib.hid (HOV.out.trans (Only.of_below hb6))
    have HT6 := Lib.hid (HTV.out.below hb6)
    have hx6 := hxV.out.below hb6
    have v0 := hx6.cell 0
    have v1 := hx6.cell 1
    have HX6 := Lib.hid hx6
    clear hx6
    go_wp2_with (at_mapUpdate; refine at_put rfl _ _ _ 49 9 54 rfl law_str Try.underlying49 Try.underlying9 HT6.out.mp (by unfold maxLen; omega) rfl _ rfl hg (ent (⟨fi, now + fi, yn⟩)) rfl ?_; intro w7 hm7 hg7; have HM7 := Lib.hid hm7; have HG7 := Lib.hid hg7; have v70 := (HX6.out.same (hg7.block _ HX6.out.lt (fun e => by have := Option.some.inj e; omega))).cell 0; clear hm7 hg7)
    go_ret
    have hok := (show 1 ≤ fi ∧ fi ≤ mo ∧ 0 ≤ now + fi ∧ now + fi ≤ 2199023255552 by omega)
    exact ⟨rfl, ⟨HT6.out.row.same (HG7.out.block b HT6.out.row.lt (fun e => hne (Option.some.inj e))), (HM7.out.eq (upd_map E g (some (⟨fi, now + fi, yn⟩)))).mono (by omega), (fun s x hx => by
        by_cases hs : s = g
        · rw [hs, updE_same] at hx
          cases hx
          exact hok
        · rw [updE_other hs] at hx
          exact Hh.out.ok s x hx), p1, p2, p3, Hh.out.p4, Hh.out.p5, by omega, by omega⟩, HO6.out.grown HG7.out (fun k e => .inl (by cases e; simp))⟩
  · have hd : decide (re ≤ now - yu) = false := decide_eq_false hre
    have hre2 : now - yu < re := by omega
    have hwm : IntKind.i64.wrap (2 * yl) = 2 * yl := wrap_in (by omega) (by omega)
    by_cases hm : mo < 2 * yl
    · by_cases hu : yu < now + mo
      · skip
        have hL : lenF fi mo re (some ⟨yl, yu, yn⟩) now = mo := (if_neg hre).trans (show min (2 * yl) mo = mo by omega)
        have hN : newF fi mo re cr (some ⟨yl, yu, yn⟩) now = ⟨mo, now + mo, yn⟩ := by
          unfold newF
          simp only [hL]
          rw [show max yu (now + mo) = now + mo by omega]
        rw [hL, hN]
        clear hL hN
        go_enter Try.func9, Try.ntmps9
        go_wp2_with (first
          | (go_at_call 26; (with_reducible refine (made_yes b _ c0).mono ?_); rintro e w1 ⟨rfl, rfl⟩)
          | (go_at_call 27; (with_reducible refine (time_any now _).mono ?_); rintro e w2 ⟨rfl, rfl⟩)
          | (at_lookup; refine at_look_ok rfl _ _ 49 9 54 rfl law_str Try.underlying49 Try.underlying9 _ (zero_ent _) (Hh.out.mp.below (by (repeat' (first | with_reducible exact Below.refl _ _ | with_reducible assumption | with_reducible refine Below.drew ?_ | with_reducible refine below_drewN' ?_ _ | with_reducible refine Below.alloc ?_ ?_ _ | with_reducible refine Below.setCell ?_ ?_ _ | with_reducible refine below_step (by assumption) ?_ ?_ | omega | (simp; done) | (simp; omega))))) rfl _ rfl hg ?_; rw [Hl.out]))
        obtain ⟨W, hW⟩ : ∃ W, W = w2.alloc (.cells #[.int .i64 yl, .int .i64 yu, .int .i64 yn] 54) := ⟨_, rfl⟩
        have HOW := Lib.hid (show Only [b, m] w2 W by rw [hW]; exact (Only.refl _ _).alloc _)
        have hTW : TB W b m fi mo re E cr n := by rw [hW]; exact Hh.out.below ((Below.refl _ _).alloc (Nat.le_refl _) _)
        have HTW := Lib.hid hTW
        obtain ⟨d0, d1, d2, d3, d4, d5, g5⟩ := hTW.cells
        have HX := Lib.hid (show Blk W w2.heap.size 54 [.int .i64 yl, .int .i64 yu, .int .i64 yn] by rw [hW]; exact Blk.new w2 54 _)
        have x0 := HX.out.cell 0
        have x1 := HX.out.cell 1
        have x2 := HX.out.cell 2
        have y0 := HX.out.frozen 0
        have y1 := HX.out.frozen 1
        have y2 := HX.out.frozen 2
        have hbW : b < W.heap.size := hTW.row.lt
        have hxW : w2.heap.size < W.heap.size := HX.out.lt
        rw [← hW]
        clear hW hTW c0 c1 c2 c3 c4 c5 f5
        have hcH := held_cell
        refine region_rel (by kernel_rfl) (by kernel_rfl) ?_
        repeat
          ((with_reducible refine relStep (fun K hK => ?_))
           (have HK := Lib.hid hK)
           clear hK
           (first
             | (apply relInl
                · intro r n hf
                  have Hf := Lib.hid hf
                  clear hf
                  unfold relAt
                  go_simp
                  (first | (refine relUpon_val ?_ (Below.refl _ _); exact rfl) | exact rfl | (refine relUpon_enter ?_; fail))
                (simp only [Act.put, List.setIfInBounds_toArray, List.set_cons_zero, List.set_cons_succ])
                (with_reducible refine HK.out _ _ ?_)
                clear HK K)
             | (fail)))
        refine relNil ?_
        intro r4 n4 hx4
        clear hcH
        (try simp only [List.nil_append, List.cons_append, List.mem_cons, List.not_mem_nil, or_false, forall_eq_or_imp, forall_eq, false_implies, implies_true] at hx4)
        obtain ⟨w4, hb4⟩ := n4
        (try dsimp only)
        obtain ⟨hc4, hf4⟩ := bcell hb4
        have hz4 := hb4.size
        (try simp at hz4)
        have hO4 := Lib.hid (HOW.out.trans (Only.of_below hb4))
        have HT4 := Lib.hid (HTW.out.below hb4)
        have HX4 := Lib.hid (HX.out.below hb4)
        have z4_0 : b < w4.heap.size := (by omega); have y4_0 : b ≤ w4.heap.size := (by omega); have z4_1 : w2.heap.size < w4.heap.size := (by omega); have y4_1 : w2.heap.size ≤ w4.heap.size := (by omega)
        go_wp2
        have hcH := held_cell
        refine region_rel_tail 9 (by kernel_rfl) (by kernel_rfl) (by kernel_rfl) ?_
        dsimp only [List.take, List.drop]
        repeat
          ((with_reducible refine relStep (fun K hK => ?_))
           (have HK := Lib.hid hK)
           clear hK
           (apply relInl
            · intro r n hf
              have Hf := Lib.hid hf
              clear hf
              (first
                | (fail)
                | (unfold relAt
                   go_simp
                   (first | (refine relUpon_val ?_ (Below.refl _ _); exact rfl) | exact rfl | (refine relUpon_enter ?_; fail))))
            (simp only [Act.put, List.setIfInBounds_toArray, List.set_cons_zero, List.set_cons_succ])
            (with_reducible refine HK.out _ _ ?_)
            clear HK K))
        refine relNil ?_
        intro r5 n5 hx5
        clear hcH
        (try simp only [List.nil_append, List.cons_append, List.mem_cons, List.not_mem_nil, or_false, forall_eq_or_imp, forall_eq, false_implies, implies_true] at hx5)
        obtain ⟨w5, hb5⟩ := n5
        (try dsimp only)
        obtain ⟨hc5, hf5⟩ := bcell hb5
        have hz5 := hb5.size
        (try simp at hz5)
        have hO5 := Lib.hid (hO4.out.trans (Only.of_below hb5))
        have HT5 := Lib.hid (HT4.out.below hb5)
        have HX5 := Lib.hid (HX4.out.below hb5)
        go_wp2
        obtain ⟨V, hV⟩ : ∃ V, V = (w5.setCell ⟨w2.heap.size, 0, none⟩ (.int .i64 mo)).setCell ⟨w2.heap.size, 1, none⟩ (.int .i64 (now + mo)) := ⟨_, rfl⟩
        have HV := Lib.hid (show Only [w2.heap.size] w5 V by rw [hV]; exact ((Only.refl _ _).setCell (.inl (by simp)) _).setCell (.inl (by simp)) _)
        have hxV := Lib.hid (show Blk V w2.heap.size 54 [.int .i64 mo, .int .i64 (now + mo), .int .i64 yn] by rw [hV]; exact (HX5.out.set 0 _).set 1 _)
        rw [← hV]
        clear hV
        have hmb : m < w2.heap.size := Hh.out.mp.lt
        have HTV := Lib.hid (HT5.out.only HV.out (by simp; omega) (by simp; omega))
        have HOV := Lib.hid (show Only [b, m] w2 V from ⟨HV.out.os.trans hO5.out.os, HV.out.tape.trans hO5.out.tape, HV.out.output.trans hO5.out.output, Nat.le_trans hO5.out.size HV.out.size, fun k hk hs => (HV.out.block k (Nat.lt_of_lt_of_le hk hO5.out.size) (by simp; omega)).trans (hO5.out.block k hk hs)⟩)
        clear hb4 hc4 hf4 hz4 hb5 hc5 hf5 hz5 x0 x1 x2 y0 y1 y2 d0 d1 d2 d3 d4 d5 g5 hbW hxW
        obtain ⟨e0, e1, e2, e3, e4, e5, eg5⟩ := HTV.out.cells
        have z0 := hxV.out.cell 0
        have z1 := hxV.out.cell 1
        have z2 := hxV.out.cell 2
        have hbV : b < V.heap.size := HTV.out.row.lt
        have hxV2 : w2.heap.size < V.heap.size := hxV.out.lt
        have hcH := held_cell
        refine region_rel_tail 6 (by kernel_rfl) (by kernel_rfl) (by kernel_rfl) ?_
        dsimp only [List.take, List.drop]
        repeat
          ((with_reducible refine relStep (fun K hK => ?_))
           (have HK := Lib.hid hK)
           clear hK
           (apply relInl
            · intro r n hf
              have Hf := Lib.hid hf
              clear hf
              (first
                | (fail)
                | (unfold relAt
                   go_simp
                   (first | (refine relUpon_val ?_ (Below.refl _ _); exact rfl) | exact rfl | (refine relUpon_enter ?_; fail))))
            (simp only [Act.put, List.setIfInBounds_toArray, List.set_cons_zero, List.set_cons_succ])
            (with_reducible refine HK.out _ _ ?_)
            clear HK K))
        refine relNil ?_
        intro r6 n6 hx6
        clear hcH
        (try simp only [List.nil_append, List.cons_append, List.mem_cons, List.not_mem_nil, or_false, forall_eq_or_imp, forall_eq, false_implies, implies_true] at hx6)
        obtain ⟨w6, hb6⟩ := n6
        (try dsimp only)
        obtain ⟨hc6, hf6⟩ := bcell hb6
        have hz6 := hb6.size
        (try simp at hz6)
        have HO6 := Lib.hid (HOV.out.trans (Only.of_below hb6))
        have HT6 := Lib.hid (HTV.out.below hb6)
        have hx6 := hxV.out.below hb6
        have v0 := hx6.cell 0
        have v1 := hx6.cell 1
        have HX6 := Lib.hid hx6
        clear hx6
        go_wp2_with (at_mapUpdate; refine at_put rfl _ _ _ 49 9 54 rfl law_str Try.underlying49 Try.underlying9 HT6.out.mp (by unfold maxLen; omega) rfl _ rfl hg (ent (⟨mo, now + mo, yn⟩)) rfl ?_; intro w7 hm7 hg7; have HM7 := Lib.hid hm7; have HG7 := Lib.hid hg7; have v70 := (HX6.out.same (hg7.block _ HX6.out.lt (fun e => by have := Option.some.inj e; omega))).cell 0; clear hm7 hg7)
        go_ret
        have hok := (show 1 ≤ mo ∧ mo ≤ mo ∧ 0 ≤ now + mo ∧ now + mo ≤ 2199023255552 by omega)
        exact ⟨rfl, ⟨HT6.out.row.same (HG7.out.block b HT6.out.row.lt (fun e => hne (Option.some.inj e))), (HM7.out.eq (upd_map E g (some (⟨mo, now + mo, yn⟩)))).mono (by omega), (fun s x hx => by
            by_cases hs : s = g
            · rw [hs, updE_same] at hx
              cases hx
              exact hok
            · rw [updE_other hs] at hx
              exact Hh.out.ok s x hx), p1, p2, p3, Hh.out.p4, Hh.out.p5, by omega, by omega⟩, HO6.out.grown HG7.out (fun k e => .inl (by cases e; simp))⟩
      · skip
        have hL : lenF fi mo re (some ⟨yl, yu, yn⟩) now = mo := (if_neg hre).trans (show min (2 * yl) mo = mo by omega)
        have hN : newF fi mo re cr (some ⟨yl, yu, yn⟩) now = ⟨mo, yu, yn⟩ := by
          unfold newF
          simp only [hL]
          rw [show max yu (now + mo) = yu by omega]
        rw [hL, hN]
        clear hL hN
        go_enter Try.func9, Try.ntmps9
        go_wp2_with (first
          | (go_at_call 26; (with_reducible refine (made_yes b _ c0).mono ?_); rintro e w1 ⟨rfl, rfl⟩)
          | (go_at_call 27; (with_reducible refine (time_any now _).mono ?_); rintro e w2 ⟨rfl, rfl⟩)
          | (at_lookup; refine at_look_ok rfl _ _ 49 9 54 rfl law_str Try.underlying49 Try.underlying9 _ (zero_ent _) (Hh.out.mp.below (by (repeat' (first | with_reducible exact Below.refl _ _ | with_reducible assumption | with_reducible refine Below.drew ?_ | with_reducible refine below_drewN' ?_ _ | with_reducible refine Below.alloc ?_ ?_ _ | with_reducible refine Below.setCell ?_ ?_ _ | with_reducible refine below_step (by assumption) ?_ ?_ | omega | (simp; done) | (simp; omega))))) rfl _ rfl hg ?_; rw [Hl.out]))
        obtain ⟨W, hW⟩ : ∃ W, W = w2.alloc (.cells #[.int .i64 yl, .int .i64 yu, .int .i64 yn] 54) := ⟨_, rfl⟩
        have HOW := Lib.hid (show Only [b, m] w2 W by rw [hW]; exact (Only.refl _ _).alloc _)
        have hTW : TB W b m fi mo re E cr n := by rw [hW]; exact Hh.out.below ((Below.refl _ _).alloc (Nat.le_refl _) _)
        have HTW := Lib.hid hTW
        obtain ⟨d0, d1, d2, d3, d4, d5, g5⟩ := hTW.cells
        have HX := Lib.hid (show Blk W w2.heap.size 54 [.int .i64 yl, .int .i64 yu, .int .i64 yn] by rw [hW]; exact Blk.new w2 54 _)
        have x0 := HX.out.cell 0
        have x1 := HX.out.cell 1
        have x2 := HX.out.cell 2
        have y0 := HX.out.frozen 0
        have y1 := HX.out.frozen 1
        have y2 := HX.out.frozen 2
        have hbW : b < W.heap.size := hTW.row.lt
        have hxW : w2.heap.size < W.heap.size := HX.out.lt
        rw [← hW]
        clear hW hTW c0 c1 c2 c3 c4 c5 f5
        have hcH := held_cell
        refine region_rel (by kernel_rfl) (by kernel_rfl) ?_
        repeat
          ((with_reducible refine relStep (fun K hK => ?_))
           (have HK := Lib.hid hK)
           clear hK
           (first
             | (apply relInl
                · intro r n hf
                  have Hf := Lib.hid hf
                  clear hf
                  unfold relAt
                  go_simp
                  (first | (refine relUpon_val ?_ (Below.refl _ _); exact rfl) | exact rfl | (refine relUpon_enter ?_; fail))
                (simp only [Act.put, List.setIfInBounds_toArray, List.set_cons_zero, List.set_cons_succ])
                (with_reducible refine HK.out _ _ ?_)
                clear HK K)
             | (fail)))
        refine relNil ?_
        intro r4 n4 hx4
        clear hcH
        (try simp only [List.nil_append, List.cons_append, List.mem_cons, List.not_mem_nil, or_false, forall_eq_or_imp, forall_eq, false_implies, implies_true] at hx4)
        obtain ⟨w4, hb4⟩ := n4
        (try dsimp only)
        obtain ⟨hc4, hf4⟩ := bcell hb4
        have hz4 := hb4.size
        (try simp at hz4)
        have hO4 := Lib.hid (HOW.out.trans (Only.of_below hb4))
        have HT4 := Lib.hid (HTW.out.below hb4)
        have HX4 := Lib.hid (HX.out.below hb4)
        have z4_0 : b < w4.heap.size := (by omega); have y4_0 : b ≤ w4.heap.size := (by omega); have z4_1 : w2.heap.size < w4.heap.size := (by omega); have y4_1 : w2.heap.size ≤ w4.heap.size := (by omega)
        go_wp2
        have hcH := held_cell
        refine region_rel_tail 9 (by kernel_rfl) (by kernel_rfl) (by kernel_rfl) ?_
        dsimp only [List.take, List.drop]
        repeat
          ((with_reducible refine relStep (fun K hK => ?_))
           (have HK := Lib.hid hK)
           clear hK
           (apply relInl
            · intro r n hf
              have Hf := Lib.hid hf
              clear hf
              (first
                | (fail)
                | (unfold relAt
                   go_simp
                   (first | (refine relUpon_val ?_ (Below.refl _ _); exact rfl) | exact rfl | (refine relUpon_enter ?_; fail))))
            (simp only [Act.put, List.setIfInBounds_toArray, List.set_cons_zero, List.set_cons_succ])
            (with_reducible refine HK.out _ _ ?_)
            clear HK K))
        refine relNil ?_
        intro r5 n5 hx5
        clear hcH
        (try simp only [List.nil_append, List.cons_append, List.mem_cons, List.not_mem_nil, or_false, forall_eq_or_imp, forall_eq, false_implies, implies_true] at hx5)
        obtain ⟨w5, hb5⟩ := n5
        (try dsimp only)
        obtain ⟨hc5, hf5⟩ := bcell hb5
        have hz5 := hb5.size
        (try simp at hz5)
        have hO5 := Lib.hid (hO4.out.trans (Only.of_below hb5))
        have HT5 := Lib.hid (HT4.out.below hb5)
        have HX5 := Lib.hid (HX4.out.below hb5)
        go_wp2
        obtain ⟨V, hV⟩ : ∃ V, V = (w5.setCell ⟨w2.heap.size, 0, none⟩ (.int .i64 mo)).setCell ⟨w2.heap.size, 1, none⟩ (.int .i64 yu) := ⟨_, rfl⟩
        have HV := Lib.hid (show Only [w2.heap.size] w5 V by rw [hV]; exact ((Only.refl _ _).setCell (.inl (by simp)) _).setCell (.inl (by simp)) _)
        have hxV := Lib.hid (show Blk V w2.heap.size 54 [.int .i64 mo, .int .i64 yu, .int .i64 yn] by rw [hV]; exact (HX5.out.set 0 _).set 1 _)
        rw [← hV]
        clear hV
        have hmb : m < w2.heap.size := Hh.out.mp.lt
        have HTV := Lib.hid (HT5.out.only HV.out (by simp; omega) (by simp; omega))
        have HOV := Lib.hid (show Only [b, m] w2 V from ⟨HV.out.os.trans hO5.out.os, HV.out.tape.trans hO5.out.tape, HV.out.output.trans hO5.out.output, Nat.le_trans hO5.out.size HV.out.size, fun k hk hs => (HV.out.block k (Nat.lt_of_lt_of_le hk hO5.out.size) (by simp; omega)).trans (hO5.out.block k hk hs)⟩)
        clear hb4 hc4 hf4 hz4 hb5 hc5 hf5 hz5 x0 x1 x2 y0 y1 y2 d0 d1 d2 d3 d4 d5 g5 hbW hxW
        obtain ⟨e0, e1, e2, e3, e4, e5, eg5⟩ := HTV.out.cells
        have z0 := hxV.out.cell 0
        have z1 := hxV.out.cell 1
        have z2 := hxV.out.cell 2
        have hbV : b < V.heap.size := HTV.out.row.lt
        have hxV2 : w2.heap.size < V.heap.size := hxV.out.lt
        have hcH := held_cell
        refine region_rel_tail 6 (by kernel_rfl) (by kernel_rfl) (by kernel_rfl) ?_
        dsimp only [List.take, List.drop]
        repeat
          ((with_reducible refine relStep (fun K hK => ?_))
           (have HK := Lib.hid hK)
           clear hK
           (apply relInl
            · intro r n hf
              have Hf := Lib.hid hf
              clear hf
              (first
                | (fail)
                | (unfold relAt
                   go_simp
                   (first | (refine relUpon_val ?_ (Below.refl _ _); exact rfl) | exact rfl | (refine relUpon_enter ?_; fail))))
            (simp only [Act.put, List.setIfInBounds_toArray, List.set_cons_zero, List.set_cons_succ])
            (with_reducible refine HK.out _ _ ?_)
            clear HK K))
        refine relNil ?_
        intro r6 n6 hx6
        clear hcH
        (try simp only [List.nil_append, List.cons_append, List.mem_cons, List.not_mem_nil, or_false, forall_eq_or_imp, forall_eq, false_implies, implies_true] at hx6)
        obtain ⟨w6, hb6⟩ := n6
        (try dsimp only)
        obtain ⟨hc6, hf6⟩ := bcell hb6
        have hz6 := hb6.size
        (try simp at hz6)
        have HO6 := Lib.hid (HOV.out.trans (Only.of_below hb6))
        have HT6 := Lib.hid (HTV.out.below hb6)
        have hx6 := hxV.out.below hb6
        have v0 := hx6.cell 0
        have v1 := hx6.cell 1
        have HX6 := Lib.hid hx6
        clear hx6
        go_wp2_with (at_mapUpdate; refine at_put rfl _ _ _ 49 9 54 rfl law_str Try.underlying49 Try.underlying9 HT6.out.mp (by unfold maxLen; omega) rfl _ rfl hg (ent (⟨mo, yu, yn⟩)) rfl ?_; intro w7 hm7 hg7; have HM7 := Lib.hid hm7; have HG7 := Lib.hid hg7; have v70 := (HX6.out.same (hg7.block _ HX6.out.lt (fun e => by have := Option.some.inj e; omega))).cell 0; clear hm7 hg7)
        go_ret
        have hok := (show 1 ≤ mo ∧ mo ≤ mo ∧ 0 ≤ yu ∧ yu ≤ 2199023255552 by omega)
        exact ⟨rfl, ⟨HT6.out.row.same (HG7.out.block b HT6.out.row.lt (fun e => hne (Option.some.inj e))), (HM7.out.eq (upd_map E g (some (⟨mo, yu, yn⟩)))).mono (by omega), (fun s x hx => by
            by_cases hs : s = g
            · rw [hs, updE_same] at hx
              cases hx
              exact hok
            · rw [updE_other hs] at hx
              exact Hh.out.ok s x hx), p1, p2, p3, Hh.out.p4, Hh.out.p5, by omega, by omega⟩, HO6.out.grown HG7.out (fun k e => .inl (by cases e; simp))⟩
    · by_cases hu : yu < now + 2 * yl
      · skip
        have hL : lenF fi mo re (some ⟨yl, yu, yn⟩) now = (2 * yl) := (if_neg hre).trans (show min (2 * yl) mo = (2 * yl) by omega)
        have hN : newF fi mo re cr (some ⟨yl, yu, yn⟩) now = ⟨(2 * yl), now + 2 * yl, yn⟩ := by
          unfold newF
          simp only [hL]
          rw [show max yu (now + (2 * yl)) = now + 2 * yl by omega]
        rw [hL, hN]
        clear hL hN
        go_enter Try.func9, Try.ntmps9
        go_wp2_with (first
          | (go_at_call 26; (with_reducible refine (made_yes b _ c0).mono ?_); rintro e w1 ⟨rfl, rfl⟩)
          | (go_at_call 27; (with_reducible refine (time_any now _).mono ?_); rintro e w2 ⟨rfl, rfl⟩)
          | (at_lookup; refine at_look_ok rfl _ _ 49 9 54 rfl law_str Try.underlying49 Try.underlying9 _ (zero_ent _) (Hh.out.mp.below (by (repeat' (first | with_reducible exact Below.refl _ _ | with_reducible assumption | with_reducible refine Below.drew ?_ | with_reducible refine below_drewN' ?_ _ | with_reducible refine Below.alloc ?_ ?_ _ | with_reducible refine Below.setCell ?_ ?_ _ | with_reducible refine below_step (by assumption) ?_ ?_ | omega | (simp; done) | (simp; omega))))) rfl _ rfl hg ?_; rw [Hl.out]))
        obtain ⟨W, hW⟩ : ∃ W, W = w2.alloc (.cells #[.int .i64 yl, .int .i64 yu, .int .i64 yn] 54) := ⟨_, rfl⟩
        have HOW := Lib.hid (show Only [b, m] w2 W by rw [hW]; exact (Only.refl _ _).alloc _)
        have hTW : TB W b m fi mo re E cr n := by rw [hW]; exact Hh.out.below ((Below.refl _ _).alloc (Nat.le_refl _) _)
        have HTW := Lib.hid hTW
        obtain ⟨d0, d1, d2, d3, d4, d5, g5⟩ := hTW.cells
        have HX := Lib.hid (show Blk W w2.heap.size 54 [.int .i64 yl, .int .i64 yu, .int .i64 yn] by rw [hW]; exact Blk.new w2 54 _)
        have x0 := HX.out.cell 0
        have x1 := HX.out.cell 1
        have x2 := HX.out.cell 2
        have y0 := HX.out.frozen 0
        have y1 := HX.out.frozen 1
        have y2 := HX.out.frozen 2
        have hbW : b < W.heap.size := hTW.row.lt
        have hxW : w2.heap.size < W.heap.size := HX.out.lt
        rw [← hW]
        clear hW hTW c0 c1 c2 c3 c4 c5 f5
        have hcH := held_cell
        refine region_rel (by kernel_rfl) (by kernel_rfl) ?_
        repeat
          ((with_reducible refine relStep (fun K hK => ?_))
           (have HK := Lib.hid hK)
           clear hK
           (first
             | (apply relInl
                · intro r n hf
                  have Hf := Lib.hid hf
                  clear hf
                  unfold relAt
                  go_simp
                  (first | (refine relUpon_val ?_ (Below.refl _ _); exact rfl) | exact rfl | (refine relUpon_enter ?_; fail))
                (simp only [Act.put, List.setIfInBounds_toArray, List.set_cons_zero, List.set_cons_succ])
                (with_reducible refine HK.out _ _ ?_)
                clear HK K)
             | (fail)))
        refine relNil ?_
        intro r4 n4 hx4
        clear hcH
        (try simp only [List.nil_append, List.cons_append, List.mem_cons, List.not_mem_nil, or_false, forall_eq_or_imp, forall_eq, false_implies, implies_true] at hx4)
        obtain ⟨w4, hb4⟩ := n4
        (try dsimp only)
        obtain ⟨hc4, hf4⟩ := bcell hb4
        have hz4 := hb4.size
        (try simp at hz4)
        have hO4 := Lib.hid (HOW.out.trans (Only.of_below hb4))
        have HT4 := Lib.hid (HTW.out.below hb4)
        have HX4 := Lib.hid (HX.out.below hb4)
        have z4_0 : b < w4.heap.size := (by omega); have y4_0 : b ≤ w4.heap.size := (by omega); have z4_1 : w2.heap.size < w4.heap.size := (by omega); have y4_1 : w2.heap.size ≤ w4.heap.size := (by omega)
        go_wp2
        have hcH := held_cell
        refine region_rel_tail 9 (by kernel_rfl) (by kernel_rfl) (by kernel_rfl) ?_
        dsimp only [List.take, List.drop]
        repeat
          ((with_reducible refine relStep (fun K hK => ?_))
           (have HK := Lib.hid hK)
           clear hK
           (apply relInl
            · intro r n hf
              have Hf := Lib.hid hf
              clear hf
              (first
                | (fail)
                | (unfold relAt
                   go_simp
                   (first | (refine relUpon_val ?_ (Below.refl _ _); exact rfl) | exact rfl | (refine relUpon_enter ?_; fail))))
            (simp only [Act.put, List.setIfInBounds_toArray, List.set_cons_zero, List.set_cons_succ])
            (with_reducible refine HK.out _ _ ?_)
            clear HK K))
        refine relNil ?_
        intro r5 n5 hx5
        clear hcH
        (try simp only [List.nil_append, List.cons_append, List.mem_cons, List.not_mem_nil, or_false, forall_eq_or_imp, forall_eq, false_implies, implies_true] at hx5)
        obtain ⟨w5, hb5⟩ := n5
        (try dsimp only)
        obtain ⟨hc5, hf5⟩ := bcell hb5
        have hz5 := hb5.size
        (try simp at hz5)
        have hO5 := Lib.hid (hO4.out.trans (Only.of_below hb5))
        have HT5 := Lib.hid (HT4.out.below hb5)
        have HX5 := Lib.hid (HX4.out.below hb5)
        go_wp2
        obtain ⟨V, hV⟩ : ∃ V, V = (w5.setCell ⟨w2.heap.size, 0, none⟩ (.int .i64 (2 * yl))).setCell ⟨w2.heap.size, 1, none⟩ (.int .i64 (now + 2 * yl)) := ⟨_, rfl⟩
        have HV := Lib.hid (show Only [w2.heap.size] w5 V by rw [hV]; exact ((Only.refl _ _).setCell (.inl (by simp)) _).setCell (.inl (by simp)) _)
        have hxV := Lib.hid (show Blk V w2.heap.size 54 [.int .i64 (2 * yl), .int .i64 (now + 2 * yl), .int .i64 yn] by rw [hV]; exact (HX5.out.set 0 _).set 1 _)
        rw [← hV]
        clear hV
        have hmb : m < w2.heap.size := Hh.out.mp.lt
        have HTV := Lib.hid (HT5.out.only HV.out (by simp; omega) (by simp; omega))
        have HOV := Lib.hid (show Only [b, m] w2 V from ⟨HV.out.os.trans hO5.out.os, HV.out.tape.trans hO5.out.tape, HV.out.output.trans hO5.out.output, Nat.le_trans hO5.out.size HV.out.size, fun k hk hs => (HV.out.block k (Nat.lt_of_lt_of_le hk hO5.out.size) (by simp; omega)).trans (hO5.out.block k hk hs)⟩)
        clear hb4 hc4 hf4 hz4 hb5 hc5 hf5 hz5 x0 x1 x2 y0 y1 y2 d0 d1 d2 d3 d4 d5 g5 hbW hxW
        obtain ⟨e0, e1, e2, e3, e4, e5, eg5⟩ := HTV.out.cells
        have z0 := hxV.out.cell 0
        have z1 := hxV.out.cell 1
        have z2 := hxV.out.cell 2
        have hbV : b < V.heap.size := HTV.out.row.lt
        have hxV2 : w2.heap.size < V.heap.size := hxV.out.lt
        have hcH := held_cell
        refine region_rel_tail 6 (by kernel_rfl) (by kernel_rfl) (by kernel_rfl) ?_
        dsimp only [List.take, List.drop]
        repeat
          ((with_reducible refine relStep (fun K hK => ?_))
           (have HK := Lib.hid hK)
           clear hK
           (apply relInl
            · intro r n hf
              have Hf := Lib.hid hf
              clear hf
              (first
                | (fail)
                | (unfold relAt
                   go_simp
                   (first | (refine relUpon_val ?_ (Below.refl _ _); exact rfl) | exact rfl | (refine relUpon_enter ?_; fail))))
            (simp only [Act.put, List.setIfInBounds_toArray, List.set_cons_zero, List.set_cons_succ])
            (with_reducible refine HK.out _ _ ?_)
            clear HK K))
        refine relNil ?_
        intro r6 n6 hx6
        clear hcH
        (try simp only [List.nil_append, List.cons_append, List.mem_cons, List.not_mem_nil, or_false, forall_eq_or_imp, forall_eq, false_implies, implies_true] at hx6)
        obtain ⟨w6, hb6⟩ := n6
        (try dsimp only)
        obtain ⟨hc6, hf6⟩ := bcell hb6
        have hz6 := hb6.size
        (try simp at hz6)
        have HO6 := Lib.hid (HOV.out.trans (Only.of_below hb6))
        have HT6 := Lib.hid (HTV.out.below hb6)
        have hx6 := hxV.out.below hb6
        have v0 := hx6.cell 0
        have v1 := hx6.cell 1
        have HX6 := Lib.hid hx6
        clear hx6
        go_wp2_with (at_mapUpdate; refine at_put rfl _ _ _ 49 9 54 rfl law_str Try.underlying49 Try.underlying9 HT6.out.mp (by unfold maxLen; omega) rfl _ rfl hg (ent (⟨(2 * yl), now + 2 * yl, yn⟩)) rfl ?_; intro w7 hm7 hg7; have HM7 := Lib.hid hm7; have HG7 := Lib.hid hg7; have v70 := (HX6.out.same (hg7.block _ HX6.out.lt (fun e => by have := Option.some.inj e; omega))).cell 0; clear hm7 hg7)
        go_ret
        have hok := (show 1 ≤ (2 * yl) ∧ (2 * yl) ≤ mo ∧ 0 ≤ now + 2 * yl ∧ now + 2 * yl ≤ 2199023255552 by omega)
        exact ⟨rfl, ⟨HT6.out.row.same (HG7.out.block b HT6.out.row.lt (fun e => hne (Option.some.inj e))), (HM7.out.eq (upd_map E g (some (⟨(2 * yl), now + 2 * yl, yn⟩)))).mono (by omega), (fun s x hx => by
            by_cases hs : s = g
            · rw [hs, updE_same] at hx
              cases hx
              exact hok
            · rw [updE_other hs] at hx
              exact Hh.out.ok s x hx), p1, p2, p3, Hh.out.p4, Hh.out.p5, by omega, by omega⟩, HO6.out.grown HG7.out (fun k e => .inl (by cases e; simp))⟩
      · skip
        have hL : lenF fi mo re (some ⟨yl, yu, yn⟩) now = (2 * yl) := (if_neg hre).trans (show min (2 * yl) mo = (2 * yl) by omega)
        have hN : newF fi mo re cr (some ⟨yl, yu, yn⟩) now = ⟨(2 * yl), yu, yn⟩ := by
          unfold newF
          simp only [hL]
          rw [show max yu (now + (2 * yl)) = yu by omega]
        rw [hL, hN]
        clear hL hN
        go_enter Try.func9, Try.ntmps9
        go_wp2_with (first
          | (go_at_call 26; (with_reducible refine (made_yes b _ c0).mono ?_); rintro e w1 ⟨rfl, rfl⟩)
          | (go_at_call 27; (with_reducible refine (time_any now _).mono ?_); rintro e w2 ⟨rfl, rfl⟩)
          | (at_lookup; refine at_look_ok rfl _ _ 49 9 54 rfl law_str Try.underlying49 Try.underlying9 _ (zero_ent _) (Hh.out.mp.below (by (repeat' (first | with_reducible exact Below.refl _ _ | with_reducible assumption | with_reducible refine Below.drew ?_ | with_reducible refine below_drewN' ?_ _ | with_reducible refine Below.alloc ?_ ?_ _ | with_reducible refine Below.setCell ?_ ?_ _ | with_reducible refine below_step (by assumption) ?_ ?_ | omega | (simp; done) | (simp; omega))))) rfl _ rfl hg ?_; rw [Hl.out]))
        obtain ⟨W, hW⟩ : ∃ W, W = w2.alloc (.cells #[.int .i64 yl, .int .i64 yu, .int .i64 yn] 54) := ⟨_, rfl⟩
        have HOW := Lib.hid (show Only [b, m] w2 W by rw [hW]; exact (Only.refl _ _).alloc _)
        have hTW : TB W b m fi mo re E cr n := by rw [hW]; exact Hh.out.below ((Below.refl _ _).alloc (Nat.le_refl _) _)
        have HTW := Lib.hid hTW
        obtain ⟨d0, d1, d2, d3, d4, d5, g5⟩ := hTW.cells
        have HX := Lib.hid (show Blk W w2.heap.size 54 [.int .i64 yl, .int .i64 yu, .int .i64 yn] by rw [hW]; exact Blk.new w2 54 _)
        have x0 := HX.out.cell 0
        have x1 := HX.out.cell 1
        have x2 := HX.out.cell 2
        have y0 := HX.out.frozen 0
        have y1 := HX.out.frozen 1
        have y2 := HX.out.frozen 2
        have hbW : b < W.heap.size := hTW.row.lt
        have hxW : w2.heap.size < W.heap.size := HX.out.lt
        rw [← hW]
        clear hW hTW c0 c1 c2 c3 c4 c5 f5
        have hcH := held_cell
        refine region_rel (by kernel_rfl) (by kernel_rfl) ?_
        repeat
          ((with_reducible refine relStep (fun K hK => ?_))
           (have HK := Lib.hid hK)
           clear hK
           (first
             | (apply relInl
                · intro r n hf
                  have Hf := Lib.hid hf
                  clear hf
                  unfold relAt
                  go_simp
                  (first | (refine relUpon_val ?_ (Below.refl _ _); exact rfl) | exact rfl | (refine relUpon_enter ?_; fail))
                (simp only [Act.put, List.setIfInBounds_toArray, List.set_cons_zero, List.set_cons_succ])
                (with_reducible refine HK.out _ _ ?_)
                clear HK K)
             | (fail)))
        refine relNil ?_
        intro r4 n4 hx4
        clear hcH
        (try simp only [List.nil_append, List.cons_append, List.mem_cons, List.not_mem_nil, or_false, forall_eq_or_imp, forall_eq, false_implies, implies_true] at hx4)
        obtain ⟨w4, hb4⟩ := n4
        (try dsimp only)
        obtain ⟨hc4, hf4⟩ := bcell hb4
        have hz4 := hb4.size
        (try simp at hz4)
        have hO4 := Lib.hid (HOW.out.trans (Only.of_below hb4))
        have HT4 := Lib.hid (HTW.out.below hb4)
        have HX4 := Lib.hid (HX.out.below hb4)
        have z4_0 : b < w4.heap.size := (by omega); have y4_0 : b ≤ w4.heap.size := (by omega); have z4_1 : w2.heap.size < w4.heap.size := (by omega); have y4_1 : w2.heap.size ≤ w4.heap.size := (by omega)
        go_wp2
        have hcH := held_cell
        refine region_rel_tail 9 (by kernel_rfl) (by kernel_rfl) (by kernel_rfl) ?_
        dsimp only [List.take, List.drop]
        repeat
          ((with_reducible refine relStep (fun K hK => ?_))
           (have HK := Lib.hid hK)
           clear hK
           (apply relInl
            · intro r n hf
              have Hf := Lib.hid hf
              clear hf
              (first
                | (fail)
                | (unfold relAt
                   go_simp
                   (first | (refine relUpon_val ?_ (Below.refl _ _); exact rfl) | exact rfl | (refine relUpon_enter ?_; fail))))
            (simp only [Act.put, List.setIfInBounds_toArray, List.set_cons_zero, List.set_cons_succ])
            (with_reducible refine HK.out _ _ ?_)
            clear HK K))
        refine relNil ?_
        intro r5 n5 hx5
        clear hcH
        (try simp only [List.nil_append, List.cons_append, List.mem_cons, List.not_mem_nil, or_false, forall_eq_or_imp, forall_eq, false_implies, implies_true] at hx5)
        obtain ⟨w5, hb5⟩ := n5
        (try dsimp only)
        obtain ⟨hc5, hf5⟩ := bcell hb5
        have hz5 := hb5.size
        (try simp at hz5)
        have hO5 := Lib.hid (hO4.out.trans (Only.of_below hb5))
        have HT5 := Lib.hid (HT4.out.below hb5)
        have HX5 := Lib.hid (HX4.out.below hb5)
        go_wp2
        obtain ⟨V, hV⟩ : ∃ V, V = (w5.setCell ⟨w2.heap.size, 0, none⟩ (.int .i64 (2 * yl))).setCell ⟨w2.heap.size, 1, none⟩ (.int .i64 yu) := ⟨_, rfl⟩
        have HV := Lib.hid (show Only [w2.heap.size] w5 V by rw [hV]; exact ((Only.refl _ _).setCell (.inl (by simp)) _).setCell (.inl (by simp)) _)
        have hxV := Lib.hid (show Blk V w2.heap.size 54 [.int .i64 (2 * yl), .int .i64 yu, .int .i64 yn] by rw [hV]; exact (HX5.out.set 0 _).set 1 _)
        rw [← hV]
        clear hV
        have hmb : m < w2.heap.size := Hh.out.mp.lt
        have HTV := Lib.hid (HT5.out.only HV.out (by simp; omega) (by simp; omega))
        have HOV := Lib.hid (show Only [b, m] w2 V from ⟨HV.out.os.trans hO5.out.os, HV.out.tape.trans hO5.out.tape, HV.out.output.trans hO5.out.output, Nat.le_trans hO5.out.size HV.out.size, fun k hk hs => (HV.out.block k (Nat.lt_of_lt_of_le hk hO5.out.size) (by simp; omega)).trans (hO5.out.block k hk hs)⟩)
        clear hb4 hc4 hf4 hz4 hb5 hc5 hf5 hz5 x0 x1 x2 y0 y1 y2 d0 d1 d2 d3 d4 d5 g5 hbW hxW
        obtain ⟨e0, e1, e2, e3, e4, e5, eg5⟩ := HTV.out.cells
        have z0 := hxV.out.cell 0
        have z1 := hxV.out.cell 1
        have z2 := hxV.out.cell 2
        have hbV : b < V.heap.size := HTV.out.row.lt
        have hxV2 : w2.heap.size < V.heap.size := hxV.out.lt
        have hcH := held_cell
        refine region_rel_tail 6 (by kernel_rfl) (by kernel_rfl) (by kernel_rfl) ?_
        dsimp only [List.take, List.drop]
        repeat
          ((with_reducible refine relStep (fun K hK => ?_))
           (have HK := Lib.hid hK)
           clear hK
           (apply relInl
            · intro r n hf
              have Hf := Lib.hid hf
              clear hf
              (first
                | (fail)
                | (unfold relAt
                   go_simp
                   (first | (refine relUpon_val ?_ (Below.refl _ _); exact rfl) | exact rfl | (refine relUpon_enter ?_; fail))))
            (simp only [Act.put, List.setIfInBounds_toArray, List.set_cons_zero, List.set_cons_succ])
            (with_reducible refine HK.out _ _ ?_)
            clear HK K))
        refine relNil ?_
        intro r6 n6 hx6
        clear hcH
        (try simp only [List.nil_append, List.cons_append, List.mem_cons, List.not_mem_nil, or_false, forall_eq_or_imp, forall_eq, false_implies, implies_true] at hx6)
        obtain ⟨w6, hb6⟩ := n6
        (try dsimp only)
        obtain ⟨hc6, hf6⟩ := bcell hb6
        have hz6 := hb6.size
        (try simp at hz6)
        have HO6 := Lib.hid (HOV.out.trans (Only.of_below hb6))
        have HT6 := Lib.hid (HTV.out.below hb6)
        have hx6 := hxV.out.below hb6
        have v0 := hx6.cell 0
        have v1 := hx6.cell 1
        have HX6 := Lib.hid hx6
        clear hx6
        go_wp2_with (at_mapUpdate; refine at_put rfl _ _ _ 49 9 54 rfl law_str Try.underlying49 Try.underlying9 HT6.out.mp (by unfold maxLen; omega) rfl _ rfl hg (ent (⟨(2 * yl), yu, yn⟩)) rfl ?_; intro w7 hm7 hg7; have HM7 := Lib.hid hm7; have HG7 := Lib.hid hg7; have v70 := (HX6.out.same (hg7.block _ HX6.out.lt (fun e => by have := Option.some.inj e; omega))).cell 0; clear hm7 hg7)
        go_ret
        have hok := (show 1 ≤ (2 * yl) ∧ (2 * yl) ≤ mo ∧ 0 ≤ yu ∧ yu ≤ 2199023255552 by omega)
        exact ⟨rfl, ⟨HT6.out.row.same (HG7.out.block b HT6.out.row.lt (fun e => hne (Option.some.inj e))), (HM7.out.eq (upd_map E g (some (⟨(2 * yl), yu, yn⟩)))).mono (by omega), (fun s x hx => by
            by_cases hs : s = g
            · rw [hs, updE_same] at hx
              cases hx
              exact hok
            · rw [updE_other hs] at hx
              exact Hh.out.ok s x hx), p1, p2, p3, Hh.out.p4, Hh.out.p5, by omega, by omega⟩, HO6.out.grown HG7.out (fun k e => .inl (by cases e; simp))⟩
end Go.Proofs.Ytedombidblhmeaa
