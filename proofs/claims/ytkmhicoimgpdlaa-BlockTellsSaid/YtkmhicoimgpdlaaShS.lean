/-
  The contract of triremeref07.SamePod at pods that are alike.
-/
import Derived.Test.YtkmhicoimgpdlaaShD
import Derived.Test.YtkmhicoimgpdlaaNH
import Derived.Laws.StructEq
namespace Go.Proofs.Ytkmhicoimgpdlaa
open Go.RowKit
set_option linter.unusedVariables false
set_option linter.unusedSimpArgs false

/-- A pod without the places where its lists lie. -/
def bareT (t : Lb.Trm) : Lb.Trm := ⟨t.key, t.op, none, 0, t.vals⟩
def bareP (p : Pd) : Pd := ⟨p.nm, p.n0, p.n1, p.n2, p.n3, p.n4, none, 0, p.labs, none, 0, p.sels, none, 0, p.trms.map bareT, none, 0, p.bers, none, 0, p.prts, none, 0, p.aprs, p.wd, none, 0, p.spds, p.sw, p.rk, p.ow, p.dm, p.pn, p.lc⟩
theorem trms_bare (l : List Lb.Trm) : trmsB (l.map bareT) = trmsB l := by
  unfold trmsB
  rw [List.length_map, List.all_map]
  rfl
theorem right_bare (p : Pd) : rightP (bareP p) = rightP p := by
  unfold rightP
  show (wordB p.nm && weB p.ow && rtB p.n0 p.n1 p.n2 p.n3 p.n4 && decide (p.n3 = 1) && labsB p.labs && labsB p.sels && labsB p.aprs && labsB p.spds && trmsB (p.trms.map bareT) && rightO p.bers && prtsB p.prts && (!p.wd || decide (0 < p.aprs.length)) && skewB p.spds.length p.sw && inB p.rk 0 1000) = _
  rw [trms_bare]
theorem show_bare (p : Pd) : showP (bareP p) = showP p := by
  have h1 : t1B (bareP p) = t1B p := by
    show (p.trms.map bareT).foldl tmS (h2B p) = p.trms.foldl tmS (h2B p)
    rw [List.foldl_map]
    rfl
  have h2 : b1B (bareP p) = b1B p := by show p.bers.foldl beS (t1B (bareP p)) = _; rw [h1]; rfl
  have h3 : p1B (bareP p) = p1B p := by show p.prts.foldl poS (b1B (bareP p)) = _; rw [h2]; rfl
  have h4 : r1B (bareP p) = r1B p := by show ((p1B (bareP p) ++ _) ++ _) ++ _ = _; rw [h3]; rfl
  have h5 : o1B (bareP p) = o1B p := by
    show (if p.ow = emp then r1B (bareP p) else ((r1B (bareP p) ++ _) ++ p.ow) ++ _) = _
    rw [h4]
    rfl
  have h6 : f1B (bareP p) = f1B p := by show ((((o1B (bareP p) ++ _) ++ _) ++ _) ++ _) ++ _ = _; rw [h5]; rfl
  unfold showP
  rw [right_bare, h6]
theorem light_bare (p : Pd) : lightP (bareP p) = lightP p := by
  unfold lightP
  show (_ && (p.trms.map bareT).all Lb.lightTm) = _
  rw [List.all_map]
  congr 1
  show (decide _ && decide _ && decide ((p.trms.map bareT).length ≤ 30) && _ && _ && _ && _ && _ && _) = _
  rw [List.length_map]
  rfl
theorem alike_show {p q : Pd} (h : bareP p = bareP q) : showP p = showP q := by rw [← show_bare p, h, show_bare]
theorem alike_light {p q : Pd} (h : bareP p = bareP q) : lightP p = lightP q := by rw [← light_bare p, h, light_bare]
theorem alike_right {p q : Pd} (h : bareP p = bareP q) : rightP p = rightP q := by rw [← right_bare p, h, right_bare]
theorem guard_res (op : BinOp) (x y : Operand) (xs ys : Array Value) (w : World) : (eqGuard op 31 x y (.agg xs) (.agg ys)).run Try.prog w = .ok () w := run_eqGuard_agg w op _ x y xs ys (by kernel_rfl)
theorem eql_res1 (a b c d e : Int) (w : World) : (binOp .eql 31 (.agg #[.int .i64 a, .int .i64 b, .int .i64 c, .int .i64 d, .int .i64 e]) (.agg #[.int .i64 a, .int .i64 b, .int .i64 c, .int .i64 d, .int .i64 e])).run Try.prog w = .ok (.bool true) w := by
  have hus := Try.underlying3
  have has := Try.isAgg3
  have hzs := Try.sizeOf3
  have hS : Try.prog.underlying 31 = some (.struct (Try.prog.fieldsOf 31)) := by kernel_rfl
  have hp : Try.prog.stoodInHeld 31 = false := by kernel_rfl
  rw [run_eql_struct, show (10000 : Nat) = 9999 + 1 from rfl, run_equalIn_agg w 9999 31 _ _ hS hp]
  simp only [Program.fieldsOf, Try.underlying31]
  go_simp
set_option maxRecDepth 100000 in
set_option maxHeartbeats 8000000 in
theorem samepod_any (p q : Pd) (w : World) (hA : PodAt w p) (hB : PodAt w q) (hL : lightP p = true) (h : bareP p = bareP q) :
    Calls Try.prog 19 #[.agg (prow p).toArray, .agg (prow q).toArray] w fun e w' => e = .returned (.bool true) ∧ Below w.heap.size w w' := by
  have HS1 := Lib.hid (fun V (hV : Below w.heap.size w V) => show Calls Try.prog 41 #[.agg #[.string (p).nm, .int .i64 (p).n0, .int .i64 (p).n1, .int .i64 (p).n2, .int .i64 (p).n3, .int .i64 (p).n4, .slice (p).la (p).labs.length (p).lk, .slice (p).sa (p).sels.length (p).sk, .slice (p).ta (p).trms.length (p).tk, .slice (p).ba (p).bers.length (p).bk, .slice (p).pa (p).prts.length (p).pk, .slice (p).aa (p).aprs.length (p).ak, .bool (p).wd, .slice (p).da (p).spds.length (p).dk, .int .i64 (p).sw, .int .i64 (p).rk, .string (p).ow, .bool (p).dm, .bool (p).pn, .bool (p).lc]] V fun e w' => e = .returned (.string (showP p)) ∧ Below V.heap.size V w' from showpod_any p V (hA.mono hV) hL)
  have HS2 := Lib.hid (fun V (hV : Below w.heap.size w V) => show Calls Try.prog 41 #[.agg #[.string (q).nm, .int .i64 (q).n0, .int .i64 (q).n1, .int .i64 (q).n2, .int .i64 (q).n3, .int .i64 (q).n4, .slice (q).la (q).labs.length (q).lk, .slice (q).sa (q).sels.length (q).sk, .slice (q).ta (q).trms.length (q).tk, .slice (q).ba (q).bers.length (q).bk, .slice (q).pa (q).prts.length (q).pk, .slice (q).aa (q).aprs.length (q).ak, .bool (q).wd, .slice (q).da (q).spds.length (q).dk, .int .i64 (q).sw, .int .i64 (q).rk, .string (q).ow, .bool (q).dm, .bool (q).pn, .bool (q).lc]] V fun e w' => e = .returned (.string (showP p)) ∧ Below V.heap.size V w' by
    have h9 := showpod_any q V (hB.mono hV) ((alike_light h).symm.trans hL)
    rw [← alike_show h] at h9
    exact h9)
  obtain ⟨t, ht⟩ : ∃ t, showP p = t := ⟨_, rfl⟩
  rw [ht] at HS1 HS2
  have HX0 := Lib.hid (Box.new w (prow p) 50)
  have e0 : q.nm = p.nm := (congrArg Pd.nm h).symm
  have e1 : q.n0 = p.n0 := (congrArg Pd.n0 h).symm
  have e2 : q.n1 = p.n1 := (congrArg Pd.n1 h).symm
  have e3 : q.n2 = p.n2 := (congrArg Pd.n2 h).symm
  have e4 : q.n3 = p.n3 := (congrArg Pd.n3 h).symm
  have e5 : q.n4 = p.n4 := (congrArg Pd.n4 h).symm
  have e6 : q.labs.length = p.labs.length := (congrArg (fun x : Pd => x.labs.length) h).symm
  have e8 : q.trms.length = p.trms.length := by
    have h9 := (congrArg (fun x : Pd => x.trms.length) h).symm
    simpa [bareP] using h9
  have e10 : q.prts.length = p.prts.length := (congrArg (fun x : Pd => x.prts.length) h).symm
  have e14 : q.sw = p.sw := (congrArg Pd.sw h).symm
  have e15 : q.rk = p.rk := (congrArg Pd.rk h).symm
  have e16 : q.ow = p.ow := (congrArg Pd.ow h).symm
  obtain ⟨W, hW⟩ : ∃ W, W = (w.alloc (.cells #[.string (p).nm, .int .i64 (p).n0, .int .i64 (p).n1, .int .i64 (p).n2, .int .i64 (p).n3, .int .i64 (p).n4, .slice (p).la (p).labs.length (p).lk, .slice (p).sa (p).sels.length (p).sk, .slice (p).ta (p).trms.length (p).tk, .slice (p).ba (p).bers.length (p).bk, .slice (p).pa (p).prts.length (p).pk, .slice (p).aa (p).aprs.length (p).ak, .bool (p).wd, .slice (p).da (p).spds.length (p).dk, .int .i64 (p).sw, .int .i64 (p).rk, .string (p).ow, .bool (p).dm, .bool (p).pn, .bool (p).lc] 50)).alloc (.cells #[.string (q).nm, .int .i64 (q).n0, .int .i64 (q).n1, .int .i64 (q).n2, .int .i64 (q).n3, .int .i64 (q).n4, .slice (q).la (q).labs.length (q).lk, .slice (q).sa (q).sels.length (q).sk, .slice (q).ta (q).trms.length (q).tk, .slice (q).ba (q).bers.length (q).bk, .slice (q).pa (q).prts.length (q).pk, .slice (q).aa (q).aprs.length (q).ak, .bool (q).wd, .slice (q).da (q).spds.length (q).dk, .int .i64 (q).sw, .int .i64 (q).rk, .string (q).ow, .bool (q).dm, .bool (q).pn, .bool (q).lc] 50) := ⟨_, rfl⟩
  have HX := Lib.hid (show Box w.heap.size (prow p) W by rw [hW]; exact (Box.new w (prow p) 50).mono ((Below.refl _ _).alloc (Nat.le_refl _) _))
  have HY := Lib.hid (show Box (w.heap.size + 1) (prow q) W by
    rw [hW]
    have h9 := Box.new (w.alloc (.cells #[.string (p).nm, .int .i64 (p).n0, .int .i64 (p).n1, .int .i64 (p).n2, .int .i64 (p).n3, .int .i64 (p).n4, .slice (p).la (p).labs.length (p).lk, .slice (p).sa (p).sels.length (p).sk, .slice (p).ta (p).trms.length (p).tk, .slice (p).ba (p).bers.length (p).bk, .slice (p).pa (p).prts.length (p).pk, .slice (p).aa (p).aprs.length (p).ak, .bool (p).wd, .slice (p).da (p).spds.length (p).dk, .int .i64 (p).sw, .int .i64 (p).rk, .string (p).ow, .bool (p).dm, .bool (p).pn, .bool (p).lc] 50)) (prow q) 50
    rw [World.size_alloc] at h9
    exact h9)
  have HB := Lib.hid (show Below w.heap.size w W by rw [hW]; exact ((Below.refl _ _).alloc (Nat.le_refl _) _).alloc (by simp) _)
  have HRx := Lib.hid (show W.rangeAt w.heap.size 0 [.string (p).nm, .int .i64 (p).n0, .int .i64 (p).n1, .int .i64 (p).n2, .int .i64 (p).n3, .int .i64 (p).n4, .slice (p).la (p).labs.length (p).lk, .slice (p).sa (p).sels.length (p).sk, .slice (p).ta (p).trms.length (p).tk, .slice (p).ba (p).bers.length (p).bk, .slice (p).pa (p).prts.length (p).pk, .slice (p).aa (p).aprs.length (p).ak, .bool (p).wd, .slice (p).da (p).spds.length (p).dk, .int .i64 (p).sw, .int .i64 (p).rk, .string (p).ow, .bool (p).dm, .bool (p).pn, .bool (p).lc] from HX.out.range)
  have HRy := Lib.hid (show W.rangeAt (w.heap.size + 1) 0 [.string (q).nm, .int .i64 (q).n0, .int .i64 (q).n1, .int .i64 (q).n2, .int .i64 (q).n3, .int .i64 (q).n4, .slice (q).la (q).labs.length (q).lk, .slice (q).sa (q).sels.length (q).sk, .slice (q).ta (q).trms.length (q).tk, .slice (q).ba (q).bers.length (q).bk, .slice (q).pa (q).prts.length (q).pk, .slice (q).aa (q).aprs.length (q).ak, .bool (q).wd, .slice (q).da (q).spds.length (q).dk, .int .i64 (q).sw, .int .i64 (q).rk, .string (q).ow, .bool (q).dm, .bool (q).pn, .bool (q).lc] from HY.out.range)
  have HRx1 := Lib.hid (show W.rangeAt w.heap.size 1 [.int .i64 p.n0, .int .i64 p.n1, .int .i64 p.n2, .int .i64 p.n3, .int .i64 p.n4] from fun j v hj => by
    have hj5 : j < 5 := (List.getElem?_eq_some_iff.1 hj).1
    rw [HX.out.cell]
    match j, hj5, hj with
    | 0, _, hj => exact hj
    | 1, _, hj => exact hj
    | 2, _, hj => exact hj
    | 3, _, hj => exact hj
    | 4, _, hj => exact hj)
  have HRy1 := Lib.hid (show W.rangeAt (w.heap.size + 1) 1 [.int .i64 p.n0, .int .i64 p.n1, .int .i64 p.n2, .int .i64 p.n3, .int .i64 p.n4] from fun j v hj => by
    have hj5 : j < 5 := (List.getElem?_eq_some_iff.1 hj).1
    rw [HY.out.cell, ← e1, ← e2, ← e3, ← e4, ← e5] at *
    match j, hj5, hj with
    | 0, _, hj => exact hj
    | 1, _, hj => exact hj
    | 2, _, hj => exact hj
    | 3, _, hj => exact hj
    | 4, _, hj => exact hj)
  have x0 : W.cell? ⟨w.heap.size, 0, none⟩ = some (.string p.nm) := HX.out.cell 0
  have x14 : W.cell? ⟨w.heap.size, 14, none⟩ = some (.int .i64 p.sw) := HX.out.cell 14
  have x15 : W.cell? ⟨w.heap.size, 15, none⟩ = some (.int .i64 p.rk) := HX.out.cell 15
  have x16 : W.cell? ⟨w.heap.size, 16, none⟩ = some (.string p.ow) := HX.out.cell 16
  have y0 : W.cell? ⟨w.heap.size + 1, 0, none⟩ = some (.string p.nm) := by rw [← e0]; exact HY.out.cell 0
  have y14 : W.cell? ⟨w.heap.size + 1, 14, none⟩ = some (.int .i64 p.sw) := by rw [← e14]; exact HY.out.cell 14
  have y15 : W.cell? ⟨w.heap.size + 1, 15, none⟩ = some (.int .i64 p.rk) := by rw [← e15]; exact HY.out.cell 15
  have y16 : W.cell? ⟨w.heap.size + 1, 16, none⟩ = some (.string p.ow) := by rw [← e16]; exact HY.out.cell 16
  have hlx := HX.out.lt
  have hly := HY.out.lt
  have HE6 := Lib.hid e6
  have HE8 := Lib.hid e8
  have HE10 := Lib.hid e10
  have hre := eql_res1
  have hgr := guard_res
  show Calls Try.prog 19 #[.agg #[.string (p).nm, .int .i64 (p).n0, .int .i64 (p).n1, .int .i64 (p).n2, .int .i64 (p).n3, .int .i64 (p).n4, .slice (p).la (p).labs.length (p).lk, .slice (p).sa (p).sels.length (p).sk, .slice (p).ta (p).trms.length (p).tk, .slice (p).ba (p).bers.length (p).bk, .slice (p).pa (p).prts.length (p).pk, .slice (p).aa (p).aprs.length (p).ak, .bool (p).wd, .slice (p).da (p).spds.length (p).dk, .int .i64 (p).sw, .int .i64 (p).rk, .string (p).ow, .bool (p).dm, .bool (p).pn, .bool (p).lc], .agg #[.string (q).nm, .int .i64 (q).n0, .int .i64 (q).n1, .int .i64 (q).n2, .int .i64 (q).n3, .int .i64 (q).n4, .slice (q).la (q).labs.length (q).lk, .slice (q).sa (q).sels.length (q).sk, .slice (q).ta (q).trms.length (q).tk, .slice (q).ba (q).bers.length (q).bk, .slice (q).pa (q).prts.length (q).pk, .slice (q).aa (q).aprs.length (q).ak, .bool (q).wd, .slice (q).da (q).spds.length (q).dk, .int .i64 (q).sw, .int .i64 (q).rk, .string (q).ow, .bool (q).dm, .bool (q).pn, .bool (q).lc]] w _
  clear hA hB hL h ht e0 e1 e2 e3 e4 e5 e6 e8 e10 e14 e15 e16 HX0
  go_enter Try.func19, Try.ntmps19
  go_upto_region 1 with (fail)
  rw [← hW]
  clear hW
  have t6 : W.cell? ⟨w.heap.size + 1, 6, none⟩ = some (.slice q.la p.labs.length q.lk) := HE6.out ▸ HY.out.cell 6
  have t8 : W.cell? ⟨w.heap.size + 1, 8, none⟩ = some (.slice q.ta p.trms.length q.tk) := HE8.out ▸ HY.out.cell 8
  have t10 : W.cell? ⟨w.heap.size + 1, 10, none⟩ = some (.slice q.pa p.prts.length q.pk) := HE10.out ▸ HY.out.cell 10
  have s6 : W.cell? ⟨w.heap.size, 6, none⟩ = some (.slice p.la p.labs.length p.lk) := HX.out.cell 6
  have s8 : W.cell? ⟨w.heap.size, 8, none⟩ = some (.slice p.ta p.trms.length p.tk) := HX.out.cell 8
  have s10 : W.cell? ⟨w.heap.size, 10, none⟩ = some (.slice p.pa p.prts.length p.pk) := HX.out.cell 10
  have hcH := held_cell
  refine region_rel (by kernel_rfl) (by kernel_rfl) ?_
  dsimp only [List.append]
  repeat
    ((with_reducible refine relStep (fun K hK => ?_))
     (have HK := Lib.hid hK)
     clear hK
     (apply relInl
      · intro r n hf
        have Hf := Lib.hid hf
        clear hf
        (first
          | ((first
      | ((with_reducible refine at_rel (ty := 31) ?_); first | refine rel_load rfl w.heap.size 1 rfl [.int .i64 p.n0, .int .i64 p.n1, .int .i64 p.n2, .int .i64 p.n3, .int .i64 p.n4] _ Try.underlying31 rfl (by kernel_rfl) (rangeAt_mono HRx1.out hlx n.below) rfl | refine rel_load rfl (w.heap.size + 1) 1 rfl [.int .i64 p.n0, .int .i64 p.n1, .int .i64 p.n2, .int .i64 p.n3, .int .i64 p.n4] _ Try.underlying31 rfl (by kernel_rfl) (rangeAt_mono HRy1.out hly n.below) rfl)
      | ((with_reducible refine at_rel (ty := 50) ?_); first | refine rel_load rfl w.heap.size 0 rfl [.string (p).nm, .int .i64 (p).n0, .int .i64 (p).n1, .int .i64 (p).n2, .int .i64 (p).n3, .int .i64 (p).n4, .slice (p).la (p).labs.length (p).lk, .slice (p).sa (p).sels.length (p).sk, .slice (p).ta (p).trms.length (p).tk, .slice (p).ba (p).bers.length (p).bk, .slice (p).pa (p).prts.length (p).pk, .slice (p).aa (p).aprs.length (p).ak, .bool (p).wd, .slice (p).da (p).spds.length (p).dk, .int .i64 (p).sw, .int .i64 (p).rk, .string (p).ow, .bool (p).dm, .bool (p).pn, .bool (p).lc] _ Try.underlying50 rfl (by kernel_rfl) (rangeAt_mono HRx.out hlx n.below) rfl | refine rel_load rfl (w.heap.size + 1) 0 rfl [.string (q).nm, .int .i64 (q).n0, .int .i64 (q).n1, .int .i64 (q).n2, .int .i64 (q).n3, .int .i64 (q).n4, .slice (q).la (q).labs.length (q).lk, .slice (q).sa (q).sels.length (q).sk, .slice (q).ta (q).trms.length (q).tk, .slice (q).ba (q).bers.length (q).bk, .slice (q).pa (q).prts.length (q).pk, .slice (q).aa (q).aprs.length (q).ak, .bool (q).wd, .slice (q).da (q).spds.length (q).dk, .int .i64 (q).sw, .int .i64 (q).rk, .string (q).ow, .bool (q).dm, .bool (q).pn, .bool (q).lc] _ Try.underlying50 rfl (by kernel_rfl) (rangeAt_mono HRy.out hly n.below) rfl)))
          | (unfold relAt
             go_simp
             (first | (refine relUpon_val ?_ (Below.refl _ _); exact rfl) | exact rfl | (refine relUpon_enter ?_; (go_at_call 41; first | ((with_reducible refine (HS1.out _ (HB.out.trans (n.below.mono HB.out.size))).mono ?_); rintro e w9 ⟨rfl, hb⟩; exact ⟨⟨_, rfl, rfl⟩, hb⟩) | ((with_reducible refine (HS2.out _ (HB.out.trans (n.below.mono HB.out.size))).mono ?_); rintro e w9 ⟨rfl, hb⟩; exact ⟨⟨_, rfl, rfl⟩, hb⟩))))))
      (simp only [Act.put, List.setIfInBounds_toArray, List.set_cons_zero, List.set_cons_succ])
      (with_reducible refine HK.out _ _ ?_)
      clear HK K))
  refine relNil ?_
  intro r9 n9 hx9
  clear hcH
  (try simp only [List.nil_append, List.cons_append, List.mem_cons, List.not_mem_nil, or_false, forall_eq_or_imp, forall_eq, false_implies, implies_true] at hx9)
  obtain ⟨w9, hb9⟩ := n9
  (try dsimp only)
  obtain ⟨hc9, hf9⟩ := bcell hb9
  have hz9 := hb9.size
  (try simp at hz9)
  have HB9 := Lib.hid (HB.out.trans (hb9.mono HB.out.size))
  clear hb9 hc9 hf9 hz9
  go_wp2
  go_ret
  exact ⟨rfl, HB9.out⟩
end Go.Proofs.Ytkmhicoimgpdlaa
