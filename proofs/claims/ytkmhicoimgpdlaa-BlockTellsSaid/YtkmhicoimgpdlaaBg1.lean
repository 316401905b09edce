/-
  Budgets that came in; budget.covers, standingOf, find.
-/
import Derived.Test.YtkmhicoimgpdlaaBk4
import Derived.Laws.StructEq
namespace Go.Proofs.Ytkmhicoimgpdlaa
open Go.ChangeShapes Go.WideShapes Go.ChangeAt Go.RowKit
set_option linter.unusedVariables false
set_option linter.unusedSimpArgs false

structure Bg where
  nm : ByteArray
  ma : Option Addr
  mk' : Nat
  mt : List Lab
  le : Int
def bgrow (b : Bg) : List Value := [.string b.nm, .slice b.ma b.mt.length b.mk', .int .i64 b.le]
theorem bgrow_len (b : Bg) : (bgrow b).length = 3 := rfl
theorem bgrow_one (b : Bg) : ∀ u ∈ bgrow b, u.oneCell' = true := by
  intro u hu
  simp only [bgrow, List.mem_cons, List.not_mem_nil, or_false] at hu
  rcases hu with rfl | rfl | rfl <;> rfl
/-- A budget that came in. -/
structure BgIn (w : World) (b : Bg) : Prop where
  mt : LabL w b.ma b.mt
  ln : NilOk b.ma b.mt.length b.mk'
  ll : b.mt.length ≤ maxLen
  lc : b.mt.length ≤ b.mk'
theorem BgIn.mono {w w' : World} {b : Bg} (h : BgIn w b) (hb : Below w.heap.size w w') : BgIn w' b := ⟨h.mt.mono hb, h.ln, h.ll, h.lc⟩
abbrev BgL := RowsAt bgrow 3
theorem Try.cells53 : Try.prog.cellsOf 53 = 3 := by kernel_rfl
set_option maxRecDepth 100000 in
theorem bg_open {H : Type} {enc : TypeId × Value → H} {W : World} {fuel : Nat} {cs : List Value} {y : DataW H × List MemPlace} (hl : cs.length = 3)
    (h : DataW.trod enc Try.prog W 0 (fun _ => true) true fuel 53 cs = some y) : ∃ b : Bg, cs = bgrow b ∧ BgIn W b := by
  obtain ⟨zs, _, _, _, _, hlen3, hk⟩ := DataW.trod_struct Try.underlying53 h
  match cs, hl with
  | [c0, c1, c2], _ =>
    match zs, hlen3 with
    | [z0, z1, z2], _ =>
      have k0 := hk 0 _ rfl
      have k1 := hk 1 _ rfl
      have k2 := hk 2 _ rfl
      obtain ⟨m0, r0, _⟩ := DataW.trod_string Try.underlying9 k0
      obtain ⟨m2, r2, _⟩ := DataW.trod_int Try.underlying3 k2
      obtain ⟨a1, l1, k1', r1⟩ := Go.Joins.slice_form Try.underlying32 k1
      rw [r1] at k1
      obtain ⟨L, hL1, hL2, hL3⟩ := open_nested (K := 2) (enc := kcs) Try.underlying32 Try.cells87 (by decide) (fun cs fuel y hl h => lab_open hl h) k1
      obtain ⟨hL4, hL5⟩ := nested_cap Try.underlying32 k1
      simp [cells_int, Try.cells9, Try.cells32] at r0 r1 r2
      subst hL1
      exact ⟨⟨m0, a1, k1', L, m2⟩, by rw [r0, r1, r2]; rfl, ⟨hL2, hL4, hL3, hL5⟩⟩
set_option maxRecDepth 100000 in
theorem open_bgs {H : Type} {enc : TypeId × Value → H} {W : World} {base : Nat} {v : Value} {d : DataW H} {p : List MemPlace}
    (hv : Value.okWide Try.prog W .any base 38 v) (h : DataW.Trod enc Try.prog W 0 (fun _ => true) true 38 v d p) :
    ∃ (a : Option Addr) (l : List Bg) (k : Nat), v = .slice a l.length k ∧ NilOk a l.length k ∧ BgL W a l ∧ l.length ≤ maxLen ∧ l.length ≤ k ∧ ∀ x ∈ l, BgIn W x :=
  open_list_in Try.underlying38 Try.cells53 (by decide) (fun cs fuel y hl hy => bg_open hl hy) hv h
set_option maxRecDepth 100000 in
set_option maxHeartbeats 4000000 in
theorem covers_any (b : Bg) (p : Pd) (w : World) (hB : BgIn w b) (hP : PodAt w p) (hl : b.mt.length ≤ 1000000) (hp : p.labs.length ≤ 1000000) :
    Calls Try.prog 87 #[.agg (bgrow b).toArray, .agg (prow p).toArray] w fun e w' => e = .returned (.bool (Lb.hasP p.labs b.mt)) ∧ Below w.heap.size w w' := by
  have HH := Lib.hid (fun V (hV : Below w.heap.size w V) => Lb.has_any p.la b.ma p.lk b.mk' p.labs b.mt V (hP.mono hV).labs (hB.mono hV).mt hp hl)
  obtain ⟨W, hW⟩ : ∃ W, W = (w.alloc (.cells #[.string b.nm, .slice b.ma b.mt.length b.mk', .int .i64 b.le] 53)).alloc (.cells #[.string (p).nm, .int .i64 (p).n0, .int .i64 (p).n1, .int .i64 (p).n2, .int .i64 (p).n3, .int .i64 (p).n4, .slice (p).la (p).labs.length (p).lk, .slice (p).sa (p).sels.length (p).sk, .slice (p).ta (p).trms.length (p).tk, .slice (p).ba (p).bers.length (p).bk, .slice (p).pa (p).prts.length (p).pk, .slice (p).aa (p).aprs.length (p).ak, .bool (p).wd, .slice (p).da (p).spds.length (p).dk, .int .i64 (p).sw, .int .i64 (p).rk, .string (p).ow, .bool (p).dm, .bool (p).pn, .bool (p).lc] 50) := ⟨_, rfl⟩
  have HX := Lib.hid (show Box w.heap.size (bgrow b) W by rw [hW]; exact (Box.new w (bgrow b) 53).mono ((Below.refl _ _).alloc (Nat.le_refl _) _))
  have HY := Lib.hid (show Box (w.heap.size + 1) (prow p) W by
    rw [hW]
    have h9 := Box.new (w.alloc (.cells #[.string b.nm, .slice b.ma b.mt.length b.mk', .int .i64 b.le] 53)) (prow p) 50
    rw [World.size_alloc] at h9
    exact h9)
  have HB := Lib.hid (show Below w.heap.size w W by rw [hW]; exact ((Below.refl _ _).alloc (Nat.le_refl _) _).alloc (by simp) _)
  have c1 : W.cell? ⟨w.heap.size, 1, none⟩ = some (.slice b.ma b.mt.length b.mk') := HX.out.cell 1
  have d6 : W.cell? ⟨w.heap.size + 1, 6, none⟩ = some (.slice p.la p.labs.length p.lk) := HY.out.cell 6
  have hlx := HX.out.lt
  have hly := HY.out.lt
  show Calls Try.prog 87 #[.agg #[.string b.nm, .slice b.ma b.mt.length b.mk', .int .i64 b.le], .agg #[.string (p).nm, .int .i64 (p).n0, .int .i64 (p).n1, .int .i64 (p).n2, .int .i64 (p).n3, .int .i64 (p).n4, .slice (p).la (p).labs.length (p).lk, .slice (p).sa (p).sels.length (p).sk, .slice (p).ta (p).trms.length (p).tk, .slice (p).ba (p).bers.length (p).bk, .slice (p).pa (p).prts.length (p).pk, .slice (p).aa (p).aprs.length (p).ak, .bool (p).wd, .slice (p).da (p).spds.length (p).dk, .int .i64 (p).sw, .int .i64 (p).rk, .string (p).ow, .bool (p).dm, .bool (p).pn, .bool (p).lc]] w _
  clear hB hP hl hp
  go_enter Try.func87, Try.ntmps87
  go_upto_region 1 with (fail)
  rw [← hW]
  clear hW
  go_wp2_with (go_at_call 92; (with_reducible refine (HH.out _ HB.out).mono ?_); rintro e w1 ⟨rfl, hb⟩; have HB1 := Lib.hid (HB.out.trans (hb.mono HB.out.size)); clear hb)
  go_ret
  exact ⟨rfl, HB1.out⟩
theorem guard_stand (op : BinOp) (x y : Operand) (xs ys : Array Value) (w : World) : (eqGuard op 113 x y (.agg xs) (.agg ys)).run Try.prog w = .ok () w := run_eqGuard_agg w op _ x y xs ys (by kernel_rfl)
def stB (a c : ByteArray) (b d : Bool) : Bool := decide (a = c) && (b == d)
theorem eql_stand0 (a c : ByteArray) (b d : Bool) (w : World) : (Op.equalIn 10000 113 (.agg #[.string a, .bool b]) (.agg #[.string c, .bool d])).run Try.prog w = .ok (stB a c b d) w := by
  have hus := Try.underlying9
  have has := Try.isAgg9
  have hzs := Try.sizeOf9
  have hui := Try.underlying4
  have hai := Try.isAgg4
  have hzi := Try.sizeOf4
  have hS : Try.prog.underlying 113 = some (.struct (Try.prog.fieldsOf 113)) := by kernel_rfl
  have hp : Try.prog.stoodInHeld 113 = false := by kernel_rfl
  rw [show (10000 : Nat) = 9999 + 1 from rfl, run_equalIn_agg w 9999 113 _ _ hS hp]
  simp only [Program.fieldsOf, Try.underlying113]
  go_simp
  unfold stB
  by_cases h1 : a = c
  · have q := str_yes h1
    cases b <;> cases d <;> simp [h1, q]
  · have q : ¬ a.toList = c.toList := fun e => h1 ((str_inj _ _).1 e)
    cases b <;> cases d <;> simp [h1, q]
theorem eql_stand (a c : ByteArray) (b d : Bool) (w : World) : (binOp .eql 113 (.agg #[.string a, .bool b]) (.agg #[.string c, .bool d])).run Try.prog w = .ok (.bool (stB a c b d)) w := by
  rw [run_eql_struct, eql_stand0]; rfl
theorem brow_one (b : Bd) : ∀ u ∈ brow b, u.oneCell' = true := by
  intro u hu
  rcases List.mem_append.1 (show u ∈ prow b.p ++ [.string b.on] from hu) with h | h
  · exact prow_one b.p u h
  · obtain rfl : u = .string b.on := by simpa using h
    rfl
theorem Try.info113 : (Try.prog.info? 113).map (fun i => (i.zero, i.size)) = some (some (.agg #[.string ⟨#[]⟩, .bool false]), 2) := by kernel_rfl
def runB (b : Bd) : Bool := !decide (b.on = emp)
set_option maxRecDepth 100000 in
set_option maxHeartbeats 4000000 in
theorem standing_any (b : Bd) (w : World) :
    Calls Try.prog 89 #[.agg (brow b).toArray] w fun e w' => e = .returned (.agg #[.string b.p.nm, .bool (runB b)]) ∧ Below w.heap.size w w' := by
  obtain ⟨z0, z1⟩ := zero_of_info Try.info113
  obtain ⟨W, hW⟩ : ∃ W, W = (w.alloc (.cells #[.string (b.p).nm, .int .i64 (b.p).n0, .int .i64 (b.p).n1, .int .i64 (b.p).n2, .int .i64 (b.p).n3, .int .i64 (b.p).n4, .slice (b.p).la (b.p).labs.length (b.p).lk, .slice (b.p).sa (b.p).sels.length (b.p).sk, .slice (b.p).ta (b.p).trms.length (b.p).tk, .slice (b.p).ba (b.p).bers.length (b.p).bk, .slice (b.p).pa (b.p).prts.length (b.p).pk, .slice (b.p).aa (b.p).aprs.length (b.p).ak, .bool (b.p).wd, .slice (b.p).da (b.p).spds.length (b.p).dk, .int .i64 (b.p).sw, .int .i64 (b.p).rk, .string (b.p).ow, .bool (b.p).dm, .bool (b.p).pn, .bool (b.p).lc, .string b.on] 64)).alloc (.cells #[.string ⟨#[]⟩, .bool false] 113) := ⟨_, rfl⟩
  have HX := Lib.hid (show Box w.heap.size (brow b) W by rw [hW]; exact (Box.new w (brow b) 64).mono ((Below.refl _ _).alloc (Nat.le_refl _) _))
  have HY := Lib.hid (show Blk W (w.heap.size + 1) 113 [.string ⟨#[]⟩, .bool false] by
    rw [hW]
    have h9 := Blk.new (w.alloc (.cells #[.string (b.p).nm, .int .i64 (b.p).n0, .int .i64 (b.p).n1, .int .i64 (b.p).n2, .int .i64 (b.p).n3, .int .i64 (b.p).n4, .slice (b.p).la (b.p).labs.length (b.p).lk, .slice (b.p).sa (b.p).sels.length (b.p).sk, .slice (b.p).ta (b.p).trms.length (b.p).tk, .slice (b.p).ba (b.p).bers.length (b.p).bk, .slice (b.p).pa (b.p).prts.length (b.p).pk, .slice (b.p).aa (b.p).aprs.length (b.p).ak, .bool (b.p).wd, .slice (b.p).da (b.p).spds.length (b.p).dk, .int .i64 (b.p).sw, .int .i64 (b.p).rk, .string (b.p).ow, .bool (b.p).dm, .bool (b.p).pn, .bool (b.p).lc, .string b.on] 64)) 113 [.string ⟨#[]⟩, .bool false]
    rw [World.size_alloc] at h9
    exact h9)
  have HB := Lib.hid (show Below w.heap.size w W by rw [hW]; exact ((Below.refl _ _).alloc (Nat.le_refl _) _).alloc (by simp) _)
  have c0 : W.cell? ⟨w.heap.size, 0, none⟩ = some (.string b.p.nm) := HX.out.cell 0
  have c20 : W.cell? ⟨w.heap.size, 20, none⟩ = some (.string b.on) := HX.out.cell 20
  have hlx := HX.out.lt
  have x0 : W.cell? ⟨w.heap.size + 1, 0, none⟩ = some (.string ⟨#[]⟩) := HY.out.cell 0
  have x1 : W.cell? ⟨w.heap.size + 1, 1, none⟩ = some (.bool false) := HY.out.cell 1
  have f0 := HY.out.frozen 0
  have f1 := HY.out.frozen 1
  have hly := HY.out.lt
  have q : (!b.on.toList.isEmpty) = runB b := by
    unfold runB
    by_cases h : b.on = emp
    · rw [decide_eq_true h, (emp_yes h).2.2]
    · rw [decide_eq_false h, (emp_no h).2.2]
  have HQ := Lib.hid q
  obtain ⟨r, hr⟩ : ∃ r, runB b = r := ⟨_, rfl⟩
  rw [hr] at q ⊢
  show Calls Try.prog 89 #[.agg #[.string (b.p).nm, .int .i64 (b.p).n0, .int .i64 (b.p).n1, .int .i64 (b.p).n2, .int .i64 (b.p).n3, .int .i64 (b.p).n4, .slice (b.p).la (b.p).labs.length (b.p).lk, .slice (b.p).sa (b.p).sels.length (b.p).sk, .slice (b.p).ta (b.p).trms.length (b.p).tk, .slice (b.p).ba (b.p).bers.length (b.p).bk, .slice (b.p).pa (b.p).prts.length (b.p).pk, .slice (b.p).aa (b.p).aprs.length (b.p).ak, .bool (b.p).wd, .slice (b.p).da (b.p).spds.length (b.p).dk, .int .i64 (b.p).sw, .int .i64 (b.p).rk, .string (b.p).ow, .bool (b.p).dm, .bool (b.p).pn, .bool (b.p).lc, .string b.on]] w _
  clear hr HQ
  go_enter Try.func89, Try.ntmps89
  go_upto_region 1 with (fail)
  rw [← hW]
  clear hW
  go_wp2
  refine bodyPost_ret (v := .agg #[.string b.p.nm, .bool r]) (by simp [results, Try.results89, go_sem, *]) rfl ⟨rfl, (HB.out.setCell (Nat.le_succ _) _).setCell (Nat.le_succ _) _⟩
end Go.Proofs.Ytkmhicoimgpdlaa
