/-
  Kin: Total of both.
-/
import Derived.Test.YtccplljbljpjpaaDoorKi2
import Derived.Test.YtccplljbljpjpaaDoorLate
import Derived.Test.YtccplljbljpjpaaDoorResNG
namespace Go.Proofs.YtccplljbljpjpaaDoor
open Go.ChangeShapes Go.WideShapes Go.ChangeAt Go.RowKit
set_option linter.unusedVariables false
set_option linter.unusedSimpArgs false

theorem at_rel {P : Program} {ops : Array Oper} {a : Act} {w : World} {R : Value → World → Prop} {d0 : Option Tmp} {ty : TypeId} {x : Operand} {t : TypeId} {p : String} {af : Array Edge} {g : Option (Nat × Bool)}
    (h : relAt P ops { dst := d0, op := .load ty x, type := t, pos := p, after := af, guard := g } a w R) : relAt P ops { dst := d0, op := .load ty x, type := t, pos := p, after := af, guard := g } a w R := h
/-- A quantity of five. -/
structure R5 where
  r0 : Int
  r1 : Int
  r2 : Int
  r3 : Int
  r4 : Int
def R5.z : R5 := ⟨0, 0, 0, 0, 0⟩
def R5.v (r : R5) : Value := .agg #[.int .i64 r.r0, .int .i64 r.r1, .int .i64 r.r2, .int .i64 r.r3, .int .i64 r.r4]
def R5.l (r : R5) : List Value := [.int .i64 r.r0, .int .i64 r.r1, .int .i64 r.r2, .int .i64 r.r3, .int .i64 r.r4]
def addEP (r : R5) (p : Pd) : Int := Rs.addE r.r0 r.r1 r.r2 r.r3 r.r4 p.n0 p.n1 p.n2 p.n3 p.n4
def addP (r : R5) (p : Pd) : R5 := ⟨Rs.sel (addEP r p) (r.r0 + p.n0), Rs.sel (addEP r p) (r.r1 + p.n1), Rs.sel (addEP r p) (r.r2 + p.n2), Rs.sel (addEP r p) (r.r3 + p.n3), Rs.sel (addEP r p) (r.r4 + p.n4)⟩
def NewR (N : Nat) (u : Value) (w : World) : Prop := ∃ X, u = .pointer (some ⟨X, 0, none⟩) ∧ N ≤ X ∧ Blk w X 31 R5.z.l
theorem NewR.mk {W : World} (n : Held W) : NewR W.heap.size (.pointer (some ⟨n.w.heap.size, 0, none⟩)) (n.w.alloc (.cells #[.int .i64 0, .int .i64 0, .int .i64 0, .int .i64 0, .int .i64 0] 31)) := ⟨_, rfl, n.below.size, Blk.new _ 31 R5.z.l⟩
theorem NewR.stays (N : Nat) : Stays (NewR N) := fun v w w' hb ⟨X, e, h, hB⟩ => ⟨X, e, h, hB.below hb⟩

/-- What pods need together. -/
def sumP : List Pd → Int → R5 → Int × R5
  | [], e, r => (e, r)
  | p :: l, e, r => if e = 0 then sumP l (addEP r p) (addP r p) else sumP l e r
theorem sumP_err : ∀ (l : List Pd) (e : Int) (r : R5), e ≠ 0 → sumP l e r = (e, r)
  | [], e, r, h => rfl
  | p :: l, e, r, h => by
    unfold sumP
    rw [if_neg h]
    exact sumP_err l e r h
theorem sumP_at {l : List Pd} {k : Nat} {p : Pd} (h : l[k]? = some p) (e : Int) (r : R5) : sumP (l.drop k) e r = if e = 0 then sumP (l.drop (k + 1)) (addEP r p) (addP r p) else sumP (l.drop (k + 1)) e r := by
  obtain ⟨h1, h2⟩ := List.getElem?_eq_some_iff.1 h
  rw [List.drop_eq_getElem_cons h1, h2]
  rfl
theorem addP_zero {r : R5} {p : Pd} (h : addEP r p ≠ 0) : addP r p = R5.z := by
  unfold addP
  simp only [Rs.sel_no _ _ h]
  rfl
/-- What pods need together, if all are right. -/
def totK (l : List Pd) : Int × R5 := if l.all rightP = true then sumP l 0 R5.z else (12, R5.z)
set_option maxRecDepth 100000 in
set_option maxHeartbeats 8000000 in
theorem stotal_any (a : Option Addr) (ka : Nat) (l : List Pd) (w : World) (hF : PodLs w a l) (hl : l.length ≤ 1000000) (hI : ∀ x ∈ l, PodAt w x) (hL : ∀ x ∈ l, lightP x = true) :
    Calls Tryd.prog 9 #[.slice a l.length ka] w fun e w' => e = .returned (.tuple #[(totK l).2.v, .int .i64 (totK l).1]) ∧ Below w.heap.size w w' := by
  obtain ⟨Q, hQ⟩ : ∃ Q, Q = l := ⟨_, rfl⟩
  subst hQ
  obtain ⟨A, hA⟩ : ∃ A, Q.all rightP = A := ⟨_, rfl⟩
  have HA := Lib.hid (show (Q.drop 0).all rightP = A from hA)
  unfold totK
  rw [hA]
  obtain ⟨q, hq⟩ : ∃ q, Q.length = q := ⟨_, rfl⟩
  obtain ⟨U, hU⟩ : ∃ U, sumP Q 0 R5.z = U := ⟨_, rfl⟩
  have HU := Lib.hid hU.symm
  have HSm := Lib.hid hU
  have HQ := Lib.hid hq
  have HF := Lib.hid hF
  have HI := Lib.hid hI
  have HLt := Lib.hid hL
  obtain ⟨V1, hV1⟩ : ∃ V, V = w.alloc (.cells R5.z.l.toArray 31) := ⟨_, rfl⟩
  have HX1 := Lib.hid (show Blk V1 w.heap.size 31 R5.z.l by rw [hV1]; exact Blk.new w 31 R5.z.l)
  have HB1 := Lib.hid (show Below w.heap.size w V1 by rw [hV1]; exact (Below.refl _ _).alloc (Nat.le_refl _) _)
  have hq6 : q ≤ 1000000 := by omega
  rw [hq] at hl ⊢
  clear hF hI hL hA hq hU
  go_enter Tryd.func9, Tryd.ntmps9
  go_upto_region 1 with (fail)
  rw [show w.alloc (.cells #[.int .i64 0, .int .i64 0, .int .i64 0, .int .i64 0, .int .i64 0] 31) = V1 from hV1.symm]
  clear hV1
  go_wp2
  go_loopw [13] (fun vi wr => ∃ k : Nat, k ≤ q ∧ vi = .int .i64 k ∧ (Q.drop k).all rightP = A ∧ Below V1.heap.size V1 wr) (fun vi _ => q - (intOf vi).toNat)
  case atStart => exact ⟨0, Nat.zero_le _, rfl, HA.out, Below.refl _ _⟩
  case round =>
    obtain ⟨k, hk, rfl, hE, hB⟩ := hrel
    have hbz := hB.size
    have HB := Lib.hid hB
    by_cases hlt : k < q
    · skip
      obtain ⟨p, hp⟩ := mem_at (l := Q) (k := k) (by rw [HQ.out]; exact hlt)
      obtain ⟨b, o, rfl, hb, hc⟩ := (HF.out.mono (HB1.out.trans (hB.mono HB1.out.size))) (by rw [HQ.out]; omega)
      have HRq := Lib.hid (show wr.rangeAt b (o + k * 20) [.string (p).nm, .int .i64 (p).n0, .int .i64 (p).n1, .int .i64 (p).n2, .int .i64 (p).n3, .int .i64 (p).n4, .slice (p).la (p).labs.length (p).lk, .slice (p).sa (p).sels.length (p).sk, .slice (p).ta (p).trms.length (p).tk, .slice (p).ba (p).bers.length (p).bk, .slice (p).pa (p).prts.length (p).pk, .slice (p).aa (p).aprs.length (p).ak, .bool (p).wd, .slice (p).da (p).spds.length (p).dk, .int .i64 (p).sw, .int .i64 (p).rk, .string (p).ow, .bool (p).dm, .bool (p).pn, .bool (p).lc] from fun j v hj => by
        have hj20 : j < 20 := (List.getElem?_eq_some_iff.1 hj).1
        rw [hc k p hp j hj20]
        exact hj)
      obtain ⟨Z, hZ⟩ : ∃ Z, wr.heap.size = Z := ⟨_, rfl⟩
      obtain ⟨w5, hw5⟩ : ∃ V, V = wr.alloc (.cells #[.string (p).nm, .int .i64 (p).n0, .int .i64 (p).n1, .int .i64 (p).n2, .int .i64 (p).n3, .int .i64 (p).n4, .slice (p).la (p).labs.length (p).lk, .slice (p).sa (p).sels.length (p).sk, .slice (p).ta (p).trms.length (p).tk, .slice (p).ba (p).bers.length (p).bk, .slice (p).pa (p).prts.length (p).pk, .slice (p).aa (p).aprs.length (p).ak, .bool (p).wd, .slice (p).da (p).spds.length (p).dk, .int .i64 (p).sw, .int .i64 (p).rk, .string (p).ow, .bool (p).dm, .bool (p).pn, .bool (p).lc] 37) := ⟨_, rfl⟩
      have HZ5 := Lib.hid (show Box Z (prow p) w5 by rw [hw5, ← hZ]; exact Box.new wr (prow p) 37)
      have HRz := Lib.hid (show w5.rangeAt Z 0 [.string (p).nm, .int .i64 (p).n0, .int .i64 (p).n1, .int .i64 (p).n2, .int .i64 (p).n3, .int .i64 (p).n4, .slice (p).la (p).labs.length (p).lk, .slice (p).sa (p).sels.length (p).sk, .slice (p).ta (p).trms.length (p).tk, .slice (p).ba (p).bers.length (p).bk, .slice (p).pa (p).prts.length (p).pk, .slice (p).aa (p).aprs.length (p).ak, .bool (p).wd, .slice (p).da (p).spds.length (p).dk, .int .i64 (p).sw, .int .i64 (p).rk, .string (p).ow, .bool (p).dm, .bool (p).pn, .bool (p).lc] from HZ5.out.range)
      have HP := Lib.hid (kprow_one p)
      have HB5 := Lib.hid (hB.alloc hbz (.cells #[.string (p).nm, .int .i64 (p).n0, .int .i64 (p).n1, .int .i64 (p).n2, .int .i64 (p).n3, .int .i64 (p).n4, .slice (p).la (p).labs.length (p).lk, .slice (p).sa (p).sels.length (p).sk, .slice (p).ta (p).trms.length (p).tk, .slice (p).ba (p).bers.length (p).bk, .slice (p).pa (p).prts.length (p).pk, .slice (p).aa (p).aprs.length (p).ak, .bool (p).wd, .slice (p).da (p).spds.length (p).dk, .int .i64 (p).sw, .int .i64 (p).rk, .string (p).ow, .bool (p).dm, .bool (p).pn, .bool (p).lc] 37))
      rw [← hw5] at HB5
      have hb5z := HB5.out.size
      have hC := show Calls Tryd.prog 17 #[.agg #[.string (p).nm, .int .i64 (p).n0, .int .i64 (p).n1, .int .i64 (p).n2, .int .i64 (p).n3, .int .i64 (p).n4, .slice (p).la (p).labs.length (p).lk, .slice (p).sa (p).sels.length (p).sk, .slice (p).ta (p).trms.length (p).tk, .slice (p).ba (p).bers.length (p).bk, .slice (p).pa (p).prts.length (p).pk, .slice (p).aa (p).aprs.length (p).ak, .bool (p).wd, .slice (p).da (p).spds.length (p).dk, .int .i64 (p).sw, .int .i64 (p).rk, .string (p).ow, .bool (p).dm, .bool (p).pn, .bool (p).lc]] w5 fun e V' => e = .returned (.bool (rightP p)) ∧ Below w5.heap.size w5 V' from srightp_any p w5 ((HI.out p (List.mem_of_getElem? hp)).mono (HB1.out.trans (HB5.out.mono HB1.out.size))) (HLt.out p (List.mem_of_getElem? hp))
      have hnx := (all_at rightP hp).symm.trans hE
      obtain ⟨m, hm⟩ : ∃ m, rightP p = m := ⟨_, rfl⟩
      rw [hm] at hC hnx
      have HC := Lib.hid hC
      have HNx := Lib.hid hnx
      clear hc hp hB hE hC hnx hm HU HA
      go_upto_region 4 with (first
        | ((with_reducible refine at_load (ty := 37) ?_); refine load_cells rfl 37 (.tmp 15) rfl b (o + k * 20) rfl [.string (p).nm, .int .i64 (p).n0, .int .i64 (p).n1, .int .i64 (p).n2, .int .i64 (p).n3, .int .i64 (p).n4, .slice (p).la (p).labs.length (p).lk, .slice (p).sa (p).sels.length (p).sk, .slice (p).ta (p).trms.length (p).tk, .slice (p).ba (p).bers.length (p).bk, .slice (p).pa (p).prts.length (p).pk, .slice (p).aa (p).aprs.length (p).ak, .bool (p).wd, .slice (p).da (p).spds.length (p).dk, .int .i64 (p).sw, .int .i64 (p).rk, .string (p).ow, .bool (p).dm, .bool (p).pn, .bool (p).lc] _ Tryd.underlying37 rfl (by kernel_rfl) HRq.out ?_)
        | ((with_reducible refine at_store (ty := 37) ?_); refine store_new rfl 37 (.tmp 5) (.tmp 16) rfl _ _ (by first | rfl | (show _ = Value.pointer (some ⟨wr.heap.size, 0, none⟩); rw [hZ]; rfl)) rfl (by kernel_rfl) rfl (List.all_eq_true.2 HP.out) rfl ?_))
      (try rw [hZ])
      rw [← hw5]
      clear hw5 hZ
      cases m with
      | true =>
        have HNy := Lib.hid (show (Q.drop (k + 1)).all rightP = A by have := HNx.out; rwa [Bool.true_and] at this)
        go_wp2_with (first
          | ((with_reducible refine at_load (ty := 37) ?_); refine load_cells rfl 37 (.tmp 5) rfl Z 0 rfl [.string (p).nm, .int .i64 (p).n0, .int .i64 (p).n1, .int .i64 (p).n2, .int .i64 (p).n3, .int .i64 (p).n4, .slice (p).la (p).labs.length (p).lk, .slice (p).sa (p).sels.length (p).sk, .slice (p).ta (p).trms.length (p).tk, .slice (p).ba (p).bers.length (p).bk, .slice (p).pa (p).prts.length (p).pk, .slice (p).aa (p).aprs.length (p).ak, .bool (p).wd, .slice (p).da (p).spds.length (p).dk, .int .i64 (p).sw, .int .i64 (p).rk, .string (p).ow, .bool (p).dm, .bool (p).pn, .bool (p).lc] _ Tryd.underlying37 rfl (by kernel_rfl) HRz.out ?_)
          | (go_at_call 17; (with_reducible refine HC.out.mono ?_); rintro e w9 ⟨rfl, hb9⟩; have HB9 := Lib.hid (HB5.out.trans (hb9.mono hb5z)); clear hb9))
        go_roundw
        case rel => exact ⟨k + 1, by omega, by go_num, HNy.out, HB9.out⟩
        case measure => simp [intOf]; omega
      | false =>
        obtain rfl : A = false := by have := HNx.out; rw [Bool.false_and] at this; exact this.symm
        go_upto_region 5 with (first
          | ((with_reducible refine at_load (ty := 37) ?_); refine load_cells rfl 37 (.tmp 5) rfl Z 0 rfl [.string (p).nm, .int .i64 (p).n0, .int .i64 (p).n1, .int .i64 (p).n2, .int .i64 (p).n3, .int .i64 (p).n4, .slice (p).la (p).labs.length (p).lk, .slice (p).sa (p).sels.length (p).sk, .slice (p).ta (p).trms.length (p).tk, .slice (p).ba (p).bers.length (p).bk, .slice (p).pa (p).prts.length (p).pk, .slice (p).aa (p).aprs.length (p).ak, .bool (p).wd, .slice (p).da (p).spds.length (p).dk, .int .i64 (p).sw, .int .i64 (p).rk, .string (p).ow, .bool (p).dm, .bool (p).pn, .bool (p).lc] _ Tryd.underlying37 rfl (by kernel_rfl) HRz.out ?_)
          | (go_at_call 17; (with_reducible refine HC.out.mono ?_); rintro e w9 ⟨rfl, hb9⟩; have HB9 := Lib.hid (HB5.out.trans (hb9.mono hb5z)); clear hb9))
        have HXr := Lib.hid (HX1.out.below HB9.out)
        have HW9 := Lib.hid (HB1.out.trans (HB9.out.mono HB1.out.size))
        have x0 := HXr.out.cell 0
        have h0 := HXr.out.frozen 0
        have x1 := HXr.out.cell 1
        have h1 := HXr.out.frozen 1
        have x2 := HXr.out.cell 2
        have h2 := HXr.out.frozen 2
        have x3 := HXr.out.cell 3
        have h3 := HXr.out.frozen 3
        have x4 := HXr.out.cell 4
        have h4 := HXr.out.frozen 4
        have hxl := HXr.out.lt
        dsimp only [R5.z, R5.l, List.getElem?_cons_zero, List.getElem?_cons_succ] at x0 x1 x2 x3 x4
        go_wp2
        refine bodyPost_ret (v := .tuple #[R5.z.v, .int .i64 12]) (by simp [results, Tryd.results9, go_sem, R5.v, R5.z, *]) rfl ⟨by first | rfl | rw [if_neg Bool.false_ne_true], ?_⟩
        exact (((((HW9.out.setCell (Nat.le_refl _) _).setCell (Nat.le_refl _) _).setCell (Nat.le_refl _) _).setCell (Nat.le_refl _) _).setCell (Nat.le_refl _) _)
    · obtain rfl : q = k := by omega
      obtain rfl : A = true := by
        rw [← hE, List.drop_of_length_le (by rw [HQ.out]; exact Nat.le_refl _)]
        rfl
      have HX2 := Lib.hid (HX1.out.below hB)
      have HB2 := Lib.hid (HB1.out.trans (hB.mono HB1.out.size))
      have HF2 := Lib.hid (HF.out.mono HB2.out)
      clear hE hB HB hbz HX1 HA
      go_wp2
      obtain ⟨V0, hV0⟩ : ∃ V, V = wr := ⟨_, rfl⟩
      subst hV0
      have HS0 := Lib.hid (Blk.new V0 31 R5.z.l)
      obtain ⟨N, hN⟩ : ∃ N, V0.heap.size = N := ⟨_, rfl⟩
      have HN := Lib.hid hN
      have hXN : w.heap.size < N := by rw [← hN]; exact HX2.out.lt
      have HBs := Lib.hid (show Below N V0 (V0.alloc (.cells R5.z.l.toArray 31)) by rw [← hN]; exact (Below.refl _ _).alloc (Nat.le_refl _) _)
      rw [hN] at HS0 ⊢
      have HUs := Lib.hid (show U = sumP (Q.drop 0) 0 R5.z from HU.out)
      clear hN HU
      go_loopw [24] (fun vi wq => ∃ (k : Nat) (r : R5), k ≤ q ∧ vi = .int .i64 k ∧ U = sumP (Q.drop k) 0 r ∧ Blk wq N 31 r.l ∧ Below N V0 wq) (fun vi _ => q - (intOf vi).toNat)
      case atStart => exact ⟨0, R5.z, Nat.zero_le _, rfl, HUs.out, HS0.out, HBs.out⟩
      case round =>
        obtain ⟨k, r, hk, rfl, hE, hS, hB⟩ := hrel
        have HE := Lib.hid hE
        have HS := Lib.hid hS
        have HB := Lib.hid hB
        have HV := Lib.hid (show Below V0.heap.size V0 wr by rw [HN.out]; exact hB)
        have HXr := Lib.hid (HX2.out.below HV.out)
        have HWr := Lib.hid (HB2.out.trans (HV.out.mono HB2.out.size))
        have hSl := HS.out.lt
        clear hE hS hB HUs HS0 HBs
        by_cases hlt : k < q
        · obtain ⟨p, hp⟩ := mem_at (l := Q) (k := k) (by rw [HQ.out]; exact hlt)
          obtain ⟨b, o, rfl, hb, hc⟩ := (HF2.out.mono HV.out) (by rw [HQ.out]; omega)
          have HRq := Lib.hid (show wr.rangeAt b (o + k * 20) [.string (p).nm, .int .i64 (p).n0, .int .i64 (p).n1, .int .i64 (p).n2, .int .i64 (p).n3, .int .i64 (p).n4, .slice (p).la (p).labs.length (p).lk, .slice (p).sa (p).sels.length (p).sk, .slice (p).ta (p).trms.length (p).tk, .slice (p).ba (p).bers.length (p).bk, .slice (p).pa (p).prts.length (p).pk, .slice (p).aa (p).aprs.length (p).ak, .bool (p).wd, .slice (p).da (p).spds.length (p).dk, .int .i64 (p).sw, .int .i64 (p).rk, .string (p).ow, .bool (p).dm, .bool (p).pn, .bool (p).lc] from fun j v hj => by
            have hj20 : j < 20 := (List.getElem?_eq_some_iff.1 hj).1
            rw [hc k p hp j hj20]
            exact hj)
          obtain ⟨Z, hZ⟩ : ∃ Z, wr.heap.size = Z := ⟨_, rfl⟩
          obtain ⟨w5, hw5⟩ : ∃ V, V = wr.alloc (.cells #[.string (p).nm, .int .i64 (p).n0, .int .i64 (p).n1, .int .i64 (p).n2, .int .i64 (p).n3, .int .i64 (p).n4, .slice (p).la (p).labs.length (p).lk, .slice (p).sa (p).sels.length (p).sk, .slice (p).ta (p).trms.length (p).tk, .slice (p).ba (p).bers.length (p).bk, .slice (p).pa (p).prts.length (p).pk, .slice (p).aa (p).aprs.length (p).ak, .bool (p).wd, .slice (p).da (p).spds.length (p).dk, .int .i64 (p).sw, .int .i64 (p).rk, .string (p).ow, .bool (p).dm, .bool (p).pn, .bool (p).lc] 37) := ⟨_, rfl⟩
          have HZ5 := Lib.hid (show Box Z (prow p) w5 by rw [hw5, ← hZ]; exact Box.new wr (prow p) 37)
          have HRz := Lib.hid (show w5.rangeAt Z 1 [.int .i64 p.n0, .int .i64 p.n1, .int .i64 p.n2, .int .i64 p.n3, .int .i64 p.n4] from fun j v hj => by
            have hj5 : j < 5 := (List.getElem?_eq_some_iff.1 hj).1
            rw [HZ5.out.cell]
            match j, hj5, hj with
            | 0, _, hj => exact hj
            | 1, _, hj => exact hj
            | 2, _, hj => exact hj
            | 3, _, hj => exact hj
            | 4, _, hj => exact hj)
          have hnx := HE.out.trans (sumP_at hp 0 r)
          rw [if_pos rfl] at hnx
          have hbad := fun (h : addEP r p ≠ 0) => (hnx.trans (sumP_err _ _ _ h)).trans (congrArg (Prod.mk _) (addP_zero h))
          obtain ⟨r0, r1, r2, r3, r4⟩ := r
          obtain ⟨n0, n1, n2, n3, n4, hn0, hn1, hn2, hn3, hn4⟩ : ∃ n0 n1 n2 n3 n4, p.n0 = n0 ∧ p.n1 = n1 ∧ p.n2 = n2 ∧ p.n3 = n3 ∧ p.n4 = n4 := ⟨_, _, _, _, _, rfl, rfl, rfl, rfl, rfl⟩
          simp only [addEP, addP, hn0, hn1, hn2, hn3, hn4] at hnx hbad HRz
          have HNx := Lib.hid hnx
          have HBad := Lib.hid hbad
          have HRs := Lib.hid (show wr.rangeAt N 0 [.int .i64 r0, .int .i64 r1, .int .i64 r2, .int .i64 r3, .int .i64 r4] from fun j v hj => by rw [Nat.zero_add, HS.out.cell]; exact hj)
          clear hc hp hnx hbad hn0 hn1 hn2 hn3 hn4 HE
          have hb5 : Below wr.heap.size wr w5 := by rw [hw5]; exact (Below.refl _ _).alloc (Nat.le_refl _) _
          have HRs5 := Lib.hid (rangeAt_mono HRs.out hSl hb5)
          have HS5 := Lib.hid (HS.out.below hb5)
          have HX5 := Lib.hid (HXr.out.below hb5)
          have HB5 := Lib.hid (HB.out.trans (hb5.mono (Nat.le_of_lt hSl)))
          have HW5 := Lib.hid (HWr.out.trans (hb5.mono HWr.out.size))
          have HP := Lib.hid (kprow_one p)
          have hN5 : N < w5.heap.size := Nat.lt_of_lt_of_le hSl hb5.size
          clear hb5
          go_upto_region 11 with (first
            | ((with_reducible refine at_load (ty := 37) ?_); refine load_cells rfl 37 (.tmp 26) rfl b (o + k * 20) rfl [.string (p).nm, .int .i64 (p).n0, .int .i64 (p).n1, .int .i64 (p).n2, .int .i64 (p).n3, .int .i64 (p).n4, .slice (p).la (p).labs.length (p).lk, .slice (p).sa (p).sels.length (p).sk, .slice (p).ta (p).trms.length (p).tk, .slice (p).ba (p).bers.length (p).bk, .slice (p).pa (p).prts.length (p).pk, .slice (p).aa (p).aprs.length (p).ak, .bool (p).wd, .slice (p).da (p).spds.length (p).dk, .int .i64 (p).sw, .int .i64 (p).rk, .string (p).ow, .bool (p).dm, .bool (p).pn, .bool (p).lc] _ Tryd.underlying37 rfl (by kernel_rfl) HRq.out ?_)
            | ((with_reducible refine at_store (ty := 37) ?_); refine store_new rfl 37 (.tmp 8) (.tmp 27) rfl _ _ (by first | rfl | (show _ = Value.pointer (some ⟨wr.heap.size, 0, none⟩); rw [hZ]; rfl)) rfl (by kernel_rfl) rfl (List.all_eq_true.2 HP.out) rfl ?_))
          (try rw [hZ])
          rw [← hw5]
          clear hw5 hZ HRs HS HXr HB HWr hSl HV
          go_upto_region 12 with (first
            | ((with_reducible refine at_load (ty := 31) ?_); first | refine load_cells rfl 31 (.tmp 6) rfl N 0 rfl [.int .i64 r0, .int .i64 r1, .int .i64 r2, .int .i64 r3, .int .i64 r4] _ Tryd.underlying31 rfl (by kernel_rfl) HRs5.out ?_ | refine load_cells rfl 31 (.tmp 30) rfl Z 1 rfl [.int .i64 n0, .int .i64 n1, .int .i64 n2, .int .i64 n3, .int .i64 n4] _ Tryd.underlying31 rfl (by kernel_rfl) HRz.out ?_)
            | (go_at_call 18; (with_reducible refine (Rs.add_any r0 r1 r2 r3 r4 n0 n1 n2 n3 n4 _).mono ?_); rintro e w8 ⟨rfl, hb8⟩; have S8 := Lib.hid (HS5.out.below hb8); have X8 := Lib.hid (HX5.out.below hb8); have B8 := Lib.hid (HB5.out.trans (hb8.mono (Nat.le_of_lt hN5))); have W8 := Lib.hid (HW5.out.trans (hb8.mono HW5.out.size)); have hN8 : N < w8.heap.size := Nat.lt_of_lt_of_le hN5 hb8.size; clear hb8)
            | ((with_reducible refine at_store (ty := 31) ?_); refine store_new rfl 31 (.tmp 9) (.tmp 33) rfl _ _ rfl rfl (by kernel_rfl) rfl (by rfl) rfl ?_))
          obtain ⟨E, hEE⟩ : ∃ E, Rs.addE r0 r1 r2 r3 r4 n0 n1 n2 n3 n4 = E := ⟨_, rfl⟩
          simp only [hEE] at HNx HBad ⊢
          generalize Rs.sel E (r0 + n0) = s0 at HNx ⊢
          generalize Rs.sel E (r1 + n1) = s1 at HNx ⊢
          generalize Rs.sel E (r2 + n2) = s2 at HNx ⊢
          generalize Rs.sel E (r3 + n3) = s3 at HNx ⊢
          generalize Rs.sel E (r4 + n4) = s4 at HNx ⊢
          clear hEE
          obtain ⟨q9, hq9⟩ : ∃ X, w8.heap.size = X := ⟨_, rfl⟩
          obtain ⟨w9, hw9⟩ : ∃ V, V = w8.alloc (.cells #[.int .i64 s0, .int .i64 s1, .int .i64 s2, .int .i64 s3, .int .i64 s4] 31) := ⟨_, rfl⟩
          have ha9 : Below w8.heap.size w8 w9 := by rw [hw9]; exact (Below.refl _ _).alloc (Nat.le_refl _) _
          have HRn := Lib.hid (show w9.rangeAt q9 0 [.int .i64 s0, .int .i64 s1, .int .i64 s2, .int .i64 s3, .int .i64 s4] by rw [hw9, ← hq9]; exact rangeAt_new _ _ _)
          have S9 := Lib.hid (S8.out.below ha9)
          have X9 := Lib.hid (X8.out.below ha9)
          have B9 := Lib.hid (B8.out.trans (ha9.mono (Nat.le_of_lt hN8)))
          have W9 := Lib.hid (W8.out.trans (ha9.mono W8.out.size))
          rw [hq9, ← hw9]
          clear hq9 hw9 ha9 S8 X8 B8 W8 HS5 HX5 HB5 HW5 hN5 HRs5 HRz HZ5 HRq HP hN8
          by_cases he : E = 0
          · subst he
            have y0 := S9.out.cell 0
            have f0 := S9.out.frozen 0
            have y1 := S9.out.cell 1
            have f1 := S9.out.frozen 1
            have y2 := S9.out.cell 2
            have f2 := S9.out.frozen 2
            have y3 := S9.out.cell 3
            have f3 := S9.out.frozen 3
            have y4 := S9.out.cell 4
            have f4 := S9.out.frozen 4
            have hyl := S9.out.lt
            dsimp only [R5.z, R5.l, List.getElem?_cons_zero, List.getElem?_cons_succ] at y0 y1 y2 y3 y4
            go_wp2_with ((with_reducible refine at_load (ty := 31) ?_); refine load_cells rfl 31 (.tmp 9) rfl q9 0 rfl [.int .i64 s0, .int .i64 s1, .int .i64 s2, .int .i64 s3, .int .i64 s4] _ Tryd.underlying31 rfl (by kernel_rfl) HRn.out ?_)
            go_roundw
            case rel => exact ⟨k + 1, ⟨s0, s1, s2, s3, s4⟩, by omega, by go_num, HNx.out, (((((S9.out.set 0 _).set 1 _).set 2 _).set 3 _).set 4 _), (((((B9.out.setCell (Nat.le_refl _) _).setCell (Nat.le_refl _) _).setCell (Nat.le_refl _) _).setCell (Nat.le_refl _) _).setCell (Nat.le_refl _) _)⟩
            case measure => simp [intOf]; omega
          · have q0 : (E == 0) = false := by simpa using he
            have x0 := X9.out.cell 0
            have h0 := X9.out.frozen 0
            have x1 := X9.out.cell 1
            have h1 := X9.out.frozen 1
            have x2 := X9.out.cell 2
            have h2 := X9.out.frozen 2
            have x3 := X9.out.cell 3
            have h3 := X9.out.frozen 3
            have x4 := X9.out.cell 4
            have h4 := X9.out.frozen 4
            have hxl := X9.out.lt
            dsimp only [R5.z, R5.l, List.getElem?_cons_zero, List.getElem?_cons_succ] at x0 x1 x2 x3 x4
            have HU9 := Lib.hid (HBad.out he)
            go_wp2
            refine bodyPost_ret (v := .tuple #[R5.z.v, .int .i64 E]) (by simp [results, Tryd.results9, go_sem, R5.v, R5.z, *]) rfl ⟨by first | rw [if_pos rfl, HSm.out, HU9.out] | rw [HSm.out, HU9.out] | rw [HU9.out], ?_⟩
            exact (((((W9.out.setCell (Nat.le_refl _) _).setCell (Nat.le_refl _) _).setCell (Nat.le_refl _) _).setCell (Nat.le_refl _) _).setCell (Nat.le_refl _) _)
        · obtain rfl : q = k := by omega
          have hL : U = (0, r) := by rw [HE.out, List.drop_eq_nil_of_le (by rw [HQ.out]; exact Nat.le_refl _)]; rfl
          have HL := Lib.hid hL
          obtain ⟨r0, r1, r2, r3, r4⟩ := r
          clear hL HE
          have x0 := HXr.out.cell 0
          have h0 := HXr.out.frozen 0
          have x1 := HXr.out.cell 1
          have h1 := HXr.out.frozen 1
          have x2 := HXr.out.cell 2
          have h2 := HXr.out.frozen 2
          have x3 := HXr.out.cell 3
          have h3 := HXr.out.frozen 3
          have x4 := HXr.out.cell 4
          have h4 := HXr.out.frozen 4
          have y0 := HS.out.cell 0
          have f0 := HS.out.frozen 0
          have y1 := HS.out.cell 1
          have f1 := HS.out.frozen 1
          have y2 := HS.out.cell 2
          have f2 := HS.out.frozen 2
          have y3 := HS.out.cell 3
          have f3 := HS.out.frozen 3
          have y4 := HS.out.cell 4
          have f4 := HS.out.frozen 4
          have hxl := HXr.out.lt
          dsimp only [R5.z, R5.l, List.getElem?_cons_zero, List.getElem?_cons_succ] at x0 x1 x2 x3 x4 y0 y1 y2 y3 y4
          go_wp2
          refine bodyPost_ret (v := .tuple #[R5.v ⟨r0, r1, r2, r3, r4⟩, .int .i64 0]) (by simp [results, Tryd.results9, go_sem, R5.v, R5.z, *]) rfl ⟨by first | rw [if_pos rfl, HSm.out, HL.out] | rw [HSm.out, HL.out] | rw [HL.out], ?_⟩
          exact ((((HWr.out.setCell (Nat.le_refl _) _).setCell (Nat.le_refl _) _).setCell (Nat.le_refl _) _).setCell (Nat.le_refl _) _).setCell (Nat.le_refl _) _
end Go.Proofs.YtccplljbljpjpaaDoor
