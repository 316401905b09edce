/-
  Kin: Key, Find, of both; the document's Light; pods that came in.
-/
import Derived.Test.YtccplljbljpjpaaDoorND
import Derived.Test.YtccplljbljpjpaaDoorSpI
namespace Go.Proofs.YtccplljbljpjpaaDoor
open Go.ChangeShapes Go.WideShapes Go.ChangeAt Go.RowKit
set_option linter.unusedVariables false
set_option linter.unusedSimpArgs false

theorem blk_range {w : World} {b : Nat} {t : TypeId} {cs : List Value} (h : Blk w b t cs) : w.rangeAt b 0 cs := fun j v hj => by rw [Nat.zero_add, h.cell]; exact hj
/-- The same pod by another name. -/
def xP (p : Pd) : Pd := { p with nm := ⟨#[120]⟩ }
theorem xP_at {w : World} {p : Pd} (h : PodAt w p) : PodAt w (xP p) := ⟨h.labs, h.sels, h.trms, h.trmA, h.bers, h.prts, h.aprs, h.spds, h.ll, h.sl, h.tl, h.bl, h.pl, h.al, h.dl⟩
theorem xP_light {p : Pd} (h : lightP p = true) : lightP (xP p) = true := by
  unfold lightP at h ⊢
  simp only [Bool.and_eq_true, decide_eq_true_eq] at h ⊢
  exact ⟨⟨⟨⟨⟨⟨⟨⟨⟨(by decide : (⟨#[120]⟩ : ByteArray).size ≤ 300), h.1.1.1.1.1.1.1.1.2⟩, h.1.1.1.1.1.1.1.2⟩, h.1.1.1.1.1.1.2⟩, h.1.1.1.1.1.2⟩, h.1.1.1.1.2⟩, h.1.1.1.2⟩, h.1.1.2⟩, h.1.2⟩, h.2⟩
/-- What a pod is, but for its name. -/
def keyP (p : Pd) : ByteArray := if rightP p = true then showP (xP p) else emp
set_option maxRecDepth 100000 in
set_option maxHeartbeats 8000000 in
theorem skey_any (p : Pd) (w : World) (hA : PodAt w p) (hL : lightP p = true) (hWT : WT w) (hT : Tab10 w) :
    Calls Tryd.prog 15 #[.agg (prow p).toArray] w fun e w' => e = .returned (.string (keyP p)) ∧ Below w.heap.size w w' := by
  have HRt := Lib.hid (fun V (hV : Below w.heap.size w V) => show Calls Tryd.prog 17 #[.agg #[.string (p).nm, .int .i64 (p).n0, .int .i64 (p).n1, .int .i64 (p).n2, .int .i64 (p).n3, .int .i64 (p).n4, .slice (p).la (p).labs.length (p).lk, .slice (p).sa (p).sels.length (p).sk, .slice (p).ta (p).trms.length (p).tk, .slice (p).ba (p).bers.length (p).bk, .slice (p).pa (p).prts.length (p).pk, .slice (p).aa (p).aprs.length (p).ak, .bool (p).wd, .slice (p).da (p).spds.length (p).dk, .int .i64 (p).sw, .int .i64 (p).rk, .string (p).ow, .bool (p).dm, .bool (p).pn, .bool (p).lc]] V fun e w' => e = .returned (.bool (rightP p)) ∧ Below V.heap.size V w' from srightp_any p V (hA.mono hV) hL)
  have HSh := Lib.hid (fun V (hV : Below w.heap.size w V) => show Calls Tryd.prog 23 #[.agg #[.string (xP p).nm, .int .i64 (xP p).n0, .int .i64 (xP p).n1, .int .i64 (xP p).n2, .int .i64 (xP p).n3, .int .i64 (xP p).n4, .slice (xP p).la (xP p).labs.length (xP p).lk, .slice (xP p).sa (xP p).sels.length (xP p).sk, .slice (xP p).ta (xP p).trms.length (xP p).tk, .slice (xP p).ba (xP p).bers.length (xP p).bk, .slice (xP p).pa (xP p).prts.length (xP p).pk, .slice (xP p).aa (xP p).aprs.length (xP p).ak, .bool (xP p).wd, .slice (xP p).da (xP p).spds.length (xP p).dk, .int .i64 (xP p).sw, .int .i64 (xP p).rk, .string (xP p).ow, .bool (xP p).dm, .bool (xP p).pn, .bool (xP p).lc]] V fun e w' => e = .returned (.string (showP (xP p))) ∧ Below V.heap.size V w' from sshowpod_any (xP p) V (xP_at (hA.mono hV)) (xP_light hL) (hWT.mono hV hWT.sz) (hT.mono hV))
  obtain ⟨W, hW⟩ : ∃ W, W = w.alloc (.cells #[.string (p).nm, .int .i64 (p).n0, .int .i64 (p).n1, .int .i64 (p).n2, .int .i64 (p).n3, .int .i64 (p).n4, .slice (p).la (p).labs.length (p).lk, .slice (p).sa (p).sels.length (p).sk, .slice (p).ta (p).trms.length (p).tk, .slice (p).ba (p).bers.length (p).bk, .slice (p).pa (p).prts.length (p).pk, .slice (p).aa (p).aprs.length (p).ak, .bool (p).wd, .slice (p).da (p).spds.length (p).dk, .int .i64 (p).sw, .int .i64 (p).rk, .string (p).ow, .bool (p).dm, .bool (p).pn, .bool (p).lc] 37) := ⟨_, rfl⟩
  have HX := Lib.hid (show Blk W w.heap.size 37 (prow p) by rw [hW]; exact Blk.new w 37 (prow p))
  have HB := Lib.hid (show Below w.heap.size w W by rw [hW]; exact (Below.refl _ _).alloc (Nat.le_refl _) _)
  have HRx := Lib.hid (show W.rangeAt w.heap.size 0 [.string (p).nm, .int .i64 (p).n0, .int .i64 (p).n1, .int .i64 (p).n2, .int .i64 (p).n3, .int .i64 (p).n4, .slice (p).la (p).labs.length (p).lk, .slice (p).sa (p).sels.length (p).sk, .slice (p).ta (p).trms.length (p).tk, .slice (p).ba (p).bers.length (p).bk, .slice (p).pa (p).prts.length (p).pk, .slice (p).aa (p).aprs.length (p).ak, .bool (p).wd, .slice (p).da (p).spds.length (p).dk, .int .i64 (p).sw, .int .i64 (p).rk, .string (p).ow, .bool (p).dm, .bool (p).pn, .bool (p).lc] from blk_range HX.out)
  have hlx := HX.out.lt
  show Calls Tryd.prog 15 #[.agg #[.string (p).nm, .int .i64 (p).n0, .int .i64 (p).n1, .int .i64 (p).n2, .int .i64 (p).n3, .int .i64 (p).n4, .slice (p).la (p).labs.length (p).lk, .slice (p).sa (p).sels.length (p).sk, .slice (p).ta (p).trms.length (p).tk, .slice (p).ba (p).bers.length (p).bk, .slice (p).pa (p).prts.length (p).pk, .slice (p).aa (p).aprs.length (p).ak, .bool (p).wd, .slice (p).da (p).spds.length (p).dk, .int .i64 (p).sw, .int .i64 (p).rk, .string (p).ow, .bool (p).dm, .bool (p).pn, .bool (p).lc]] w _
  cases hr : rightP p with
  | false =>
    rw [show keyP p = emp from if_neg (by rw [hr]; exact Bool.false_ne_true)]
    rw [hr] at HRt
    clear hA hL hr
    go_enter Tryd.func15, Tryd.ntmps15
    go_upto_region 1 with (fail)
    rw [← hW]
    clear hW
    go_wp2_with (first
      | ((with_reducible refine at_load (ty := 37) ?_); refine load_cells rfl 37 (.tmp 1) rfl w.heap.size 0 rfl [.string (p).nm, .int .i64 (p).n0, .int .i64 (p).n1, .int .i64 (p).n2, .int .i64 (p).n3, .int .i64 (p).n4, .slice (p).la (p).labs.length (p).lk, .slice (p).sa (p).sels.length (p).sk, .slice (p).ta (p).trms.length (p).tk, .slice (p).ba (p).bers.length (p).bk, .slice (p).pa (p).prts.length (p).pk, .slice (p).aa (p).aprs.length (p).ak, .bool (p).wd, .slice (p).da (p).spds.length (p).dk, .int .i64 (p).sw, .int .i64 (p).rk, .string (p).ow, .bool (p).dm, .bool (p).pn, .bool (p).lc] _ Tryd.underlying37 rfl (by kernel_rfl) HRx.out ?_)
      | (go_at_call 17; (with_reducible refine (HRt.out _ HB.out).mono ?_); rintro e w1 ⟨rfl, hb⟩; have HB1 := Lib.hid (HB.out.trans (hb.mono HB.out.size)); clear hb))
    go_ret
    exact ⟨rfl, HB1.out⟩
  | true =>
    have HK := Lib.hid (show keyP p = showP (xP p) from if_pos hr)
    rw [hr] at HRt
    clear hA hL hr
    obtain ⟨t, ht⟩ : ∃ t, showP (xP p) = t := ⟨_, rfl⟩
    rw [ht] at HSh HK
    clear ht
    go_enter Tryd.func15, Tryd.ntmps15
    go_upto_region 1 with (fail)
    rw [← hW]
    clear hW
    go_upto_region 3 with (first
      | ((with_reducible refine at_load (ty := 37) ?_); refine load_cells rfl 37 (.tmp 1) rfl w.heap.size 0 rfl [.string (p).nm, .int .i64 (p).n0, .int .i64 (p).n1, .int .i64 (p).n2, .int .i64 (p).n3, .int .i64 (p).n4, .slice (p).la (p).labs.length (p).lk, .slice (p).sa (p).sels.length (p).sk, .slice (p).ta (p).trms.length (p).tk, .slice (p).ba (p).bers.length (p).bk, .slice (p).pa (p).prts.length (p).pk, .slice (p).aa (p).aprs.length (p).ak, .bool (p).wd, .slice (p).da (p).spds.length (p).dk, .int .i64 (p).sw, .int .i64 (p).rk, .string (p).ow, .bool (p).dm, .bool (p).pn, .bool (p).lc] _ Tryd.underlying37 rfl (by kernel_rfl) HRx.out ?_)
      | (go_at_call 17; (with_reducible refine (HRt.out _ HB.out).mono ?_); rintro e w1 ⟨rfl, hb⟩; have HB1 := Lib.hid (HB.out.trans (hb.mono HB.out.size)); have HX1 := Lib.hid (HX.out.below hb); have x0 : w1.cell? ⟨w.heap.size, 0, none⟩ = some (.string p.nm) := HX1.out.cell 0; have f0 := HX1.out.frozen 0; have hl1 := HX1.out.lt; clear hb hlx))
    go_upto_region 4 with (fail)
    obtain ⟨w2, hw2⟩ : ∃ V, V = w1.setCell ⟨w.heap.size, 0, none⟩ (.string ⟨#[120]⟩) := ⟨_, rfl⟩
    have HX2 := Lib.hid (show Blk w2 w.heap.size 37 (prow (xP p)) by rw [hw2]; exact HX1.out.set 0 _)
    have HB2 := Lib.hid (show Below w.heap.size w w2 by rw [hw2]; exact HB1.out.setCell (Nat.le_refl _) _)
    have HR2 := Lib.hid (show w2.rangeAt w.heap.size 0 [.string (xP p).nm, .int .i64 (xP p).n0, .int .i64 (xP p).n1, .int .i64 (xP p).n2, .int .i64 (xP p).n3, .int .i64 (xP p).n4, .slice (xP p).la (xP p).labs.length (xP p).lk, .slice (xP p).sa (xP p).sels.length (xP p).sk, .slice (xP p).ta (xP p).trms.length (xP p).tk, .slice (xP p).ba (xP p).bers.length (xP p).bk, .slice (xP p).pa (xP p).prts.length (xP p).pk, .slice (xP p).aa (xP p).aprs.length (xP p).ak, .bool (xP p).wd, .slice (xP p).da (xP p).spds.length (xP p).dk, .int .i64 (xP p).sw, .int .i64 (xP p).rk, .string (xP p).ow, .bool (xP p).dm, .bool (xP p).pn, .bool (xP p).lc] from blk_range HX2.out)
    rw [← hw2]
    clear hw2 x0 f0 hl1
    go_wp2_with (first
      | ((with_reducible refine at_load (ty := 37) ?_); refine load_cells rfl 37 (.tmp 1) rfl w.heap.size 0 rfl [.string (xP p).nm, .int .i64 (xP p).n0, .int .i64 (xP p).n1, .int .i64 (xP p).n2, .int .i64 (xP p).n3, .int .i64 (xP p).n4, .slice (xP p).la (xP p).labs.length (xP p).lk, .slice (xP p).sa (xP p).sels.length (xP p).sk, .slice (xP p).ta (xP p).trms.length (xP p).tk, .slice (xP p).ba (xP p).bers.length (xP p).bk, .slice (xP p).pa (xP p).prts.length (xP p).pk, .slice (xP p).aa (xP p).aprs.length (xP p).ak, .bool (xP p).wd, .slice (xP p).da (xP p).spds.length (xP p).dk, .int .i64 (xP p).sw, .int .i64 (xP p).rk, .string (xP p).ow, .bool (xP p).dm, .bool (xP p).pn, .bool (xP p).lc] _ Tryd.underlying37 rfl (by kernel_rfl) HR2.out ?_)
      | (go_at_call 23; (with_reducible refine (HSh.out _ HB2.out).mono ?_); rintro e w3 ⟨rfl, hb⟩; have HB3 := Lib.hid (HB2.out.trans (hb.mono HB2.out.size)); clear hb))
    go_ret
    exact ⟨by rw [HK.out]; first | done | rfl, HB3.out⟩
abbrev PodLs := RowsAt prow 20
set_option maxRecDepth 100000 in
theorem open_pods {H : Type} {enc : TypeId × Value → H} {W : World} {base : Nat} {v : Value} {d : DataW H} {p : List MemPlace}
    (hv : Value.okWide Tryd.prog W .any base 22 v) (h : DataW.Trod enc Tryd.prog W 0 (fun _ => true) true 22 v d p) :
    ∃ (a : Option Addr) (l : List Pd) (k : Nat), v = .slice a l.length k ∧ NilOk a l.length k ∧ PodLs W a l ∧ l.length ≤ maxLen ∧ l.length ≤ k ∧ ∀ x ∈ l, PodIn W x :=
  open_list_in Tryd.underlying22 Tryd.cells37 (by decide) (fun cs fuel y hl hy => pod_open hl hy) hv h
end Go.Proofs.YtccplljbljpjpaaDoor
