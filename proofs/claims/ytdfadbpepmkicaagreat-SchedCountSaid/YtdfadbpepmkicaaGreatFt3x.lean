/-
  Apart: Counts.
-/
import Derived.Test.YtdfadbpepmkicaaGreatNEx
import Derived.Test.YtdfadbpepmkicaaGreatLabNBx
import Derived.Test.YtdfadbpepmkicaaGreatNHx
import Derived.Test.YtdfadbpepmkicaaGreatMBx
import Derived.Maps.Own
import Derived.StringKeys
import Derived.Maps.OwnSet
import Derived.Maps.OwnOps
namespace Go.Proofs.YtdfadbpepmkicaaGreat
open Go.RowKit
set_option linter.unusedVariables false
set_option linter.unusedSimpArgs false
structure MP (w : World) (X : Nat) (m : Mac) (p : Pd) (V : World) : Prop where
  xm : Box X (mrow m) V
  xp : Box (X + 1) (prow p) V
  ma : MacAt V m
  pa : PodAt V p
  bl : Below w.heap.size w V
theorem MP.mono {w V V' : World} {X : Nat} {m : Mac} {p : Pd} (h : MP w X m p V) (hb : Below V.heap.size V V') : MP w X m p V' :=
  ⟨h.xm.mono hb, h.xp.mono hb, h.ma.mono hb, h.pa.mono hb, h.bl.trans (hb.mono h.bl.size)⟩
theorem MP.new {w : World} {m : Mac} {p : Pd} (hm : MacAt w m) (hp : PodAt w p) : MP w w.heap.size m p ((w.alloc (.cells (mrow m).toArray 57)).alloc (.cells (prow p).toArray 40)) := by
  have h1 : Below w.heap.size w (w.alloc (.cells (mrow m).toArray 57)) := (Below.refl _ w).alloc (Nat.le_refl _) _
  have h2 : Below (w.alloc (.cells (mrow m).toArray 57)).heap.size (w.alloc (.cells (mrow m).toArray 57)) ((w.alloc (.cells (mrow m).toArray 57)).alloc (.cells (prow p).toArray 40)) := (Below.refl _ _).alloc (Nat.le_refl _) _
  refine ⟨(Box.new w (mrow m) 57).mono h2, ?_, (hm.mono h1).mono h2, (hp.mono h1).mono h2, h1.trans (h2.mono h1.size)⟩
  have h9 := Box.new (w.alloc (.cells (mrow m).toArray 57)) (prow p) 40
  rw [World.size_alloc] at h9
  exact h9
def placeS (m : Mac) (p : Pd) : Int := if m.rd = false then 1 else if Lb.hasP m.labs p.sels = false then 4 else if p.trms.all (Lb.meetP m.labs) = false then 5 else if Tn.allowsB p.bers m.tnts = false then 6 else 0
structure LtM (m : Mac) : Prop where
  nm : m.nm.size ≤ 300
  ll : m.labs.length ≤ 40
  ls : ∀ x ∈ m.labs, x.key.size ≤ 300 ∧ x.val.size ≤ 300
  tl : m.tnts.length ≤ 1000000
theorem lightM_iff {m : Mac} (h : lightM m = true) : LtM m := by
  unfold lightM at h
  simp only [Bool.and_eq_true, decide_eq_true_eq] at h
  refine ⟨h.1.1.1, ((lightL_iff _).1 h.1.2).1, ((lightL_iff _).1 h.1.2).2, ?_⟩
  have h9 := h.2
  unfold lightB at h9
  simp only [Bool.and_eq_true, decide_eq_true_eq] at h9
  omega
set_option maxRecDepth 100000 in
set_option maxHeartbeats 4000000 in
theorem splace_any (m : Mac) (p : Pd) (w : World) (hM : MacAt w m) (hP : PodAt w p) (hm : lightM m = true) (hp : lightP p = true) :
    Calls Tryz.prog 129 #[.agg (mrow m).toArray, .agg (prow p).toArray] w fun e w' => e = .returned (.int .i64 (placeS m p)) ∧ Below w.heap.size w w' := by
  have hLm := lightM_iff hm
  have hLp := lightP_iff hp
  obtain ⟨R, hR⟩ : ∃ R, placeS m p = R := ⟨_, rfl⟩
  rw [hR]
  unfold placeS at hR
  obtain ⟨b1, h1⟩ : ∃ b, Lb.hasP m.labs p.sels = b := ⟨_, rfl⟩
  obtain ⟨b2, h2⟩ : ∃ b, p.trms.all (Lb.meetP m.labs) = b := ⟨_, rfl⟩
  obtain ⟨b3, h3⟩ : ∃ b, Tn.allowsB p.bers m.tnts = b := ⟨_, rfl⟩
  rw [h1, h2, h3] at hR
  have hc1 := fun V (h : MP w w.heap.size m p V) => Lb.has_any m.la p.sa m.lk p.sk m.labs p.sels V h.ma.labs h.pa.sels (by have := hLm.ll; omega) (by have := ((lightL_iff _).1 hLp.l1).1; omega)
  have hc2 := fun V (h : MP w w.heap.size m p V) => Lb.all_any2 m.la p.ta m.lk p.tk m.labs p.trms V h.ma.labs h.pa.trms h.pa.trmA (by have := hLm.ll; omega) (by have := hLp.tl; omega) (fun t ht => by have := (Lb.lightTm_ok (hLp.tt t ht)).1; omega) (fun x hx => by have := (hLm.ls x hx).2; omega) (fun t ht v hv => by have := (Lb.lightTm_ok (hLp.tt t ht)).2.2 v hv; omega)
  have hc3 := fun V (h : MP w w.heap.size m p V) => Tn.allows_any p.ba m.ta p.bk m.tk p.bers m.tnts V h.pa.bers (ber_sz hLp.bl).1 h.ma.tnts hLm.tl
  rw [h1] at hc1
  rw [h2] at hc2
  rw [h3] at hc3
  obtain ⟨W, hW⟩ : ∃ W, W = (w.alloc (.cells (mrow m).toArray 57)).alloc (.cells (prow p).toArray 40) := ⟨_, rfl⟩
  have H0 := Lib.hid (show MP w w.heap.size m p W by rw [hW]; exact MP.new hM hP)
  clear h1 h2 h3 hM hP hm hp hLm hLp
  obtain ⟨mn, mg, r0, r1, r2, r3, r4, ma, mk, ML, mta, mtk, MT, rd⟩ := m
  obtain ⟨nm, n0, n1, n2, n3, n4, la, lk, L, sa, sk, S, ta, tk, T, ba, bk, B, pa, pk, P, aa, ak, A, wd, da, dk, D, sw, rk, ow, dm, pn, lc⟩ := p
  have H1 := Lib.hid hc1
  have H2 := Lib.hid hc2
  have H3 := Lib.hid hc3
  clear hc1 hc2 hc3
  replace hW : W = (w.alloc (.cells #[.string mn, .string mg, .int .i64 r0, .int .i64 r1, .int .i64 r2, .int .i64 r3, .int .i64 r4, .slice ma ML.length mk, .slice mta MT.length mtk, .bool rd] 57)).alloc (.cells #[.string nm, .int .i64 n0, .int .i64 n1, .int .i64 n2, .int .i64 n3, .int .i64 n4, .slice la L.length lk, .slice sa S.length sk, .slice ta T.length tk, .slice ba B.length bk, .slice pa P.length pk, .slice aa A.length ak, .bool wd, .slice da D.length dk, .int .i64 sw, .int .i64 rk, .string ow, .bool dm, .bool pn, .bool lc] 40) := hW
  show Calls Tryz.prog 129 #[.agg #[.string mn, .string mg, .int .i64 r0, .int .i64 r1, .int .i64 r2, .int .i64 r3, .int .i64 r4, .slice ma ML.length mk, .slice mta MT.length mtk, .bool rd], .agg #[.string nm, .int .i64 n0, .int .i64 n1, .int .i64 n2, .int .i64 n3, .int .i64 n4, .slice la L.length lk, .slice sa S.length sk, .slice ta T.length tk, .slice ba B.length bk, .slice pa P.length pk, .slice aa A.length ak, .bool wd, .slice da D.length dk, .int .i64 sw, .int .i64 rk, .string ow, .bool dm, .bool pn, .bool lc]] w _
  dsimp only at hR
  cases rd with
  | false =>
    obtain rfl : R = 1 := by rw [← hR]; rfl
    clear hR
    go_enter Tryz.func129, Tryz.ntmps129
    go_upto_region 1 with (fail)
    rw [← hW]
    clear hW
    have hxm : ∀ i, W.cell? ⟨w.heap.size, i, none⟩ = [.string mn, .string mg, .int .i64 r0, .int .i64 r1, .int .i64 r2, .int .i64 r3, .int .i64 r4, .slice ma ML.length mk, .slice mta MT.length mtk, .bool false][i]? := H0.out.xm.cell
    have hxp : ∀ i, W.cell? ⟨w.heap.size + 1, i, none⟩ = [.string nm, .int .i64 n0, .int .i64 n1, .int .i64 n2, .int .i64 n3, .int .i64 n4, .slice la L.length lk, .slice sa S.length sk, .slice ta T.length tk, .slice ba B.length bk, .slice pa P.length pk, .slice aa A.length ak, .bool wd, .slice da D.length dk, .int .i64 sw, .int .i64 rk, .string ow, .bool dm, .bool pn, .bool lc][i]? := H0.out.xp.cell
    have hlm := H0.out.xm.lt
    have hlp := H0.out.xp.lt
    go_wp2_with (first
      | (go_at_call 135; (with_reducible refine (H1.out _ H0.out).mono ?_); rintro e w1 ⟨rfl, hb⟩; have H01 := Lib.hid (H0.out.mono hb); clear hb; have hym : ∀ i, w1.cell? ⟨w.heap.size, i, none⟩ = [.string mn, .string mg, .int .i64 r0, .int .i64 r1, .int .i64 r2, .int .i64 r3, .int .i64 r4, .slice ma ML.length mk, .slice mta MT.length mtk, .bool false][i]? := H01.out.xm.cell; have hyp : ∀ i, w1.cell? ⟨w.heap.size + 1, i, none⟩ = [.string nm, .int .i64 n0, .int .i64 n1, .int .i64 n2, .int .i64 n3, .int .i64 n4, .slice la L.length lk, .slice sa S.length sk, .slice ta T.length tk, .slice ba B.length bk, .slice pa P.length pk, .slice aa A.length ak, .bool wd, .slice da D.length dk, .int .i64 sw, .int .i64 rk, .string ow, .bool dm, .bool pn, .bool lc][i]? := H01.out.xp.cell; have hkm := H01.out.xm.lt; have hkp := H01.out.xp.lt; clear hxm hxp hlm hlp)
      | (go_at_call 136; (with_reducible refine (H2.out _ H01.out).mono ?_); rintro e w2 ⟨rfl, hb⟩; have H02 := Lib.hid (H01.out.mono hb); clear hb; have hzm : ∀ i, w2.cell? ⟨w.heap.size, i, none⟩ = [.string mn, .string mg, .int .i64 r0, .int .i64 r1, .int .i64 r2, .int .i64 r3, .int .i64 r4, .slice ma ML.length mk, .slice mta MT.length mtk, .bool false][i]? := H02.out.xm.cell; have hzp : ∀ i, w2.cell? ⟨w.heap.size + 1, i, none⟩ = [.string nm, .int .i64 n0, .int .i64 n1, .int .i64 n2, .int .i64 n3, .int .i64 n4, .slice la L.length lk, .slice sa S.length sk, .slice ta T.length tk, .slice ba B.length bk, .slice pa P.length pk, .slice aa A.length ak, .bool wd, .slice da D.length dk, .int .i64 sw, .int .i64 rk, .string ow, .bool dm, .bool pn, .bool lc][i]? := H02.out.xp.cell; have hjm := H02.out.xm.lt; have hjp := H02.out.xp.lt; clear hym hyp hkm hkp)
      | (go_at_call 137; (with_reducible refine (H3.out _ H02.out).mono ?_); rintro e w3 ⟨rfl, hb⟩; have H03 := Lib.hid (H02.out.mono hb); clear hb))
    go_ret
    exact ⟨rfl, by first | exact H03.out.bl | exact H02.out.bl | exact H01.out.bl | exact H0.out.bl⟩
  | true =>
    cases b1 with
    | false =>
      obtain rfl : R = 4 := by rw [← hR]; rfl
      clear hR
      go_enter Tryz.func129, Tryz.ntmps129
      go_upto_region 1 with (fail)
      rw [← hW]
      clear hW
      have hxm : ∀ i, W.cell? ⟨w.heap.size, i, none⟩ = [.string mn, .string mg, .int .i64 r0, .int .i64 r1, .int .i64 r2, .int .i64 r3, .int .i64 r4, .slice ma ML.length mk, .slice mta MT.length mtk, .bool true][i]? := H0.out.xm.cell
      have hxp : ∀ i, W.cell? ⟨w.heap.size + 1, i, none⟩ = [.string nm, .int .i64 n0, .int .i64 n1, .int .i64 n2, .int .i64 n3, .int .i64 n4, .slice la L.length lk, .slice sa S.length sk, .slice ta T.length tk, .slice ba B.length bk, .slice pa P.length pk, .slice aa A.length ak, .bool wd, .slice da D.length dk, .int .i64 sw, .int .i64 rk, .string ow, .bool dm, .bool pn, .bool lc][i]? := H0.out.xp.cell
      have hlm := H0.out.xm.lt
      have hlp := H0.out.xp.lt
      go_wp2_with (first
        | (go_at_call 135; (with_reducible refine (H1.out _ H0.out).mono ?_); rintro e w1 ⟨rfl, hb⟩; have H01 := Lib.hid (H0.out.mono hb); clear hb; have hym : ∀ i, w1.cell? ⟨w.heap.size, i, none⟩ = [.string mn, .string mg, .int .i64 r0, .int .i64 r1, .int .i64 r2, .int .i64 r3, .int .i64 r4, .slice ma ML.length mk, .slice mta MT.length mtk, .bool true][i]? := H01.out.xm.cell; have hyp : ∀ i, w1.cell? ⟨w.heap.size + 1, i, none⟩ = [.string nm, .int .i64 n0, .int .i64 n1, .int .i64 n2, .int .i64 n3, .int .i64 n4, .slice la L.length lk, .slice sa S.length sk, .slice ta T.length tk, .slice ba B.length bk, .slice pa P.length pk, .slice aa A.length ak, .bool wd, .slice da D.length dk, .int .i64 sw, .int .i64 rk, .string ow, .bool dm, .bool pn, .bool lc][i]? := H01.out.xp.cell; have hkm := H01.out.xm.lt; have hkp := H01.out.xp.lt; clear hxm hxp hlm hlp)
        | (go_at_call 136; (with_reducible refine (H2.out _ H01.out).mono ?_); rintro e w2 ⟨rfl, hb⟩; have H02 := Lib.hid (H01.out.mono hb); clear hb; have hzm : ∀ i, w2.cell? ⟨w.heap.size, i, none⟩ = [.string mn, .string mg, .int .i64 r0, .int .i64 r1, .int .i64 r2, .int .i64 r3, .int .i64 r4, .slice ma ML.length mk, .slice mta MT.length mtk, .bool true][i]? := H02.out.xm.cell; have hzp : ∀ i, w2.cell? ⟨w.heap.size + 1, i, none⟩ = [.string nm, .int .i64 n0, .int .i64 n1, .int .i64 n2, .int .i64 n3, .int .i64 n4, .slice la L.length lk, .slice sa S.length sk, .slice ta T.length tk, .slice ba B.length bk, .slice pa P.length pk, .slice aa A.length ak, .bool wd, .slice da D.length dk, .int .i64 sw, .int .i64 rk, .string ow, .bool dm, .bool pn, .bool lc][i]? := H02.out.xp.cell; have hjm := H02.out.xm.lt; have hjp := H02.out.xp.lt; clear hym hyp hkm hkp)
        | (go_at_call 137; (with_reducible refine (H3.out _ H02.out).mono ?_); rintro e w3 ⟨rfl, hb⟩; have H03 := Lib.hid (H02.out.mono hb); clear hb))
      go_ret
      exact ⟨rfl, by first | exact H03.out.bl | exact H02.out.bl | exact H01.out.bl | exact H0.out.bl⟩
    | true =>
      cases b2 with
      | false =>
        obtain rfl : R = 5 := by rw [← hR]; rfl
        clear hR
        go_enter Tryz.func129, Tryz.ntmps129
        go_upto_region 1 with (fail)
        rw [← hW]
        clear hW
        have hxm : ∀ i, W.cell? ⟨w.heap.size, i, none⟩ = [.string mn, .string mg, .int .i64 r0, .int .i64 r1, .int .i64 r2, .int .i64 r3, .int .i64 r4, .slice ma ML.length mk, .slice mta MT.length mtk, .bool true][i]? := H0.out.xm.cell
        have hxp : ∀ i, W.cell? ⟨w.heap.size + 1, i, none⟩ = [.string nm, .int .i64 n0, .int .i64 n1, .int .i64 n2, .int .i64 n3, .int .i64 n4, .slice la L.length lk, .slice sa S.length sk, .slice ta T.length tk, .slice ba B.length bk, .slice pa P.length pk, .slice aa A.length ak, .bool wd, .slice da D.length dk, .int .i64 sw, .int .i64 rk, .string ow, .bool dm, .bool pn, .bool lc][i]? := H0.out.xp.cell
        have hlm := H0.out.xm.lt
        have hlp := H0.out.xp.lt
        go_wp2_with (first
          | (go_at_call 135; (with_reducible refine (H1.out _ H0.out).mono ?_); rintro e w1 ⟨rfl, hb⟩; have H01 := Lib.hid (H0.out.mono hb); clear hb; have hym : ∀ i, w1.cell? ⟨w.heap.size, i, none⟩ = [.string mn, .string mg, .int .i64 r0, .int .i64 r1, .int .i64 r2, .int .i64 r3, .int .i64 r4, .slice ma ML.length mk, .slice mta MT.length mtk, .bool true][i]? := H01.out.xm.cell; have hyp : ∀ i, w1.cell? ⟨w.heap.size + 1, i, none⟩ = [.string nm, .int .i64 n0, .int .i64 n1, .int .i64 n2, .int .i64 n3, .int .i64 n4, .slice la L.length lk, .slice sa S.length sk, .slice ta T.length tk, .slice ba B.length bk, .slice pa P.length pk, .slice aa A.length ak, .bool wd, .slice da D.length dk, .int .i64 sw, .int .i64 rk, .string ow, .bool dm, .bool pn, .bool lc][i]? := H01.out.xp.cell; have hkm := H01.out.xm.lt; have hkp := H01.out.xp.lt; clear hxm hxp hlm hlp)
          | (go_at_call 136; (with_reducible refine (H2.out _ H01.out).mono ?_); rintro e w2 ⟨rfl, hb⟩; have H02 := Lib.hid (H01.out.mono hb); clear hb; have hzm : ∀ i, w2.cell? ⟨w.heap.size, i, none⟩ = [.string mn, .string mg, .int .i64 r0, .int .i64 r1, .int .i64 r2, .int .i64 r3, .int .i64 r4, .slice ma ML.length mk, .slice mta MT.length mtk, .bool true][i]? := H02.out.xm.cell; have hzp : ∀ i, w2.cell? ⟨w.heap.size + 1, i, none⟩ = [.string nm, .int .i64 n0, .int .i64 n1, .int .i64 n2, .int .i64 n3, .int .i64 n4, .slice la L.length lk, .slice sa S.length sk, .slice ta T.length tk, .slice ba B.length bk, .slice pa P.length pk, .slice aa A.length ak, .bool wd, .slice da D.length dk, .int .i64 sw, .int .i64 rk, .string ow, .bool dm, .bool pn, .bool lc][i]? := H02.out.xp.cell; have hjm := H02.out.xm.lt; have hjp := H02.out.xp.lt; clear hym hyp hkm hkp)
          | (go_at_call 137; (with_reducible refine (H3.out _ H02.out).mono ?_); rintro e w3 ⟨rfl, hb⟩; have H03 := Lib.hid (H02.out.mono hb); clear hb))
        go_ret
        exact ⟨rfl, by first | exact H03.out.bl | exact H02.out.bl | exact H01.out.bl | exact H0.out.bl⟩
      | true =>
        cases b3 with
        | false =>
          obtain rfl : R = 6 := by rw [← hR]; rfl
          clear hR
          go_enter Tryz.func129, Tryz.ntmps129
          go_upto_region 1 with (fail)
          rw [← hW]
          clear hW
          have hxm : ∀ i, W.cell? ⟨w.heap.size, i, none⟩ = [.string mn, .string mg, .int .i64 r0, .int .i64 r1, .int .i64 r2, .int .i64 r3, .int .i64 r4, .slice ma ML.length mk, .slice mta MT.length mtk, .bool true][i]? := H0.out.xm.cell
          have hxp : ∀ i, W.cell? ⟨w.heap.size + 1, i, none⟩ = [.string nm, .int .i64 n0, .int .i64 n1, .int .i64 n2, .int .i64 n3, .int .i64 n4, .slice la L.length lk, .slice sa S.length sk, .slice ta T.length tk, .slice ba B.length bk, .slice pa P.length pk, .slice aa A.length ak, .bool wd, .slice da D.length dk, .int .i64 sw, .int .i64 rk, .string ow, .bool dm, .bool pn, .bool lc][i]? := H0.out.xp.cell
          have hlm := H0.out.xm.lt
          have hlp := H0.out.xp.lt
          go_wp2_with (first
            | (go_at_call 135; (with_reducible refine (H1.out _ H0.out).mono ?_); rintro e w1 ⟨rfl, hb⟩; have H01 := Lib.hid (H0.out.mono hb); clear hb; have hym : ∀ i, w1.cell? ⟨w.heap.size, i, none⟩ = [.string mn, .string mg, .int .i64 r0, .int .i64 r1, .int .i64 r2, .int .i64 r3, .int .i64 r4, .slice ma ML.length mk, .slice mta MT.length mtk, .bool true][i]? := H01.out.xm.cell; have hyp : ∀ i, w1.cell? ⟨w.heap.size + 1, i, none⟩ = [.string nm, .int .i64 n0, .int .i64 n1, .int .i64 n2, .int .i64 n3, .int .i64 n4, .slice la L.length lk, .slice sa S.length sk, .slice ta T.length tk, .slice ba B.length bk, .slice pa P.length pk, .slice aa A.length ak, .bool wd, .slice da D.length dk, .int .i64 sw, .int .i64 rk, .string ow, .bool dm, .bool pn, .bool lc][i]? := H01.out.xp.cell; have hkm := H01.out.xm.lt; have hkp := H01.out.xp.lt; clear hxm hxp hlm hlp)
            | (go_at_call 136; (with_reducible refine (H2.out _ H01.out).mono ?_); rintro e w2 ⟨rfl, hb⟩; have H02 := Lib.hid (H01.out.mono hb); clear hb; have hzm : ∀ i, w2.cell? ⟨w.heap.size, i, none⟩ = [.string mn, .string mg, .int .i64 r0, .int .i64 r1, .int .i64 r2, .int .i64 r3, .int .i64 r4, .slice ma ML.length mk, .slice mta MT.length mtk, .bool true][i]? := H02.out.xm.cell; have hzp : ∀ i, w2.cell? ⟨w.heap.size + 1, i, none⟩ = [.string nm, .int .i64 n0, .int .i64 n1, .int .i64 n2, .int .i64 n3, .int .i64 n4, .slice la L.length lk, .slice sa S.length sk, .slice ta T.length tk, .slice ba B.length bk, .slice pa P.length pk, .slice aa A.length ak, .bool wd, .slice da D.length dk, .int .i64 sw, .int .i64 rk, .string ow, .bool dm, .bool pn, .bool lc][i]? := H02.out.xp.cell; have hjm := H02.out.xm.lt; have hjp := H02.out.xp.lt; clear hym hyp hkm hkp)
            | (go_at_call 137; (with_reducible refine (H3.out _ H02.out).mono ?_); rintro e w3 ⟨rfl, hb⟩; have H03 := Lib.hid (H02.out.mono hb); clear hb))
          go_ret
          exact ⟨rfl, by first | exact H03.out.bl | exact H02.out.bl | exact H01.out.bl | exact H0.out.bl⟩
        | true =>
          obtain rfl : R = 0 := by rw [← hR]; rfl
          clear hR
          go_enter Tryz.func129, Tryz.ntmps129
          go_upto_region 1 with (fail)
          rw [← hW]
          clear hW
          have hxm : ∀ i, W.cell? ⟨w.heap.size, i, none⟩ = [.string mn, .string mg, .int .i64 r0, .int .i64 r1, .int .i64 r2, .int .i64 r3, .int .i64 r4, .slice ma ML.length mk, .slice mta MT.length mtk, .bool true][i]? := H0.out.xm.cell
          have hxp : ∀ i, W.cell? ⟨w.heap.size + 1, i, none⟩ = [.string nm, .int .i64 n0, .int .i64 n1, .int .i64 n2, .int .i64 n3, .int .i64 n4, .slice la L.length lk, .slice sa S.length sk, .slice ta T.length tk, .slice ba B.length bk, .slice pa P.length pk, .slice aa A.length ak, .bool wd, .slice da D.length dk, .int .i64 sw, .int .i64 rk, .string ow, .bool dm, .bool pn, .bool lc][i]? := H0.out.xp.cell
          have hlm := H0.out.xm.lt
          have hlp := H0.out.xp.lt
          go_wp2_with (first
            | (go_at_call 135; (with_reducible refine (H1.out _ H0.out).mono ?_); rintro e w1 ⟨rfl, hb⟩; have H01 := Lib.hid (H0.out.mono hb); clear hb; have hym : ∀ i, w1.cell? ⟨w.heap.size, i, none⟩ = [.string mn, .string mg, .int .i64 r0, .int .i64 r1, .int .i64 r2, .int .i64 r3, .int .i64 r4, .slice ma ML.length mk, .slice mta MT.length mtk, .bool true][i]? := H01.out.xm.cell; have hyp : ∀ i, w1.cell? ⟨w.heap.size + 1, i, none⟩ = [.string nm, .int .i64 n0, .int .i64 n1, .int .i64 n2, .int .i64 n3, .int .i64 n4, .slice la L.length lk, .slice sa S.length sk, .slice ta T.length tk, .slice ba B.length bk, .slice pa P.length pk, .slice aa A.length ak, .bool wd, .slice da D.length dk, .int .i64 sw, .int .i64 rk, .string ow, .bool dm, .bool pn, .bool lc][i]? := H01.out.xp.cell; have hkm := H01.out.xm.lt; have hkp := H01.out.xp.lt; clear hxm hxp hlm hlp)
            | (go_at_call 136; (with_reducible refine (H2.out _ H01.out).mono ?_); rintro e w2 ⟨rfl, hb⟩; have H02 := Lib.hid (H01.out.mono hb); clear hb; have hzm : ∀ i, w2.cell? ⟨w.heap.size, i, none⟩ = [.string mn, .string mg, .int .i64 r0, .int .i64 r1, .int .i64 r2, .int .i64 r3, .int .i64 r4, .slice ma ML.length mk, .slice mta MT.length mtk, .bool true][i]? := H02.out.xm.cell; have hzp : ∀ i, w2.cell? ⟨w.heap.size + 1, i, none⟩ = [.string nm, .int .i64 n0, .int .i64 n1, .int .i64 n2, .int .i64 n3, .int .i64 n4, .slice la L.length lk, .slice sa S.length sk, .slice ta T.length tk, .slice ba B.length bk, .slice pa P.length pk, .slice aa A.length ak, .bool wd, .slice da D.length dk, .int .i64 sw, .int .i64 rk, .string ow, .bool dm, .bool pn, .bool lc][i]? := H02.out.xp.cell; have hjm := H02.out.xm.lt; have hjp := H02.out.xp.lt; clear hym hyp hkm hkp)
            | (go_at_call 137; (with_reducible refine (H3.out _ H02.out).mono ?_); rintro e w3 ⟨rfl, hb⟩; have H03 := Lib.hid (H02.out.mono hb); clear hb))
          go_ret
          exact ⟨rfl, by first | exact H03.out.bl | exact H02.out.bl | exact H01.out.bl | exact H0.out.bl⟩
def prefS (m : Mac) (p : Pd) : Nat := (Tn.unborneL p.bers m.tnts 2).length
set_option maxRecDepth 100000 in
set_option maxHeartbeats 4000000 in
theorem sprefers_any (m : Mac) (p : Pd) (w : World) (hM : MacAt w m) (hP : PodAt w p) (hm : lightM m = true) (hp : lightP p = true) :
    Calls Tryz.prog 68 #[.agg (mrow m).toArray, .agg (prow p).toArray] w fun e w' => e = .returned (.int .i64 (prefS m p)) ∧ Below w.heap.size w w' := by
  have hLm := lightM_iff hm
  have hLp := lightP_iff hp
  have hc3 := fun V (h : MP w w.heap.size m p V) => Tn.prefers_any p.ba m.ta p.bk m.tk p.bers m.tnts V h.pa.bers (ber_sz hLp.bl).1 h.ma.tnts hLm.tl
  obtain ⟨R, hR⟩ : ∃ R, prefS m p = R := ⟨_, rfl⟩
  rw [hR]
  unfold prefS at hR
  rw [hR] at hc3
  obtain ⟨W, hW⟩ : ∃ W, W = (w.alloc (.cells (mrow m).toArray 57)).alloc (.cells (prow p).toArray 40) := ⟨_, rfl⟩
  have H0 := Lib.hid (show MP w w.heap.size m p W by rw [hW]; exact MP.new hM hP)
  clear hM hP hm hp hLm hLp hR
  obtain ⟨mn, mg, r0, r1, r2, r3, r4, ma, mk, ML, mta, mtk, MT, rd⟩ := m
  obtain ⟨nm, n0, n1, n2, n3, n4, la, lk, L, sa, sk, S, ta, tk, T, ba, bk, B, pa, pk, P, aa, ak, A, wd, da, dk, D, sw, rk, ow, dm, pn, lc⟩ := p
  have H3 := Lib.hid hc3
  clear hc3
  replace hW : W = (w.alloc (.cells #[.string mn, .string mg, .int .i64 r0, .int .i64 r1, .int .i64 r2, .int .i64 r3, .int .i64 r4, .slice ma ML.length mk, .slice mta MT.length mtk, .bool rd] 57)).alloc (.cells #[.string nm, .int .i64 n0, .int .i64 n1, .int .i64 n2, .int .i64 n3, .int .i64 n4, .slice la L.length lk, .slice sa S.length sk, .slice ta T.length tk, .slice ba B.length bk, .slice pa P.length pk, .slice aa A.length ak, .bool wd, .slice da D.length dk, .int .i64 sw, .int .i64 rk, .string ow, .bool dm, .bool pn, .bool lc] 40) := hW
  show Calls Tryz.prog 68 #[.agg #[.string mn, .string mg, .int .i64 r0, .int .i64 r1, .int .i64 r2, .int .i64 r3, .int .i64 r4, .slice ma ML.length mk, .slice mta MT.length mtk, .bool rd], .agg #[.string nm, .int .i64 n0, .int .i64 n1, .int .i64 n2, .int .i64 n3, .int .i64 n4, .slice la L.length lk, .slice sa S.length sk, .slice ta T.length tk, .slice ba B.length bk, .slice pa P.length pk, .slice aa A.length ak, .bool wd, .slice da D.length dk, .int .i64 sw, .int .i64 rk, .string ow, .bool dm, .bool pn, .bool lc]] w _
  go_enter Tryz.func68, Tryz.ntmps68
  go_upto_region 1 with (fail)
  rw [← hW]
  clear hW
  have hxm : ∀ i, W.cell? ⟨w.heap.size, i, none⟩ = [.string mn, .string mg, .int .i64 r0, .int .i64 r1, .int .i64 r2, .int .i64 r3, .int .i64 r4, .slice ma ML.length mk, .slice mta MT.length mtk, .bool rd][i]? := H0.out.xm.cell
  have hxp : ∀ i, W.cell? ⟨w.heap.size + 1, i, none⟩ = [.string nm, .int .i64 n0, .int .i64 n1, .int .i64 n2, .int .i64 n3, .int .i64 n4, .slice la L.length lk, .slice sa S.length sk, .slice ta T.length tk, .slice ba B.length bk, .slice pa P.length pk, .slice aa A.length ak, .bool wd, .slice da D.length dk, .int .i64 sw, .int .i64 rk, .string ow, .bool dm, .bool pn, .bool lc][i]? := H0.out.xp.cell
  have hlm := H0.out.xm.lt
  have hlp := H0.out.xp.lt
  go_wp2_with (go_at_call 101; (with_reducible refine (H3.out _ H0.out).mono ?_); rintro e w3 ⟨rfl, hb⟩; have H03 := Lib.hid (H0.out.mono hb); clear hb)
  go_ret
  exact ⟨rfl, H03.out.bl⟩
theorem Tryz.info42 : (Tryz.prog.info? 42).map (fun i => (i.zero, i.size, i.bytes)) = some (some (.agg #[.string ⟨#[]⟩, .int .i64 0, .int .i64 0, .int .i64 0, .int .i64 0, .int .i64 0, .slice none 0 0, .slice none 0 0, .slice none 0 0, .slice none 0 0, .slice none 0 0, .slice none 0 0, .bool false, .slice none 0 0, .int .i64 0, .int .i64 0, .string ⟨#[]⟩, .bool false, .bool false, .bool false, .string ⟨#[]⟩]), 21, 288) := by kernel_rfl
def othB (mm nm : ByteArray) (b : Bd) : Bool := decide (b.on = mm) && !decide (b.p.nm = nm)
def othL (bs : List Bd) (mm nm : ByteArray) : List Bd := bs.filter (othB mm nm)
theorem othL_next {bs : List Bd} {k : Nat} {b : Bd} (h : bs[k]? = some b) (mm nm : ByteArray) : othL (bs.take (k + 1)) mm nm = othL (bs.take k) mm nm ++ (if othB mm nm b = true then [b] else []) := by
  unfold othL
  rw [List.take_add_one, h, List.filter_append]
  congr 1
  show List.filter (othB mm nm) [b] = _
  rw [List.filter_cons]
  split <;> rfl
theorem othL_len (bs : List Bd) (mm nm : ByteArray) : (othL bs mm nm).length ≤ bs.length := List.length_filter_le _ _
def GivesB (w : World) (L : List Bd) (e : Ending) (w' : World) : Prop := (∃ v, e = .returned v ∧ w'.ownsRow w.heap.size 42 21 v L.length (L.flatMap brow)) ∧ Below w.heap.size w w'
theorem brow_one (b : Bd) : ∀ u ∈ brow b, u.oneCell' = true := by
  intro u hu
  unfold brow at hu
  rw [List.mem_append] at hu
  rcases hu with hu | hu
  · exact prow_one b.p u hu
  · rw [List.mem_singleton] at hu
    subst hu
    rfl
theorem list21 {l : List Value} (h : l.length = 21) : ∃ x0 x1 x2 x3 x4 x5 x6 x7 x8 x9 y0 y1 y2 y3 y4 y5 y6 y7 y8 y9 z0, l = [x0, x1, x2, x3, x4, x5, x6, x7, x8, x9, y0, y1, y2, y3, y4, y5, y6, y7, y8, y9, z0] := by
  match l, h with
  | [x0, x1, x2, x3, x4, x5, x6, x7, x8, x9, y0, y1, y2, y3, y4, y5, y6, y7, y8, y9, z0], _ => exact ⟨x0, x1, x2, x3, x4, x5, x6, x7, x8, x9, y0, y1, y2, y3, y4, y5, y6, y7, y8, y9, z0, rfl⟩
set_option maxRecDepth 100000 in
set_option maxHeartbeats 4000000 in
theorem swithout_any (a : Option Addr) (ka : Nat) (bs : List Bd) (mm nn : ByteArray) (w : World) (hF : BndL w a bs) (hl : bs.length ≤ 1000000) :
    Calls Tryz.prog 138 #[.slice a bs.length ka, .string mm, .string nn] w (GivesB w (othL bs mm nn)) := by
  obtain ⟨n, hn⟩ : ∃ n, bs.length = n := ⟨_, rfl⟩
  have HN := Lib.hid hn
  have HF := Lib.hid hF
  rw [hn] at hl ⊢
  clear hn hF
  obtain ⟨i0, hi, hz0, hz1, hz2⟩ := info_parts Tryz.info42
  have Hi := Lib.hid hi
  have Hz0 := Lib.hid hz0
  have Hz1 := Lib.hid hz1
  have Hz2 := Lib.hid hz2
  clear hi hz0 hz1 hz2
  go_enter Tryz.func138, Tryz.ntmps138
  go_wp2
  go_loopw [7, 11] (fun vo vi wr => ∃ (k : Nat) (Q : List Bd), k ≤ n ∧ vi = .int .i64 k ∧ Q = othL (bs.take k) mm nn ∧ Q.length ≤ k ∧ wr.ownsRow w.heap.size 42 21 vo Q.length (Q.flatMap brow) ∧ Below w.heap.size w wr) (fun _ vi _ => n - (intOf vi).toNat)
  case atStart => exact ⟨0, [], Nat.zero_le _, rfl, rfl, Nat.le_refl _, World.ownsRow_nil _ _ _ _, by (repeat' (first | with_reducible exact Below.refl _ _ | with_reducible assumption | with_reducible refine Below.drew ?_ | with_reducible refine below_drewN' ?_ _ | with_reducible refine Below.alloc ?_ ?_ _ | with_reducible refine Below.setCell ?_ ?_ _ | with_reducible refine below_step (by assumption) ?_ ?_ | omega | (simp; done) | (simp; omega)))⟩
  case round =>
    obtain ⟨k, Q, hk, rfl, hE, hLk, hO, hB⟩ := hrel
    have HE := Lib.hid hE
    have HB := Lib.hid hB
    have HO := Lib.hid hO
    have hbz := hB.size
    obtain ⟨ao, ko, rfl⟩ := own_sl hO
    by_cases hlt : k < n
    · obtain ⟨m, hm⟩ := mem_at (l := bs) (k := k) (by rw [HN.out]; exact hlt)
      obtain ⟨b, o, rfl, hb, hc⟩ := (HF.out.mono hB) (by rw [HN.out]; omega)
      have HRg := Lib.hid (show wr.rangeAt b (o + k * 21) (brow m) from fun j v hj => by rw [hc k m hm j (by have := (List.getElem?_eq_some_iff.1 hj).1; exact this)]; exact hj)
      have c20 : wr.cell? ⟨b, o + k * 21 + 20, none⟩ = some (.string m.on) := hc k m hm 20 (by decide)
      have c0 : wr.cell? ⟨b, o + k * 21, none⟩ = some (.string m.p.nm) := hc k m hm 0 (by decide)
      have hnx := othL_next hm mm nn
      obtain ⟨p, on⟩ := m
      obtain ⟨nm, hnm⟩ : ∃ nm, p.nm = nm := ⟨_, rfl⟩
      dsimp only at c20 c0
      rw [hnm] at c0
      have hob : othB mm nn ⟨p, on⟩ = (decide (on = mm) && !decide (nm = nn)) := by rw [← hnm]; rfl
      rw [hob] at hnx
      clear hnm hob
      by_cases ho : on = mm
      · have q := str_yes ho
        by_cases hx : nm = nn
        · have q2 := str_yes hx
          rw [decide_eq_true ho, decide_eq_true hx, if_neg (by decide), List.append_nil, ← hE] at hnx
          have HNx := Lib.hid hnx.symm
          clear hE hO hB hc hm hnx ho hx
          go_wp2
          go_roundw
          case rel => exact ⟨k + 1, Q, by omega, by go_num, HNx.out, by omega, HO.out, HB.out⟩
          case measure => simp [intOf]; omega
        · have q2 := str_no hx
          rw [decide_eq_true ho, decide_eq_false hx, if_pos (by decide), ← hE] at hnx
          have HNx := Lib.hid hnx
          obtain ⟨pb, hpb⟩ : ∃ pb, (⟨p, on⟩ : Bd) = pb := ⟨_, rfl⟩
          rw [hpb] at HNx HRg
          obtain ⟨rw', hrw⟩ : ∃ r, brow pb = r := ⟨_, rfl⟩
          have HP := Lib.hid hrw
          have hlen : rw'.length = 21 := by rw [← hrw]; rfl
          rw [hrw] at HRg
          clear hE hO hB hc hm hnx ho hx hpb hrw
          obtain ⟨x0, x1, x2, x3, x4, x5, x6, x7, x8, x9, y0, y1, y2, y3, y4, y5, y6, y7, y8, y9, z0, rfl⟩ := list21 hlen
          clear hlen
          go_wp2_with (first
            | ((with_reducible refine at_load (ty := 42) ?_); refine load_cells rfl 42 (.tmp 34) rfl b (o + k * 21) rfl [x0, x1, x2, x3, x4, x5, x6, x7, x8, x9, y0, y1, y2, y3, y4, y5, y6, y7, y8, y9, z0] _ Tryz.underlying42 rfl (by kernel_rfl) HRg.out ?_)
            | (at_builtin; refine wpList_append_src rfl (.tmp 31) (.tmp 36) 23 rfl w.heap.size 42 i0 _ 21 288 Tryz.underlying23 Hi.out Hz0.out Hz1.out Hz2.out rfl (by decide) _ Q.length (Q.flatMap brow) rfl (HO.out.alloc _) (some ⟨wr.heap.size, 0, none⟩) 1 1 [x0, x1, x2, x3, x4, x5, x6, x7, x8, x9, y0, y1, y2, y3, y4, y5, y6, y7, y8, y9, z0] rfl rfl (fun q e => by injection e with e; rw [← e]; exact news_at _ _ _) (fun e => by cases e) (HP.out ▸ brow_one pb) (by unfold maxLen; omega) (by omega) (by simp; omega) ?_; intro v6 w6 hown6 hgrow6; obtain ⟨a6, k6, rfl⟩ := own_sl hown6; have HB6 := Lib.hid (own_below (HO.out.alloc _) (HB.out.alloc hbz _) (by simp; omega) hgrow6); have HO6 := Lib.hid hown6; clear hown6 hgrow6))
          go_roundw
          case rel =>
            refine ⟨k + 1, Q ++ [pb], by omega, by go_num, HNx.out.symm, by rw [List.length_append]; show Q.length + 1 ≤ _; omega, ?_, HB6.out⟩
            rw [List.length_append, List.flatMap_append]
            have h9 := HO6.out
            rw [← HP.out] at h9
            simpa using h9
          case measure => simp [intOf]; omega
      · have q := str_no ho
        rw [decide_eq_false ho, if_neg (by simp), List.append_nil, ← hE] at hnx
        have HNx := Lib.hid hnx.symm
        clear hE hO hB hc hm hnx ho
        go_wp2
        go_roundw
        case rel => exact ⟨k + 1, Q, by omega, by go_num, HNx.out, by omega, HO.out, HB.out⟩
        case measure => simp [intOf]; omega
    · obtain rfl : k = n := by omega
      have hL : Q = othL bs mm nn := by rw [hE, List.take_of_length_le (by rw [HN.out]; exact Nat.le_refl _)]
      have HL := Lib.hid hL
      clear hE hO hB hL
      go_wp2
      refine bodyPost_ret (v := .slice ao Q.length ko) (by simp [results, Tryz.results138, go_sem]) rfl ⟨⟨_, rfl, by rw [← HL.out]; exact HO.out⟩, HB.out⟩
def prtIn (PP : List Int) (x : Int) : Bool := PP.any (Lb.intB x)
def prtsIn (PP : List Int) (b : Bd) : Bool := b.p.prts.any (prtIn PP)
def shareQ (L : List Bd) (PP : List Int) : Bool := L.any (prtsIn PP)
theorem any_yes {α : Type} {P : α → Bool} {l : List α} {k : Nat} {x : α} (h : l[k]? = some x) (hp : P x = true) : l.any P = true := List.any_eq_true.2 ⟨x, List.mem_of_getElem? h, hp⟩
theorem any_all {α : Type} {P : α → Bool} {l : List α} {n : Nat} (hl : l.length = n) (h : (l.take n).any P = false) : l.any P = false := by rw [← hl, List.take_length] at h; exact h
theorem any_next {α : Type} {P : α → Bool} {l : List α} {k : Nat} {x : α} (h : l[k]? = some x) (hp : P x = false) (ha : (l.take k).any P = false) : (l.take (k + 1)).any P = false := by
  rw [take_at h, List.any_append, ha]; simp [hp]
set_option maxRecDepth 100000 in
set_option maxHeartbeats 4000000 in
theorem sshares_any (c : Option Addr) (kc : Nat) (Bs : List Bd) (q : Pd) (w : World) (hG : BndL w c Bs) (hA : ∀ b ∈ Bs, PodAt w b.p) (hQ : PodAt w q) (hl : Bs.length ≤ 1000000) (hq : q.prts.length ≤ 1000000) (hb : ∀ b ∈ Bs, b.p.prts.length ≤ 1000000) :
    Calls Tryz.prog 141 #[.slice c Bs.length kc, .agg (prow q).toArray] w fun e w' => e = .returned (.bool (shareQ Bs q.prts)) ∧ Below w.heap.size w w' := by
  obtain ⟨R, hR⟩ : ∃ R, shareQ Bs q.prts = R := ⟨_, rfl⟩
  rw [hR]
  obtain ⟨W, hW⟩ : ∃ W, W = w.alloc (.cells (prow q).toArray 40) := ⟨_, rfl⟩
  have HW := Lib.hid (show Below w.heap.size w W by rw [hW]; exact (Below.refl _ w).alloc (Nat.le_refl _) _)
  have HX := Lib.hid (show Box w.heap.size (prow q) W by rw [hW]; exact Box.new w (prow q) 40)
  obtain ⟨PP, hPP⟩ : ∃ PP, q.prts = PP := ⟨_, rfl⟩
  obtain ⟨pp, hpp⟩ : ∃ pp, PP.length = pp := ⟨_, rfl⟩
  obtain ⟨qa, hqa⟩ : ∃ a, q.pa = a := ⟨_, rfl⟩
  obtain ⟨qk, hqk⟩ : ∃ a, q.pk = a := ⟨_, rfl⟩
  have HD := Lib.hid (show ∀ V, Below W.heap.size W V → V.cell? ⟨w.heap.size, 10, none⟩ = some (.slice qa pp qk) from fun V hV => by
    rw [(HX.out.mono hV).cell 10, ← hpp, ← hPP, ← hqa, ← hqk]
    rfl)
  have HCn := Lib.hid (show ∀ (x : Int) V, Below W.heap.size W V → Calls Tryz.prog 152 #[.slice qa pp qk, .int .i64 x] V fun e w' => e = .returned (.bool (prtIn PP x)) ∧ Below V.heap.size V w' from fun x V hV => by
    rw [← hpp]
    have h9 := hQ.prts
    rw [hPP, hqa] at h9
    exact Lb.containsi_any qa qk PP x V ((h9.mono HW.out).mono hV) (by rw [← hPP]; exact hq))
  have HG := Lib.hid (hG.mono HW.out)
  have HA := Lib.hid (show ∀ b ∈ Bs, PrtL W b.p.pa b.p.prts from fun b hb => ((hA b hb).mono HW.out).prts)
  have Hlx := Lib.hid hb
  rw [hPP] at hR
  have HR := Lib.hid hR
  obtain ⟨n, hn⟩ : ∃ n, Bs.length = n := ⟨_, rfl⟩
  have HN := Lib.hid hn
  have hlt0 := HX.out.lt
  rw [hn] at hl ⊢
  clear hG hA hQ hq hb hR hn hPP hpp hqa hqk HX
  obtain ⟨nm, n0, n1, n2, n3, n4, la, lk, L, sa, sk, S, ta, tk, T, ba, bk, B, pa, pk, P, aa, ak, A, wd, da, dk, D, sw, rk, ow, dm, pn, lc⟩ := q
  replace hW : W = w.alloc (.cells #[.string nm, .int .i64 n0, .int .i64 n1, .int .i64 n2, .int .i64 n3, .int .i64 n4, .slice la L.length lk, .slice sa S.length sk, .slice ta T.length tk, .slice ba B.length bk, .slice pa P.length pk, .slice aa A.length ak, .bool wd, .slice da D.length dk, .int .i64 sw, .int .i64 rk, .string ow, .bool dm, .bool pn, .bool lc] 40) := hW
  show Calls Tryz.prog 141 #[.slice c n kc, .agg #[.string nm, .int .i64 n0, .int .i64 n1, .int .i64 n2, .int .i64 n3, .int .i64 n4, .slice la L.length lk, .slice sa S.length sk, .slice ta T.length tk, .slice ba B.length bk, .slice pa P.length pk, .slice aa A.length ak, .bool wd, .slice da D.length dk, .int .i64 sw, .int .i64 rk, .string ow, .bool dm, .bool pn, .bool lc]] w _
  go_enter Tryz.func141, Tryz.ntmps141
  go_upto_region 1 with (fail)
  rw [← hW]
  clear hW
  go_wp2
  go_loopw [11] (fun vi wr => ∃ k : Nat, k ≤ n ∧ vi = .int .i64 k ∧ (Bs.take k).any (prtsIn PP) = false ∧ Below W.heap.size W wr) (fun vi _ => n - (intOf vi).toNat)
  case atStart => exact ⟨0, Nat.zero_le _, rfl, rfl, Below.refl _ _⟩
  case round =>
    obtain ⟨k, hk, rfl, hE, hB⟩ := hrel
    have HE := Lib.hid hE
    have HB := Lib.hid hB
    have hbz := hB.size
    by_cases hlt : k < n
    · obtain ⟨bb, hm⟩ := mem_at (l := Bs) (k := k) (by rw [HN.out]; exact hlt)
      obtain ⟨b, o, rfl, hb, hc⟩ := (HG.out.mono hB) (by rw [HN.out]; omega)
      have HRg := Lib.hid (show wr.rangeAt b (o + k * 21) (brow bb) from fun j v hj => by rw [hc k bb hm j (by have := (List.getElem?_eq_some_iff.1 hj).1; exact this)]; exact hj)
      have Hm := Lib.hid hm
      have HPL := Lib.hid ((HA.out bb (List.mem_of_getElem? hm)).mono hB)
      have hpl := Hlx.out bb (List.mem_of_getElem? hm)
      have HYes := Lib.hid (fun (h : prtsIn PP bb = true) => show R = true by rw [← HR.out]; exact any_yes (P := prtsIn PP) Hm.out h)
      have HNo := Lib.hid (fun (h : prtsIn PP bb = false) => any_next (P := prtsIn PP) Hm.out h HE.out)
      obtain ⟨P2, hP2⟩ : ∃ P2, bb.p.prts = P2 := ⟨_, rfl⟩
      obtain ⟨p2, hp2⟩ : ∃ p2, P2.length = p2 := ⟨_, rfl⟩
      obtain ⟨ax, hax⟩ : ∃ a, bb.p.pa = a := ⟨_, rfl⟩
      obtain ⟨kx, hkx⟩ : ∃ a, bb.p.pk = a := ⟨_, rfl⟩
      have hb2 : prtsIn PP bb = P2.any (prtIn PP) := by unfold prtsIn; rw [hP2]
      rw [hb2] at HYes HNo
      rw [hP2, hax] at HPL
      rw [hP2, hp2] at hpl
      obtain ⟨rb, hrb⟩ : ∃ r, brow bb = r := ⟨_, rfl⟩
      have h10 : rb[10]? = some (.slice ax p2 kx) := by rw [← hrb, ← hp2, ← hP2, ← hax, ← hkx]; rfl
      have hlen : rb.length = 21 := by rw [← hrb]; rfl
      have hone : rb.all (·.oneCell') = true := by rw [← hrb]; exact List.all_eq_true.2 (brow_one bb)
      rw [hrb] at HRg
      have Hp2 := Lib.hid hp2
      clear hE hB hc hm hP2 hp2 hax hkx hb2 hrb
      obtain ⟨x0, x1, x2, x3, x4, x5, x6, x7, x8, x9, y0, y1, y2, y3, y4, y5, y6, y7, y8, y9, z0, rfl⟩ := list21 hlen
      obtain rfl : y0 = .slice ax p2 kx := by simpa using h10
      have HOne := Lib.hid hone
      clear hlen h10 hone
      go_wp2_with (first
        | ((with_reducible refine at_load (ty := 42) ?_); refine load_cells rfl 42 (.tmp 13) rfl b (o + k * 21) rfl [x0, x1, x2, x3, x4, x5, x6, x7, x8, x9, .slice ax p2 kx, y1, y2, y3, y4, y5, y6, y7, y8, y9, z0] _ Tryz.underlying42 rfl (by kernel_rfl) HRg.out ?_)
        | ((with_reducible refine at_store (ty := 42) ?_); refine store_new rfl 42 (.tmp 6) (.tmp 14) rfl _ _ rfl rfl (by kernel_rfl) rfl HOne.out rfl ?_))
      obtain ⟨V, hV⟩ : ∃ V, V = wr.alloc (.cells #[x0, x1, x2, x3, x4, x5, x6, x7, x8, x9, .slice ax p2 kx, y1, y2, y3, y4, y5, y6, y7, y8, y9, z0] 42) := ⟨_, rfl⟩
      have HV := Lib.hid (show Below W.heap.size W V by rw [hV]; exact HB.out.alloc HB.out.size _)
      have HRV := Lib.hid (show Below wr.heap.size wr V by rw [hV]; exact (Below.refl _ _).alloc (Nat.le_refl _) _)
      have HPV := Lib.hid (HPL.out.mono HRV.out)
      rw [← hV]
      clear hV HOne HRg HPL
      go_loopw [19] (fun vj wq => ∃ j : Nat, j ≤ p2 ∧ vj = .int .i64 j ∧ (P2.take j).any (prtIn PP) = false ∧ Below V.heap.size V wq) (fun vj _ => p2 - (intOf vj).toNat)
      case atStart => exact ⟨0, Nat.zero_le _, rfl, rfl, Below.refl _ _⟩
      case round =>
        obtain ⟨j, hj, rfl, hE, hB⟩ := hrel
        have HE := Lib.hid hE
        have HQ := Lib.hid hB
        have HWq := Lib.hid (HV.out.trans (hB.mono HV.out.size))
        have hcz := hB.size
        by_cases hlj : j < p2
        · obtain ⟨x, hx⟩ := mem_at (l := P2) (k := j) (by rw [Hp2.out]; exact hlj)
          obtain ⟨b2, o2, rfl, hb2, hc2⟩ := (HPV.out.mono hB) (by rw [Hp2.out]; omega)
          have c0 := hc2 j x hx 0 (by decide)
          dsimp only [pcs, List.getElem?_cons_zero] at c0
          rw [Nat.mul_one, Nat.add_zero] at c0
          have d10 := HD.out _ HWq.out
          have hwl : w.heap.size < wr.heap.size := Nat.lt_of_lt_of_le hlt0 (Nat.le_trans HV.out.size hcz)
          have Hx := Lib.hid hx
          have HCx := Lib.hid (HCn.out x _ HWq.out)
          obtain ⟨z, hz⟩ : ∃ z, prtIn PP x = z := ⟨_, rfl⟩
          have HZ := Lib.hid hz
          rw [hz] at HCx
          clear hE hB hc2 hx hz
          cases z with
          | true =>
            obtain rfl : R = true := HYes.out (any_yes (P := prtIn PP) Hx.out HZ.out)
            go_wp2_with (go_at_call 152; (with_reducible refine (HCx.out).mono ?_); rintro e w6 ⟨rfl, hb6⟩; have HB6 := Lib.hid (HWq.out.trans (hb6.mono HWq.out.size)); clear hb6)
            go_ret
            exact ⟨rfl, HW.out.trans (HB6.out.mono HW.out.size)⟩
          | false =>
            have HE2 := Lib.hid (any_next (P := prtIn PP) Hx.out HZ.out HE.out)
            go_wp2_with (go_at_call 152; (with_reducible refine (HCx.out).mono ?_); rintro e w6 ⟨rfl, hb6⟩; have HB6 := Lib.hid (HQ.out.trans (hb6.mono hcz)); clear hb6)
            go_roundw
            case rel => exact ⟨j + 1, by omega, by go_num, HE2.out, HB6.out⟩
            case measure => simp [intOf]; omega
        · obtain rfl : p2 = j := by omega
          have HE2 := Lib.hid (HNo.out (any_all (P := prtIn PP) Hp2.out HE.out))
          clear hE hB
          go_wp2
          go_roundw
          case rel => exact ⟨k + 1, by omega, by go_num, HE2.out, HWq.out⟩
          case measure => simp [intOf]; omega
    · obtain rfl : k = n := by omega
      obtain rfl : R = false := by rw [← HR.out]; exact any_all (P := prtsIn PP) HN.out HE.out
      go_wp2
      go_ret
      exact ⟨rfl, HW.out.trans (HB.out.mono HW.out.size)⟩
def roomS (m : Mac) (bs : List Bd) (p : Pd) : Int :=
  if Rs.fitsB p.n0 p.n1 p.n2 p.n3 p.n4 (leftY m (othL bs m.nm p.nm)).r0 (leftY m (othL bs m.nm p.nm)).r1 (leftY m (othL bs m.nm p.nm)).r2 (leftY m (othL bs m.nm p.nm)).r3 (leftY m (othL bs m.nm p.nm)).r4 = false then 2
  else if shareQ (othL bs m.nm p.nm) p.prts = true then 3 else 0
def suitS (m : Mac) (bs : List Bd) (p : Pd) : Int := if placeS m p = 0 then roomS m bs p else placeS m p
set_option maxRecDepth 100000 in
set_option maxHeartbeats 4000000 in
theorem sroom_any (m : Mac) (c : Option Addr) (kc : Nat) (bs : List Bd) (p : Pd) (w : World) (hM : MacAt w m) (hG : BndL w c bs) (hB : ∀ b ∈ bs, PodAt w b.p) (hP : PodAt w p) (hl : bs.length ≤ 1000000) (hq : p.prts.length ≤ 1000000) (hb : ∀ b ∈ bs, b.p.prts.length ≤ 1000000) :
    Calls Tryz.prog 130 #[.agg (mrow m).toArray, .slice c bs.length kc, .agg (prow p).toArray] w fun e w' => e = .returned (.int .i64 (roomS m bs p)) ∧ Below w.heap.size w w' := by
  obtain ⟨R, hR⟩ : ∃ R, roomS m bs p = R := ⟨_, rfl⟩
  rw [hR]
  unfold roomS at hR
  have hWo := fun V (hV : Below w.heap.size w V) => swithout_any c kc bs m.nm p.nm V (hG.mono hV) hl
  have hol := othL_len bs m.nm p.nm
  have hsub : ∀ b ∈ othL bs m.nm p.nm, b ∈ bs := fun b hb => (List.mem_filter.1 hb).1
  obtain ⟨O, hO⟩ : ∃ O, othL bs m.nm p.nm = O := ⟨_, rfl⟩
  rw [hO] at hWo hol hsub hR
  have hLf := fun a k V (hV : BndL V a O) => left_any m a k O V hV (by omega)
  obtain ⟨⟨l0, l1, l2, l3, l4⟩, hlv⟩ : ∃ l, leftY m O = l := ⟨_, rfl⟩
  rw [hlv] at hLf hR
  dsimp only [R5.v] at hLf hR
  have hFt := fun V => Rs.fits_any p.n0 p.n1 p.n2 p.n3 p.n4 l0 l1 l2 l3 l4 V
  obtain ⟨z, hz⟩ : ∃ z, Rs.fitsB p.n0 p.n1 p.n2 p.n3 p.n4 l0 l1 l2 l3 l4 = z := ⟨_, rfl⟩
  rw [hz] at hFt hR
  have hSh := fun a k V (hV : Below w.heap.size w V) (hL : BndL V a O) => sshares_any a k O p V hL (fun b hb => (hB b (hsub b hb)).mono hV) (hP.mono hV) (by omega) hq (fun b h => hb b (hsub b h))
  obtain ⟨s, hs⟩ : ∃ s, shareQ O p.prts = s := ⟨_, rfl⟩
  rw [hs] at hSh hR
  obtain ⟨W, hW⟩ : ∃ W, W = (w.alloc (.cells (mrow m).toArray 57)).alloc (.cells (prow p).toArray 40) := ⟨_, rfl⟩
  have H0 := Lib.hid (show MP w w.heap.size m p W by rw [hW]; exact MP.new hM hP)
  obtain ⟨n, hn⟩ : ∃ n, bs.length = n := ⟨_, rfl⟩
  obtain ⟨on, hon⟩ : ∃ on, O.length = on := ⟨_, rfl⟩
  have Hon := Lib.hid hon
  rw [hn] at hWo ⊢
  rw [hon] at hLf hSh
  have hGv : ∀ V e V', GivesB V O e V' → (∃ a k, e = .returned (.slice a on k) ∧ BndL V' a O) ∧ Below V.heap.size V V' := fun V e V' h => by
    obtain ⟨⟨v, rfl, ho⟩, hb⟩ := h
    obtain ⟨a, k, rfl, -, ht⟩ := IsL.of_own brow_len (by decide) ho
    exact ⟨⟨a, k, by rw [hon], ht⟩, hb⟩
  clear hz hs hM hG hB hP hl hq hb hol hsub hO hlv hn hon
  obtain ⟨mn, mg, r0, r1, r2, r3, r4, ma, mk, ML, mta, mtk, MT, rd⟩ := m
  obtain ⟨nm, n0, n1, n2, n3, n4, la, lk, L, sa, sk, S, ta, tk, T, ba, bk, B, pa, pk, P, aa, ak, A, wd, da, dk, D, sw, rk, ow, dm, pn, lc⟩ := p
  have HWo := Lib.hid (show ∀ V, Below w.heap.size w V → Calls Tryz.prog 138 #[.slice c n kc, .string mn, .string nm] V fun e V' => (∃ a k, e = .returned (.slice a on k) ∧ BndL V' a O) ∧ Below V.heap.size V V' from fun V hV => (hWo V hV).mono fun e V' h => hGv V e V' h)
  have HLf := Lib.hid (show ∀ a k V, BndL V a O → Calls Tryz.prog 140 #[.agg #[.string mn, .string mg, .int .i64 r0, .int .i64 r1, .int .i64 r2, .int .i64 r3, .int .i64 r4, .slice ma ML.length mk, .slice mta MT.length mtk, .bool rd], .slice a on k] V fun e w' => e = .returned (.agg #[.int .i64 l0, .int .i64 l1, .int .i64 l2, .int .i64 l3, .int .i64 l4]) ∧ Below V.heap.size V w' from hLf)
  have HFt := Lib.hid (show ∀ V, Calls Tryz.prog 139 #[.agg #[.int .i64 n0, .int .i64 n1, .int .i64 n2, .int .i64 n3, .int .i64 n4], .agg #[.int .i64 l0, .int .i64 l1, .int .i64 l2, .int .i64 l3, .int .i64 l4]] V fun e w' => e = .returned (.bool z) ∧ Below V.heap.size V w' from hFt)
  have HSh := Lib.hid (show ∀ a k V, Below w.heap.size w V → BndL V a O → Calls Tryz.prog 141 #[.slice a on k, .agg #[.string nm, .int .i64 n0, .int .i64 n1, .int .i64 n2, .int .i64 n3, .int .i64 n4, .slice la L.length lk, .slice sa S.length sk, .slice ta T.length tk, .slice ba B.length bk, .slice pa P.length pk, .slice aa A.length ak, .bool wd, .slice da D.length dk, .int .i64 sw, .int .i64 rk, .string ow, .bool dm, .bool pn, .bool lc]] V fun e w' => e = .returned (.bool s) ∧ Below V.heap.size V w' from hSh)
  clear hWo hLf hFt hSh hGv
  replace hW : W = (w.alloc (.cells #[.string mn, .string mg, .int .i64 r0, .int .i64 r1, .int .i64 r2, .int .i64 r3, .int .i64 r4, .slice ma ML.length mk, .slice mta MT.length mtk, .bool rd] 57)).alloc (.cells #[.string nm, .int .i64 n0, .int .i64 n1, .int .i64 n2, .int .i64 n3, .int .i64 n4, .slice la L.length lk, .slice sa S.length sk, .slice ta T.length tk, .slice ba B.length bk, .slice pa P.length pk, .slice aa A.length ak, .bool wd, .slice da D.length dk, .int .i64 sw, .int .i64 rk, .string ow, .bool dm, .bool pn, .bool lc] 40) := hW
  show Calls Tryz.prog 130 #[.agg #[.string mn, .string mg, .int .i64 r0, .int .i64 r1, .int .i64 r2, .int .i64 r3, .int .i64 r4, .slice ma ML.length mk, .slice mta MT.length mtk, .bool rd], .slice c n kc, .agg #[.string nm, .int .i64 n0, .int .i64 n1, .int .i64 n2, .int .i64 n3, .int .i64 n4, .slice la L.length lk, .slice sa S.length sk, .slice ta T.length tk, .slice ba B.length bk, .slice pa P.length pk, .slice aa A.length ak, .bool wd, .slice da D.length dk, .int .i64 sw, .int .i64 rk, .string ow, .bool dm, .bool pn, .bool lc]] w _
  go_enter Tryz.func130, Tryz.ntmps130
  go_upto_region 1 with (fail)
  rw [← hW]
  clear hW
  have hxm : ∀ i, W.cell? ⟨w.heap.size, i, none⟩ = [.string mn, .string mg, .int .i64 r0, .int .i64 r1, .int .i64 r2, .int .i64 r3, .int .i64 r4, .slice ma ML.length mk, .slice mta MT.length mtk, .bool rd][i]? := H0.out.xm.cell
  have hxp : ∀ i, W.cell? ⟨w.heap.size + 1, i, none⟩ = [.string nm, .int .i64 n0, .int .i64 n1, .int .i64 n2, .int .i64 n3, .int .i64 n4, .slice la L.length lk, .slice sa S.length sk, .slice ta T.length tk, .slice ba B.length bk, .slice pa P.length pk, .slice aa A.length ak, .bool wd, .slice da D.length dk, .int .i64 sw, .int .i64 rk, .string ow, .bool dm, .bool pn, .bool lc][i]? := H0.out.xp.cell
  have hlm := H0.out.xm.lt
  have hlp := H0.out.xp.lt
  go_wp2_with (go_at_call 138; (with_reducible refine (HWo.out _ H0.out.bl).mono ?_); rintro e w1 ⟨⟨a1, k1, rfl, ht1⟩, hb1⟩; have H01 := Lib.hid (H0.out.mono hb1); have HT1 := Lib.hid ht1; clear hb1 ht1 hxm hxp hlm hlp)
  have hxp : ∀ i, w1.cell? ⟨w.heap.size + 1, i, none⟩ = [.string nm, .int .i64 n0, .int .i64 n1, .int .i64 n2, .int .i64 n3, .int .i64 n4, .slice la L.length lk, .slice sa S.length sk, .slice ta T.length tk, .slice ba B.length bk, .slice pa P.length pk, .slice aa A.length ak, .bool wd, .slice da D.length dk, .int .i64 sw, .int .i64 rk, .string ow, .bool dm, .bool pn, .bool lc][i]? := H01.out.xp.cell
  have hlm := H01.out.xm.lt
  have hlp := H01.out.xp.lt
  have HRm := Lib.hid (show w1.rangeAt w.heap.size 0 [.string mn, .string mg, .int .i64 r0, .int .i64 r1, .int .i64 r2, .int .i64 r3, .int .i64 r4, .slice ma ML.length mk, .slice mta MT.length mtk, .bool rd] from H01.out.xm.range)
  have HRn := Lib.hid (show w1.rangeAt (w.heap.size + 1) 1 [.int .i64 n0, .int .i64 n1, .int .i64 n2, .int .i64 n3, .int .i64 n4] from fun j v hj => by
    have hj5 : j < 5 := (List.getElem?_eq_some_iff.1 hj).1
    rw [hxp]
    match j, hj5, hj with
    | 0, _, hj => exact hj
    | 1, _, hj => exact hj
    | 2, _, hj => exact hj
    | 3, _, hj => exact hj
    | 4, _, hj => exact hj)
  clear hxp
  have hcH := held_cell
  refine region_rel (by kernel_rfl) (by kernel_rfl) ?_
  repeat
    ((with_reducible refine relStep (fun K hK => ?_))
     (have HK := Lib.hid hK)
     clear hK
     (apply relInl
      · intro r n hf
        have Hf := Lib.hid hf
        clear hf
        (first
          | ((first | ((with_reducible refine at_rel (ty := 35) ?_); refine rel_load rfl (w.heap.size + 1) 1 rfl [.int .i64 n0, .int .i64 n1, .int .i64 n2, .int .i64 n3, .int .i64 n4] _ Tryz.underlying35 rfl (by kernel_rfl) (rangeAt_mono HRn.out hlp n.below) rfl) | ((with_reducible refine at_rel (ty := 57) ?_); refine rel_load rfl w.heap.size 0 rfl [.string mn, .string mg, .int .i64 r0, .int .i64 r1, .int .i64 r2, .int .i64 r3, .int .i64 r4, .slice ma ML.length mk, .slice mta MT.length mtk, .bool rd] _ Tryz.underlying57 rfl (by kernel_rfl) (rangeAt_mono HRm.out hlm n.below) rfl)))
          | (unfold relAt
             go_simp
             (first | (refine relUpon_val ?_ (Below.refl _ _); exact rfl) | exact rfl | (refine relUpon_enter ?_; (first | (go_at_call 140; (with_reducible refine (HLf.out _ _ _ (HT1.out.mono n.below)).mono ?_); rintro e w9 ⟨rfl, hb⟩; exact ⟨⟨_, rfl, rfl⟩, hb⟩) | (go_at_call 139; (with_reducible refine (HFt.out _).mono ?_); rintro e w9 ⟨rfl, hb⟩; exact ⟨⟨_, rfl, rfl⟩, hb⟩))))))
      (simp only [Act.put, List.setIfInBounds_toArray, List.set_cons_zero, List.set_cons_succ])
      (with_reducible refine HK.out _ _ ?_)
      clear HK K))
  refine relNil ?_
  intro r9 n9 hx9
  clear hcH
  (try simp only [List.nil_append, List.cons_append, List.mem_cons, List.not_mem_nil, or_false, forall_eq_or_imp, forall_eq, false_implies, implies_true] at hx9)
  obtain ⟨w9, hb9⟩ := n9
  (try dsimp only)
  obtain ⟨hc9, hf9⟩ := bcell hb9
  have hz9 := hb9.size
  (try simp at hz9)
  have H09 := Lib.hid (H01.out.mono hb9)
  have HT9 := Lib.hid (HT1.out.mono hb9)
  have HRp := Lib.hid (show w9.rangeAt (w.heap.size + 1) 0 [.string nm, .int .i64 n0, .int .i64 n1, .int .i64 n2, .int .i64 n3, .int .i64 n4, .slice la L.length lk, .slice sa S.length sk, .slice ta T.length tk, .slice ba B.length bk, .slice pa P.length pk, .slice aa A.length ak, .bool wd, .slice da D.length dk, .int .i64 sw, .int .i64 rk, .string ow, .bool dm, .bool pn, .bool lc] from H09.out.xp.range)
  clear hb9 hc9 hf9 hz9 hlm hlp HRm HRn
  cases z with
  | false =>
    obtain rfl : R = 2 := by rw [← hR]; rfl
    clear hR
    go_wp2
    go_ret
    exact ⟨rfl, H09.out.bl⟩
  | true =>
    cases s with
    | true =>
      obtain rfl : R = 3 := by rw [← hR]; rfl
      clear hR
      go_wp2_with (first
        | ((with_reducible refine at_load (ty := 40) ?_); refine load_cells rfl 40 (.tmp 5) rfl (w.heap.size + 1) 0 rfl [.string nm, .int .i64 n0, .int .i64 n1, .int .i64 n2, .int .i64 n3, .int .i64 n4, .slice la L.length lk, .slice sa S.length sk, .slice ta T.length tk, .slice ba B.length bk, .slice pa P.length pk, .slice aa A.length ak, .bool wd, .slice da D.length dk, .int .i64 sw, .int .i64 rk, .string ow, .bool dm, .bool pn, .bool lc] _ Tryz.underlying40 rfl (by kernel_rfl) HRp.out ?_)
        | (go_at_call 141; (with_reducible refine (HSh.out _ _ _ H09.out.bl HT9.out).mono ?_); rintro e w5 ⟨rfl, hb5⟩; have H05 := Lib.hid (H09.out.mono hb5); clear hb5))
      go_ret
      exact ⟨rfl, H05.out.bl⟩
    | false =>
      obtain rfl : R = 0 := by rw [← hR]; rfl
      clear hR
      go_wp2_with (first
        | ((with_reducible refine at_load (ty := 40) ?_); refine load_cells rfl 40 (.tmp 5) rfl (w.heap.size + 1) 0 rfl [.string nm, .int .i64 n0, .int .i64 n1, .int .i64 n2, .int .i64 n3, .int .i64 n4, .slice la L.length lk, .slice sa S.length sk, .slice ta T.length tk, .slice ba B.length bk, .slice pa P.length pk, .slice aa A.length ak, .bool wd, .slice da D.length dk, .int .i64 sw, .int .i64 rk, .string ow, .bool dm, .bool pn, .bool lc] _ Tryz.underlying40 rfl (by kernel_rfl) HRp.out ?_)
        | (go_at_call 141; (with_reducible refine (HSh.out _ _ _ H09.out.bl HT9.out).mono ?_); rintro e w5 ⟨rfl, hb5⟩; have H05 := Lib.hid (H09.out.mono hb5); clear hb5))
      go_ret
      exact ⟨rfl, H05.out.bl⟩
set_option maxRecDepth 100000 in
set_option maxHeartbeats 4000000 in
theorem ssuits_any (m : Mac) (c : Option Addr) (kc : Nat) (bs : List Bd) (p : Pd) (w : World) (hM : MacAt w m) (hG : BndL w c bs) (hB : ∀ b ∈ bs, PodAt w b.p) (hP : PodAt w p) (hm : lightM m = true) (hp : lightP p = true) (hl : bs.length ≤ 1000000) (hb : ∀ b ∈ bs, b.p.prts.length ≤ 1000000) :
    Calls Tryz.prog 120 #[.agg (mrow m).toArray, .slice c bs.length kc, .agg (prow p).toArray] w fun e w' => e = .returned (.int .i64 (suitS m bs p)) ∧ Below w.heap.size w w' := by
  have hq : p.prts.length ≤ 1000000 := by have := (lightP_iff hp).pl; omega
  have hPl := fun V (h : MP w w.heap.size m p V) => splace_any m p V h.ma h.pa hm hp
  have hRo := fun V (h : MP w w.heap.size m p V) => sroom_any m c kc bs p V h.ma (hG.mono h.bl) (fun b hb => (hB b hb).mono h.bl) h.pa hl hq hb
  obtain ⟨R, hR⟩ : ∃ R, suitS m bs p = R := ⟨_, rfl⟩
  rw [hR]
  unfold suitS at hR
  obtain ⟨x, hx⟩ : ∃ x, placeS m p = x := ⟨_, rfl⟩
  obtain ⟨y, hy⟩ : ∃ y, roomS m bs p = y := ⟨_, rfl⟩
  rw [hx] at hPl hR
  rw [hy] at hRo hR
  obtain ⟨W, hW⟩ : ∃ W, W = (w.alloc (.cells (mrow m).toArray 57)).alloc (.cells (prow p).toArray 40) := ⟨_, rfl⟩
  have H0 := Lib.hid (show MP w w.heap.size m p W by rw [hW]; exact MP.new hM hP)
  obtain ⟨n, hn⟩ : ∃ n, bs.length = n := ⟨_, rfl⟩
  rw [hn] at hRo ⊢
  clear hx hy hM hG hB hP hl hq hb hn hm hp
  obtain ⟨mn, mg, r0, r1, r2, r3, r4, ma, mk, ML, mta, mtk, MT, rd⟩ := m
  obtain ⟨nm, n0, n1, n2, n3, n4, la, lk, L, sa, sk, S, ta, tk, T, ba, bk, B, pa, pk, P, aa, ak, A, wd, da, dk, D, sw, rk, ow, dm, pn, lc⟩ := p
  have HPl := Lib.hid (show ∀ V, MP w w.heap.size (⟨mn, mg, r0, r1, r2, r3, r4, ma, mk, ML, mta, mtk, MT, rd⟩ : Mac) (⟨nm, n0, n1, n2, n3, n4, la, lk, L, sa, sk, S, ta, tk, T, ba, bk, B, pa, pk, P, aa, ak, A, wd, da, dk, D, sw, rk, ow, dm, pn, lc⟩ : Pd) V → Calls Tryz.prog 129 #[.agg #[.string mn, .string mg, .int .i64 r0, .int .i64 r1, .int .i64 r2, .int .i64 r3, .int .i64 r4, .slice ma ML.length mk, .slice mta MT.length mtk, .bool rd], .agg #[.string nm, .int .i64 n0, .int .i64 n1, .int .i64 n2, .int .i64 n3, .int .i64 n4, .slice la L.length lk, .slice sa S.length sk, .slice ta T.length tk, .slice ba B.length bk, .slice pa P.length pk, .slice aa A.length ak, .bool wd, .slice da D.length dk, .int .i64 sw, .int .i64 rk, .string ow, .bool dm, .bool pn, .bool lc]] V fun e w' => e = .returned (.int .i64 x) ∧ Below V.heap.size V w' from hPl)
  have HRo := Lib.hid (show ∀ V, MP w w.heap.size (⟨mn, mg, r0, r1, r2, r3, r4, ma, mk, ML, mta, mtk, MT, rd⟩ : Mac) (⟨nm, n0, n1, n2, n3, n4, la, lk, L, sa, sk, S, ta, tk, T, ba, bk, B, pa, pk, P, aa, ak, A, wd, da, dk, D, sw, rk, ow, dm, pn, lc⟩ : Pd) V → Calls Tryz.prog 130 #[.agg #[.string mn, .string mg, .int .i64 r0, .int .i64 r1, .int .i64 r2, .int .i64 r3, .int .i64 r4, .slice ma ML.length mk, .slice mta MT.length mtk, .bool rd], .slice c n kc, .agg #[.string nm, .int .i64 n0, .int .i64 n1, .int .i64 n2, .int .i64 n3, .int .i64 n4, .slice la L.length lk, .slice sa S.length sk, .slice ta T.length tk, .slice ba B.length bk, .slice pa P.length pk, .slice aa A.length ak, .bool wd, .slice da D.length dk, .int .i64 sw, .int .i64 rk, .string ow, .bool dm, .bool pn, .bool lc]] V fun e w' => e = .returned (.int .i64 y) ∧ Below V.heap.size V w' from hRo)
  clear hPl hRo
  replace hW : W = (w.alloc (.cells #[.string mn, .string mg, .int .i64 r0, .int .i64 r1, .int .i64 r2, .int .i64 r3, .int .i64 r4, .slice ma ML.length mk, .slice mta MT.length mtk, .bool rd] 57)).alloc (.cells #[.string nm, .int .i64 n0, .int .i64 n1, .int .i64 n2, .int .i64 n3, .int .i64 n4, .slice la L.length lk, .slice sa S.length sk, .slice ta T.length tk, .slice ba B.length bk, .slice pa P.length pk, .slice aa A.length ak, .bool wd, .slice da D.length dk, .int .i64 sw, .int .i64 rk, .string ow, .bool dm, .bool pn, .bool lc] 40) := hW
  show Calls Tryz.prog 120 #[.agg #[.string mn, .string mg, .int .i64 r0, .int .i64 r1, .int .i64 r2, .int .i64 r3, .int .i64 r4, .slice ma ML.length mk, .slice mta MT.length mtk, .bool rd], .slice c n kc, .agg #[.string nm, .int .i64 n0, .int .i64 n1, .int .i64 n2, .int .i64 n3, .int .i64 n4, .slice la L.length lk, .slice sa S.length sk, .slice ta T.length tk, .slice ba B.length bk, .slice pa P.length pk, .slice aa A.length ak, .bool wd, .slice da D.length dk, .int .i64 sw, .int .i64 rk, .string ow, .bool dm, .bool pn, .bool lc]] w _
  have HRm := Lib.hid (show ∀ V, MP w w.heap.size (⟨mn, mg, r0, r1, r2, r3, r4, ma, mk, ML, mta, mtk, MT, rd⟩ : Mac) (⟨nm, n0, n1, n2, n3, n4, la, lk, L, sa, sk, S, ta, tk, T, ba, bk, B, pa, pk, P, aa, ak, A, wd, da, dk, D, sw, rk, ow, dm, pn, lc⟩ : Pd) V → V.rangeAt w.heap.size 0 [.string mn, .string mg, .int .i64 r0, .int .i64 r1, .int .i64 r2, .int .i64 r3, .int .i64 r4, .slice ma ML.length mk, .slice mta MT.length mtk, .bool rd] from fun V h => h.xm.range)
  have HRp := Lib.hid (show ∀ V, MP w w.heap.size (⟨mn, mg, r0, r1, r2, r3, r4, ma, mk, ML, mta, mtk, MT, rd⟩ : Mac) (⟨nm, n0, n1, n2, n3, n4, la, lk, L, sa, sk, S, ta, tk, T, ba, bk, B, pa, pk, P, aa, ak, A, wd, da, dk, D, sw, rk, ow, dm, pn, lc⟩ : Pd) V → V.rangeAt (w.heap.size + 1) 0 [.string nm, .int .i64 n0, .int .i64 n1, .int .i64 n2, .int .i64 n3, .int .i64 n4, .slice la L.length lk, .slice sa S.length sk, .slice ta T.length tk, .slice ba B.length bk, .slice pa P.length pk, .slice aa A.length ak, .bool wd, .slice da D.length dk, .int .i64 sw, .int .i64 rk, .string ow, .bool dm, .bool pn, .bool lc] from fun V h => h.xp.range)
  by_cases h0 : x = 0
  · subst h0
    obtain rfl : R = y := by rw [← hR]; rfl
    clear hR
    go_enter Tryz.func120, Tryz.ntmps120
    go_upto_region 1 with (fail)
    rw [← hW]
    clear hW
    go_wp2_with (first
      | ((with_reducible refine at_load (ty := 57) ?_); refine load_cells rfl 57 (.tmp 3) rfl w.heap.size 0 rfl [.string mn, .string mg, .int .i64 r0, .int .i64 r1, .int .i64 r2, .int .i64 r3, .int .i64 r4, .slice ma ML.length mk, .slice mta MT.length mtk, .bool rd] _ Tryz.underlying57 rfl (by kernel_rfl) (by first | exact HRm.out _ H01.out | exact HRm.out _ H0.out) ?_)
      | ((with_reducible refine at_load (ty := 40) ?_); refine load_cells rfl 40 (.tmp 5) rfl (w.heap.size + 1) 0 rfl [.string nm, .int .i64 n0, .int .i64 n1, .int .i64 n2, .int .i64 n3, .int .i64 n4, .slice la L.length lk, .slice sa S.length sk, .slice ta T.length tk, .slice ba B.length bk, .slice pa P.length pk, .slice aa A.length ak, .bool wd, .slice da D.length dk, .int .i64 sw, .int .i64 rk, .string ow, .bool dm, .bool pn, .bool lc] _ Tryz.underlying40 rfl (by kernel_rfl) (by first | exact HRp.out _ H01.out | exact HRp.out _ H0.out) ?_)
      | (go_at_call 129; (with_reducible refine (HPl.out _ H0.out).mono ?_); rintro e w1 ⟨rfl, hb1⟩; have H01 := Lib.hid (H0.out.mono hb1); clear hb1)
      | (go_at_call 130; (with_reducible refine (HRo.out _ H01.out).mono ?_); rintro e w2 ⟨rfl, hb2⟩; have H02 := Lib.hid (H01.out.mono hb2); clear hb2))
    go_ret
    exact ⟨rfl, H02.out.bl⟩
  · have q0 : (x == 0) = false := by simpa using h0
    obtain rfl : R = x := by rw [← hR, if_neg h0]
    clear hR h0
    go_enter Tryz.func120, Tryz.ntmps120
    go_upto_region 1 with (fail)
    rw [← hW]
    clear hW
    go_wp2_with (first
      | ((with_reducible refine at_load (ty := 57) ?_); refine load_cells rfl 57 (.tmp 3) rfl w.heap.size 0 rfl [.string mn, .string mg, .int .i64 r0, .int .i64 r1, .int .i64 r2, .int .i64 r3, .int .i64 r4, .slice ma ML.length mk, .slice mta MT.length mtk, .bool rd] _ Tryz.underlying57 rfl (by kernel_rfl) (HRm.out _ H0.out) ?_)
      | ((with_reducible refine at_load (ty := 40) ?_); refine load_cells rfl 40 (.tmp 5) rfl (w.heap.size + 1) 0 rfl [.string nm, .int .i64 n0, .int .i64 n1, .int .i64 n2, .int .i64 n3, .int .i64 n4, .slice la L.length lk, .slice sa S.length sk, .slice ta T.length tk, .slice ba B.length bk, .slice pa P.length pk, .slice aa A.length ak, .bool wd, .slice da D.length dk, .int .i64 sw, .int .i64 rk, .string ow, .bool dm, .bool pn, .bool lc] _ Tryz.underlying40 rfl (by kernel_rfl) (HRp.out _ H0.out) ?_)
      | (go_at_call 129; (with_reducible refine (HPl.out _ H0.out).mono ?_); rintro e w1 ⟨rfl, hb1⟩; have H01 := Lib.hid (H0.out.mono hb1); clear hb1))
    go_ret
    exact ⟨rfl, H01.out.bl⟩
end Go.Proofs.YtdfadbpepmkicaaGreat
namespace Go.Proofs.YtdfadbpepmkicaaGreat
open Go.RowKit
set_option linter.unusedVariables false
set_option linter.unusedSimpArgs false
def mOf (ms : List Mac) (x : ByteArray) : Option Mac := ms.find? fun m => decide (m.nm = x)
theorem find_gen : ∀ (ms : List Mac) (x : ByteArray) (j : Nat), (findN (ms.map Mac.nm) x j = -1 ∧ mOf ms x = none) ∨ ∃ (k : Nat) (m : Mac), findN (ms.map Mac.nm) x j = ((j + k : Nat) : Int) ∧ ms[k]? = some m ∧ m.nm = x ∧ mOf ms x = some m
  | [], x, j => .inl ⟨rfl, rfl⟩
  | m :: ms, x, j => by
    by_cases h : m.nm = x
    · refine .inr ⟨0, m, ?_, rfl, h, ?_⟩
      · show (if m.nm = x then (j : Int) else _) = _
        rw [if_pos h]; rfl
      · unfold mOf
        exact List.find?_cons_of_pos (decide_eq_true h)
    · have e1 : findN ((m :: ms).map Mac.nm) x j = findN (ms.map Mac.nm) x (j + 1) := if_neg h
      have e2 : mOf (m :: ms) x = mOf ms x := by unfold mOf; exact List.find?_cons_of_neg (by simpa using h)
      rw [e1, e2]
      rcases find_gen ms x (j + 1) with h1 | ⟨k, y, h1, h2, h3, h4⟩
      · exact .inl h1
      · exact .inr ⟨k + 1, y, by rw [h1]; congr 1; omega, by simpa using h2, h3, h4⟩
theorem find_cases (ms : List Mac) (x : ByteArray) : (findN (ms.map Mac.nm) x 0 = -1 ∧ mOf ms x = none) ∨ ∃ (k : Nat) (m : Mac), findN (ms.map Mac.nm) x 0 = (k : Int) ∧ ms[k]? = some m ∧ m.nm = x ∧ mOf ms x = some m := by
  rcases find_gen ms x 0 with h | ⟨k, m, h1, h2⟩
  · exact .inl h
  · exact .inr ⟨k, m, by rw [h1, Nat.zero_add], h2⟩
def zV (ms : List Mac) (x : ByteArray) : ByteArray := match mOf ms x with | none => emp | some m => Lb.getV m.labs zoneT
def zB (ms : List Mac) (x : ByteArray) : Bool := match mOf ms x with | none => false | some m => Lb.getB m.labs zoneT
def sameZ (ms : List Mac) (a b : ByteArray) : Bool := zB ms a && (zB ms b && decide (zV ms a = zV ms b))
def matB (b : Bd) (p : Pd) : Bool := !decide (b.on = emp) && !decide (b.p.nm = p.nm)
def awayB (ms : List Mac) (A : List Lab) (wd : Bool) (L : List Lab) (a b : ByteArray) : Bool := !decide (A.length = 0) && (Lb.hasP L A && (decide (a = b) || (wd && sameZ ms a b)))
def nearOf (ms : List Mac) (p : Pd) (on : ByteArray) (b : Bd) : Bool := matB b p && (awayB ms p.aprs p.wd b.p.labs on b.on || awayB ms b.p.aprs b.p.wd p.labs on b.on)
def nearB (ms : List Mac) (bs : List Bd) (p : Pd) (on : ByteArray) : Bool := (mOf ms on).isSome && bs.any (nearOf ms p on)
def onP (p : Pd) (b : Bd) : Bool := matB b p && Lb.hasP b.p.labs p.spds
def onQ (p : Pd) (x : ByteArray) (b : Bd) : Bool := onP p b && decide (b.on = x)
def onCnt (bs : List Bd) (p : Pd) (x : ByteArray) : Nat := (bs.filter (onQ p x)).length
def zAdd (f : ByteArray → Nat) (z : ByteArray) (n : Nat) (m : Mac) : Nat := if Lb.getB m.labs zoneT = true ∧ Lb.getV m.labs zoneT = z then n + f m.nm else n
def zCnt (ms : List Mac) (bs : List Bd) (p : Pd) (z : ByteArray) : Nat := ms.foldl (zAdd (onCnt bs p) z) 0
def numsC (ms : List Mac) (bs : List Bd) (p : Pd) : List Int := (zonesY ms).map fun z => (zCnt ms bs p z : Int)
def minS (m y : Int) : Int := if y < m then y else m
def minL : List Int → Int
  | [] => 0
  | x :: l => l.foldl minS x
def zNum (ms : List Mac) (bs : List Bd) (p : Pd) (on : ByteArray) : Int := (zCnt ms bs p (zV ms on) : Int) + (if Lb.hasP p.labs p.spds = true then 1 else 0)
def manyB (ms : List Mac) (bs : List Bd) (p : Pd) (on : ByteArray) : Bool :=
  if p.spds.length = 0 then false else if (mOf ms on).isNone = true then false else if zB ms on = true ∧ (zonesY ms).any (strB (zV ms on)) = true then decide (p.sw < zNum ms bs p on - minL (numsC ms bs p)) else true
def apartW (ms : List Mac) (bs : List Bd) (p : Pd) (on : ByteArray) : Int := if nearB ms bs p on = true then 7 else if manyB ms bs p on = true then 8 else 0
def whyF (ms : List Mac) (bs : List Bd) (p : Pd) (on : ByteArray) : Int := match mOf ms on with
  | none => 1
  | some m => if suitS m bs p = 0 then apartW ms bs p on else suitS m bs p
def whereF (ms : List Mac) (bs : List Bd) (p : Pd) : List ByteArray := (ms.filter fun m => decide (whyF ms bs p m.nm = 0)).map Mac.nm
theorem zonesY_len (ms : List Mac) : (zonesY ms).length ≤ ms.length := by
  have : ∀ (l : List Mac) (out : List ByteArray), (l.foldl zoneA out).length ≤ out.length + l.length := by
    intro l
    induction l with
    | nil => intro out; simp
    | cons m l ih =>
      intro out
      have h1 := ih (zoneA out m)
      have h2 : (zoneA out m).length ≤ out.length + 1 := by
        unfold zoneA
        repeat' split
        all_goals (try rw [List.length_append])
        all_goals (try simp only [List.length_cons, List.length_nil])
        all_goals omega
      rw [List.foldl_cons, List.length_cons]
      omega
  have h := this ms []
  unfold zonesY
  simpa using h
theorem onCnt_len (bs : List Bd) (p : Pd) (x : ByteArray) : onCnt bs p x ≤ bs.length := List.length_filter_le _ _
theorem zCnt_le (ms : List Mac) (bs : List Bd) (p : Pd) (z : ByteArray) : zCnt ms bs p z ≤ ms.length * bs.length := by
  have : ∀ (l : List Mac) (n : Nat), l.foldl (zAdd (onCnt bs p) z) n ≤ n + l.length * bs.length := by
    intro l
    induction l with
    | nil => intro n; simp
    | cons m l ih =>
      intro n
      have h1 := ih (zAdd (onCnt bs p) z n m)
      have h2 : zAdd (onCnt bs p) z n m ≤ n + bs.length := by
        unfold zAdd
        have := onCnt_len bs p m.nm
        split <;> omega
      rw [List.foldl_cons, List.length_cons, Nat.succ_mul]
      omega
  have h := this ms 0
  unfold zCnt
  omega
theorem minL_range : ∀ (l : List Int) (B : Int), 0 ≤ B → (∀ x ∈ l, 0 ≤ x ∧ x ≤ B) → 0 ≤ minL l ∧ minL l ≤ B
  | [], B, h, _ => ⟨Int.le_refl _, h⟩
  | x :: l, B, h, hx => by
    have : ∀ (l : List Int) (m : Int), 0 ≤ m ∧ m ≤ B → (∀ x ∈ l, 0 ≤ x ∧ x ≤ B) → 0 ≤ l.foldl minS m ∧ l.foldl minS m ≤ B := by
      intro l
      induction l with
      | nil => intro m hm _; exact hm
      | cons y l ih =>
        intro m hm hl
        rw [List.foldl_cons]
        refine ih _ ?_ fun z hz => hl z (List.mem_cons_of_mem _ hz)
        have := hl y List.mem_cons_self
        unfold minS
        split <;> omega
    exact this l x (hx x List.mem_cons_self) fun y hy => hx y (List.mem_cons_of_mem _ hy)
end Go.Proofs.YtdfadbpepmkicaaGreat
namespace Go.Proofs.YtdfadbpepmkicaaGreat
open Go.RowKit
set_option linter.unusedVariables false
set_option linter.unusedSimpArgs false
structure YA (w : World) (a : Option Addr) (ms : List Mac) (c : Option Addr) (bs : List Bd) : Prop where
  ml : MacL w a ms
  mi : ∀ m ∈ ms, MacIn w m
  bl : BndL w c bs
  bi : ∀ b ∈ bs, PodIn w b.p
  mm : ms.length ≤ 1000
  bb : bs.length ≤ 1000
  lm : ∀ m ∈ ms, lightM m = true
  lb : ∀ b ∈ bs, lightP b.p = true
  lo : ∀ b ∈ bs, b.on.size ≤ 300
theorem YA.mono {w w' : World} {a c : Option Addr} {ms : List Mac} {bs : List Bd} (h : YA w a ms c bs) (hb : Below w.heap.size w w') : YA w' a ms c bs :=
  ⟨h.ml.mono hb, fun m hm => (h.mi m hm).mono hb, h.bl.mono hb, fun b hx => (h.bi b hx).mono hb, h.mm, h.bb, h.lm, h.lb, h.lo⟩
theorem lightP_lens {p : Pd} (h : lightP p = true) : p.labs.length ≤ 40 ∧ p.aprs.length ≤ 40 ∧ p.spds.length ≤ 40 ∧ p.prts.length ≤ 30 := by
  have h := lightP_iff h
  exact ⟨((lightL_iff _).1 h.l0).1, ((lightL_iff _).1 h.l2).1, ((lightL_iff _).1 h.l3).1, h.pl⟩
set_option maxRecDepth 100000 in
set_option maxHeartbeats 4000000 in
theorem zone_any (a : Option Addr) (ka : Nat) (ms : List Mac) (x : ByteArray) (w : World) (hF : MacL w a ms) (hI : ∀ m ∈ ms, MacAt w m) (hl : ms.length ≤ 1000000) :
    Calls Tryz.prog 145 #[.slice a ms.length ka, .string x] w fun e w' => e = .returned (.tuple #[.string (zV ms x), .bool (zB ms x)]) ∧ Below w.heap.size w w' := by
  obtain ⟨n, hn⟩ : ∃ n, ms.length = n := ⟨_, rfl⟩
  have HN := Lib.hid hn
  have hfi := find_any a ka ms x w hF hl
  unfold zV zB
  rcases find_cases ms x with ⟨h1, h2⟩ | ⟨k, m, h1, h2, h3, h4⟩
  · rw [h1] at hfi
    rw [hn] at hfi
    rw [h2, hn]
    have HFi := Lib.hid hfi
    clear hfi h1 h2 hF hI hn
    dsimp only
    go_enter Tryz.func145, Tryz.ntmps145
    go_wp2_with (go_at_call 66; (with_reducible refine (HFi.out).mono ?_); rintro e w1 ⟨rfl, hb⟩; have HB := Lib.hid hb; clear hb)
    go_ret2
    exact ⟨rfl, HB.out⟩
  · rw [h1] at hfi
    rw [hn] at hfi
    rw [h4, hn]
    have HFi := Lib.hid hfi
    have hk : k < n := by rw [← hn]; exact (List.getElem?_eq_some_iff.1 h2).1
    obtain ⟨b, o, rfl, hb, hc⟩ := hF (by omega)
    have c7 : w.cell? ⟨b, o + k * 10 + 7, none⟩ = some (.slice m.la m.labs.length m.lk) := hc k m h2 7 (by decide)
    have HG := Lib.hid (fun V (hV : Below w.heap.size w V) => Lb.get_any m.la m.lk m.labs zoneT V ((hI m (List.mem_of_getElem? h2)).labs.mono hV) (hI m (List.mem_of_getElem? h2)).ll)
    unfold zoneT at HG
    dsimp only
    obtain ⟨z, hz⟩ : ∃ z, Lb.getV m.labs zoneT = z := ⟨_, rfl⟩
    obtain ⟨g, hg⟩ : ∃ g, Lb.getB m.labs zoneT = g := ⟨_, rfl⟩
    rw [hz, hg]
    unfold zoneT at hz hg
    rw [hz, hg] at HG
    clear hfi h1 h2 h3 h4 hF hI hn hc hz hg
    go_enter Tryz.func145, Tryz.ntmps145
    go_wp2_with (first
      | (go_at_call 66; (with_reducible refine (HFi.out).mono ?_); rintro e w1 ⟨rfl, hb1⟩; have c7 : w1.cell? ⟨b, o + k * 10 + 7, none⟩ = _ := (hb1.cell (p := ⟨b, o + k * 10 + 7, none⟩) hb).trans c7; have HB := Lib.hid hb1; clear hb1)
      | (go_at_call 154; (with_reducible refine (HG.out _ HB.out).mono ?_); rintro e w2 ⟨rfl, hb2⟩; have HB2 := Lib.hid (HB.out.trans (hb2.mono HB.out.size)); clear hb2))
    go_ret2
    exact ⟨rfl, HB2.out⟩
set_option maxRecDepth 100000 in
set_option maxHeartbeats 4000000 in
theorem samez_any (a : Option Addr) (ka : Nat) (ms : List Mac) (x y : ByteArray) (w : World) (hF : MacL w a ms) (hI : ∀ m ∈ ms, MacAt w m) (hl : ms.length ≤ 1000000) :
    Calls Tryz.prog 153 #[.slice a ms.length ka, .string x, .string y] w fun e w' => e = .returned (.bool (sameZ ms x y)) ∧ Below w.heap.size w w' := by
  have hz1 := fun V (hV : Below w.heap.size w V) => zone_any a ka ms x V (hF.mono hV) (fun m hm => (hI m hm).mono hV) hl
  have hz2 := fun V (hV : Below w.heap.size w V) => zone_any a ka ms y V (hF.mono hV) (fun m hm => (hI m hm).mono hV) hl
  obtain ⟨R, hR⟩ : ∃ R, sameZ ms x y = R := ⟨_, rfl⟩
  rw [hR]
  unfold sameZ at hR
  obtain ⟨u, hu⟩ : ∃ z, zV ms x = z := ⟨_, rfl⟩
  obtain ⟨g, hg⟩ : ∃ z, zB ms x = z := ⟨_, rfl⟩
  obtain ⟨v, hv⟩ : ∃ z, zV ms y = z := ⟨_, rfl⟩
  obtain ⟨j, hj⟩ : ∃ z, zB ms y = z := ⟨_, rfl⟩
  rw [hu, hg] at hz1
  rw [hv, hj] at hz2
  rw [hu, hg, hv, hj] at hR
  obtain ⟨n, hn⟩ : ∃ n, ms.length = n := ⟨_, rfl⟩
  rw [hn] at hz1 hz2 ⊢
  have H1 := Lib.hid hz1
  have H2 := Lib.hid hz2
  clear hz1 hz2 hu hv hg hj hn hF hI hl
  cases g with
  | false =>
    obtain rfl : R = false := by rw [← hR]; rfl
    clear hR
    go_enter Tryz.func153, Tryz.ntmps153
    go_wp2_with (first
      | (go_at_call 145; (with_reducible refine (H2.out _ HB1.out).mono ?_); rintro e w2 ⟨rfl, hb⟩; have HB2 := Lib.hid (HB1.out.trans (hb.mono HB1.out.size)); clear hb)
      | (go_at_call 145; (with_reducible refine (H1.out _ (Below.refl _ _)).mono ?_); rintro e w1 ⟨rfl, hb⟩; have HB1 := Lib.hid hb; clear hb))
    go_ret
    exact ⟨rfl, HB2.out⟩
  | true =>
    cases j with
    | false =>
      obtain rfl : R = false := by rw [← hR]; rfl
      clear hR
      go_enter Tryz.func153, Tryz.ntmps153
      go_wp2_with (first
        | (go_at_call 145; (with_reducible refine (H2.out _ HB1.out).mono ?_); rintro e w2 ⟨rfl, hb⟩; have HB2 := Lib.hid (HB1.out.trans (hb.mono HB1.out.size)); clear hb)
        | (go_at_call 145; (with_reducible refine (H1.out _ (Below.refl _ _)).mono ?_); rintro e w1 ⟨rfl, hb⟩; have HB1 := Lib.hid hb; clear hb))
      go_ret
      exact ⟨rfl, HB2.out⟩
    | true =>
      by_cases he : u = v
      · have q := str_yes he
        obtain rfl : R = true := by rw [← hR, decide_eq_true he]; rfl
        clear hR he
        go_enter Tryz.func153, Tryz.ntmps153
        go_wp2_with (first
          | (go_at_call 145; (with_reducible refine (H2.out _ HB1.out).mono ?_); rintro e w2 ⟨rfl, hb⟩; have HB2 := Lib.hid (HB1.out.trans (hb.mono HB1.out.size)); clear hb)
          | (go_at_call 145; (with_reducible refine (H1.out _ (Below.refl _ _)).mono ?_); rintro e w1 ⟨rfl, hb⟩; have HB1 := Lib.hid hb; clear hb))
        go_ret
        exact ⟨rfl, HB2.out⟩
      · have q := str_no he
        obtain rfl : R = false := by rw [← hR, decide_eq_false he]; rfl
        clear hR he
        go_enter Tryz.func153, Tryz.ntmps153
        go_wp2_with (first
          | (go_at_call 145; (with_reducible refine (H2.out _ HB1.out).mono ?_); rintro e w2 ⟨rfl, hb⟩; have HB2 := Lib.hid (HB1.out.trans (hb.mono HB1.out.size)); clear hb)
          | (go_at_call 145; (with_reducible refine (H1.out _ (Below.refl _ _)).mono ?_); rintro e w1 ⟨rfl, hb⟩; have HB1 := Lib.hid hb; clear hb))
        go_ret
        exact ⟨rfl, HB2.out⟩
set_option maxRecDepth 100000 in
set_option maxHeartbeats 4000000 in
theorem away_any (a : Option Addr) (ka : Nat) (ms : List Mac) (p q : Pd) (x y : ByteArray) (w : World) (hF : MacL w a ms) (hI : ∀ m ∈ ms, MacAt w m) (hl : ms.length ≤ 1000000) (hP : PodAt w p) (hQ : PodAt w q) (hp : p.aprs.length ≤ 1000000) (hq : q.labs.length ≤ 1000000) :
    Calls Tryz.prog 143 #[.slice a ms.length ka, .agg (prow p).toArray, .agg (prow q).toArray, .string x, .string y] w fun e w' => e = .returned (.bool (awayB ms p.aprs p.wd q.labs x y)) ∧ Below w.heap.size w w' := by
  have hc1 := fun V (hV : Below w.heap.size w V) => Lb.has_any q.la p.aa q.lk p.ak q.labs p.aprs V (hQ.labs.mono hV) (hP.aprs.mono hV) hq hp
  have hc2 := fun V (hV : Below w.heap.size w V) => samez_any a ka ms x y V (hF.mono hV) (fun m hm => (hI m hm).mono hV) hl
  obtain ⟨R, hR⟩ : ∃ R, awayB ms p.aprs p.wd q.labs x y = R := ⟨_, rfl⟩
  rw [hR]
  unfold awayB at hR
  obtain ⟨h, hh⟩ : ∃ h, Lb.hasP q.labs p.aprs = h := ⟨_, rfl⟩
  obtain ⟨s, hs⟩ : ∃ s, sameZ ms x y = s := ⟨_, rfl⟩
  obtain ⟨d, hd⟩ : ∃ d, p.wd = d := ⟨_, rfl⟩
  rw [hh] at hc1
  rw [hs] at hc2
  rw [hh, hs, hd] at hR
  obtain ⟨n, hn⟩ : ∃ n, ms.length = n := ⟨_, rfl⟩
  rw [hn] at hc2 ⊢
  have H1 := Lib.hid hc1
  have H2 := Lib.hid hc2
  obtain ⟨W, hW⟩ : ∃ W, W = (w.alloc (.cells #[.string (p).nm, .int .i64 (p).n0, .int .i64 (p).n1, .int .i64 (p).n2, .int .i64 (p).n3, .int .i64 (p).n4, .slice (p).la (p).labs.length (p).lk, .slice (p).sa (p).sels.length (p).sk, .slice (p).ta (p).trms.length (p).tk, .slice (p).ba (p).bers.length (p).bk, .slice (p).pa (p).prts.length (p).pk, .slice (p).aa (p).aprs.length (p).ak, .bool (p).wd, .slice (p).da (p).spds.length (p).dk, .int .i64 (p).sw, .int .i64 (p).rk, .string (p).ow, .bool (p).dm, .bool (p).pn, .bool (p).lc] 40)).alloc (.cells #[.string (q).nm, .int .i64 (q).n0, .int .i64 (q).n1, .int .i64 (q).n2, .int .i64 (q).n3, .int .i64 (q).n4, .slice (q).la (q).labs.length (q).lk, .slice (q).sa (q).sels.length (q).sk, .slice (q).ta (q).trms.length (q).tk, .slice (q).ba (q).bers.length (q).bk, .slice (q).pa (q).prts.length (q).pk, .slice (q).aa (q).aprs.length (q).ak, .bool (q).wd, .slice (q).da (q).spds.length (q).dk, .int .i64 (q).sw, .int .i64 (q).rk, .string (q).ow, .bool (q).dm, .bool (q).pn, .bool (q).lc] 40) := ⟨_, rfl⟩
  have hX : Box w.heap.size (prow p) W := by rw [hW]; exact (Box.new w (prow p) 40).mono ((Below.refl _ _).alloc (Nat.le_refl _) _)
  have hX2 : Box (w.heap.size + 1) (prow q) W := by
    rw [hW]
    have h9 := Box.new (w.alloc (.cells #[.string (p).nm, .int .i64 (p).n0, .int .i64 (p).n1, .int .i64 (p).n2, .int .i64 (p).n3, .int .i64 (p).n4, .slice (p).la (p).labs.length (p).lk, .slice (p).sa (p).sels.length (p).sk, .slice (p).ta (p).trms.length (p).tk, .slice (p).ba (p).bers.length (p).bk, .slice (p).pa (p).prts.length (p).pk, .slice (p).aa (p).aprs.length (p).ak, .bool (p).wd, .slice (p).da (p).spds.length (p).dk, .int .i64 (p).sw, .int .i64 (p).rk, .string (p).ow, .bool (p).dm, .bool (p).pn, .bool (p).lc] 40)) (prow q) 40
    rw [World.size_alloc] at h9
    exact h9
  have hbw : Below w.heap.size w W := by rw [hW]; (repeat' (first | with_reducible exact Below.refl _ _ | with_reducible assumption | with_reducible refine Below.drew ?_ | with_reducible refine below_drewN' ?_ _ | with_reducible refine Below.alloc ?_ ?_ _ | with_reducible refine Below.setCell ?_ ?_ _ | with_reducible refine below_step (by assumption) ?_ ?_ | omega | (simp; done) | (simp; omega)))
  have HB := Lib.hid hbw
  have hbz := hbw.size
  have c11 : W.cell? ⟨w.heap.size, 11, none⟩ = some (.slice p.aa p.aprs.length p.ak) := hX.cell 11
  have c12 : W.cell? ⟨w.heap.size, 12, none⟩ = some (.bool d) := by rw [← hd]; exact hX.cell 12
  have d6 : W.cell? ⟨w.heap.size + 1, 6, none⟩ = some (.slice q.la q.labs.length q.lk) := hX2.cell 6
  have hlp := hX.lt
  have hlq := hX2.lt
  clear hc1 hc2 hh hs hd hn hF hI hl hP hQ hp hq hX hX2 hbw
  show Calls Tryz.prog 143 #[.slice a n ka, .agg #[.string (p).nm, .int .i64 (p).n0, .int .i64 (p).n1, .int .i64 (p).n2, .int .i64 (p).n3, .int .i64 (p).n4, .slice (p).la (p).labs.length (p).lk, .slice (p).sa (p).sels.length (p).sk, .slice (p).ta (p).trms.length (p).tk, .slice (p).ba (p).bers.length (p).bk, .slice (p).pa (p).prts.length (p).pk, .slice (p).aa (p).aprs.length (p).ak, .bool (p).wd, .slice (p).da (p).spds.length (p).dk, .int .i64 (p).sw, .int .i64 (p).rk, .string (p).ow, .bool (p).dm, .bool (p).pn, .bool (p).lc], .agg #[.string (q).nm, .int .i64 (q).n0, .int .i64 (q).n1, .int .i64 (q).n2, .int .i64 (q).n3, .int .i64 (q).n4, .slice (q).la (q).labs.length (q).lk, .slice (q).sa (q).sels.length (q).sk, .slice (q).ta (q).trms.length (q).tk, .slice (q).ba (q).bers.length (q).bk, .slice (q).pa (q).prts.length (q).pk, .slice (q).aa (q).aprs.length (q).ak, .bool (q).wd, .slice (q).da (q).spds.length (q).dk, .int .i64 (q).sw, .int .i64 (q).rk, .string (q).ow, .bool (q).dm, .bool (q).pn, .bool (q).lc], .string x, .string y] w _
  by_cases h0 : p.aprs.length = 0
  · have q0 : ((p.aprs.length : Int) == 0) = true := by rw [h0]; rfl
    obtain rfl : R = false := by rw [← hR, decide_eq_true h0]; rfl
    clear hR h0
    go_enter Tryz.func143, Tryz.ntmps143
    go_upto_region 1 with (fail)
    rw [← hW]
    clear hW
    go_wp2_with (first
      | (go_at_call 135; (with_reducible refine (H1.out _ HB.out).mono ?_); rintro e w1 ⟨rfl, hb⟩; have c12 : w1.cell? ⟨w.heap.size, 12, none⟩ = _ := (hb.cell (p := ⟨w.heap.size, 12, none⟩) hlp).trans c12; have HB1 := Lib.hid (HB.out.trans (hb.mono hbz)); clear hb)
      | (go_at_call 153; (with_reducible refine (H2.out _ HB1.out).mono ?_); rintro e w2 ⟨rfl, hb⟩; have HB2 := Lib.hid (HB1.out.trans (hb.mono HB1.out.size)); clear hb))
    go_ret
    exact ⟨rfl, by first | exact HB2.out | exact HB1.out | exact HB.out⟩
  · have q0 : ((p.aprs.length : Int) == 0) = false := by rw [beq_eq_false_iff_ne]; omega
    rw [decide_eq_false h0] at hR
    clear h0
    cases h with
    | false =>
      obtain rfl : R = false := by rw [← hR]; rfl
      clear hR
      go_enter Tryz.func143, Tryz.ntmps143
      go_upto_region 1 with (fail)
      rw [← hW]
      clear hW
      go_wp2_with (first
        | (go_at_call 135; (with_reducible refine (H1.out _ HB.out).mono ?_); rintro e w1 ⟨rfl, hb⟩; have c12 : w1.cell? ⟨w.heap.size, 12, none⟩ = _ := (hb.cell (p := ⟨w.heap.size, 12, none⟩) hlp).trans c12; have HB1 := Lib.hid (HB.out.trans (hb.mono hbz)); clear hb)
        | (go_at_call 153; (with_reducible refine (H2.out _ HB1.out).mono ?_); rintro e w2 ⟨rfl, hb⟩; have HB2 := Lib.hid (HB1.out.trans (hb.mono HB1.out.size)); clear hb))
      go_ret
      exact ⟨rfl, by first | exact HB2.out | exact HB1.out | exact HB.out⟩
    | true =>
      by_cases he : x = y
      · have q1 := str_yes he
        obtain rfl : R = true := by rw [← hR, decide_eq_true he]; rfl
        clear hR he
        go_enter Tryz.func143, Tryz.ntmps143
        go_upto_region 1 with (fail)
        rw [← hW]
        clear hW
        go_wp2_with (first
          | (go_at_call 135; (with_reducible refine (H1.out _ HB.out).mono ?_); rintro e w1 ⟨rfl, hb⟩; have c12 : w1.cell? ⟨w.heap.size, 12, none⟩ = _ := (hb.cell (p := ⟨w.heap.size, 12, none⟩) hlp).trans c12; have HB1 := Lib.hid (HB.out.trans (hb.mono hbz)); clear hb)
          | (go_at_call 153; (with_reducible refine (H2.out _ HB1.out).mono ?_); rintro e w2 ⟨rfl, hb⟩; have HB2 := Lib.hid (HB1.out.trans (hb.mono HB1.out.size)); clear hb))
        go_ret
        exact ⟨rfl, by first | exact HB2.out | exact HB1.out | exact HB.out⟩
      · have q1 := str_no he
        rw [decide_eq_false he] at hR
        clear he
        cases d with
        | false =>
          obtain rfl : R = false := by rw [← hR]; rfl
          clear hR
          go_enter Tryz.func143, Tryz.ntmps143
          go_upto_region 1 with (fail)
          rw [← hW]
          clear hW
          go_wp2_with (first
            | (go_at_call 135; (with_reducible refine (H1.out _ HB.out).mono ?_); rintro e w1 ⟨rfl, hb⟩; have c12 : w1.cell? ⟨w.heap.size, 12, none⟩ = _ := (hb.cell (p := ⟨w.heap.size, 12, none⟩) hlp).trans c12; have HB1 := Lib.hid (HB.out.trans (hb.mono hbz)); clear hb)
            | (go_at_call 153; (with_reducible refine (H2.out _ HB1.out).mono ?_); rintro e w2 ⟨rfl, hb⟩; have HB2 := Lib.hid (HB1.out.trans (hb.mono HB1.out.size)); clear hb))
          go_ret
          exact ⟨rfl, by first | exact HB2.out | exact HB1.out | exact HB.out⟩
        | true =>
          obtain rfl : R = s := by rw [← hR]; rfl
          clear hR
          go_enter Tryz.func143, Tryz.ntmps143
          go_upto_region 1 with (fail)
          rw [← hW]
          clear hW
          go_wp2_with (first
            | (go_at_call 135; (with_reducible refine (H1.out _ HB.out).mono ?_); rintro e w1 ⟨rfl, hb⟩; have c12 : w1.cell? ⟨w.heap.size, 12, none⟩ = _ := (hb.cell (p := ⟨w.heap.size, 12, none⟩) hlp).trans c12; have HB1 := Lib.hid (HB.out.trans (hb.mono hbz)); clear hb)
            | (go_at_call 153; (with_reducible refine (H2.out _ HB1.out).mono ?_); rintro e w2 ⟨rfl, hb⟩; have HB2 := Lib.hid (HB1.out.trans (hb.mono HB1.out.size)); clear hb))
          go_ret
          exact ⟨rfl, by first | exact HB2.out | exact HB1.out | exact HB.out⟩
set_option maxRecDepth 100000 in
set_option maxHeartbeats 4000000 in
theorem matters_any (q o : Nat) (b : Bd) (p : Pd) (w : World) (h0 : w.cell? ⟨q, o, none⟩ = some (.string b.p.nm)) (h20 : w.cell? ⟨q, o + 20, none⟩ = some (.string b.on)) (hq : q < w.heap.size) :
    Calls Tryz.prog 142 #[.pointer (some ⟨q, o, none⟩), .agg (prow p).toArray] w fun e w' => e = .returned (.bool (matB b p)) ∧ Below w.heap.size w w' := by
  obtain ⟨R, hR⟩ : ∃ R, matB b p = R := ⟨_, rfl⟩
  rw [hR]
  unfold matB at hR
  obtain ⟨W, hW⟩ : ∃ W, W = (w.alloc (.cells #[.string (p).nm, .int .i64 (p).n0, .int .i64 (p).n1, .int .i64 (p).n2, .int .i64 (p).n3, .int .i64 (p).n4, .slice (p).la (p).labs.length (p).lk, .slice (p).sa (p).sels.length (p).sk, .slice (p).ta (p).trms.length (p).tk, .slice (p).ba (p).bers.length (p).bk, .slice (p).pa (p).prts.length (p).pk, .slice (p).aa (p).aprs.length (p).ak, .bool (p).wd, .slice (p).da (p).spds.length (p).dk, .int .i64 (p).sw, .int .i64 (p).rk, .string (p).ow, .bool (p).dm, .bool (p).pn, .bool (p).lc] 40)) := ⟨_, rfl⟩
  have hX : Box w.heap.size (prow p) W := by rw [hW]; exact (Box.new w (prow p) 40)
  have hbw : Below w.heap.size w W := by rw [hW]; (repeat' (first | with_reducible exact Below.refl _ _ | with_reducible assumption | with_reducible refine Below.drew ?_ | with_reducible refine below_drewN' ?_ _ | with_reducible refine Below.alloc ?_ ?_ _ | with_reducible refine Below.setCell ?_ ?_ _ | with_reducible refine below_step (by assumption) ?_ ?_ | omega | (simp; done) | (simp; omega)))
  have HB := Lib.hid hbw
  have hbz := hbw.size
  have hq2 : q < W.heap.size := by omega
  have c0 : W.cell? ⟨w.heap.size, 0, none⟩ = some (.string p.nm) := hX.cell 0
  have d0 : W.cell? ⟨q, o, none⟩ = some (.string b.p.nm) := (hbw.cell (p := ⟨q, o, none⟩) hq).trans h0
  have d20 : W.cell? ⟨q, o + 20, none⟩ = some (.string b.on) := (hbw.cell (p := ⟨q, o + 20, none⟩) hq).trans h20
  have hlp := hX.lt
  clear hX hbw h0 h20
  obtain ⟨x, hx⟩ : ∃ x, b.p.nm = x := ⟨_, rfl⟩
  obtain ⟨y, hy⟩ : ∃ x, b.on = x := ⟨_, rfl⟩
  rw [hx] at d0 hR
  rw [hy] at d20 hR
  clear hx hy
  show Calls Tryz.prog 142 #[.pointer (some ⟨q, o, none⟩), .agg #[.string (p).nm, .int .i64 (p).n0, .int .i64 (p).n1, .int .i64 (p).n2, .int .i64 (p).n3, .int .i64 (p).n4, .slice (p).la (p).labs.length (p).lk, .slice (p).sa (p).sels.length (p).sk, .slice (p).ta (p).trms.length (p).tk, .slice (p).ba (p).bers.length (p).bk, .slice (p).pa (p).prts.length (p).pk, .slice (p).aa (p).aprs.length (p).ak, .bool (p).wd, .slice (p).da (p).spds.length (p).dk, .int .i64 (p).sw, .int .i64 (p).rk, .string (p).ow, .bool (p).dm, .bool (p).pn, .bool (p).lc]] w _
  by_cases h1 : y = emp
  · have q1 := (emp_yes h1).2.2
    obtain rfl : R = false := by rw [← hR, decide_eq_true h1]; rfl
    clear hR h1
    go_enter Tryz.func142, Tryz.ntmps142
    go_upto_region 1 with (fail)
    rw [← hW]
    clear hW
    go_quiet (fail)
    go_wp2
    go_ret
    exact ⟨rfl, by have := HB.out; (repeat' (first | with_reducible exact Below.refl _ _ | with_reducible assumption | with_reducible refine Below.drew ?_ | with_reducible refine below_drewN' ?_ _ | with_reducible refine Below.alloc ?_ ?_ _ | with_reducible refine Below.setCell ?_ ?_ _ | with_reducible refine below_step (by assumption) ?_ ?_ | omega | (simp; done) | (simp; omega)))⟩
  · have q1 := (emp_no h1).2.2
    rw [decide_eq_false h1] at hR
    clear h1
    by_cases h2 : x = p.nm
    · have q2 := str_yes h2
      obtain rfl : R = false := by rw [← hR, decide_eq_true h2]; rfl
      clear hR h2
      go_enter Tryz.func142, Tryz.ntmps142
      go_upto_region 1 with (fail)
      rw [← hW]
      clear hW
      go_quiet (fail)
      go_wp2
      go_ret
      exact ⟨rfl, by have := HB.out; (repeat' (first | with_reducible exact Below.refl _ _ | with_reducible assumption | with_reducible refine Below.drew ?_ | with_reducible refine below_drewN' ?_ _ | with_reducible refine Below.alloc ?_ ?_ _ | with_reducible refine Below.setCell ?_ ?_ _ | with_reducible refine below_step (by assumption) ?_ ?_ | omega | (simp; done) | (simp; omega)))⟩
    · have q2 := str_no h2
      obtain rfl : R = true := by rw [← hR, decide_eq_false h2]; rfl
      clear hR h2
      go_enter Tryz.func142, Tryz.ntmps142
      go_upto_region 1 with (fail)
      rw [← hW]
      clear hW
      go_quiet (fail)
      go_wp2
      go_ret
      exact ⟨rfl, by have := HB.out; (repeat' (first | with_reducible exact Below.refl _ _ | with_reducible assumption | with_reducible refine Below.drew ?_ | with_reducible refine below_drewN' ?_ _ | with_reducible refine Below.alloc ?_ ?_ _ | with_reducible refine Below.setCell ?_ ?_ _ | with_reducible refine below_step (by assumption) ?_ ?_ | omega | (simp; done) | (simp; omega)))⟩
end Go.Proofs.YtdfadbpepmkicaaGreat
namespace Go.Proofs.YtdfadbpepmkicaaGreat
open Go.RowKit
set_option linter.unusedVariables false
set_option linter.unusedSimpArgs false
def heldR (v : Value) : Option (DataW Value × List MemPlace) := some (.held v, [])
def kyL (s : ByteArray) : Lit := .string s.data.toList
theorem kyL_inj {a b : ByteArray} (h : kyL a = kyL b) : a = b := by
  unfold kyL at h
  injection h with h
  exact ByteArray.ext (Array.toList_inj.1 h)
theorem kyL_key (s : ByteArray) : WideAt.IsKeyLit (kyL s) := by
  unfold kyL WideAt.IsKeyLit
  trivial
def updF (f : ByteArray → Option Value) (s : ByteArray) (v : Option Value) : ByteArray → Option Value := fun x => if x = s then v else f x
theorem updF_same (f : ByteArray → Option Value) (s : ByteArray) (v : Option Value) : updF f s v s = v := if_pos rfl
theorem updF_other {f : ByteArray → Option Value} {s x : ByteArray} {v : Option Value} (h : x ≠ s) : updF f s v x = f x := if_neg h
def MapIs (P : Program) (k : TypeId) (w : World) (b n : Nat) (f : ByteArray → Option Value) : Prop :=
  ∃ D : DataW Value, w.ownsMap P k heldR b n D ∧ ∀ s, Go.Maps.has D (kyL s) = (f s).isSome ∧ ∀ z, D.atKey (kyL s) (.held z) = .held ((f s).getD z)
section
variable {P : Program} {k e t : TypeId} {w : World} {b n : Nat} {f : ByteArray → Option Value}
theorem MapIs.made (w : World) (P : Program) (k : TypeId) : MapIs P k (w.alloc (.map #[] 0)) w.heap.size 0 (fun _ => none) :=
  ⟨.map [], World.ownsMap_made w P k heldR, fun s => ⟨rfl, fun z => rfl⟩⟩
theorem MapIs.lt (h : MapIs P k w b n f) : b < w.heap.size := by
  obtain ⟨D, h, _⟩ := h
  exact h.lt
theorem MapIs.mono {m : Nat} (h : MapIs P k w b n f) (hm : n ≤ m) : MapIs P k w b m f := by
  obtain ⟨D, h, r⟩ := h
  exact ⟨D, h.mono hm, r⟩
theorem MapIs.same {w' : World} (h : MapIs P k w b n f) (hg : w'.heap[b]? = w.heap[b]?) : MapIs P k w' b n f := by
  obtain ⟨D, ⟨es, clock, hb, r1⟩, r⟩ := h
  exact ⟨D, ⟨es, clock, hg.trans hb, r1⟩, r⟩
theorem MapIs.below {w' : World} (h : MapIs P k w b n f) (hb : Below w.heap.size w w') : MapIs P k w' b n f := h.same (hb.block b h.lt)
theorem MapIs.eq {g : ByteArray → Option Value} (h : MapIs P k w b n f) (e : ∀ s, f s = g s) : MapIs P k w b n g := by
  have : f = g := funext e
  exact this ▸ h
theorem MapIs.look (h : MapIs P k w b n f) (K : Go.Maps.Keyed P k) (ht : P.underlying t = some (.map k e)) (hk : P.underlying k = some .string) {z : Value} (hz : (zeroValue e).run P w = .ok z w) {s : ByteArray} (hs : s.size ≤ maxLen) :
    (Instr.lookup t (.map (some b)) (.string s) false).run P w = .ok ((f s).getD z) w := by
  obtain ⟨D, h, r⟩ := h
  obtain ⟨v, ps, hr, hv⟩ := h.lookup K ht hz (zd := .held z) (zp := []) rfl (Go.WideMaps.keyOf_string_mk hk hs)
  rw [hr]
  have hv2 : (some (DataW.held v, []) : Option (DataW Value × List MemPlace)) = some (D.atKey (kyL s) (.held z), ps) := hv
  rw [(r s).2 z] at hv2
  simp only [Option.some.injEq, Prod.mk.injEq, DataW.held.injEq] at hv2
  rw [hv2.1]
theorem MapIs.put (h : MapIs P k w b n f) (K : Go.Maps.Keyed P k) (ht : P.underlying t = some (.map k e)) (hk : P.underlying k = some .string) (hn : n < maxLen) {s : ByteArray} (hs : s.size ≤ maxLen) (v : Value) :
    ∃ w', (Instr.mapUpdate t (.map (some b)) (.string s) v).run P w = .ok () w' ∧ MapIs P k w' b (n + 1) (updF f s (some v)) ∧ w.grownBy w' (some b) := by
  obtain ⟨D, h, r⟩ := h
  obtain ⟨w', hr, ho, hg⟩ := h.update K ht hn (Go.WideMaps.keyOf_string_mk hk hs) (val := v) (d := .held v) (ps := []) rfl
  refine ⟨w', hr, ⟨_, ho, fun x => ?_⟩, hg⟩
  by_cases hx : x = s
  · subst hx
    rw [updF_same]
    exact ⟨Go.Maps.has_put_same h.isMap (kyL_key x) _, fun z => Go.Maps.atKey_put_same h.isMap (kyL_key x) _ _⟩
  · rw [updF_other hx]
    have hne : kyL x ≠ kyL s := fun e => hx (kyL_inj e)
    exact ⟨(Go.Maps.has_put_other hne _).trans (r x).1, fun z => (Go.Maps.atKey_put_other hne _ _).trans ((r x).2 z)⟩
end
section
variable {P : Program} {ops : Array Oper} {rest : List Oper} {o : Oper} {a : Act} {Q : Exit → Act → World → Prop} {w : World} {b n : Nat} {f : ByteArray → Option Value}
theorem at_look (hg : Region.wanted o (yielded ops a.tmps) = true) (m x : Operand) (t k e : TypeId) (hop : o.op = Op.lookup t m x false)
    (K : Go.Maps.Keyed P k) (ht : P.underlying t = some (.map k e)) (hk : P.underlying k = some .string) (z : Value) (hz : (zeroValue e).run P w = .ok z w)
    (h : MapIs P k w b n f) (hm : a.eval m = .map (some b)) (s : ByteArray) (hx : a.eval x = .string s) (hs : s.size ≤ maxLen)
    (hK : wpList P ops Q rest (a.put o.dst ((f s).getD z)) w) : wpList P ops Q (o :: rest) a w :=
  BigFrame.wpList_want hg fun K' hK' => by
    unfold Oper.wp
    simp [execOp, hop, hm, hx, h.look K ht hk hz hs, Result.andThen]
    exact hK' _ _ hK
theorem at_put (hg : Region.wanted o (yielded ops a.tmps) = true) (m x v : Operand) (t k e : TypeId) (hop : o.op = Op.mapUpdate t m x v)
    (K : Go.Maps.Keyed P k) (ht : P.underlying t = some (.map k e)) (hk : P.underlying k = some .string)
    (h : MapIs P k w b n f) (hn : n < maxLen) (hm : a.eval m = .map (some b)) (s : ByteArray) (hx : a.eval x = .string s) (hs : s.size ≤ maxLen) (u : Value) (hu : a.eval v = u)
    (hK : ∀ w', MapIs P k w' b (n + 1) (updF f s (some u)) → w.grownBy w' (some b) → wpList P ops Q rest (a.put o.dst undef) w') : wpList P ops Q (o :: rest) a w :=
  BigFrame.wpList_want hg fun K' hK' => by
    obtain ⟨w', hr, h1, h2⟩ := h.put K ht hk hn hs u
    unfold Oper.wp
    simp [execOp, hop, hm, hx, hu, hr, Result.andThen]
    exact hK' _ _ (hK w' h1 h2)
end
end Go.Proofs.YtdfadbpepmkicaaGreat
namespace Go.Proofs.YtdfadbpepmkicaaGreat
open Go.RowKit
set_option linter.unusedVariables false
set_option linter.unusedSimpArgs false
theorem ft_law_str : Go.Maps.Keyed Tryz.prog 9 := Go.Maps.string_keyed Tryz.underlying9
theorem Tryz.info3 : (Tryz.prog.info? 3).map (fun i => (i.zero, i.size, i.bytes)) = some (some (.int .i64 0), 1, 8) := by kernel_rfl
theorem ft_zero_int (w : World) : (zeroValue 3).run Tryz.prog w = .ok (.int .i64 0) w := by kernel_rfl
theorem at_rlook {P : Program} {ops : Array Oper} {a : Act} {w : World} {R : Value → World → Prop} {d0 : Option Tmp} {ty : TypeId} {m x : Operand} {c : Bool} {t : TypeId} {p : String} {af : Array Edge} {g : Option (Nat × Bool)}
    (h : relAt P ops { dst := d0, op := .lookup ty m x c, type := t, pos := p, after := af, guard := g } a w R) : relAt P ops { dst := d0, op := .lookup ty m x c, type := t, pos := p, after := af, guard := g } a w R := h
theorem rel_look {P : Program} {ops : Array Oper} {a : Act} {w : World} {R : Value → World → Prop} {o : Oper} (hg : Region.wanted o (yielded ops a.tmps) = true) (m x : Operand) (t k e : TypeId) (hop : o.op = Op.lookup t m x false)
    (K : Go.Maps.Keyed P k) (ht : P.underlying t = some (.map k e)) (hk : P.underlying k = some .string) (z : Value) (hz : (zeroValue e).run P w = .ok z w) {b n : Nat} {f : ByteArray → Option Value}
    (h : MapIs P k w b n f) (hm : a.eval m = .map (some b)) (s : ByteArray) (hx : a.eval x = .string s) (hs : s.size ≤ maxLen) (hR : R ((f s).getD z) w) : relAt P ops o a w R := by
  unfold relAt
  rw [if_pos hg]
  have e9 : (execOp a.eval o).run P w = .ok (.value ((f s).getD z)) w := by
    simp [execOp, hop, hm, hx, h.look K ht hk hz hs, Result.andThen]
  rw [e9]
  exact ⟨hR, Below.refl _ _⟩
def onF (bs : List Bd) (p : Pd) : ByteArray → Option Value := fun x => if onCnt bs p x = 0 then none else some (.int .i64 (onCnt bs p x : Nat))
theorem on_get (bs : List Bd) (p : Pd) (x : ByteArray) : (onF bs p x).getD (.int .i64 0) = .int .i64 (onCnt bs p x : Nat) := by
  unfold onF
  split
  · rename_i h; rw [h]; rfl
  · rfl
theorem onCnt_next {bs : List Bd} {k : Nat} {b : Bd} (h : bs[k]? = some b) (p : Pd) (x : ByteArray) : onCnt (bs.take (k + 1)) p x = onCnt (bs.take k) p x + if onQ p x b = true then 1 else 0 := by
  unfold onCnt
  rw [List.take_add_one, h, List.filter_append, List.length_append]
  congr 1
  show (List.filter (onQ p x) [b]).length = _
  rw [List.filter_cons]
  split <;> rfl
theorem on_yes {bs : List Bd} {k : Nat} {b : Bd} {p : Pd} (h : bs[k]? = some b) (hp : onP p b = true) (s : ByteArray) : updF (onF (bs.take k) p) b.on (some (.int .i64 ((onCnt (bs.take k) p b.on : Int) + 1))) s = onF (bs.take (k + 1)) p s := by
  by_cases hs : s = b.on
  · subst hs
    rw [updF_same]
    unfold onF
    have e : onCnt (bs.take (k + 1)) p b.on = onCnt (bs.take k) p b.on + 1 := by
      rw [onCnt_next h, if_pos]
      unfold onQ
      rw [hp, decide_eq_true rfl]
      rfl
    rw [e, if_neg (by omega)]
    rfl
  · rw [updF_other hs]
    unfold onF
    have e : onCnt (bs.take (k + 1)) p s = onCnt (bs.take k) p s := by
      rw [onCnt_next h, if_neg]
      · rfl
      · unfold onQ
        rw [decide_eq_false (Ne.symm hs)]
        simp
    rw [e]
theorem on_no {bs : List Bd} {k : Nat} {b : Bd} {p : Pd} (h : bs[k]? = some b) (hp : onP p b = false) (s : ByteArray) : onF (bs.take k) p s = onF (bs.take (k + 1)) p s := by
  have e : onCnt (bs.take (k + 1)) p s = onCnt (bs.take k) p s := by
    rw [onCnt_next h, if_neg]
    · rfl
    · unfold onQ
      rw [hp]
      simp
  unfold onF
  rw [e]
def zIs (x : ByteArray) (m : Mac) : Bool := Lb.getB m.labs zoneT && decide (Lb.getV m.labs zoneT = x)
def zSum (ms : List Mac) (f : ByteArray → Nat) (x : ByteArray) : Nat := ms.foldl (zAdd f x) 0
def zfF (ms : List Mac) (f : ByteArray → Nat) : ByteArray → Option Value := fun x => if ms.any (zIs x) = true then some (.int .i64 (zSum ms f x : Nat)) else none
theorem zSum_none (f : ByteArray → Nat) (x : ByteArray) : ∀ (ms : List Mac) (n : Nat), ms.any (zIs x) = false → ms.foldl (zAdd f x) n = n
  | [], n, _ => rfl
  | m :: ms, n, h => by
    rw [List.any_cons, Bool.or_eq_false_iff] at h
    rw [List.foldl_cons]
    have e : zAdd f x n m = n := by
      unfold zAdd
      rw [if_neg]
      rintro ⟨h1, h2⟩
      have h3 := h.1
      unfold zIs at h3
      rw [h1, decide_eq_true h2] at h3
      cases h3
    rw [e]
    exact zSum_none f x ms n h.2
theorem zf_get (ms : List Mac) (f : ByteArray → Nat) (x : ByteArray) : (zfF ms f x).getD (.int .i64 0) = .int .i64 (zSum ms f x : Nat) := by
  unfold zfF
  split
  · rfl
  · rename_i h
    have e : zSum ms f x = 0 := zSum_none f x ms 0 (by simpa using h)
    rw [e]
    rfl
theorem zSum_next {ms : List Mac} {k : Nat} {m : Mac} (h : ms[k]? = some m) (f : ByteArray → Nat) (x : ByteArray) : zSum (ms.take (k + 1)) f x = zAdd f x (zSum (ms.take k) f x) m := by
  unfold zSum
  rw [List.take_add_one, h, List.foldl_append]
  rfl
theorem zany_next {ms : List Mac} {k : Nat} {m : Mac} (h : ms[k]? = some m) (x : ByteArray) : (ms.take (k + 1)).any (zIs x) = ((ms.take k).any (zIs x) || zIs x m) := by
  rw [List.take_add_one, h, List.any_append]
  simp
theorem zf_yes {ms : List Mac} {k : Nat} {m : Mac} (h : ms[k]? = some m) (f : ByteArray → Nat) (hg : Lb.getB m.labs zoneT = true) (s : ByteArray) :
    updF (zfF (ms.take k) f) (Lb.getV m.labs zoneT) (some (.int .i64 ((zSum (ms.take k) f (Lb.getV m.labs zoneT) : Int) + (f m.nm : Int)))) s = zfF (ms.take (k + 1)) f s := by
  by_cases hs : s = Lb.getV m.labs zoneT
  · subst hs
    rw [updF_same]
    unfold zfF
    rw [zany_next h, zSum_next h]
    have e : zIs (Lb.getV m.labs zoneT) m = true := by unfold zIs; rw [hg, decide_eq_true rfl]; rfl
    rw [e, Bool.or_true, if_pos rfl]
    unfold zAdd
    rw [if_pos ⟨hg, rfl⟩]
    rfl
  · rw [updF_other hs]
    unfold zfF
    rw [zany_next h, zSum_next h]
    have e : zIs s m = false := by unfold zIs; rw [decide_eq_false (Ne.symm hs), Bool.and_false]
    rw [e, Bool.or_false]
    rw [show zAdd f s (zSum (ms.take k) f s) m = zSum (ms.take k) f s from if_neg (fun t => hs t.2.symm)]
theorem zf_no {ms : List Mac} {k : Nat} {m : Mac} (h : ms[k]? = some m) (f : ByteArray → Nat) (hg : Lb.getB m.labs zoneT = false) (s : ByteArray) : zfF (ms.take k) f s = zfF (ms.take (k + 1)) f s := by
  unfold zfF
  rw [zany_next h, zSum_next h]
  have e : zIs s m = false := by unfold zIs; rw [hg]; rfl
  rw [e, Bool.or_false]
  rw [show zAdd f s (zSum (ms.take k) f s) m = zSum (ms.take k) f s from if_neg (fun t => by rw [hg] at t; cases t.1)]
theorem zSum_le (ms : List Mac) (f : ByteArray → Nat) (B : Nat) (hf : ∀ x, f x ≤ B) (z : ByteArray) : zSum ms f z ≤ ms.length * B := by
  have : ∀ (l : List Mac) (n : Nat), l.foldl (zAdd f z) n ≤ n + l.length * B := by
    intro l
    induction l with
    | nil => intro n; simp
    | cons m l ih =>
      intro n
      have h1 := ih (zAdd f z n m)
      have h2 : zAdd f z n m ≤ n + B := by
        unfold zAdd
        have := hf m.nm
        split <;> omega
      rw [List.foldl_cons, List.length_cons, Nat.succ_mul]
      omega
  have h := this ms 0
  unfold zSum
  omega
theorem Box.only {X : Nat} {L : List Value} {V V' : World} {S : List Nat} (h : Box X L V) (ho : Only S V V') (hs : X ∉ S) : Box X L V' :=
  ⟨Nat.lt_of_lt_of_le h.lt ho.size, fun i => by rw [World.cell?_of_block (ho.block X h.lt hs)]; exact h.cell i⟩
theorem Only.grown1 {m : Nat} {a w w' : World} (h : Only [m] a w) (hg : w.grownBy w' (some m)) : Only [m] a w' := h.grown hg fun k hk => .inl (by obtain rfl := Option.some.inj hk; simp)
theorem Only.step1 {m : Nat} {a w w' : World} (h : Only [m] a w) (hb : Below w.heap.size w w') : Only [m] a w' := h.step (hb.mono h.size)
theorem Only.below1 {m B : Nat} {w0 w w' : World} (h : Only [m] w w') (hb : Below B w0 w) (hB : B ≤ w.heap.size) (hm : B ≤ m) : Below B w0 w' := h.below hb hB fun k hk => by
  obtain rfl : k = m := by simpa using hk
  exact hm
abbrev IntL := RowsAt pcs 1
def GivesC (w : World) (Z : List ByteArray) (N : List Int) (e : Ending) (w' : World) : Prop := (∃ az kz an kn, e = .returned (.tuple #[.slice az Z.length kz, .slice an N.length kn]) ∧ TxtL w' az Z ∧ IntL w' an N) ∧ Below w.heap.size w w'
theorem pcs_one (n : Int) : ∀ u ∈ pcs n, u.oneCell' = true := by
  intro u hu
  simp [pcs] at hu
  rcases hu with rfl
  rfl
end Go.Proofs.YtdfadbpepmkicaaGreat
