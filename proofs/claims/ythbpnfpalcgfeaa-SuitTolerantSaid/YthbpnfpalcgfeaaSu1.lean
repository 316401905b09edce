/-
  Suit: Place, Prefers.
-/
import Derived.Test.YthbpnfpalcgfeaaSTnt
import Derived.Test.YthbpnfpalcgfeaaPd3
import Derived.Test.YthbpnfpalcgfeaaLab11
import Derived.Test.YthbpnfpalcgfeaaLabP
namespace Go.Proofs.Ythbpnfpalcgfeaa
open Go.RowKit
set_option linter.unusedVariables false
set_option linter.unusedSimpArgs false

/-- A machine and a pod, each in a block of its own. -/
structure MP (w : World) (X : Nat) (m : Mac) (p : Pd) (V : World) : Prop where
  xm : Box X (mrow m) V
  xp : Box (X + 1) (prow p) V
  ma : MacAt V m
  pa : PodAt V p
  bl : Below w.heap.size w V
theorem MP.mono {w V V' : World} {X : Nat} {m : Mac} {p : Pd} (h : MP w X m p V) (hb : Below V.heap.size V V') : MP w X m p V' :=
  ⟨h.xm.mono hb, h.xp.mono hb, h.ma.mono hb, h.pa.mono hb, h.bl.trans (hb.mono h.bl.size)⟩
theorem MP.new {w : World} {m : Mac} {p : Pd} (hm : MacAt w m) (hp : PodAt w p) : MP w w.heap.size m p ((w.alloc (.cells (mrow m).toArray 35)).alloc (.cells (prow p).toArray 47)) := by
  have h1 : Below w.heap.size w (w.alloc (.cells (mrow m).toArray 35)) := (Below.refl _ w).alloc (Nat.le_refl _) _
  have h2 : Below (w.alloc (.cells (mrow m).toArray 35)).heap.size (w.alloc (.cells (mrow m).toArray 35)) ((w.alloc (.cells (mrow m).toArray 35)).alloc (.cells (prow p).toArray 47)) := (Below.refl _ _).alloc (Nat.le_refl _) _
  refine ⟨(Box.new w (mrow m) 35).mono h2, ?_, (hm.mono h1).mono h2, (hp.mono h1).mono h2, h1.trans (h2.mono h1.size)⟩
  have h9 := Box.new (w.alloc (.cells (mrow m).toArray 35)) (prow p) 47
  rw [World.size_alloc] at h9
  exact h9
/-- Why a pod may not be on a machine. -/
def placeS (m : Mac) (p : Pd) : Int := if m.rd = false then 1 else if Lb.hasP m.labs p.sels = false then 4 else if p.trms.all (Lb.meetP m.labs) = false then 5 else if Tn.allowsB p.bers m.tnts = false then 6 else 0
structure LtM (m : Mac) : Prop where
  nm : m.nm.size ≤ 300
  ll : m.labs.length ≤ 40
  ls : ∀ x ∈ m.labs, x.key.size ≤ 300 ∧ x.val.size ≤ 300
  tl : m.tnts.length ≤ 1000000
theorem lightM_iff {m : Mac} (h : lightM m = true) : LtM m := by
  unfold lightM at h
  simp only [Bool.and_eq_true, decide_eq_true_eq] at h
  refine ⟨h.1.1.1, ((lightL_iff _).1 h.1.2).1, ((lightL_iff _).1 h.1.2).2, ?_⟩
  have h9 := h.2
  unfold lightB at h9
  simp only [Bool.and_eq_true, decide_eq_true_eq] at h9
  omega

set_option maxRecDepth 100000 in
set_option maxHeartbeats 4000000 in
theorem splace_any (m : Mac) (p : Pd) (w : World) (hM : MacAt w m) (hP : PodAt w p) (hm : lightM m = true) (hp : lightP p = true) :
    Calls Try.prog 31 #[.agg (mrow m).toArray, .agg (prow p).toArray] w fun e w' => e = .returned (.int .i64 (placeS m p)) ∧ Below w.heap.size w w' := by
  have hLm := lightM_iff hm
  have hLp := lightP_iff hp
  obtain ⟨R, hR⟩ : ∃ R, placeS m p = R := ⟨_, rfl⟩
  rw [hR]
  unfold placeS at hR
  obtain ⟨b1, h1⟩ : ∃ b, Lb.hasP m.labs p.sels = b := ⟨_, rfl⟩
  obtain ⟨b2, h2⟩ : ∃ b, p.trms.all (Lb.meetP m.labs) = b := ⟨_, rfl⟩
  obtain ⟨b3, h3⟩ : ∃ b, Tn.allowsB p.bers m.tnts = b := ⟨_, rfl⟩
  rw [h1, h2, h3] at hR
  have hc1 := fun V (h : MP w w.heap.size m p V) => Lb.has_any m.la p.sa m.lk p.sk m.labs p.sels V h.ma.labs h.pa.sels (by have := hLm.ll; omega) (by have := ((lightL_iff _).1 hLp.l1).1; omega)
  have hc2 := fun V (h : MP w w.heap.size m p V) => Lb.all_any2 m.la p.ta m.lk p.tk m.labs p.trms V h.ma.labs h.pa.trms h.pa.trmA (by have := hLm.ll; omega) (by have := hLp.tl; omega) (fun t ht => by have := (Lb.lightTm_ok (hLp.tt t ht)).1; omega) (fun x hx => by have := (hLm.ls x hx).2; omega) (fun t ht v hv => by have := (Lb.lightTm_ok (hLp.tt t ht)).2.2 v hv; omega)
  have hc3 := fun V (h : MP w w.heap.size m p V) => Tn.allows_any p.ba m.ta p.bk m.tk p.bers m.tnts V h.pa.bers (ber_sz hLp.bl).1 h.ma.tnts hLm.tl
  rw [h1] at hc1
  rw [h2] at hc2
  rw [h3] at hc3
  obtain ⟨W, hW⟩ : ∃ W, W = (w.alloc (.cells (mrow m).toArray 35)).alloc (.cells (prow p).toArray 47) := ⟨_, rfl⟩
  have H0 := Lib.hid (show MP w w.heap.size m p W by rw [hW]; exact MP.new hM hP)
  clear h1 h2 h3 hM hP hm hp hLm hLp
  obtain ⟨mn, mg, r0, r1, r2, r3, r4, ma, mk, ML, mta, mtk, MT, rd⟩ := m
  obtain ⟨nm, n0, n1, n2, n3, n4, la, lk, L, sa, sk, S, ta, tk, T, ba, bk, B, pa, pk, P, aa, ak, A, wd, da, dk, D, sw, rk, ow, dm, pn, lc⟩ := p
  have H1 := Lib.hid hc1
  have H2 := Lib.hid hc2
  have H3 := Lib.hid hc3
  clear hc1 hc2 hc3
  replace hW : W = (w.alloc (.cells #[.string mn, .string mg, .int .i64 r0, .int .i64 r1, .int .i64 r2, .int .i64 r3, .int .i64 r4, .slice ma ML.length mk, .slice mta MT.length mtk, .bool rd] 35)).alloc (.cells #[.string nm, .int .i64 n0, .int .i64 n1, .int .i64 n2, .int .i64 n3, .int .i64 n4, .slice la L.length lk, .slice sa S.length sk, .slice ta T.length tk, .slice ba B.length bk, .slice pa P.length pk, .slice aa A.length ak, .bool wd, .slice da D.length dk, .int .i64 sw, .int .i64 rk, .string ow, .bool dm, .bool pn, .bool lc] 47) := hW
  show Calls Try.prog 31 #[.agg #[.string mn, .string mg, .int .i64 r0, .int .i64 r1, .int .i64 r2, .int .i64 r3, .int .i64 r4, .slice ma ML.length mk, .slice mta MT.length mtk, .bool rd], .agg #[.string nm, .int .i64 n0, .int .i64 n1, .int .i64 n2, .int .i64 n3, .int .i64 n4, .slice la L.length lk, .slice sa S.length sk, .slice ta T.length tk, .slice ba B.length bk, .slice pa P.length pk, .slice aa A.length ak, .bool wd, .slice da D.length dk, .int .i64 sw, .int .i64 rk, .string ow, .bool dm, .bool pn, .bool lc]] w _
  dsimp only at hR
  cases rd with
  | false =>
    obtain rfl : R = 1 := by rw [← hR]; rfl
    clear hR
    go_enter Try.func31, Try.ntmps31
    go_upto_region 1 with (fail)
    rw [← hW]
    clear hW
    have hxm : ∀ i, W.cell? ⟨w.heap.size, i, none⟩ = [.string mn, .string mg, .int .i64 r0, .int .i64 r1, .int .i64 r2, .int .i64 r3, .int .i64 r4, .slice ma ML.length mk, .slice mta MT.length mtk, .bool false][i]? := H0.out.xm.cell
    have hxp : ∀ i, W.cell? ⟨w.heap.size + 1, i, none⟩ = [.string nm, .int .i64 n0, .int .i64 n1, .int .i64 n2, .int .i64 n3, .int .i64 n4, .slice la L.length lk, .slice sa S.length sk, .slice ta T.length tk, .slice ba B.length bk, .slice pa P.length pk, .slice aa A.length ak, .bool wd, .slice da D.length dk, .int .i64 sw, .int .i64 rk, .string ow, .bool dm, .bool pn, .bool lc][i]? := H0.out.xp.cell
    have hlm := H0.out.xm.lt
    have hlp := H0.out.xp.lt
    go_wp2_with (first
      | (go_at_call 67; (with_reducible refine (H1.out _ H0.out).mono ?_); rintro e w1 ⟨rfl, hb⟩; have H01 := Lib.hid (H0.out.mono hb); clear hb; have hym : ∀ i, w1.cell? ⟨w.heap.size, i, none⟩ = [.string mn, .string mg, .int .i64 r0, .int .i64 r1, .int .i64 r2, .int .i64 r3, .int .i64 r4, .slice ma ML.length mk, .slice mta MT.length mtk, .bool false][i]? := H01.out.xm.cell; have hyp : ∀ i, w1.cell? ⟨w.heap.size + 1, i, none⟩ = [.string nm, .int .i64 n0, .int .i64 n1, .int .i64 n2, .int .i64 n3, .int .i64 n4, .slice la L.length lk, .slice sa S.length sk, .slice ta T.length tk, .slice ba B.length bk, .slice pa P.length pk, .slice aa A.length ak, .bool wd, .slice da D.length dk, .int .i64 sw, .int .i64 rk, .string ow, .bool dm, .bool pn, .bool lc][i]? := H01.out.xp.cell; have hkm := H01.out.xm.lt; have hkp := H01.out.xp.lt; clear hxm hxp hlm hlp)
      | (go_at_call 68; (with_reducible refine (H2.out _ H01.out).mono ?_); rintro e w2 ⟨rfl, hb⟩; have H02 := Lib.hid (H01.out.mono hb); clear hb; have hzm : ∀ i, w2.cell? ⟨w.heap.size, i, none⟩ = [.string mn, .string mg, .int .i64 r0, .int .i64 r1, .int .i64 r2, .int .i64 r3, .int .i64 r4, .slice ma ML.length mk, .slice mta MT.length mtk, .bool false][i]? := H02.out.xm.cell; have hzp : ∀ i, w2.cell? ⟨w.heap.size + 1, i, none⟩ = [.string nm, .int .i64 n0, .int .i64 n1, .int .i64 n2, .int .i64 n3, .int .i64 n4, .slice la L.length lk, .slice sa S.length sk, .slice ta T.length tk, .slice ba B.length bk, .slice pa P.length pk, .slice aa A.length ak, .bool wd, .slice da D.length dk, .int .i64 sw, .int .i64 rk, .string ow, .bool dm, .bool pn, .bool lc][i]? := H02.out.xp.cell; have hjm := H02.out.xm.lt; have hjp := H02.out.xp.lt; clear hym hyp hkm hkp)
      | (go_at_call 69; (with_reducible refine (H3.out _ H02.out).mono ?_); rintro e w3 ⟨rfl, hb⟩; have H03 := Lib.hid (H02.out.mono hb); clear hb))
    go_ret
    exact ⟨rfl, by first | exact H03.out.bl | exact H02.out.bl | exact H01.out.bl | exact H0.out.bl⟩
  | true =>
    cases b1 with
    | false =>
      obtain rfl : R = 4 := by rw [← hR]; rfl
      clear hR
      go_enter Try.func31, Try.ntmps31
      go_upto_region 1 with (fail)
      rw [← hW]
      clear hW
      have hxm : ∀ i, W.cell? ⟨w.heap.size, i, none⟩ = [.string mn, .string mg, .int .i64 r0, .int .i64 r1, .int .i64 r2, .int .i64 r3, .int .i64 r4, .slice ma ML.length mk, .slice mta MT.length mtk, .bool true][i]? := H0.out.xm.cell
      have hxp : ∀ i, W.cell? ⟨w.heap.size + 1, i, none⟩ = [.string nm, .int .i64 n0, .int .i64 n1, .int .i64 n2, .int .i64 n3, .int .i64 n4, .slice la L.length lk, .slice sa S.length sk, .slice ta T.length tk, .slice ba B.length bk, .slice pa P.length pk, .slice aa A.length ak, .bool wd, .slice da D.length dk, .int .i64 sw, .int .i64 rk, .string ow, .bool dm, .bool pn, .bool lc][i]? := H0.out.xp.cell
      have hlm := H0.out.xm.lt
      have hlp := H0.out.xp.lt
      go_wp2_with (first
        | (go_at_call 67; (with_reducible refine (H1.out _ H0.out).mono ?_); rintro e w1 ⟨rfl, hb⟩; have H01 := Lib.hid (H0.out.mono hb); clear hb; have hym : ∀ i, w1.cell? ⟨w.heap.size, i, none⟩ = [.string mn, .string mg, .int .i64 r0, .int .i64 r1, .int .i64 r2, .int .i64 r3, .int .i64 r4, .slice ma ML.length mk, .slice mta MT.length mtk, .bool true][i]? := H01.out.xm.cell; have hyp : ∀ i, w1.cell? ⟨w.heap.size + 1, i, none⟩ = [.string nm, .int .i64 n0, .int .i64 n1, .int .i64 n2, .int .i64 n3, .int .i64 n4, .slice la L.length lk, .slice sa S.length sk, .slice ta T.length tk, .slice ba B.length bk, .slice pa P.length pk, .slice aa A.length ak, .bool wd, .slice da D.length dk, .int .i64 sw, .int .i64 rk, .string ow, .bool dm, .bool pn, .bool lc][i]? := H01.out.xp.cell; have hkm := H01.out.xm.lt; have hkp := H01.out.xp.lt; clear hxm hxp hlm hlp)
        | (go_at_call 68; (with_reducible refine (H2.out _ H01.out).mono ?_); rintro e w2 ⟨rfl, hb⟩; have H02 := Lib.hid (H01.out.mono hb); clear hb; have hzm : ∀ i, w2.cell? ⟨w.heap.size, i, none⟩ = [.string mn, .string mg, .int .i64 r0, .int .i64 r1, .int .i64 r2, .int .i64 r3, .int .i64 r4, .slice ma ML.length mk, .slice mta MT.length mtk, .bool true][i]? := H02.out.xm.cell; have hzp : ∀ i, w2.cell? ⟨w.heap.size + 1, i, none⟩ = [.string nm, .int .i64 n0, .int .i64 n1, .int .i64 n2, .int .i64 n3, .int .i64 n4, .slice la L.length lk, .slice sa S.length sk, .slice ta T.length tk, .slice ba B.length bk, .slice pa P.length pk, .slice aa A.length ak, .bool wd, .slice da D.length dk, .int .i64 sw, .int .i64 rk, .string ow, .bool dm, .bool pn, .bool lc][i]? := H02.out.xp.cell; have hjm := H02.out.xm.lt; have hjp := H02.out.xp.lt; clear hym hyp hkm hkp)
        | (go_at_call 69; (with_reducible refine (H3.out _ H02.out).mono ?_); rintro e w3 ⟨rfl, hb⟩; have H03 := Lib.hid (H02.out.mono hb); clear hb))
      go_ret
      exact ⟨rfl, by first | exact H03.out.bl | exact H02.out.bl | exact H01.out.bl | exact H0.out.bl⟩
    | true =>
      cases b2 with
      | false =>
        obtain rfl : R = 5 := by rw [← hR]; rfl
        clear hR
        go_enter Try.func31, Try.ntmps31
        go_upto_region 1 with (fail)
        rw [← hW]
        clear hW
        have hxm : ∀ i, W.cell? ⟨w.heap.size, i, none⟩ = [.string mn, .string mg, .int .i64 r0, .int .i64 r1, .int .i64 r2, .int .i64 r3, .int .i64 r4, .slice ma ML.length mk, .slice mta MT.length mtk, .bool true][i]? := H0.out.xm.cell
        have hxp : ∀ i, W.cell? ⟨w.heap.size + 1, i, none⟩ = [.string nm, .int .i64 n0, .int .i64 n1, .int .i64 n2, .int .i64 n3, .int .i64 n4, .slice la L.length lk, .slice sa S.length sk, .slice ta T.length tk, .slice ba B.length bk, .slice pa P.length pk, .slice aa A.length ak, .bool wd, .slice da D.length dk, .int .i64 sw, .int .i64 rk, .string ow, .bool dm, .bool pn, .bool lc][i]? := H0.out.xp.cell
        have hlm := H0.out.xm.lt
        have hlp := H0.out.xp.lt
        go_wp2_with (first
          | (go_at_call 67; (with_reducible refine (H1.out _ H0.out).mono ?_); rintro e w1 ⟨rfl, hb⟩; have H01 := Lib.hid (H0.out.mono hb); clear hb; have hym : ∀ i, w1.cell? ⟨w.heap.size, i, none⟩ = [.string mn, .string mg, .int .i64 r0, .int .i64 r1, .int .i64 r2, .int .i64 r3, .int .i64 r4, .slice ma ML.length mk, .slice mta MT.length mtk, .bool true][i]? := H01.out.xm.cell; have hyp : ∀ i, w1.cell? ⟨w.heap.size + 1, i, none⟩ = [.string nm, .int .i64 n0, .int .i64 n1, .int .i64 n2, .int .i64 n3, .int .i64 n4, .slice la L.length lk, .slice sa S.length sk, .slice ta T.length tk, .slice ba B.length bk, .slice pa P.length pk, .slice aa A.length ak, .bool wd, .slice da D.length dk, .int .i64 sw, .int .i64 rk, .string ow, .bool dm, .bool pn, .bool lc][i]? := H01.out.xp.cell; have hkm := H01.out.xm.lt; have hkp := H01.out.xp.lt; clear hxm hxp hlm hlp)
          | (go_at_call 68; (with_reducible refine (H2.out _ H01.out).mono ?_); rintro e w2 ⟨rfl, hb⟩; have H02 := Lib.hid (H01.out.mono hb); clear hb; have hzm : ∀ i, w2.cell? ⟨w.heap.size, i, none⟩ = [.string mn, .string mg, .int .i64 r0, .int .i64 r1, .int .i64 r2, .int .i64 r3, .int .i64 r4, .slice ma ML.length mk, .slice mta MT.length mtk, .bool true][i]? := H02.out.xm.cell; have hzp : ∀ i, w2.cell? ⟨w.heap.size + 1, i, none⟩ = [.string nm, .int .i64 n0, .int .i64 n1, .int .i64 n2, .int .i64 n3, .int .i64 n4, .slice la L.length lk, .slice sa S.length sk, .slice ta T.length tk, .slice ba B.length bk, .slice pa P.length pk, .slice aa A.length ak, .bool wd, .slice da D.length dk, .int .i64 sw, .int .i64 rk, .string ow, .bool dm, .bool pn, .bool lc][i]? := H02.out.xp.cell; have hjm := H02.out.xm.lt; have hjp := H02.out.xp.lt; clear hym hyp hkm hkp)
          | (go_at_call 69; (with_reducible refine (H3.out _ H02.out).mono ?_); rintro e w3 ⟨rfl, hb⟩; have H03 := Lib.hid (H02.out.mono hb); clear hb))
        go_ret
        exact ⟨rfl, by first | exact H03.out.bl | exact H02.out.bl | exact H01.out.bl | exact H0.out.bl⟩
      | true =>
        cases b3 with
        | false =>
          obtain rfl : R = 6 := by rw [← hR]; rfl
          clear hR
          go_enter Try.func31, Try.ntmps31
          go_upto_region 1 with (fail)
          rw [← hW]
          clear hW
          have hxm : ∀ i, W.cell? ⟨w.heap.size, i, none⟩ = [.string mn, .string mg, .int .i64 r0, .int .i64 r1, .int .i64 r2, .int .i64 r3, .int .i64 r4, .slice ma ML.length mk, .slice mta MT.length mtk, .bool true][i]? := H0.out.xm.cell
          have hxp : ∀ i, W.cell? ⟨w.heap.size + 1, i, none⟩ = [.string nm, .int .i64 n0, .int .i64 n1, .int .i64 n2, .int .i64 n3, .int .i64 n4, .slice la L.length lk, .slice sa S.length sk, .slice ta T.length tk, .slice ba B.length bk, .slice pa P.length pk, .slice aa A.length ak, .bool wd, .slice da D.length dk, .int .i64 sw, .int .i64 rk, .string ow, .bool dm, .bool pn, .bool lc][i]? := H0.out.xp.cell
          have hlm := H0.out.xm.lt
          have hlp := H0.out.xp.lt
          go_wp2_with (first
            | (go_at_call 67; (with_reducible refine (H1.out _ H0.out).mono ?_); rintro e w1 ⟨rfl, hb⟩; have H01 := Lib.hid (H0.out.mono hb); clear hb; have hym : ∀ i, w1.cell? ⟨w.heap.size, i, none⟩ = [.string mn, .string mg, .int .i64 r0, .int .i64 r1, .int .i64 r2, .int .i64 r3, .int .i64 r4, .slice ma ML.length mk, .slice mta MT.length mtk, .bool true][i]? := H01.out.xm.cell; have hyp : ∀ i, w1.cell? ⟨w.heap.size + 1, i, none⟩ = [.string nm, .int .i64 n0, .int .i64 n1, .int .i64 n2, .int .i64 n3, .int .i64 n4, .slice la L.length lk, .slice sa S.length sk, .slice ta T.length tk, .slice ba B.length bk, .slice pa P.length pk, .slice aa A.length ak, .bool wd, .slice da D.length dk, .int .i64 sw, .int .i64 rk, .string ow, .bool dm, .bool pn, .bool lc][i]? := H01.out.xp.cell; have hkm := H01.out.xm.lt; have hkp := H01.out.xp.lt; clear hxm hxp hlm hlp)
            | (go_at_call 68; (with_reducible refine (H2.out _ H01.out).mono ?_); rintro e w2 ⟨rfl, hb⟩; have H02 := Lib.hid (H01.out.mono hb); clear hb; have hzm : ∀ i, w2.cell? ⟨w.heap.size, i, none⟩ = [.string mn, .string mg, .int .i64 r0, .int .i64 r1, .int .i64 r2, .int .i64 r3, .int .i64 r4, .slice ma ML.length mk, .slice mta MT.length mtk, .bool true][i]? := H02.out.xm.cell; have hzp : ∀ i, w2.cell? ⟨w.heap.size + 1, i, none⟩ = [.string nm, .int .i64 n0, .int .i64 n1, .int .i64 n2, .int .i64 n3, .int .i64 n4, .slice la L.length lk, .slice sa S.length sk, .slice ta T.length tk, .slice ba B.length bk, .slice pa P.length pk, .slice aa A.length ak, .bool wd, .slice da D.length dk, .int .i64 sw, .int .i64 rk, .string ow, .bool dm, .bool pn, .bool lc][i]? := H02.out.xp.cell; have hjm := H02.out.xm.lt; have hjp := H02.out.xp.lt; clear hym hyp hkm hkp)
            | (go_at_call 69; (with_reducible refine (H3.out _ H02.out).mono ?_); rintro e w3 ⟨rfl, hb⟩; have H03 := Lib.hid (H02.out.mono hb); clear hb))
          go_ret
          exact ⟨rfl, by first | exact H03.out.bl | exact H02.out.bl | exact H01.out.bl | exact H0.out.bl⟩
        | true =>
          obtain rfl : R = 0 := by rw [← hR]; rfl
          clear hR
          go_enter Try.func31, Try.ntmps31
          go_upto_region 1 with (fail)
          rw [← hW]
          clear hW
          have hxm : ∀ i, W.cell? ⟨w.heap.size, i, none⟩ = [.string mn, .string mg, .int .i64 r0, .int .i64 r1, .int .i64 r2, .int .i64 r3, .int .i64 r4, .slice ma ML.length mk, .slice mta MT.length mtk, .bool true][i]? := H0.out.xm.cell
          have hxp : ∀ i, W.cell? ⟨w.heap.size + 1, i, none⟩ = [.string nm, .int .i64 n0, .int .i64 n1, .int .i64 n2, .int .i64 n3, .int .i64 n4, .slice la L.length lk, .slice sa S.length sk, .slice ta T.length tk, .slice ba B.length bk, .slice pa P.length pk, .slice aa A.length ak, .bool wd, .slice da D.length dk, .int .i64 sw, .int .i64 rk, .string ow, .bool dm, .bool pn, .bool lc][i]? := H0.out.xp.cell
          have hlm := H0.out.xm.lt
          have hlp := H0.out.xp.lt
          go_wp2_with (first
            | (go_at_call 67; (with_reducible refine (H1.out _ H0.out).mono ?_); rintro e w1 ⟨rfl, hb⟩; have H01 := Lib.hid (H0.out.mono hb); clear hb; have hym : ∀ i, w1.cell? ⟨w.heap.size, i, none⟩ = [.string mn, .string mg, .int .i64 r0, .int .i64 r1, .int .i64 r2, .int .i64 r3, .int .i64 r4, .slice ma ML.length mk, .slice mta MT.length mtk, .bool true][i]? := H01.out.xm.cell; have hyp : ∀ i, w1.cell? ⟨w.heap.size + 1, i, none⟩ = [.string nm, .int .i64 n0, .int .i64 n1, .int .i64 n2, .int .i64 n3, .int .i64 n4, .slice la L.length lk, .slice sa S.length sk, .slice ta T.length tk, .slice ba B.length bk, .slice pa P.length pk, .slice aa A.length ak, .bool wd, .slice da D.length dk, .int .i64 sw, .int .i64 rk, .string ow, .bool dm, .bool pn, .bool lc][i]? := H01.out.xp.cell; have hkm := H01.out.xm.lt; have hkp := H01.out.xp.lt; clear hxm hxp hlm hlp)
            | (go_at_call 68; (with_reducible refine (H2.out _ H01.out).mono ?_); rintro e w2 ⟨rfl, hb⟩; have H02 := Lib.hid (H01.out.mono hb); clear hb; have hzm : ∀ i, w2.cell? ⟨w.heap.size, i, none⟩ = [.string mn, .string mg, .int .i64 r0, .int .i64 r1, .int .i64 r2, .int .i64 r3, .int .i64 r4, .slice ma ML.length mk, .slice mta MT.length mtk, .bool true][i]? := H02.out.xm.cell; have hzp : ∀ i, w2.cell? ⟨w.heap.size + 1, i, none⟩ = [.string nm, .int .i64 n0, .int .i64 n1, .int .i64 n2, .int .i64 n3, .int .i64 n4, .slice la L.length lk, .slice sa S.length sk, .slice ta T.length tk, .slice ba B.length bk, .slice pa P.length pk, .slice aa A.length ak, .bool wd, .slice da D.length dk, .int .i64 sw, .int .i64 rk, .string ow, .bool dm, .bool pn, .bool lc][i]? := H02.out.xp.cell; have hjm := H02.out.xm.lt; have hjp := H02.out.xp.lt; clear hym hyp hkm hkp)
            | (go_at_call 69; (with_reducible refine (H3.out _ H02.out).mono ?_); rintro e w3 ⟨rfl, hb⟩; have H03 := Lib.hid (H02.out.mono hb); clear hb))
          go_ret
          exact ⟨rfl, by first | exact H03.out.bl | exact H02.out.bl | exact H01.out.bl | exact H0.out.bl⟩
/-- How many taints would rather keep it away. -/
def prefS (m : Mac) (p : Pd) : Nat := (Tn.unborneL p.bers m.tnts 2).length
set_option maxRecDepth 100000 in
set_option maxHeartbeats 4000000 in
theorem sprefers_any (m : Mac) (p : Pd) (w : World) (hM : MacAt w m) (hP : PodAt w p) (hm : lightM m = true) (hp : lightP p = true) :
    Calls Try.prog 32 #[.agg (mrow m).toArray, .agg (prow p).toArray] w fun e w' => e = .returned (.int .i64 (prefS m p)) ∧ Below w.heap.size w w' := by
  have hLm := lightM_iff hm
  have hLp := lightP_iff hp
  have hc3 := fun V (h : MP w w.heap.size m p V) => Tn.prefers_any p.ba m.ta p.bk m.tk p.bers m.tnts V h.pa.bers (ber_sz hLp.bl).1 h.ma.tnts hLm.tl
  obtain ⟨R, hR⟩ : ∃ R, prefS m p = R := ⟨_, rfl⟩
  rw [hR]
  unfold prefS at hR
  rw [hR] at hc3
  obtain ⟨W, hW⟩ : ∃ W, W = (w.alloc (.cells (mrow m).toArray 35)).alloc (.cells (prow p).toArray 47) := ⟨_, rfl⟩
  have H0 := Lib.hid (show MP w w.heap.size m p W by rw [hW]; exact MP.new hM hP)
  clear hM hP hm hp hLm hLp hR
  obtain ⟨mn, mg, r0, r1, r2, r3, r4, ma, mk, ML, mta, mtk, MT, rd⟩ := m
  obtain ⟨nm, n0, n1, n2, n3, n4, la, lk, L, sa, sk, S, ta, tk, T, ba, bk, B, pa, pk, P, aa, ak, A, wd, da, dk, D, sw, rk, ow, dm, pn, lc⟩ := p
  have H3 := Lib.hid hc3
  clear hc3
  replace hW : W = (w.alloc (.cells #[.string mn, .string mg, .int .i64 r0, .int .i64 r1, .int .i64 r2, .int .i64 r3, .int .i64 r4, .slice ma ML.length mk, .slice mta MT.length mtk, .bool rd] 35)).alloc (.cells #[.string nm, .int .i64 n0, .int .i64 n1, .int .i64 n2, .int .i64 n3, .int .i64 n4, .slice la L.length lk, .slice sa S.length sk, .slice ta T.length tk, .slice ba B.length bk, .slice pa P.length pk, .slice aa A.length ak, .bool wd, .slice da D.length dk, .int .i64 sw, .int .i64 rk, .string ow, .bool dm, .bool pn, .bool lc] 47) := hW
  show Calls Try.prog 32 #[.agg #[.string mn, .string mg, .int .i64 r0, .int .i64 r1, .int .i64 r2, .int .i64 r3, .int .i64 r4, .slice ma ML.length mk, .slice mta MT.length mtk, .bool rd], .agg #[.string nm, .int .i64 n0, .int .i64 n1, .int .i64 n2, .int .i64 n3, .int .i64 n4, .slice la L.length lk, .slice sa S.length sk, .slice ta T.length tk, .slice ba B.length bk, .slice pa P.length pk, .slice aa A.length ak, .bool wd, .slice da D.length dk, .int .i64 sw, .int .i64 rk, .string ow, .bool dm, .bool pn, .bool lc]] w _
  go_enter Try.func32, Try.ntmps32
  go_upto_region 1 with (fail)
  rw [← hW]
  clear hW
  have hxm : ∀ i, W.cell? ⟨w.heap.size, i, none⟩ = [.string mn, .string mg, .int .i64 r0, .int .i64 r1, .int .i64 r2, .int .i64 r3, .int .i64 r4, .slice ma ML.length mk, .slice mta MT.length mtk, .bool rd][i]? := H0.out.xm.cell
  have hxp : ∀ i, W.cell? ⟨w.heap.size + 1, i, none⟩ = [.string nm, .int .i64 n0, .int .i64 n1, .int .i64 n2, .int .i64 n3, .int .i64 n4, .slice la L.length lk, .slice sa S.length sk, .slice ta T.length tk, .slice ba B.length bk, .slice pa P.length pk, .slice aa A.length ak, .bool wd, .slice da D.length dk, .int .i64 sw, .int .i64 rk, .string ow, .bool dm, .bool pn, .bool lc][i]? := H0.out.xp.cell
  have hlm := H0.out.xm.lt
  have hlp := H0.out.xp.lt
  go_wp2_with (go_at_call 70; (with_reducible refine (H3.out _ H0.out).mono ?_); rintro e w3 ⟨rfl, hb⟩; have H03 := Lib.hid (H0.out.mono hb); clear hb)
  go_ret
  exact ⟨rfl, H03.out.bl⟩
end Go.Proofs.Ythbpnfpalcgfeaa
