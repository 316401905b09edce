/-
  Suit: Place, Room, Suits.
-/
import Derived.Test.YthbpnfpalcgfeaaGreatSTnt
import Derived.Test.YthbpnfpalcgfeaaGreatNE
import Derived.Test.YthbpnfpalcgfeaaGreatLabNB
import Derived.Test.YthbpnfpalcgfeaaGreatLabNC
import Derived.Test.YthbpnfpalcgfeaaGreatNF
import Derived.Test.YthbpnfpalcgfeaaGreatSuI
import Derived.Test.YthbpnfpalcgfeaaGreatNH
namespace Go.Proofs.YthbpnfpalcgfeaaGreat
open Go.RowKit
set_option linter.unusedVariables false
set_option linter.unusedSimpArgs false

/-- A machine and a pod, each in a block of its own. -/
structure MP (w : World) (X : Nat) (m : Mac) (p : Pd) (V : World) : Prop where
  xm : Box X (mrow m) V
  xp : Box (X + 1) (prow p) V
  ma : MacAt V m
  pa : PodAt V p
  bl : Below w.heap.size w V
theorem MP.mono {w V V' : World} {X : Nat} {m : Mac} {p : Pd} (h : MP w X m p V) (hb : Below V.heap.size V V') : MP w X m p V' :=
  ⟨h.xm.mono hb, h.xp.mono hb, h.ma.mono hb, h.pa.mono hb, h.bl.trans (hb.mono h.bl.size)⟩
theorem MP.new {w : World} {m : Mac} {p : Pd} (hm : MacAt w m) (hp : PodAt w p) : MP w w.heap.size m p ((w.alloc (.cells (mrow m).toArray 37)).alloc (.cells (prow p).toArray 31)) := by
  have h1 : Below w.heap.size w (w.alloc (.cells (mrow m).toArray 37)) := (Below.refl _ w).alloc (Nat.le_refl _) _
  have h2 : Below (w.alloc (.cells (mrow m).toArray 37)).heap.size (w.alloc (.cells (mrow m).toArray 37)) ((w.alloc (.cells (mrow m).toArray 37)).alloc (.cells (prow p).toArray 31)) := (Below.refl _ _).alloc (Nat.le_refl _) _
  refine ⟨(Box.new w (mrow m) 37).mono h2, ?_, (hm.mono h1).mono h2, (hp.mono h1).mono h2, h1.trans (h2.mono h1.size)⟩
  have h9 := Box.new (w.alloc (.cells (mrow m).toArray 37)) (prow p) 31
  rw [World.size_alloc] at h9
  exact h9
/-- Why a pod may not be on a machine. -/
def placeS (m : Mac) (p : Pd) : Int := if m.rd = false then 1 else if Lb.hasP m.labs p.sels = false then 4 else if p.trms.all (Lb.meetP m.labs) = false then 5 else if Tn.allowsB p.bers m.tnts = false then 6 else 0
structure LtM (m : Mac) : Prop where
  nm : m.nm.size ≤ 300
  ll : m.labs.length ≤ 40
  ls : ∀ x ∈ m.labs, x.key.size ≤ 300 ∧ x.val.size ≤ 300
  tl : m.tnts.length ≤ 1000000
theorem lightM_iff {m : Mac} (h : lightM m = true) : LtM m := by
  unfold lightM at h
  simp only [Bool.and_eq_true, decide_eq_true_eq] at h
  refine ⟨h.1.1.1, ((lightL_iff _).1 h.1.2).1, ((lightL_iff _).1 h.1.2).2, ?_⟩
  have h9 := h.2
  unfold lightB at h9
  simp only [Bool.and_eq_true, decide_eq_true_eq] at h9
  omega

set_option maxRecDepth 100000 in
set_option maxHeartbeats 4000000 in
theorem splace_any (m : Mac) (p : Pd) (w : World) (hM : MacAt w m) (hP : PodAt w p) (hm : lightM m = true) (hp : lightP p = true) :
    Calls Tryz.prog 42 #[.agg (mrow m).toArray, .agg (prow p).toArray] w fun e w' => e = .returned (.int .i64 (placeS m p)) ∧ Below w.heap.size w w' := by
  have hLm := lightM_iff hm
  have hLp := lightP_iff hp
  obtain ⟨R, hR⟩ : ∃ R, placeS m p = R := ⟨_, rfl⟩
  rw [hR]
  unfold placeS at hR
  obtain ⟨b1, h1⟩ : ∃ b, Lb.hasP m.labs p.sels = b := ⟨_, rfl⟩
  obtain ⟨b2, h2⟩ : ∃ b, p.trms.all (Lb.meetP m.labs) = b := ⟨_, rfl⟩
  obtain ⟨b3, h3⟩ : ∃ b, Tn.allowsB p.bers m.tnts = b := ⟨_, rfl⟩
  rw [h1, h2, h3] at hR
  have hc1 := fun V (h : MP w w.heap.size m p V) => Lb.has_any m.la p.sa m.lk p.sk m.labs p.sels V h.ma.labs h.pa.sels (by have := hLm.ll; omega) (by have := ((lightL_iff _).1 hLp.l1).1; omega)
  have hc2 := fun V (h : MP w w.heap.size m p V) => Lb.all_any2 m.la p.ta m.lk p.tk m.labs p.trms V h.ma.labs h.pa.trms h.pa.trmA (by have := hLm.ll; omega) (by have := hLp.tl; omega) (fun t ht => by have := (Lb.lightTm_ok (hLp.tt t ht)).1; omega) (fun x hx => by have := (hLm.ls x hx).2; omega) (fun t ht v hv => by have := (Lb.lightTm_ok (hLp.tt t ht)).2.2 v hv; omega)
  have hc3 := fun V (h : MP w w.heap.size m p V) => Tn.allows_any p.ba m.ta p.bk m.tk p.bers m.tnts V h.pa.bers (ber_sz hLp.bl).1 h.ma.tnts hLm.tl
  rw [h1] at hc1
  rw [h2] at hc2
  rw [h3] at hc3
  obtain ⟨W, hW⟩ : ∃ W, W = (w.alloc (.cells (mrow m).toArray 37)).alloc (.cells (prow p).toArray 31) := ⟨_, rfl⟩
  have H0 := Lib.hid (show MP w w.heap.size m p W by rw [hW]; exact MP.new hM hP)
  clear h1 h2 h3 hM hP hm hp hLm hLp
  obtain ⟨mn, mg, r0, r1, r2, r3, r4, ma, mk, ML, mta, mtk, MT, rd⟩ := m
  obtain ⟨nm, n0, n1, n2, n3, n4, la, lk, L, sa, sk, S, ta, tk, T, ba, bk, B, pa, pk, P, aa, ak, A, wd, da, dk, D, sw, rk, ow, dm, pn, lc⟩ := p
  have H1 := Lib.hid hc1
  have H2 := Lib.hid hc2
  have H3 := Lib.hid hc3
  clear hc1 hc2 hc3
  replace hW : W = (w.alloc (.cells #[.string mn, .string mg, .int .i64 r0, .int .i64 r1, .int .i64 r2, .int .i64 r3, .int .i64 r4, .slice ma ML.length mk, .slice mta MT.length mtk, .bool rd] 37)).alloc (.cells #[.string nm, .int .i64 n0, .int .i64 n1, .int .i64 n2, .int .i64 n3, .int .i64 n4, .slice la L.length lk, .slice sa S.length sk, .slice ta T.length tk, .slice ba B.length bk, .slice pa P.length pk, .slice aa A.length ak, .bool wd, .slice da D.length dk, .int .i64 sw, .int .i64 rk, .string ow, .bool dm, .bool pn, .bool lc] 31) := hW
  show Calls Tryz.prog 42 #[.agg #[.string mn, .string mg, .int .i64 r0, .int .i64 r1, .int .i64 r2, .int .i64 r3, .int .i64 r4, .slice ma ML.length mk, .slice mta MT.length mtk, .bool rd], .agg #[.string nm, .int .i64 n0, .int .i64 n1, .int .i64 n2, .int .i64 n3, .int .i64 n4, .slice la L.length lk, .slice sa S.length sk, .slice ta T.length tk, .slice ba B.length bk, .slice pa P.length pk, .slice aa A.length ak, .bool wd, .slice da D.length dk, .int .i64 sw, .int .i64 rk, .string ow, .bool dm, .bool pn, .bool lc]] w _
  dsimp only at hR
  cases rd with
  | false =>
    obtain rfl : R = 1 := by rw [← hR]; rfl
    clear hR
    go_enter Tryz.func42, Tryz.ntmps42
    go_upto_region 1 with (fail)
    rw [← hW]
    clear hW
    have hxm : ∀ i, W.cell? ⟨w.heap.size, i, none⟩ = [.string mn, .string mg, .int .i64 r0, .int .i64 r1, .int .i64 r2, .int .i64 r3, .int .i64 r4, .slice ma ML.length mk, .slice mta MT.length mtk, .bool false][i]? := H0.out.xm.cell
    have hxp : ∀ i, W.cell? ⟨w.heap.size + 1, i, none⟩ = [.string nm, .int .i64 n0, .int .i64 n1, .int .i64 n2, .int .i64 n3, .int .i64 n4, .slice la L.length lk, .slice sa S.length sk, .slice ta T.length tk, .slice ba B.length bk, .slice pa P.length pk, .slice aa A.length ak, .bool wd, .slice da D.length dk, .int .i64 sw, .int .i64 rk, .string ow, .bool dm, .bool pn, .bool lc][i]? := H0.out.xp.cell
    have hlm := H0.out.xm.lt
    have hlp := H0.out.xp.lt
    go_wp2_with (first
      | (go_at_call 63; (with_reducible refine (H1.out _ H0.out).mono ?_); rintro e w1 ⟨rfl, hb⟩; have H01 := Lib.hid (H0.out.mono hb); clear hb; have hym : ∀ i, w1.cell? ⟨w.heap.size, i, none⟩ = [.string mn, .string mg, .int .i64 r0, .int .i64 r1, .int .i64 r2, .int .i64 r3, .int .i64 r4, .slice ma ML.length mk, .slice mta MT.length mtk, .bool false][i]? := H01.out.xm.cell; have hyp : ∀ i, w1.cell? ⟨w.heap.size + 1, i, none⟩ = [.string nm, .int .i64 n0, .int .i64 n1, .int .i64 n2, .int .i64 n3, .int .i64 n4, .slice la L.length lk, .slice sa S.length sk, .slice ta T.length tk, .slice ba B.length bk, .slice pa P.length pk, .slice aa A.length ak, .bool wd, .slice da D.length dk, .int .i64 sw, .int .i64 rk, .string ow, .bool dm, .bool pn, .bool lc][i]? := H01.out.xp.cell; have hkm := H01.out.xm.lt; have hkp := H01.out.xp.lt; clear hxm hxp hlm hlp)
      | (go_at_call 64; (with_reducible refine (H2.out _ H01.out).mono ?_); rintro e w2 ⟨rfl, hb⟩; have H02 := Lib.hid (H01.out.mono hb); clear hb; have hzm : ∀ i, w2.cell? ⟨w.heap.size, i, none⟩ = [.string mn, .string mg, .int .i64 r0, .int .i64 r1, .int .i64 r2, .int .i64 r3, .int .i64 r4, .slice ma ML.length mk, .slice mta MT.length mtk, .bool false][i]? := H02.out.xm.cell; have hzp : ∀ i, w2.cell? ⟨w.heap.size + 1, i, none⟩ = [.string nm, .int .i64 n0, .int .i64 n1, .int .i64 n2, .int .i64 n3, .int .i64 n4, .slice la L.length lk, .slice sa S.length sk, .slice ta T.length tk, .slice ba B.length bk, .slice pa P.length pk, .slice aa A.length ak, .bool wd, .slice da D.length dk, .int .i64 sw, .int .i64 rk, .string ow, .bool dm, .bool pn, .bool lc][i]? := H02.out.xp.cell; have hjm := H02.out.xm.lt; have hjp := H02.out.xp.lt; clear hym hyp hkm hkp)
      | (go_at_call 65; (with_reducible refine (H3.out _ H02.out).mono ?_); rintro e w3 ⟨rfl, hb⟩; have H03 := Lib.hid (H02.out.mono hb); clear hb))
    go_ret
    exact ⟨rfl, by first | exact H03.out.bl | exact H02.out.bl | exact H01.out.bl | exact H0.out.bl⟩
  | true =>
    cases b1 with
    | false =>
      obtain rfl : R = 4 := by rw [← hR]; rfl
      clear hR
      go_enter Tryz.func42, Tryz.ntmps42
      go_upto_region 1 with (fail)
      rw [← hW]
      clear hW
      have hxm : ∀ i, W.cell? ⟨w.heap.size, i, none⟩ = [.string mn, .string mg, .int .i64 r0, .int .i64 r1, .int .i64 r2, .int .i64 r3, .int .i64 r4, .slice ma ML.length mk, .slice mta MT.length mtk, .bool true][i]? := H0.out.xm.cell
      have hxp : ∀ i, W.cell? ⟨w.heap.size + 1, i, none⟩ = [.string nm, .int .i64 n0, .int .i64 n1, .int .i64 n2, .int .i64 n3, .int .i64 n4, .slice la L.length lk, .slice sa S.length sk, .slice ta T.length tk, .slice ba B.length bk, .slice pa P.length pk, .slice aa A.length ak, .bool wd, .slice da D.length dk, .int .i64 sw, .int .i64 rk, .string ow, .bool dm, .bool pn, .bool lc][i]? := H0.out.xp.cell
      have hlm := H0.out.xm.lt
      have hlp := H0.out.xp.lt
      go_wp2_with (first
        | (go_at_call 63; (with_reducible refine (H1.out _ H0.out).mono ?_); rintro e w1 ⟨rfl, hb⟩; have H01 := Lib.hid (H0.out.mono hb); clear hb; have hym : ∀ i, w1.cell? ⟨w.heap.size, i, none⟩ = [.string mn, .string mg, .int .i64 r0, .int .i64 r1, .int .i64 r2, .int .i64 r3, .int .i64 r4, .slice ma ML.length mk, .slice mta MT.length mtk, .bool true][i]? := H01.out.xm.cell; have hyp : ∀ i, w1.cell? ⟨w.heap.size + 1, i, none⟩ = [.string nm, .int .i64 n0, .int .i64 n1, .int .i64 n2, .int .i64 n3, .int .i64 n4, .slice la L.length lk, .slice sa S.length sk, .slice ta T.length tk, .slice ba B.length bk, .slice pa P.length pk, .slice aa A.length ak, .bool wd, .slice da D.length dk, .int .i64 sw, .int .i64 rk, .string ow, .bool dm, .bool pn, .bool lc][i]? := H01.out.xp.cell; have hkm := H01.out.xm.lt; have hkp := H01.out.xp.lt; clear hxm hxp hlm hlp)
        | (go_at_call 64; (with_reducible refine (H2.out _ H01.out).mono ?_); rintro e w2 ⟨rfl, hb⟩; have H02 := Lib.hid (H01.out.mono hb); clear hb; have hzm : ∀ i, w2.cell? ⟨w.heap.size, i, none⟩ = [.string mn, .string mg, .int .i64 r0, .int .i64 r1, .int .i64 r2, .int .i64 r3, .int .i64 r4, .slice ma ML.length mk, .slice mta MT.length mtk, .bool true][i]? := H02.out.xm.cell; have hzp : ∀ i, w2.cell? ⟨w.heap.size + 1, i, none⟩ = [.string nm, .int .i64 n0, .int .i64 n1, .int .i64 n2, .int .i64 n3, .int .i64 n4, .slice la L.length lk, .slice sa S.length sk, .slice ta T.length tk, .slice ba B.length bk, .slice pa P.length pk, .slice aa A.length ak, .bool wd, .slice da D.length dk, .int .i64 sw, .int .i64 rk, .string ow, .bool dm, .bool pn, .bool lc][i]? := H02.out.xp.cell; have hjm := H02.out.xm.lt; have hjp := H02.out.xp.lt; clear hym hyp hkm hkp)
        | (go_at_call 65; (with_reducible refine (H3.out _ H02.out).mono ?_); rintro e w3 ⟨rfl, hb⟩; have H03 := Lib.hid (H02.out.mono hb); clear hb))
      go_ret
      exact ⟨rfl, by first | exact H03.out.bl | exact H02.out.bl | exact H01.out.bl | exact H0.out.bl⟩
    | true =>
      cases b2 with
      | false =>
        obtain rfl : R = 5 := by rw [← hR]; rfl
        clear hR
        go_enter Tryz.func42, Tryz.ntmps42
        go_upto_region 1 with (fail)
        rw [← hW]
        clear hW
        have hxm : ∀ i, W.cell? ⟨w.heap.size, i, none⟩ = [.string mn, .string mg, .int .i64 r0, .int .i64 r1, .int .i64 r2, .int .i64 r3, .int .i64 r4, .slice ma ML.length mk, .slice mta MT.length mtk, .bool true][i]? := H0.out.xm.cell
        have hxp : ∀ i, W.cell? ⟨w.heap.size + 1, i, none⟩ = [.string nm, .int .i64 n0, .int .i64 n1, .int .i64 n2, .int .i64 n3, .int .i64 n4, .slice la L.length lk, .slice sa S.length sk, .slice ta T.length tk, .slice ba B.length bk, .slice pa P.length pk, .slice aa A.length ak, .bool wd, .slice da D.length dk, .int .i64 sw, .int .i64 rk, .string ow, .bool dm, .bool pn, .bool lc][i]? := H0.out.xp.cell
        have hlm := H0.out.xm.lt
        have hlp := H0.out.xp.lt
        go_wp2_with (first
          | (go_at_call 63; (with_reducible refine (H1.out _ H0.out).mono ?_); rintro e w1 ⟨rfl, hb⟩; have H01 := Lib.hid (H0.out.mono hb); clear hb; have hym : ∀ i, w1.cell? ⟨w.heap.size, i, none⟩ = [.string mn, .string mg, .int .i64 r0, .int .i64 r1, .int .i64 r2, .int .i64 r3, .int .i64 r4, .slice ma ML.length mk, .slice mta MT.length mtk, .bool true][i]? := H01.out.xm.cell; have hyp : ∀ i, w1.cell? ⟨w.heap.size + 1, i, none⟩ = [.string nm, .int .i64 n0, .int .i64 n1, .int .i64 n2, .int .i64 n3, .int .i64 n4, .slice la L.length lk, .slice sa S.length sk, .slice ta T.length tk, .slice ba B.length bk, .slice pa P.length pk, .slice aa A.length ak, .bool wd, .slice da D.length dk, .int .i64 sw, .int .i64 rk, .string ow, .bool dm, .bool pn, .bool lc][i]? := H01.out.xp.cell; have hkm := H01.out.xm.lt; have hkp := H01.out.xp.lt; clear hxm hxp hlm hlp)
          | (go_at_call 64; (with_reducible refine (H2.out _ H01.out).mono ?_); rintro e w2 ⟨rfl, hb⟩; have H02 := Lib.hid (H01.out.mono hb); clear hb; have hzm : ∀ i, w2.cell? ⟨w.heap.size, i, none⟩ = [.string mn, .string mg, .int .i64 r0, .int .i64 r1, .int .i64 r2, .int .i64 r3, .int .i64 r4, .slice ma ML.length mk, .slice mta MT.length mtk, .bool true][i]? := H02.out.xm.cell; have hzp : ∀ i, w2.cell? ⟨w.heap.size + 1, i, none⟩ = [.string nm, .int .i64 n0, .int .i64 n1, .int .i64 n2, .int .i64 n3, .int .i64 n4, .slice la L.length lk, .slice sa S.length sk, .slice ta T.length tk, .slice ba B.length bk, .slice pa P.length pk, .slice aa A.length ak, .bool wd, .slice da D.length dk, .int .i64 sw, .int .i64 rk, .string ow, .bool dm, .bool pn, .bool lc][i]? := H02.out.xp.cell; have hjm := H02.out.xm.lt; have hjp := H02.out.xp.lt; clear hym hyp hkm hkp)
          | (go_at_call 65; (with_reducible refine (H3.out _ H02.out).mono ?_); rintro e w3 ⟨rfl, hb⟩; have H03 := Lib.hid (H02.out.mono hb); clear hb))
        go_ret
        exact ⟨rfl, by first | exact H03.out.bl | exact H02.out.bl | exact H01.out.bl | exact H0.out.bl⟩
      | true =>
        cases b3 with
        | false =>
          obtain rfl : R = 6 := by rw [← hR]; rfl
          clear hR
          go_enter Tryz.func42, Tryz.ntmps42
          go_upto_region 1 with (fail)
          rw [← hW]
          clear hW
          have hxm : ∀ i, W.cell? ⟨w.heap.size, i, none⟩ = [.string mn, .string mg, .int .i64 r0, .int .i64 r1, .int .i64 r2, .int .i64 r3, .int .i64 r4, .slice ma ML.length mk, .slice mta MT.length mtk, .bool true][i]? := H0.out.xm.cell
          have hxp : ∀ i, W.cell? ⟨w.heap.size + 1, i, none⟩ = [.string nm, .int .i64 n0, .int .i64 n1, .int .i64 n2, .int .i64 n3, .int .i64 n4, .slice la L.length lk, .slice sa S.length sk, .slice ta T.length tk, .slice ba B.length bk, .slice pa P.length pk, .slice aa A.length ak, .bool wd, .slice da D.length dk, .int .i64 sw, .int .i64 rk, .string ow, .bool dm, .bool pn, .bool lc][i]? := H0.out.xp.cell
          have hlm := H0.out.xm.lt
          have hlp := H0.out.xp.lt
          go_wp2_with (first
            | (go_at_call 63; (with_reducible refine (H1.out _ H0.out).mono ?_); rintro e w1 ⟨rfl, hb⟩; have H01 := Lib.hid (H0.out.mono hb); clear hb; have hym : ∀ i, w1.cell? ⟨w.heap.size, i, none⟩ = [.string mn, .string mg, .int .i64 r0, .int .i64 r1, .int .i64 r2, .int .i64 r3, .int .i64 r4, .slice ma ML.length mk, .slice mta MT.length mtk, .bool true][i]? := H01.out.xm.cell; have hyp : ∀ i, w1.cell? ⟨w.heap.size + 1, i, none⟩ = [.string nm, .int .i64 n0, .int .i64 n1, .int .i64 n2, .int .i64 n3, .int .i64 n4, .slice la L.length lk, .slice sa S.length sk, .slice ta T.length tk, .slice ba B.length bk, .slice pa P.length pk, .slice aa A.length ak, .bool wd, .slice da D.length dk, .int .i64 sw, .int .i64 rk, .string ow, .bool dm, .bool pn, .bool lc][i]? := H01.out.xp.cell; have hkm := H01.out.xm.lt; have hkp := H01.out.xp.lt; clear hxm hxp hlm hlp)
            | (go_at_call 64; (with_reducible refine (H2.out _ H01.out).mono ?_); rintro e w2 ⟨rfl, hb⟩; have H02 := Lib.hid (H01.out.mono hb); clear hb; have hzm : ∀ i, w2.cell? ⟨w.heap.size, i, none⟩ = [.string mn, .string mg, .int .i64 r0, .int .i64 r1, .int .i64 r2, .int .i64 r3, .int .i64 r4, .slice ma ML.length mk, .slice mta MT.length mtk, .bool true][i]? := H02.out.xm.cell; have hzp : ∀ i, w2.cell? ⟨w.heap.size + 1, i, none⟩ = [.string nm, .int .i64 n0, .int .i64 n1, .int .i64 n2, .int .i64 n3, .int .i64 n4, .slice la L.length lk, .slice sa S.length sk, .slice ta T.length tk, .slice ba B.length bk, .slice pa P.length pk, .slice aa A.length ak, .bool wd, .slice da D.length dk, .int .i64 sw, .int .i64 rk, .string ow, .bool dm, .bool pn, .bool lc][i]? := H02.out.xp.cell; have hjm := H02.out.xm.lt; have hjp := H02.out.xp.lt; clear hym hyp hkm hkp)
            | (go_at_call 65; (with_reducible refine (H3.out _ H02.out).mono ?_); rintro e w3 ⟨rfl, hb⟩; have H03 := Lib.hid (H02.out.mono hb); clear hb))
          go_ret
          exact ⟨rfl, by first | exact H03.out.bl | exact H02.out.bl | exact H01.out.bl | exact H0.out.bl⟩
        | true =>
          obtain rfl : R = 0 := by rw [← hR]; rfl
          clear hR
          go_enter Tryz.func42, Tryz.ntmps42
          go_upto_region 1 with (fail)
          rw [← hW]
          clear hW
          have hxm : ∀ i, W.cell? ⟨w.heap.size, i, none⟩ = [.string mn, .string mg, .int .i64 r0, .int .i64 r1, .int .i64 r2, .int .i64 r3, .int .i64 r4, .slice ma ML.length mk, .slice mta MT.length mtk, .bool true][i]? := H0.out.xm.cell
          have hxp : ∀ i, W.cell? ⟨w.heap.size + 1, i, none⟩ = [.string nm, .int .i64 n0, .int .i64 n1, .int .i64 n2, .int .i64 n3, .int .i64 n4, .slice la L.length lk, .slice sa S.length sk, .slice ta T.length tk, .slice ba B.length bk, .slice pa P.length pk, .slice aa A.length ak, .bool wd, .slice da D.length dk, .int .i64 sw, .int .i64 rk, .string ow, .bool dm, .bool pn, .bool lc][i]? := H0.out.xp.cell
          have hlm := H0.out.xm.lt
          have hlp := H0.out.xp.lt
          go_wp2_with (first
            | (go_at_call 63; (with_reducible refine (H1.out _ H0.out).mono ?_); rintro e w1 ⟨rfl, hb⟩; have H01 := Lib.hid (H0.out.mono hb); clear hb; have hym : ∀ i, w1.cell? ⟨w.heap.size, i, none⟩ = [.string mn, .string mg, .int .i64 r0, .int .i64 r1, .int .i64 r2, .int .i64 r3, .int .i64 r4, .slice ma ML.length mk, .slice mta MT.length mtk, .bool true][i]? := H01.out.xm.cell; have hyp : ∀ i, w1.cell? ⟨w.heap.size + 1, i, none⟩ = [.string nm, .int .i64 n0, .int .i64 n1, .int .i64 n2, .int .i64 n3, .int .i64 n4, .slice la L.length lk, .slice sa S.length sk, .slice ta T.length tk, .slice ba B.length bk, .slice pa P.length pk, .slice aa A.length ak, .bool wd, .slice da D.length dk, .int .i64 sw, .int .i64 rk, .string ow, .bool dm, .bool pn, .bool lc][i]? := H01.out.xp.cell; have hkm := H01.out.xm.lt; have hkp := H01.out.xp.lt; clear hxm hxp hlm hlp)
            | (go_at_call 64; (with_reducible refine (H2.out _ H01.out).mono ?_); rintro e w2 ⟨rfl, hb⟩; have H02 := Lib.hid (H01.out.mono hb); clear hb; have hzm : ∀ i, w2.cell? ⟨w.heap.size, i, none⟩ = [.string mn, .string mg, .int .i64 r0, .int .i64 r1, .int .i64 r2, .int .i64 r3, .int .i64 r4, .slice ma ML.length mk, .slice mta MT.length mtk, .bool true][i]? := H02.out.xm.cell; have hzp : ∀ i, w2.cell? ⟨w.heap.size + 1, i, none⟩ = [.string nm, .int .i64 n0, .int .i64 n1, .int .i64 n2, .int .i64 n3, .int .i64 n4, .slice la L.length lk, .slice sa S.length sk, .slice ta T.length tk, .slice ba B.length bk, .slice pa P.length pk, .slice aa A.length ak, .bool wd, .slice da D.length dk, .int .i64 sw, .int .i64 rk, .string ow, .bool dm, .bool pn, .bool lc][i]? := H02.out.xp.cell; have hjm := H02.out.xm.lt; have hjp := H02.out.xp.lt; clear hym hyp hkm hkp)
            | (go_at_call 65; (with_reducible refine (H3.out _ H02.out).mono ?_); rintro e w3 ⟨rfl, hb⟩; have H03 := Lib.hid (H02.out.mono hb); clear hb))
          go_ret
          exact ⟨rfl, by first | exact H03.out.bl | exact H02.out.bl | exact H01.out.bl | exact H0.out.bl⟩
/-- How many taints would rather keep it away. -/
def prefS (m : Mac) (p : Pd) : Nat := (Tn.unborneL p.bers m.tnts 2).length
theorem Tryz.info55 : (Tryz.prog.info? 55).map (fun i => (i.zero, i.size, i.bytes)) = some (some (.agg #[.string ⟨#[]⟩, .int .i64 0, .int .i64 0, .int .i64 0, .int .i64 0, .int .i64 0, .slice none 0 0, .slice none 0 0, .slice none 0 0, .slice none 0 0, .slice none 0 0, .slice none 0 0, .bool false, .slice none 0 0, .int .i64 0, .int .i64 0, .string ⟨#[]⟩, .bool false, .bool false, .bool false, .string ⟨#[]⟩]), 21, 288) := by kernel_rfl
/-- The pods on a machine but one. -/
def othB (mm nm : ByteArray) (b : Bd) : Bool := decide (b.on = mm) && !decide (b.p.nm = nm)
def othL (bs : List Bd) (mm nm : ByteArray) : List Bd := bs.filter (othB mm nm)
theorem othL_next {bs : List Bd} {k : Nat} {b : Bd} (h : bs[k]? = some b) (mm nm : ByteArray) : othL (bs.take (k + 1)) mm nm = othL (bs.take k) mm nm ++ (if othB mm nm b = true then [b] else []) := by
  unfold othL
  rw [List.take_add_one, h, List.filter_append]
  congr 1
  show List.filter (othB mm nm) [b] = _
  rw [List.filter_cons]
  split <;> rfl
theorem othL_len (bs : List Bd) (mm nm : ByteArray) : (othL bs mm nm).length ≤ bs.length := List.length_filter_le _ _
def GivesB (w : World) (L : List Bd) (e : Ending) (w' : World) : Prop := (∃ v, e = .returned v ∧ w'.ownsRow w.heap.size 55 21 v L.length (L.flatMap brow)) ∧ Below w.heap.size w w'
theorem brow_one (b : Bd) : ∀ u ∈ brow b, u.oneCell' = true := by
  intro u hu
  unfold brow at hu
  rw [List.mem_append] at hu
  rcases hu with hu | hu
  · exact prow_one b.p u hu
  · rw [List.mem_singleton] at hu
    subst hu
    rfl
theorem list21 {l : List Value} (h : l.length = 21) : ∃ x0 x1 x2 x3 x4 x5 x6 x7 x8 x9 y0 y1 y2 y3 y4 y5 y6 y7 y8 y9 z0, l = [x0, x1, x2, x3, x4, x5, x6, x7, x8, x9, y0, y1, y2, y3, y4, y5, y6, y7, y8, y9, z0] := by
  match l, h with
  | [x0, x1, x2, x3, x4, x5, x6, x7, x8, x9, y0, y1, y2, y3, y4, y5, y6, y7, y8, y9, z0], _ => exact ⟨x0, x1, x2, x3, x4, x5, x6, x7, x8, x9, y0, y1, y2, y3, y4, y5, y6, y7, y8, y9, z0, rfl⟩
set_option maxRecDepth 100000 in
set_option maxHeartbeats 4000000 in
theorem swithout_any (a : Option Addr) (ka : Nat) (bs : List Bd) (mm nn : ByteArray) (w : World) (hF : BndL w a bs) (hl : bs.length ≤ 1000000) :
    Calls Tryz.prog 66 #[.slice a bs.length ka, .string mm, .string nn] w (GivesB w (othL bs mm nn)) := by
  obtain ⟨n, hn⟩ : ∃ n, bs.length = n := ⟨_, rfl⟩
  have HN := Lib.hid hn
  have HF := Lib.hid hF
  rw [hn] at hl ⊢
  clear hn hF
  obtain ⟨i0, hi, hz0, hz1, hz2⟩ := info_parts Tryz.info55
  have Hi := Lib.hid hi
  have Hz0 := Lib.hid hz0
  have Hz1 := Lib.hid hz1
  have Hz2 := Lib.hid hz2
  clear hi hz0 hz1 hz2
  go_enter Tryz.func66, Tryz.ntmps66
  go_wp2
  go_loopw [7, 11] (fun vo vi wr => ∃ (k : Nat) (Q : List Bd), k ≤ n ∧ vi = .int .i64 k ∧ Q = othL (bs.take k) mm nn ∧ Q.length ≤ k ∧ wr.ownsRow w.heap.size 55 21 vo Q.length (Q.flatMap brow) ∧ Below w.heap.size w wr) (fun _ vi _ => n - (intOf vi).toNat)
  case atStart => exact ⟨0, [], Nat.zero_le _, rfl, rfl, Nat.le_refl _, World.ownsRow_nil _ _ _ _, by (repeat' (first | with_reducible exact Below.refl _ _ | with_reducible assumption | with_reducible refine Below.drew ?_ | with_reducible refine below_drewN' ?_ _ | with_reducible refine Below.alloc ?_ ?_ _ | with_reducible refine Below.setCell ?_ ?_ _ | with_reducible refine below_step (by assumption) ?_ ?_ | omega | (simp; done) | (simp; omega)))⟩
  case round =>
    obtain ⟨k, Q, hk, rfl, hE, hLk, hO, hB⟩ := hrel
    have HE := Lib.hid hE
    have HB := Lib.hid hB
    have HO := Lib.hid hO
    have hbz := hB.size
    obtain ⟨ao, ko, rfl⟩ := own_sl hO
    by_cases hlt : k < n
    · obtain ⟨m, hm⟩ := mem_at (l := bs) (k := k) (by rw [HN.out]; exact hlt)
      obtain ⟨b, o, rfl, hb, hc⟩ := (HF.out.mono hB) (by rw [HN.out]; omega)
      have HRg := Lib.hid (show wr.rangeAt b (o + k * 21) (brow m) from fun j v hj => by rw [hc k m hm j (by have := (List.getElem?_eq_some_iff.1 hj).1; exact this)]; exact hj)
      have c20 : wr.cell? ⟨b, o + k * 21 + 20, none⟩ = some (.string m.on) := hc k m hm 20 (by decide)
      have c0 : wr.cell? ⟨b, o + k * 21, none⟩ = some (.string m.p.nm) := hc k m hm 0 (by decide)
      have hnx := othL_next hm mm nn
      obtain ⟨p, on⟩ := m
      obtain ⟨nm, hnm⟩ : ∃ nm, p.nm = nm := ⟨_, rfl⟩
      dsimp only at c20 c0
      rw [hnm] at c0
      have hob : othB mm nn ⟨p, on⟩ = (decide (on = mm) && !decide (nm = nn)) := by rw [← hnm]; rfl
      rw [hob] at hnx
      clear hnm hob
      by_cases ho : on = mm
      · have q := str_yes ho
        by_cases hx : nm = nn
        · have q2 := str_yes hx
          rw [decide_eq_true ho, decide_eq_true hx, if_neg (by decide), List.append_nil, ← hE] at hnx
          have HNx := Lib.hid hnx.symm
          clear hE hO hB hc hm hnx ho hx
          go_wp2
          go_roundw
          case rel => exact ⟨k + 1, Q, by omega, by go_num, HNx.out, by omega, HO.out, HB.out⟩
          case measure => simp [intOf]; omega
        · have q2 := str_no hx
          rw [decide_eq_true ho, decide_eq_false hx, if_pos (by decide), ← hE] at hnx
          have HNx := Lib.hid hnx
          obtain ⟨pb, hpb⟩ : ∃ pb, (⟨p, on⟩ : Bd) = pb := ⟨_, rfl⟩
          rw [hpb] at HNx HRg
          obtain ⟨rw', hrw⟩ : ∃ r, brow pb = r := ⟨_, rfl⟩
          have HP := Lib.hid hrw
          have hlen : rw'.length = 21 := by rw [← hrw]; rfl
          rw [hrw] at HRg
          clear hE hO hB hc hm hnx ho hx hpb hrw
          obtain ⟨x0, x1, x2, x3, x4, x5, x6, x7, x8, x9, y0, y1, y2, y3, y4, y5, y6, y7, y8, y9, z0, rfl⟩ := list21 hlen
          clear hlen
          go_wp2_with (first
            | ((with_reducible refine at_load (ty := 55) ?_); refine load_cells rfl 55 (.tmp 34) rfl b (o + k * 21) rfl [x0, x1, x2, x3, x4, x5, x6, x7, x8, x9, y0, y1, y2, y3, y4, y5, y6, y7, y8, y9, z0] _ Tryz.underlying55 rfl (by kernel_rfl) HRg.out ?_)
            | (at_builtin; refine wpList_append_src rfl (.tmp 31) (.tmp 36) 23 rfl w.heap.size 55 i0 _ 21 288 Tryz.underlying23 Hi.out Hz0.out Hz1.out Hz2.out rfl (by decide) _ Q.length (Q.flatMap brow) rfl (HO.out.alloc _) (some ⟨wr.heap.size, 0, none⟩) 1 1 [x0, x1, x2, x3, x4, x5, x6, x7, x8, x9, y0, y1, y2, y3, y4, y5, y6, y7, y8, y9, z0] rfl rfl (fun q e => by injection e with e; rw [← e]; exact news_at _ _ _) (fun e => by cases e) (HP.out ▸ brow_one pb) (by unfold maxLen; omega) (by omega) (by simp; omega) ?_; intro v6 w6 hown6 hgrow6; obtain ⟨a6, k6, rfl⟩ := own_sl hown6; have HB6 := Lib.hid (own_below (HO.out.alloc _) (HB.out.alloc hbz _) (by simp; omega) hgrow6); have HO6 := Lib.hid hown6; clear hown6 hgrow6))
          go_roundw
          case rel =>
            refine ⟨k + 1, Q ++ [pb], by omega, by go_num, HNx.out.symm, by rw [List.length_append]; show Q.length + 1 ≤ _; omega, ?_, HB6.out⟩
            rw [List.length_append, List.flatMap_append]
            have h9 := HO6.out
            rw [← HP.out] at h9
            simpa using h9
          case measure => simp [intOf]; omega
      · have q := str_no ho
        rw [decide_eq_false ho, if_neg (by simp), List.append_nil, ← hE] at hnx
        have HNx := Lib.hid hnx.symm
        clear hE hO hB hc hm hnx ho
        go_wp2
        go_roundw
        case rel => exact ⟨k + 1, Q, by omega, by go_num, HNx.out, by omega, HO.out, HB.out⟩
        case measure => simp [intOf]; omega
    · obtain rfl : k = n := by omega
      have hL : Q = othL bs mm nn := by rw [hE, List.take_of_length_le (by rw [HN.out]; exact Nat.le_refl _)]
      have HL := Lib.hid hL
      clear hE hO hB hL
      go_wp2
      refine bodyPost_ret (v := .slice ao Q.length ko) (by simp [results, Tryz.results66, go_sem]) rfl ⟨⟨_, rfl, by rw [← HL.out]; exact HO.out⟩, HB.out⟩
def prtIn (PP : List Int) (x : Int) : Bool := PP.any (Lb.intB x)
def prtsIn (PP : List Int) (b : Bd) : Bool := b.p.prts.any (prtIn PP)
/-- Some port of theirs is among these. -/
def shareQ (L : List Bd) (PP : List Int) : Bool := L.any (prtsIn PP)
theorem any_yes {α : Type} {P : α → Bool} {l : List α} {k : Nat} {x : α} (h : l[k]? = some x) (hp : P x = true) : l.any P = true := List.any_eq_true.2 ⟨x, List.mem_of_getElem? h, hp⟩
theorem any_all {α : Type} {P : α → Bool} {l : List α} {n : Nat} (hl : l.length = n) (h : (l.take n).any P = false) : l.any P = false := by rw [← hl, List.take_length] at h; exact h
theorem any_next {α : Type} {P : α → Bool} {l : List α} {k : Nat} {x : α} (h : l[k]? = some x) (hp : P x = false) (ha : (l.take k).any P = false) : (l.take (k + 1)).any P = false := by
  rw [take_at h, List.any_append, ha]; simp [hp]

set_option maxRecDepth 100000 in
set_option maxHeartbeats 4000000 in
theorem sshares_any (c : Option Addr) (kc : Nat) (Bs : List Bd) (q : Pd) (w : World) (hG : BndL w c Bs) (hA : ∀ b ∈ Bs, PodAt w b.p) (hQ : PodAt w q) (hl : Bs.length ≤ 1000000) (hq : q.prts.length ≤ 1000000) (hb : ∀ b ∈ Bs, b.p.prts.length ≤ 1000000) :
    Calls Tryz.prog 69 #[.slice c Bs.length kc, .agg (prow q).toArray] w fun e w' => e = .returned (.bool (shareQ Bs q.prts)) ∧ Below w.heap.size w w' := by
  obtain ⟨R, hR⟩ : ∃ R, shareQ Bs q.prts = R := ⟨_, rfl⟩
  rw [hR]
  obtain ⟨W, hW⟩ : ∃ W, W = w.alloc (.cells (prow q).toArray 31) := ⟨_, rfl⟩
  have HW := Lib.hid (show Below w.heap.size w W by rw [hW]; exact (Below.refl _ w).alloc (Nat.le_refl _) _)
  have HX := Lib.hid (show Box w.heap.size (prow q) W by rw [hW]; exact Box.new w (prow q) 31)
  obtain ⟨PP, hPP⟩ : ∃ PP, q.prts = PP := ⟨_, rfl⟩
  obtain ⟨pp, hpp⟩ : ∃ pp, PP.length = pp := ⟨_, rfl⟩
  obtain ⟨qa, hqa⟩ : ∃ a, q.pa = a := ⟨_, rfl⟩
  obtain ⟨qk, hqk⟩ : ∃ a, q.pk = a := ⟨_, rfl⟩
  have HD := Lib.hid (show ∀ V, Below W.heap.size W V → V.cell? ⟨w.heap.size, 10, none⟩ = some (.slice qa pp qk) from fun V hV => by
    rw [(HX.out.mono hV).cell 10, ← hpp, ← hPP, ← hqa, ← hqk]
    rfl)
  have HCn := Lib.hid (show ∀ (x : Int) V, Below W.heap.size W V → Calls Tryz.prog 98 #[.slice qa pp qk, .int .i64 x] V fun e w' => e = .returned (.bool (prtIn PP x)) ∧ Below V.heap.size V w' from fun x V hV => by
    rw [← hpp]
    have h9 := hQ.prts
    rw [hPP, hqa] at h9
    exact Lb.containsi_any qa qk PP x V ((h9.mono HW.out).mono hV) (by rw [← hPP]; exact hq))
  have HG := Lib.hid (hG.mono HW.out)
  have HA := Lib.hid (show ∀ b ∈ Bs, PrtL W b.p.pa b.p.prts from fun b hb => ((hA b hb).mono HW.out).prts)
  have Hlx := Lib.hid hb
  rw [hPP] at hR
  have HR := Lib.hid hR
  obtain ⟨n, hn⟩ : ∃ n, Bs.length = n := ⟨_, rfl⟩
  have HN := Lib.hid hn
  have hlt0 := HX.out.lt
  rw [hn] at hl ⊢
  clear hG hA hQ hq hb hR hn hPP hpp hqa hqk HX
  obtain ⟨nm, n0, n1, n2, n3, n4, la, lk, L, sa, sk, S, ta, tk, T, ba, bk, B, pa, pk, P, aa, ak, A, wd, da, dk, D, sw, rk, ow, dm, pn, lc⟩ := q
  replace hW : W = w.alloc (.cells #[.string nm, .int .i64 n0, .int .i64 n1, .int .i64 n2, .int .i64 n3, .int .i64 n4, .slice la L.length lk, .slice sa S.length sk, .slice ta T.length tk, .slice ba B.length bk, .slice pa P.length pk, .slice aa A.length ak, .bool wd, .slice da D.length dk, .int .i64 sw, .int .i64 rk, .string ow, .bool dm, .bool pn, .bool lc] 31) := hW
  show Calls Tryz.prog 69 #[.slice c n kc, .agg #[.string nm, .int .i64 n0, .int .i64 n1, .int .i64 n2, .int .i64 n3, .int .i64 n4, .slice la L.length lk, .slice sa S.length sk, .slice ta T.length tk, .slice ba B.length bk, .slice pa P.length pk, .slice aa A.length ak, .bool wd, .slice da D.length dk, .int .i64 sw, .int .i64 rk, .string ow, .bool dm, .bool pn, .bool lc]] w _
  go_enter Tryz.func69, Tryz.ntmps69
  go_upto_region 1 with (fail)
  rw [← hW]
  clear hW
  go_wp2
  go_loopw [11] (fun vi wr => ∃ k : Nat, k ≤ n ∧ vi = .int .i64 k ∧ (Bs.take k).any (prtsIn PP) = false ∧ Below W.heap.size W wr) (fun vi _ => n - (intOf vi).toNat)
  case atStart => exact ⟨0, Nat.zero_le _, rfl, rfl, Below.refl _ _⟩
  case round =>
    obtain ⟨k, hk, rfl, hE, hB⟩ := hrel
    have HE := Lib.hid hE
    have HB := Lib.hid hB
    have hbz := hB.size
    by_cases hlt : k < n
    · obtain ⟨bb, hm⟩ := mem_at (l := Bs) (k := k) (by rw [HN.out]; exact hlt)
      obtain ⟨b, o, rfl, hb, hc⟩ := (HG.out.mono hB) (by rw [HN.out]; omega)
      have HRg := Lib.hid (show wr.rangeAt b (o + k * 21) (brow bb) from fun j v hj => by rw [hc k bb hm j (by have := (List.getElem?_eq_some_iff.1 hj).1; exact this)]; exact hj)
      have Hm := Lib.hid hm
      have HPL := Lib.hid ((HA.out bb (List.mem_of_getElem? hm)).mono hB)
      have hpl := Hlx.out bb (List.mem_of_getElem? hm)
      have HYes := Lib.hid (fun (h : prtsIn PP bb = true) => show R = true by rw [← HR.out]; exact any_yes (P := prtsIn PP) Hm.out h)
      have HNo := Lib.hid (fun (h : prtsIn PP bb = false) => any_next (P := prtsIn PP) Hm.out h HE.out)
      obtain ⟨P2, hP2⟩ : ∃ P2, bb.p.prts = P2 := ⟨_, rfl⟩
      obtain ⟨p2, hp2⟩ : ∃ p2, P2.length = p2 := ⟨_, rfl⟩
      obtain ⟨ax, hax⟩ : ∃ a, bb.p.pa = a := ⟨_, rfl⟩
      obtain ⟨kx, hkx⟩ : ∃ a, bb.p.pk = a := ⟨_, rfl⟩
      have hb2 : prtsIn PP bb = P2.any (prtIn PP) := by unfold prtsIn; rw [hP2]
      rw [hb2] at HYes HNo
      rw [hP2, hax] at HPL
      rw [hP2, hp2] at hpl
      obtain ⟨rb, hrb⟩ : ∃ r, brow bb = r := ⟨_, rfl⟩
      have h10 : rb[10]? = some (.slice ax p2 kx) := by rw [← hrb, ← hp2, ← hP2, ← hax, ← hkx]; rfl
      have hlen : rb.length = 21 := by rw [← hrb]; rfl
      have hone : rb.all (·.oneCell') = true := by rw [← hrb]; exact List.all_eq_true.2 (brow_one bb)
      rw [hrb] at HRg
      have Hp2 := Lib.hid hp2
      clear hE hB hc hm hP2 hp2 hax hkx hb2 hrb
      obtain ⟨x0, x1, x2, x3, x4, x5, x6, x7, x8, x9, y0, y1, y2, y3, y4, y5, y6, y7, y8, y9, z0, rfl⟩ := list21 hlen
      obtain rfl : y0 = .slice ax p2 kx := by simpa using h10
      have HOne := Lib.hid hone
      clear hlen h10 hone
      go_wp2_with (first
        | ((with_reducible refine at_load (ty := 55) ?_); refine load_cells rfl 55 (.tmp 13) rfl b (o + k * 21) rfl [x0, x1, x2, x3, x4, x5, x6, x7, x8, x9, .slice ax p2 kx, y1, y2, y3, y4, y5, y6, y7, y8, y9, z0] _ Tryz.underlying55 rfl (by kernel_rfl) HRg.out ?_)
        | ((with_reducible refine at_store (ty := 55) ?_); refine store_new rfl 55 (.tmp 6) (.tmp 14) rfl _ _ rfl rfl (by kernel_rfl) rfl HOne.out rfl ?_))
      obtain ⟨V, hV⟩ : ∃ V, V = wr.alloc (.cells #[x0, x1, x2, x3, x4, x5, x6, x7, x8, x9, .slice ax p2 kx, y1, y2, y3, y4, y5, y6, y7, y8, y9, z0] 55) := ⟨_, rfl⟩
      have HV := Lib.hid (show Below W.heap.size W V by rw [hV]; exact HB.out.alloc HB.out.size _)
      have HRV := Lib.hid (show Below wr.heap.size wr V by rw [hV]; exact (Below.refl _ _).alloc (Nat.le_refl _) _)
      have HPV := Lib.hid (HPL.out.mono HRV.out)
      rw [← hV]
      clear hV HOne HRg HPL
      go_loopw [19] (fun vj wq => ∃ j : Nat, j ≤ p2 ∧ vj = .int .i64 j ∧ (P2.take j).any (prtIn PP) = false ∧ Below V.heap.size V wq) (fun vj _ => p2 - (intOf vj).toNat)
      case atStart => exact ⟨0, Nat.zero_le _, rfl, rfl, Below.refl _ _⟩
      case round =>
        obtain ⟨j, hj, rfl, hE, hB⟩ := hrel
        have HE := Lib.hid hE
        have HQ := Lib.hid hB
        have HWq := Lib.hid (HV.out.trans (hB.mono HV.out.size))
        have hcz := hB.size
        by_cases hlj : j < p2
        · obtain ⟨x, hx⟩ := mem_at (l := P2) (k := j) (by rw [Hp2.out]; exact hlj)
          obtain ⟨b2, o2, rfl, hb2, hc2⟩ := (HPV.out.mono hB) (by rw [Hp2.out]; omega)
          have c0 := hc2 j x hx 0 (by decide)
          dsimp only [pcs, List.getElem?_cons_zero] at c0
          rw [Nat.mul_one, Nat.add_zero] at c0
          have d10 := HD.out _ HWq.out
          have hwl : w.heap.size < wr.heap.size := Nat.lt_of_lt_of_le hlt0 (Nat.le_trans HV.out.size hcz)
          have Hx := Lib.hid hx
          have HCx := Lib.hid (HCn.out x _ HWq.out)
          obtain ⟨z, hz⟩ : ∃ z, prtIn PP x = z := ⟨_, rfl⟩
          have HZ := Lib.hid hz
          rw [hz] at HCx
          clear hE hB hc2 hx hz
          cases z with
          | true =>
            obtain rfl : R = true := HYes.out (any_yes (P := prtIn PP) Hx.out HZ.out)
            go_wp2_with (go_at_call 98; (with_reducible refine (HCx.out).mono ?_); rintro e w6 ⟨rfl, hb6⟩; have HB6 := Lib.hid (HWq.out.trans (hb6.mono HWq.out.size)); clear hb6)
            go_ret
            exact ⟨rfl, HW.out.trans (HB6.out.mono HW.out.size)⟩
          | false =>
            have HE2 := Lib.hid (any_next (P := prtIn PP) Hx.out HZ.out HE.out)
            go_wp2_with (go_at_call 98; (with_reducible refine (HCx.out).mono ?_); rintro e w6 ⟨rfl, hb6⟩; have HB6 := Lib.hid (HQ.out.trans (hb6.mono hcz)); clear hb6)
            go_roundw
            case rel => exact ⟨j + 1, by omega, by go_num, HE2.out, HB6.out⟩
            case measure => simp [intOf]; omega
        · obtain rfl : p2 = j := by omega
          have HE2 := Lib.hid (HNo.out (any_all (P := prtIn PP) Hp2.out HE.out))
          clear hE hB
          go_wp2
          go_roundw
          case rel => exact ⟨k + 1, by omega, by go_num, HE2.out, HWq.out⟩
          case measure => simp [intOf]; omega
    · obtain rfl : k = n := by omega
      obtain rfl : R = false := by rw [← HR.out]; exact any_all (P := prtsIn PP) HN.out HE.out
      go_wp2
      go_ret
      exact ⟨rfl, HW.out.trans (HB.out.mono HW.out.size)⟩
/-- Why there is no room. -/
def roomS (m : Mac) (bs : List Bd) (p : Pd) : Int :=
  if Rs.fitsB p.n0 p.n1 p.n2 p.n3 p.n4 (leftY m (othL bs m.nm p.nm)).r0 (leftY m (othL bs m.nm p.nm)).r1 (leftY m (othL bs m.nm p.nm)).r2 (leftY m (othL bs m.nm p.nm)).r3 (leftY m (othL bs m.nm p.nm)).r4 = false then 2
  else if shareQ (othL bs m.nm p.nm) p.prts = true then 3 else 0
def suitS (m : Mac) (bs : List Bd) (p : Pd) : Int := if placeS m p = 0 then roomS m bs p else placeS m p

set_option maxRecDepth 100000 in
set_option maxHeartbeats 4000000 in
theorem sroom_any (m : Mac) (c : Option Addr) (kc : Nat) (bs : List Bd) (p : Pd) (w : World) (hM : MacAt w m) (hG : BndL w c bs) (hB : ∀ b ∈ bs, PodAt w b.p) (hP : PodAt w p) (hl : bs.length ≤ 1000000) (hq : p.prts.length ≤ 1000000) (hb : ∀ b ∈ bs, b.p.prts.length ≤ 1000000) :
    Calls Tryz.prog 43 #[.agg (mrow m).toArray, .slice c bs.length kc, .agg (prow p).toArray] w fun e w' => e = .returned (.int .i64 (roomS m bs p)) ∧ Below w.heap.size w w' := by
  obtain ⟨R, hR⟩ : ∃ R, roomS m bs p = R := ⟨_, rfl⟩
  rw [hR]
  unfold roomS at hR
  have hWo := fun V (hV : Below w.heap.size w V) => swithout_any c kc bs m.nm p.nm V (hG.mono hV) hl
  have hol := othL_len bs m.nm p.nm
  have hsub : ∀ b ∈ othL bs m.nm p.nm, b ∈ bs := fun b hb => (List.mem_filter.1 hb).1
  obtain ⟨O, hO⟩ : ∃ O, othL bs m.nm p.nm = O := ⟨_, rfl⟩
  rw [hO] at hWo hol hsub hR
  have hLf := fun a k V (hV : BndL V a O) => left_any m a k O V hV (by omega)
  obtain ⟨⟨l0, l1, l2, l3, l4⟩, hlv⟩ : ∃ l, leftY m O = l := ⟨_, rfl⟩
  rw [hlv] at hLf hR
  dsimp only [R5.v] at hLf hR
  have hFt := fun V => Rs.fits_any p.n0 p.n1 p.n2 p.n3 p.n4 l0 l1 l2 l3 l4 V
  obtain ⟨z, hz⟩ : ∃ z, Rs.fitsB p.n0 p.n1 p.n2 p.n3 p.n4 l0 l1 l2 l3 l4 = z := ⟨_, rfl⟩
  rw [hz] at hFt hR
  have hSh := fun a k V (hV : Below w.heap.size w V) (hL : BndL V a O) => sshares_any a k O p V hL (fun b hb => (hB b (hsub b hb)).mono hV) (hP.mono hV) (by omega) hq (fun b h => hb b (hsub b h))
  obtain ⟨s, hs⟩ : ∃ s, shareQ O p.prts = s := ⟨_, rfl⟩
  rw [hs] at hSh hR
  obtain ⟨W, hW⟩ : ∃ W, W = (w.alloc (.cells (mrow m).toArray 37)).alloc (.cells (prow p).toArray 31) := ⟨_, rfl⟩
  have H0 := Lib.hid (show MP w w.heap.size m p W by rw [hW]; exact MP.new hM hP)
  obtain ⟨n, hn⟩ : ∃ n, bs.length = n := ⟨_, rfl⟩
  obtain ⟨on, hon⟩ : ∃ on, O.length = on := ⟨_, rfl⟩
  have Hon := Lib.hid hon
  rw [hn] at hWo ⊢
  rw [hon] at hLf hSh
  have hGv : ∀ V e V', GivesB V O e V' → (∃ a k, e = .returned (.slice a on k) ∧ BndL V' a O) ∧ Below V.heap.size V V' := fun V e V' h => by
    obtain ⟨⟨v, rfl, ho⟩, hb⟩ := h
    obtain ⟨a, k, rfl, -, ht⟩ := IsL.of_own brow_len (by decide) ho
    exact ⟨⟨a, k, by rw [hon], ht⟩, hb⟩
  clear hz hs hM hG hB hP hl hq hb hol hsub hO hlv hn hon
  obtain ⟨mn, mg, r0, r1, r2, r3, r4, ma, mk, ML, mta, mtk, MT, rd⟩ := m
  obtain ⟨nm, n0, n1, n2, n3, n4, la, lk, L, sa, sk, S, ta, tk, T, ba, bk, B, pa, pk, P, aa, ak, A, wd, da, dk, D, sw, rk, ow, dm, pn, lc⟩ := p
  have HWo := Lib.hid (show ∀ V, Below w.heap.size w V → Calls Tryz.prog 66 #[.slice c n kc, .string mn, .string nm] V fun e V' => (∃ a k, e = .returned (.slice a on k) ∧ BndL V' a O) ∧ Below V.heap.size V V' from fun V hV => (hWo V hV).mono fun e V' h => hGv V e V' h)
  have HLf := Lib.hid (show ∀ a k V, BndL V a O → Calls Tryz.prog 68 #[.agg #[.string mn, .string mg, .int .i64 r0, .int .i64 r1, .int .i64 r2, .int .i64 r3, .int .i64 r4, .slice ma ML.length mk, .slice mta MT.length mtk, .bool rd], .slice a on k] V fun e w' => e = .returned (.agg #[.int .i64 l0, .int .i64 l1, .int .i64 l2, .int .i64 l3, .int .i64 l4]) ∧ Below V.heap.size V w' from hLf)
  have HFt := Lib.hid (show ∀ V, Calls Tryz.prog 67 #[.agg #[.int .i64 n0, .int .i64 n1, .int .i64 n2, .int .i64 n3, .int .i64 n4], .agg #[.int .i64 l0, .int .i64 l1, .int .i64 l2, .int .i64 l3, .int .i64 l4]] V fun e w' => e = .returned (.bool z) ∧ Below V.heap.size V w' from hFt)
  have HSh := Lib.hid (show ∀ a k V, Below w.heap.size w V → BndL V a O → Calls Tryz.prog 69 #[.slice a on k, .agg #[.string nm, .int .i64 n0, .int .i64 n1, .int .i64 n2, .int .i64 n3, .int .i64 n4, .slice la L.length lk, .slice sa S.length sk, .slice ta T.length tk, .slice ba B.length bk, .slice pa P.length pk, .slice aa A.length ak, .bool wd, .slice da D.length dk, .int .i64 sw, .int .i64 rk, .string ow, .bool dm, .bool pn, .bool lc]] V fun e w' => e = .returned (.bool s) ∧ Below V.heap.size V w' from hSh)
  clear hWo hLf hFt hSh hGv
  replace hW : W = (w.alloc (.cells #[.string mn, .string mg, .int .i64 r0, .int .i64 r1, .int .i64 r2, .int .i64 r3, .int .i64 r4, .slice ma ML.length mk, .slice mta MT.length mtk, .bool rd] 37)).alloc (.cells #[.string nm, .int .i64 n0, .int .i64 n1, .int .i64 n2, .int .i64 n3, .int .i64 n4, .slice la L.length lk, .slice sa S.length sk, .slice ta T.length tk, .slice ba B.length bk, .slice pa P.length pk, .slice aa A.length ak, .bool wd, .slice da D.length dk, .int .i64 sw, .int .i64 rk, .string ow, .bool dm, .bool pn, .bool lc] 31) := hW
  show Calls Tryz.prog 43 #[.agg #[.string mn, .string mg, .int .i64 r0, .int .i64 r1, .int .i64 r2, .int .i64 r3, .int .i64 r4, .slice ma ML.length mk, .slice mta MT.length mtk, .bool rd], .slice c n kc, .agg #[.string nm, .int .i64 n0, .int .i64 n1, .int .i64 n2, .int .i64 n3, .int .i64 n4, .slice la L.length lk, .slice sa S.length sk, .slice ta T.length tk, .slice ba B.length bk, .slice pa P.length pk, .slice aa A.length ak, .bool wd, .slice da D.length dk, .int .i64 sw, .int .i64 rk, .string ow, .bool dm, .bool pn, .bool lc]] w _
  go_enter Tryz.func43, Tryz.ntmps43
  go_upto_region 1 with (fail)
  rw [← hW]
  clear hW
  have hxm : ∀ i, W.cell? ⟨w.heap.size, i, none⟩ = [.string mn, .string mg, .int .i64 r0, .int .i64 r1, .int .i64 r2, .int .i64 r3, .int .i64 r4, .slice ma ML.length mk, .slice mta MT.length mtk, .bool rd][i]? := H0.out.xm.cell
  have hxp : ∀ i, W.cell? ⟨w.heap.size + 1, i, none⟩ = [.string nm, .int .i64 n0, .int .i64 n1, .int .i64 n2, .int .i64 n3, .int .i64 n4, .slice la L.length lk, .slice sa S.length sk, .slice ta T.length tk, .slice ba B.length bk, .slice pa P.length pk, .slice aa A.length ak, .bool wd, .slice da D.length dk, .int .i64 sw, .int .i64 rk, .string ow, .bool dm, .bool pn, .bool lc][i]? := H0.out.xp.cell
  have hlm := H0.out.xm.lt
  have hlp := H0.out.xp.lt
  go_wp2_with (go_at_call 66; (with_reducible refine (HWo.out _ H0.out.bl).mono ?_); rintro e w1 ⟨⟨a1, k1, rfl, ht1⟩, hb1⟩; have H01 := Lib.hid (H0.out.mono hb1); have HT1 := Lib.hid ht1; clear hb1 ht1 hxm hxp hlm hlp)
  have hxp : ∀ i, w1.cell? ⟨w.heap.size + 1, i, none⟩ = [.string nm, .int .i64 n0, .int .i64 n1, .int .i64 n2, .int .i64 n3, .int .i64 n4, .slice la L.length lk, .slice sa S.length sk, .slice ta T.length tk, .slice ba B.length bk, .slice pa P.length pk, .slice aa A.length ak, .bool wd, .slice da D.length dk, .int .i64 sw, .int .i64 rk, .string ow, .bool dm, .bool pn, .bool lc][i]? := H01.out.xp.cell
  have hlm := H01.out.xm.lt
  have hlp := H01.out.xp.lt
  have HRm := Lib.hid (show w1.rangeAt w.heap.size 0 [.string mn, .string mg, .int .i64 r0, .int .i64 r1, .int .i64 r2, .int .i64 r3, .int .i64 r4, .slice ma ML.length mk, .slice mta MT.length mtk, .bool rd] from H01.out.xm.range)
  have HRn := Lib.hid (show w1.rangeAt (w.heap.size + 1) 1 [.int .i64 n0, .int .i64 n1, .int .i64 n2, .int .i64 n3, .int .i64 n4] from fun j v hj => by
    have hj5 : j < 5 := (List.getElem?_eq_some_iff.1 hj).1
    rw [hxp]
    match j, hj5, hj with
    | 0, _, hj => exact hj
    | 1, _, hj => exact hj
    | 2, _, hj => exact hj
    | 3, _, hj => exact hj
    | 4, _, hj => exact hj)
  clear hxp
  have hcH := held_cell
  refine region_rel (by kernel_rfl) (by kernel_rfl) ?_
  repeat
    ((with_reducible refine relStep (fun K hK => ?_))
     (have HK := Lib.hid hK)
     clear hK
     (apply relInl
      · intro r n hf
        have Hf := Lib.hid hf
        clear hf
        (first
          | ((first | ((with_reducible refine at_rel (ty := 25) ?_); refine rel_load rfl (w.heap.size + 1) 1 rfl [.int .i64 n0, .int .i64 n1, .int .i64 n2, .int .i64 n3, .int .i64 n4] _ Tryz.underlying25 rfl (by kernel_rfl) (rangeAt_mono HRn.out hlp n.below) rfl) | ((with_reducible refine at_rel (ty := 37) ?_); refine rel_load rfl w.heap.size 0 rfl [.string mn, .string mg, .int .i64 r0, .int .i64 r1, .int .i64 r2, .int .i64 r3, .int .i64 r4, .slice ma ML.length mk, .slice mta MT.length mtk, .bool rd] _ Tryz.underlying37 rfl (by kernel_rfl) (rangeAt_mono HRm.out hlm n.below) rfl)))
          | (unfold relAt
             go_simp
             (first | (refine relUpon_val ?_ (Below.refl _ _); exact rfl) | exact rfl | (refine relUpon_enter ?_; (first | (go_at_call 68; (with_reducible refine (HLf.out _ _ _ (HT1.out.mono n.below)).mono ?_); rintro e w9 ⟨rfl, hb⟩; exact ⟨⟨_, rfl, rfl⟩, hb⟩) | (go_at_call 67; (with_reducible refine (HFt.out _).mono ?_); rintro e w9 ⟨rfl, hb⟩; exact ⟨⟨_, rfl, rfl⟩, hb⟩))))))
      (simp only [Act.put, List.setIfInBounds_toArray, List.set_cons_zero, List.set_cons_succ])
      (with_reducible refine HK.out _ _ ?_)
      clear HK K))
  refine relNil ?_
  intro r9 n9 hx9
  clear hcH
  (try simp only [List.nil_append, List.cons_append, List.mem_cons, List.not_mem_nil, or_false, forall_eq_or_imp, forall_eq, false_implies, implies_true] at hx9)
  obtain ⟨w9, hb9⟩ := n9
  (try dsimp only)
  obtain ⟨hc9, hf9⟩ := bcell hb9
  have hz9 := hb9.size
  (try simp at hz9)
  have H09 := Lib.hid (H01.out.mono hb9)
  have HT9 := Lib.hid (HT1.out.mono hb9)
  have HRp := Lib.hid (show w9.rangeAt (w.heap.size + 1) 0 [.string nm, .int .i64 n0, .int .i64 n1, .int .i64 n2, .int .i64 n3, .int .i64 n4, .slice la L.length lk, .slice sa S.length sk, .slice ta T.length tk, .slice ba B.length bk, .slice pa P.length pk, .slice aa A.length ak, .bool wd, .slice da D.length dk, .int .i64 sw, .int .i64 rk, .string ow, .bool dm, .bool pn, .bool lc] from H09.out.xp.range)
  clear hb9 hc9 hf9 hz9 hlm hlp HRm HRn
  cases z with
  | false =>
    obtain rfl : R = 2 := by rw [← hR]; rfl
    clear hR
    go_wp2
    go_ret
    exact ⟨rfl, H09.out.bl⟩
  | true =>
    cases s with
    | true =>
      obtain rfl : R = 3 := by rw [← hR]; rfl
      clear hR
      go_wp2_with (first
        | ((with_reducible refine at_load (ty := 31) ?_); refine load_cells rfl 31 (.tmp 5) rfl (w.heap.size + 1) 0 rfl [.string nm, .int .i64 n0, .int .i64 n1, .int .i64 n2, .int .i64 n3, .int .i64 n4, .slice la L.length lk, .slice sa S.length sk, .slice ta T.length tk, .slice ba B.length bk, .slice pa P.length pk, .slice aa A.length ak, .bool wd, .slice da D.length dk, .int .i64 sw, .int .i64 rk, .string ow, .bool dm, .bool pn, .bool lc] _ Tryz.underlying31 rfl (by kernel_rfl) HRp.out ?_)
        | (go_at_call 69; (with_reducible refine (HSh.out _ _ _ H09.out.bl HT9.out).mono ?_); rintro e w5 ⟨rfl, hb5⟩; have H05 := Lib.hid (H09.out.mono hb5); clear hb5))
      go_ret
      exact ⟨rfl, H05.out.bl⟩
    | false =>
      obtain rfl : R = 0 := by rw [← hR]; rfl
      clear hR
      go_wp2_with (first
        | ((with_reducible refine at_load (ty := 31) ?_); refine load_cells rfl 31 (.tmp 5) rfl (w.heap.size + 1) 0 rfl [.string nm, .int .i64 n0, .int .i64 n1, .int .i64 n2, .int .i64 n3, .int .i64 n4, .slice la L.length lk, .slice sa S.length sk, .slice ta T.length tk, .slice ba B.length bk, .slice pa P.length pk, .slice aa A.length ak, .bool wd, .slice da D.length dk, .int .i64 sw, .int .i64 rk, .string ow, .bool dm, .bool pn, .bool lc] _ Tryz.underlying31 rfl (by kernel_rfl) HRp.out ?_)
        | (go_at_call 69; (with_reducible refine (HSh.out _ _ _ H09.out.bl HT9.out).mono ?_); rintro e w5 ⟨rfl, hb5⟩; have H05 := Lib.hid (H09.out.mono hb5); clear hb5))
      go_ret
      exact ⟨rfl, H05.out.bl⟩

set_option maxRecDepth 100000 in
set_option maxHeartbeats 4000000 in
theorem ssuits_any (m : Mac) (c : Option Addr) (kc : Nat) (bs : List Bd) (p : Pd) (w : World) (hM : MacAt w m) (hG : BndL w c bs) (hB : ∀ b ∈ bs, PodAt w b.p) (hP : PodAt w p) (hm : lightM m = true) (hp : lightP p = true) (hl : bs.length ≤ 1000000) (hb : ∀ b ∈ bs, b.p.prts.length ≤ 1000000) :
    Calls Tryz.prog 21 #[.agg (mrow m).toArray, .slice c bs.length kc, .agg (prow p).toArray] w fun e w' => e = .returned (.int .i64 (suitS m bs p)) ∧ Below w.heap.size w w' := by
  have hq : p.prts.length ≤ 1000000 := by have := (lightP_iff hp).pl; omega
  have hPl := fun V (h : MP w w.heap.size m p V) => splace_any m p V h.ma h.pa hm hp
  have hRo := fun V (h : MP w w.heap.size m p V) => sroom_any m c kc bs p V h.ma (hG.mono h.bl) (fun b hb => (hB b hb).mono h.bl) h.pa hl hq hb
  obtain ⟨R, hR⟩ : ∃ R, suitS m bs p = R := ⟨_, rfl⟩
  rw [hR]
  unfold suitS at hR
  obtain ⟨x, hx⟩ : ∃ x, placeS m p = x := ⟨_, rfl⟩
  obtain ⟨y, hy⟩ : ∃ y, roomS m bs p = y := ⟨_, rfl⟩
  rw [hx] at hPl hR
  rw [hy] at hRo hR
  obtain ⟨W, hW⟩ : ∃ W, W = (w.alloc (.cells (mrow m).toArray 37)).alloc (.cells (prow p).toArray 31) := ⟨_, rfl⟩
  have H0 := Lib.hid (show MP w w.heap.size m p W by rw [hW]; exact MP.new hM hP)
  obtain ⟨n, hn⟩ : ∃ n, bs.length = n := ⟨_, rfl⟩
  rw [hn] at hRo ⊢
  clear hx hy hM hG hB hP hl hq hb hn hm hp
  obtain ⟨mn, mg, r0, r1, r2, r3, r4, ma, mk, ML, mta, mtk, MT, rd⟩ := m
  obtain ⟨nm, n0, n1, n2, n3, n4, la, lk, L, sa, sk, S, ta, tk, T, ba, bk, B, pa, pk, P, aa, ak, A, wd, da, dk, D, sw, rk, ow, dm, pn, lc⟩ := p
  have HPl := Lib.hid (show ∀ V, MP w w.heap.size (⟨mn, mg, r0, r1, r2, r3, r4, ma, mk, ML, mta, mtk, MT, rd⟩ : Mac) (⟨nm, n0, n1, n2, n3, n4, la, lk, L, sa, sk, S, ta, tk, T, ba, bk, B, pa, pk, P, aa, ak, A, wd, da, dk, D, sw, rk, ow, dm, pn, lc⟩ : Pd) V → Calls Tryz.prog 42 #[.agg #[.string mn, .string mg, .int .i64 r0, .int .i64 r1, .int .i64 r2, .int .i64 r3, .int .i64 r4, .slice ma ML.length mk, .slice mta MT.length mtk, .bool rd], .agg #[.string nm, .int .i64 n0, .int .i64 n1, .int .i64 n2, .int .i64 n3, .int .i64 n4, .slice la L.length lk, .slice sa S.length sk, .slice ta T.length tk, .slice ba B.length bk, .slice pa P.length pk, .slice aa A.length ak, .bool wd, .slice da D.length dk, .int .i64 sw, .int .i64 rk, .string ow, .bool dm, .bool pn, .bool lc]] V fun e w' => e = .returned (.int .i64 x) ∧ Below V.heap.size V w' from hPl)
  have HRo := Lib.hid (show ∀ V, MP w w.heap.size (⟨mn, mg, r0, r1, r2, r3, r4, ma, mk, ML, mta, mtk, MT, rd⟩ : Mac) (⟨nm, n0, n1, n2, n3, n4, la, lk, L, sa, sk, S, ta, tk, T, ba, bk, B, pa, pk, P, aa, ak, A, wd, da, dk, D, sw, rk, ow, dm, pn, lc⟩ : Pd) V → Calls Tryz.prog 43 #[.agg #[.string mn, .string mg, .int .i64 r0, .int .i64 r1, .int .i64 r2, .int .i64 r3, .int .i64 r4, .slice ma ML.length mk, .slice mta MT.length mtk, .bool rd], .slice c n kc, .agg #[.string nm, .int .i64 n0, .int .i64 n1, .int .i64 n2, .int .i64 n3, .int .i64 n4, .slice la L.length lk, .slice sa S.length sk, .slice ta T.length tk, .slice ba B.length bk, .slice pa P.length pk, .slice aa A.length ak, .bool wd, .slice da D.length dk, .int .i64 sw, .int .i64 rk, .string ow, .bool dm, .bool pn, .bool lc]] V fun e w' => e = .returned (.int .i64 y) ∧ Below V.heap.size V w' from hRo)
  clear hPl hRo
  replace hW : W = (w.alloc (.cells #[.string mn, .string mg, .int .i64 r0, .int .i64 r1, .int .i64 r2, .int .i64 r3, .int .i64 r4, .slice ma ML.length mk, .slice mta MT.length mtk, .bool rd] 37)).alloc (.cells #[.string nm, .int .i64 n0, .int .i64 n1, .int .i64 n2, .int .i64 n3, .int .i64 n4, .slice la L.length lk, .slice sa S.length sk, .slice ta T.length tk, .slice ba B.length bk, .slice pa P.length pk, .slice aa A.length ak, .bool wd, .slice da D.length dk, .int .i64 sw, .int .i64 rk, .string ow, .bool dm, .bool pn, .bool lc] 31) := hW
  show Calls Tryz.prog 21 #[.agg #[.string mn, .string mg, .int .i64 r0, .int .i64 r1, .int .i64 r2, .int .i64 r3, .int .i64 r4, .slice ma ML.length mk, .slice mta MT.length mtk, .bool rd], .slice c n kc, .agg #[.string nm, .int .i64 n0, .int .i64 n1, .int .i64 n2, .int .i64 n3, .int .i64 n4, .slice la L.length lk, .slice sa S.length sk, .slice ta T.length tk, .slice ba B.length bk, .slice pa P.length pk, .slice aa A.length ak, .bool wd, .slice da D.length dk, .int .i64 sw, .int .i64 rk, .string ow, .bool dm, .bool pn, .bool lc]] w _
  have HRm := Lib.hid (show ∀ V, MP w w.heap.size (⟨mn, mg, r0, r1, r2, r3, r4, ma, mk, ML, mta, mtk, MT, rd⟩ : Mac) (⟨nm, n0, n1, n2, n3, n4, la, lk, L, sa, sk, S, ta, tk, T, ba, bk, B, pa, pk, P, aa, ak, A, wd, da, dk, D, sw, rk, ow, dm, pn, lc⟩ : Pd) V → V.rangeAt w.heap.size 0 [.string mn, .string mg, .int .i64 r0, .int .i64 r1, .int .i64 r2, .int .i64 r3, .int .i64 r4, .slice ma ML.length mk, .slice mta MT.length mtk, .bool rd] from fun V h => h.xm.range)
  have HRp := Lib.hid (show ∀ V, MP w w.heap.size (⟨mn, mg, r0, r1, r2, r3, r4, ma, mk, ML, mta, mtk, MT, rd⟩ : Mac) (⟨nm, n0, n1, n2, n3, n4, la, lk, L, sa, sk, S, ta, tk, T, ba, bk, B, pa, pk, P, aa, ak, A, wd, da, dk, D, sw, rk, ow, dm, pn, lc⟩ : Pd) V → V.rangeAt (w.heap.size + 1) 0 [.string nm, .int .i64 n0, .int .i64 n1, .int .i64 n2, .int .i64 n3, .int .i64 n4, .slice la L.length lk, .slice sa S.length sk, .slice ta T.length tk, .slice ba B.length bk, .slice pa P.length pk, .slice aa A.length ak, .bool wd, .slice da D.length dk, .int .i64 sw, .int .i64 rk, .string ow, .bool dm, .bool pn, .bool lc] from fun V h => h.xp.range)
  by_cases h0 : x = 0
  · subst h0
    obtain rfl : R = y := by rw [← hR]; rfl
    clear hR
    go_enter Tryz.func21, Tryz.ntmps21
    go_upto_region 1 with (fail)
    rw [← hW]
    clear hW
    go_wp2_with (first
      | ((with_reducible refine at_load (ty := 37) ?_); refine load_cells rfl 37 (.tmp 3) rfl w.heap.size 0 rfl [.string mn, .string mg, .int .i64 r0, .int .i64 r1, .int .i64 r2, .int .i64 r3, .int .i64 r4, .slice ma ML.length mk, .slice mta MT.length mtk, .bool rd] _ Tryz.underlying37 rfl (by kernel_rfl) (by first | exact HRm.out _ H01.out | exact HRm.out _ H0.out) ?_)
      | ((with_reducible refine at_load (ty := 31) ?_); refine load_cells rfl 31 (.tmp 5) rfl (w.heap.size + 1) 0 rfl [.string nm, .int .i64 n0, .int .i64 n1, .int .i64 n2, .int .i64 n3, .int .i64 n4, .slice la L.length lk, .slice sa S.length sk, .slice ta T.length tk, .slice ba B.length bk, .slice pa P.length pk, .slice aa A.length ak, .bool wd, .slice da D.length dk, .int .i64 sw, .int .i64 rk, .string ow, .bool dm, .bool pn, .bool lc] _ Tryz.underlying31 rfl (by kernel_rfl) (by first | exact HRp.out _ H01.out | exact HRp.out _ H0.out) ?_)
      | (go_at_call 42; (with_reducible refine (HPl.out _ H0.out).mono ?_); rintro e w1 ⟨rfl, hb1⟩; have H01 := Lib.hid (H0.out.mono hb1); clear hb1)
      | (go_at_call 43; (with_reducible refine (HRo.out _ H01.out).mono ?_); rintro e w2 ⟨rfl, hb2⟩; have H02 := Lib.hid (H01.out.mono hb2); clear hb2))
    go_ret
    exact ⟨rfl, H02.out.bl⟩
  · have q0 : (x == 0) = false := by simpa using h0
    obtain rfl : R = x := by rw [← hR, if_neg h0]
    clear hR h0
    go_enter Tryz.func21, Tryz.ntmps21
    go_upto_region 1 with (fail)
    rw [← hW]
    clear hW
    go_wp2_with (first
      | ((with_reducible refine at_load (ty := 37) ?_); refine load_cells rfl 37 (.tmp 3) rfl w.heap.size 0 rfl [.string mn, .string mg, .int .i64 r0, .int .i64 r1, .int .i64 r2, .int .i64 r3, .int .i64 r4, .slice ma ML.length mk, .slice mta MT.length mtk, .bool rd] _ Tryz.underlying37 rfl (by kernel_rfl) (HRm.out _ H0.out) ?_)
      | ((with_reducible refine at_load (ty := 31) ?_); refine load_cells rfl 31 (.tmp 5) rfl (w.heap.size + 1) 0 rfl [.string nm, .int .i64 n0, .int .i64 n1, .int .i64 n2, .int .i64 n3, .int .i64 n4, .slice la L.length lk, .slice sa S.length sk, .slice ta T.length tk, .slice ba B.length bk, .slice pa P.length pk, .slice aa A.length ak, .bool wd, .slice da D.length dk, .int .i64 sw, .int .i64 rk, .string ow, .bool dm, .bool pn, .bool lc] _ Tryz.underlying31 rfl (by kernel_rfl) (HRp.out _ H0.out) ?_)
      | (go_at_call 42; (with_reducible refine (HPl.out _ H0.out).mono ?_); rintro e w1 ⟨rfl, hb1⟩; have H01 := Lib.hid (H0.out.mono hb1); clear hb1))
    go_ret
    exact ⟨rfl, H01.out.bl⟩
end Go.Proofs.YthbpnfpalcgfeaaGreat
