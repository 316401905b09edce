/-
  The document's Left, whatever its pods need; its Others.
-/
import Derived.Test.YthbpnfpalcgfeaaGreatYfC
import Derived.Test.YthbpnfpalcgfeaaGreatFtA
import Derived.Test.YthbpnfpalcgfeaaGreatLabRA
import Derived.Test.YthbpnfpalcgfeaaGreatSTnt
namespace Go.Proofs.YthbpnfpalcgfeaaGreat
open Go.RowKit
set_option linter.unusedVariables false
set_option linter.unusedSimpArgs false

set_option maxRecDepth 100000 in
set_option maxHeartbeats 8000000 in
theorem refleft_over (m : Mac) (a : Option Addr) (ka : Nat) (bs : List Bd) (w : World) (hF : BndL w a bs) (hl : bs.length ≤ 1000000) (hr : ∀ b ∈ bs, rtP b.p = true) (hu : ¬ (usedY bs m.nm).1 = 0) :
    Calls Tryz.prog 81 #[.agg (mrow m).toArray, .slice a bs.length ka] w fun e w' => e = .returned ((leftY m bs).v) ∧ Below w.heap.size w w' := by
  have hv : leftY m bs = R5.z := if_neg hu
  have hUs := fun W hW => refused_any a ka bs m.nm W (hF.mono hW) hl hr
  obtain ⟨U, hU⟩ : ∃ U, usedY bs m.nm = U := ⟨_, rfl⟩
  rw [hU] at hUs hu
  rw [hv]
  obtain ⟨e, u0, u1, u2, u3, u4⟩ := U
  dsimp only at hu
  dsimp only [R5.v, R5.z] at hUs ⊢
  have q0 : (e == 0) = false := by simpa using hu
  have q1 : (e != 0) = true := by simpa using hu
  have q2 : (e = 0) = False := eq_false hu
  obtain ⟨W, hW⟩ : ∃ W, W = (w.alloc (.cells #[.string (m).nm, .string (m).gp, .int .i64 (m).r0, .int .i64 (m).r1, .int .i64 (m).r2, .int .i64 (m).r3, .int .i64 (m).r4, .slice (m).la (m).labs.length (m).lk, .slice (m).ta (m).tnts.length (m).tk, .bool (m).rd] 37)).alloc (.cells #[.int .i64 0, .int .i64 0, .int .i64 0, .int .i64 0, .int .i64 0] 25) := ⟨_, rfl⟩
  have HW := Lib.hid (show Below w.heap.size w W by rw [hW]; (repeat' (first | with_reducible exact Below.refl _ _ | with_reducible assumption | with_reducible refine Below.drew ?_ | with_reducible refine below_drewN' ?_ _ | with_reducible refine Below.alloc ?_ ?_ _ | with_reducible refine Below.setCell ?_ ?_ _ | with_reducible refine below_step (by assumption) ?_ ?_ | omega | (simp; done) | (simp; omega))))
  have hX : Blk W w.heap.size 37 (mrow m) := by rw [hW]; exact (Blk.new w 37 (mrow m)).alloc _
  have c0 : W.cell? ⟨w.heap.size, 0, none⟩ = some (.string m.nm) := hX.cell 0
  have hml := hX.lt
  have hR : Blk W (w.heap.size + 1) 25 [.int .i64 0, .int .i64 0, .int .i64 0, .int .i64 0, .int .i64 0] := by
    rw [hW]
    have h9 := Blk.new (w.alloc (.cells #[.string (m).nm, .string (m).gp, .int .i64 (m).r0, .int .i64 (m).r1, .int .i64 (m).r2, .int .i64 (m).r3, .int .i64 (m).r4, .slice (m).la (m).labs.length (m).lk, .slice (m).ta (m).tnts.length (m).tk, .bool (m).rd] 37)) 25 [.int .i64 0, .int .i64 0, .int .i64 0, .int .i64 0, .int .i64 0]
    rw [World.size_alloc] at h9
    exact h9
  have HR := Lib.hid hR
  generalize bs.length = n at hUs hl ⊢
  clear hF hl hr hv hU hu hX hR
  have HUs := Lib.hid hUs
  clear hUs
  show Calls Tryz.prog 81 #[.agg #[.string (m).nm, .string (m).gp, .int .i64 (m).r0, .int .i64 (m).r1, .int .i64 (m).r2, .int .i64 (m).r3, .int .i64 (m).r4, .slice (m).la (m).labs.length (m).lk, .slice (m).ta (m).tnts.length (m).tk, .bool (m).rd], .slice a n ka] w _
  go_enter Tryz.func81, Tryz.ntmps81
  go_upto_region 1 with (fail)
  rw [← hW]
  clear hW
  go_upto_region 2 with (go_at_call 106; (with_reducible refine (HUs.out _ HW.out).mono ?_); rintro e w3 ⟨rfl, hb3⟩; have HB3 := Lib.hid (HW.out.trans (hb3.mono HW.out.size)); have HR3 := Lib.hid (HR.out.below hb3); clear hb3 c0 hml)
  obtain ⟨V, hV⟩ : ∃ V, V = w3.alloc (.cells #[.int .i64 u0, .int .i64 u1, .int .i64 u2, .int .i64 u3, .int .i64 u4] 25) := ⟨_, rfl⟩
  have HBV := Lib.hid (show Below w.heap.size w V by rw [hV]; exact HB3.out.alloc HB3.out.size _)
  have HXV := Lib.hid (show Blk V (w.heap.size + 1) 25 [.int .i64 0, .int .i64 0, .int .i64 0, .int .i64 0, .int .i64 0] by rw [hV]; exact HR3.out.alloc _)
  rw [← hV]
  clear hV HB3 HR3 HW HR HUs
  have x0 := HXV.out.cell 0
  have f0 := HXV.out.frozen 0
  have x1 := HXV.out.cell 1
  have f1 := HXV.out.frozen 1
  have x2 := HXV.out.cell 2
  have f2 := HXV.out.frozen 2
  have x3 := HXV.out.cell 3
  have f3 := HXV.out.frozen 3
  have x4 := HXV.out.cell 4
  have f4 := HXV.out.frozen 4
  have hxl := HXV.out.lt
  dsimp only [List.getElem?_cons_zero, List.getElem?_cons_succ] at x0 x1 x2 x3 x4
  go_wp2
  refine bodyPost_ret (v := R5.v ⟨0, 0, 0, 0, 0⟩) (by simp [results, Tryz.results81, go_sem, R5.v, *]) rfl ⟨rfl, ((((HBV.out.setCell (Nat.le_succ _) _).setCell (Nat.le_succ _) _).setCell (Nat.le_succ _) _).setCell (Nat.le_succ _) _).setCell (Nat.le_succ _) _⟩
/-- Pods but one: what is left. -/
theorem usB_but (nm x : ByteArray) : ∀ (l : List Bd) (e : Int) (r : R5), usB nm (butL l x) e r = usB nm (othL l nm x) e r
  | [], e, r => rfl
  | b :: l, e, r => by
    have ih := usB_but nm x l
    unfold butL othL at ih ⊢
    rw [List.filter_cons, List.filter_cons]
    unfold notNm othB at ih ⊢
    by_cases hx : b.p.nm = x
    · rw [decide_eq_true hx, if_neg (by decide), if_neg (by simp)]
      exact ih e r
    · rw [decide_eq_false hx, if_pos (by decide)]
      by_cases ho : b.on = nm
      · rw [decide_eq_true ho, if_pos (by decide)]
        simp only [usB, if_pos ho, ih]
      · rw [decide_eq_false ho, if_neg (by simp)]
        simp only [usB, if_neg ho]
        exact ih e r
theorem left_but (m : Mac) (bs : List Bd) (x : ByteArray) : leftY m (butL bs x) = leftY m (othL bs m.nm x) := by
  unfold leftY usedY
  rw [usB_but]
theorem on_but (bs : List Bd) (nm x : ByteArray) : onL (butL bs x) nm = (othL bs nm x).map Bd.p := by
  unfold onL butL othL
  rw [List.filter_filter]
  rfl
theorem but_sub (bs : List Bd) (x : ByteArray) : ∀ b ∈ butL bs x, b ∈ bs := fun b h => (List.mem_filter.1 h).1
set_option maxRecDepth 100000 in
set_option maxHeartbeats 4000000 in
theorem refothers_any (a : Option Addr) (ka : Nat) (bs : List Bd) (nn : ByteArray) (w : World) (hF : BndL w a bs) (hl : bs.length ≤ 1000000) :
    Calls Tryz.prog 79 #[.slice a bs.length ka, .string nn] w (GivesB w (butL bs nn)) := by
  obtain ⟨n, hn⟩ : ∃ n, bs.length = n := ⟨_, rfl⟩
  have HN := Lib.hid hn
  have HF := Lib.hid hF
  rw [hn] at hl ⊢
  clear hn hF
  obtain ⟨i0, hi, hz0, hz1, hz2⟩ := info_parts Tryz.info55
  have Hi := Lib.hid hi
  have Hz0 := Lib.hid hz0
  have Hz1 := Lib.hid hz1
  have Hz2 := Lib.hid hz2
  clear hi hz0 hz1 hz2
  go_enter Tryz.func79, Tryz.ntmps79
  go_wp2
  go_loopw [5, 6] (fun vo vi wr => ∃ (k : Nat) (Q : List Bd), k ≤ n ∧ vi = .int .i64 k ∧ Q = butL (bs.take k) nn ∧ Q.length ≤ k ∧ wr.ownsRow w.heap.size 55 21 vo Q.length (Q.flatMap brow) ∧ Below w.heap.size w wr) (fun _ vi _ => n - (intOf vi).toNat)
  case atStart => exact ⟨0, [], Nat.zero_le _, rfl, rfl, Nat.le_refl _, World.ownsRow_nil _ _ _ _, by (repeat' (first | with_reducible exact Below.refl _ _ | with_reducible assumption | with_reducible refine Below.drew ?_ | with_reducible refine below_drewN' ?_ _ | with_reducible refine Below.alloc ?_ ?_ _ | with_reducible refine Below.setCell ?_ ?_ _ | with_reducible refine below_step (by assumption) ?_ ?_ | omega | (simp; done) | (simp; omega)))⟩
  case round =>
    obtain ⟨k, Q, hk, rfl, hE, hLk, hO, hB⟩ := hrel
    have HE := Lib.hid hE
    have HB := Lib.hid hB
    have HO := Lib.hid hO
    have hbz := hB.size
    obtain ⟨ao, ko, rfl⟩ := own_sl hO
    by_cases hlt : k < n
    · obtain ⟨m, hm⟩ := mem_at (l := bs) (k := k) (by rw [HN.out]; exact hlt)
      obtain ⟨b, o, rfl, hb, hc⟩ := (HF.out.mono hB) (by rw [HN.out]; omega)
      have HRg := Lib.hid (show wr.rangeAt b (o + k * 21) (brow m) from fun j v hj => by rw [hc k m hm j (by have := (List.getElem?_eq_some_iff.1 hj).1; exact this)]; exact hj)
      have c0 : wr.cell? ⟨b, o + k * 21, none⟩ = some (.string m.p.nm) := hc k m hm 0 (by decide)
      have hnx := butL_next hm nn
      rw [← hE] at hnx
      have hno : notNm nn m = !decide (m.p.nm = nn) := rfl
      rw [hno] at hnx
      obtain ⟨nm, hnm⟩ : ∃ nm, m.p.nm = nm := ⟨_, rfl⟩
      rw [hnm] at c0 hnx
      clear hE hO hB hc hm hno hnm
      by_cases hx : nm = nn
      · have q := str_yes hx
        rw [decide_eq_true hx, if_neg (by decide), List.append_nil] at hnx
        have HNx := Lib.hid hnx.symm
        clear hnx hx
        go_wp2
        go_roundw
        case rel => exact ⟨k + 1, Q, by omega, by go_num, HNx.out, by omega, HO.out, HB.out⟩
        case measure => simp [intOf]; omega
      · have q := str_no hx
        rw [decide_eq_false hx, if_pos (by decide)] at hnx
        have HNx := Lib.hid hnx.symm
        obtain ⟨rw', hrw⟩ : ∃ r, brow m = r := ⟨_, rfl⟩
        have HP := Lib.hid hrw
        have hlen : rw'.length = 21 := by rw [← hrw]; rfl
        rw [hrw] at HRg
        clear hnx hx hrw
        obtain ⟨x0, x1, x2, x3, x4, x5, x6, x7, x8, x9, y0, y1, y2, y3, y4, y5, y6, y7, y8, y9, z0, rfl⟩ := list21 hlen
        clear hlen
        go_wp2_with (first
          | ((with_reducible refine at_load (ty := 55) ?_); refine load_cells rfl 55 (.tmp 24) rfl b (o + k * 21) rfl [x0, x1, x2, x3, x4, x5, x6, x7, x8, x9, y0, y1, y2, y3, y4, y5, y6, y7, y8, y9, z0] _ Tryz.underlying55 rfl (by kernel_rfl) HRg.out ?_)
          | (at_builtin; refine wpList_append_src rfl (.tmp 21) (.tmp 26) 23 rfl w.heap.size 55 i0 _ 21 288 Tryz.underlying23 Hi.out Hz0.out Hz1.out Hz2.out rfl (by decide) _ Q.length (Q.flatMap brow) rfl (HO.out.alloc _) (some ⟨wr.heap.size, 0, none⟩) 1 1 [x0, x1, x2, x3, x4, x5, x6, x7, x8, x9, y0, y1, y2, y3, y4, y5, y6, y7, y8, y9, z0] rfl rfl (fun q e => by injection e with e; rw [← e]; exact news_at _ _ _) (fun e => by cases e) (HP.out ▸ brow_one m) (by unfold maxLen; omega) (by omega) (by simp; omega) ?_; intro v6 w6 hown6 hgrow6; obtain ⟨a6, k6, rfl⟩ := own_sl hown6; have HB6 := Lib.hid (own_below (HO.out.alloc _) (HB.out.alloc hbz _) (by simp; omega) hgrow6); have HO6 := Lib.hid hown6; clear hown6 hgrow6))
        go_roundw
        case rel =>
          refine ⟨k + 1, Q ++ [m], by omega, by go_num, HNx.out.symm ▸ rfl, by rw [List.length_append]; show Q.length + 1 ≤ _; omega, ?_, HB6.out⟩
          rw [List.length_append, List.flatMap_append]
          have h9 := HO6.out
          rw [← HP.out] at h9
          simpa using h9
        case measure => simp [intOf]; omega
    · obtain rfl : k = n := by omega
      have hL : Q = butL bs nn := by rw [hE, List.take_of_length_le (by rw [HN.out]; exact Nat.le_refl _)]
      have HL := Lib.hid hL
      clear hE hO hB hL
      go_wp2
      refine bodyPost_ret (v := .slice ao Q.length ko) (by simp [results, Tryz.results79, go_sem]) rfl ⟨⟨_, rfl, by rw [← HL.out]; exact HO.out⟩, HB.out⟩
/-- The document's Place. -/
structure PS (m : Mac) (p : Pd) : Prop where
  lm : lightM m = true
  lp : lightP p = true
  so : Lb.Sorted m.labs
  tr : ∀ t ∈ p.trms, Lb.rtrm t = true
set_option maxRecDepth 100000 in
set_option maxHeartbeats 4000000 in
theorem refplaces_any (m : Mac) (p : Pd) (w : World) (hM : MacAt w m) (hP : PodAt w p) (hS : PS m p) :
    Calls Tryz.prog 46 #[.agg (mrow m).toArray, .agg (prow p).toArray] w fun e w' => e = .returned (.int .i64 (placeS m p)) ∧ Below w.heap.size w w' := by
  have hLm := lightM_iff hS.lm
  have hLp := lightP_iff hS.lp
  obtain ⟨R, hR⟩ : ∃ R, placeS m p = R := ⟨_, rfl⟩
  rw [hR]
  unfold placeS at hR
  obtain ⟨b1, h1⟩ : ∃ b, Lb.hasP m.labs p.sels = b := ⟨_, rfl⟩
  obtain ⟨b2, h2⟩ : ∃ b, p.trms.all (Lb.meetP m.labs) = b := ⟨_, rfl⟩
  obtain ⟨b3, h3⟩ : ∃ b, Tn.allowsB p.bers m.tnts = b := ⟨_, rfl⟩
  rw [h1, h2, h3] at hR
  have hc1 := fun V (hV : Below w.heap.size w V) => Lb.refhas_any m.la p.sa m.lk p.sk m.labs p.sels V (hM.labs.mono hV) (hP.sels.mono hV) (by have := hLm.ll; omega) (by have := ((lightL_iff _).1 hLp.l1).1; omega) hS.so
  have hc2 := fun V (hV : Below w.heap.size w V) => Lb.refall_any m.la p.ta m.lk p.tk m.labs p.trms V (hM.labs.mono hV) (hP.trms.mono hV) (fun t ht => (hP.trmA t ht).mono hV) (by have := hLm.ll; omega) (by have := hLp.tl; omega) (fun t ht => by have := (Lb.lightTm_ok (hLp.tt t ht)).1; omega) (fun x hx => by have := (hLm.ls x hx).2; omega) (fun t ht v hv => by have := (Lb.lightTm_ok (hLp.tt t ht)).2.2 v hv; omega) hS.tr
  have hc3 := fun V (hV : Below w.heap.size w V) => Tn.refallows_any p.ba m.ta p.bk m.tk p.bers m.tnts V (hP.bers.mono hV) (ber_sz hLp.bl).1 (hM.tnts.mono hV) hLm.tl
  rw [h1] at hc1
  rw [h2] at hc2
  rw [h3] at hc3
  have H1 := Lib.hid hc1
  have H2 := Lib.hid hc2
  have H3 := Lib.hid hc3
  obtain ⟨rd, hrd⟩ : ∃ rd, m.rd = rd := ⟨_, rfl⟩
  rw [hrd] at hR
  obtain ⟨W, hW⟩ : ∃ W, W = (w.alloc (.cells #[.string (m).nm, .string (m).gp, .int .i64 (m).r0, .int .i64 (m).r1, .int .i64 (m).r2, .int .i64 (m).r3, .int .i64 (m).r4, .slice (m).la (m).labs.length (m).lk, .slice (m).ta (m).tnts.length (m).tk, .bool (m).rd] 37)).alloc (.cells #[.string (p).nm, .int .i64 (p).n0, .int .i64 (p).n1, .int .i64 (p).n2, .int .i64 (p).n3, .int .i64 (p).n4, .slice (p).la (p).labs.length (p).lk, .slice (p).sa (p).sels.length (p).sk, .slice (p).ta (p).trms.length (p).tk, .slice (p).ba (p).bers.length (p).bk, .slice (p).pa (p).prts.length (p).pk, .slice (p).aa (p).aprs.length (p).ak, .bool (p).wd, .slice (p).da (p).spds.length (p).dk, .int .i64 (p).sw, .int .i64 (p).rk, .string (p).ow, .bool (p).dm, .bool (p).pn, .bool (p).lc] 31) := ⟨_, rfl⟩
  have hX : Box w.heap.size (mrow m) W := by rw [hW]; exact (Box.new w (mrow m) 37).mono ((Below.refl _ _).alloc (Nat.le_refl _) _)
  have hX2 : Box (w.heap.size + 1) (prow p) W := by
    rw [hW]
    have h9 := Box.new (w.alloc (.cells #[.string (m).nm, .string (m).gp, .int .i64 (m).r0, .int .i64 (m).r1, .int .i64 (m).r2, .int .i64 (m).r3, .int .i64 (m).r4, .slice (m).la (m).labs.length (m).lk, .slice (m).ta (m).tnts.length (m).tk, .bool (m).rd] 37)) (prow p) 31
    rw [World.size_alloc] at h9
    exact h9
  have hbw : Below w.heap.size w W := by rw [hW]; (repeat' (first | with_reducible exact Below.refl _ _ | with_reducible assumption | with_reducible refine Below.drew ?_ | with_reducible refine below_drewN' ?_ _ | with_reducible refine Below.alloc ?_ ?_ _ | with_reducible refine Below.setCell ?_ ?_ _ | with_reducible refine below_step (by assumption) ?_ ?_ | omega | (simp; done) | (simp; omega)))
  have HB := Lib.hid hbw
  have c7 : W.cell? ⟨w.heap.size, 7, none⟩ = some (.slice m.la m.labs.length m.lk) := hX.cell 7
  have c8 : W.cell? ⟨w.heap.size, 8, none⟩ = some (.slice m.ta m.tnts.length m.tk) := hX.cell 8
  have c9 : W.cell? ⟨w.heap.size, 9, none⟩ = some (.bool rd) := by rw [← hrd]; exact hX.cell 9
  have d7 : W.cell? ⟨w.heap.size + 1, 7, none⟩ = some (.slice p.sa p.sels.length p.sk) := hX2.cell 7
  have d8 : W.cell? ⟨w.heap.size + 1, 8, none⟩ = some (.slice p.ta p.trms.length p.tk) := hX2.cell 8
  have d9 : W.cell? ⟨w.heap.size + 1, 9, none⟩ = some (.slice p.ba p.bers.length p.bk) := hX2.cell 9
  have hlm := hX.lt
  have hlp := hX2.lt
  clear hc1 hc2 hc3 h1 h2 h3 hM hP hS hLm hLp hrd hX hX2 hbw
  show Calls Tryz.prog 46 #[.agg #[.string (m).nm, .string (m).gp, .int .i64 (m).r0, .int .i64 (m).r1, .int .i64 (m).r2, .int .i64 (m).r3, .int .i64 (m).r4, .slice (m).la (m).labs.length (m).lk, .slice (m).ta (m).tnts.length (m).tk, .bool (m).rd], .agg #[.string (p).nm, .int .i64 (p).n0, .int .i64 (p).n1, .int .i64 (p).n2, .int .i64 (p).n3, .int .i64 (p).n4, .slice (p).la (p).labs.length (p).lk, .slice (p).sa (p).sels.length (p).sk, .slice (p).ta (p).trms.length (p).tk, .slice (p).ba (p).bers.length (p).bk, .slice (p).pa (p).prts.length (p).pk, .slice (p).aa (p).aprs.length (p).ak, .bool (p).wd, .slice (p).da (p).spds.length (p).dk, .int .i64 (p).sw, .int .i64 (p).rk, .string (p).ow, .bool (p).dm, .bool (p).pn, .bool (p).lc]] w _
  cases rd with
  | false =>
    obtain rfl : R = 1 := by rw [← hR]; rfl
    clear hR
    go_enter Tryz.func46, Tryz.ntmps46
    go_upto_region 1 with (fail)
    rw [← hW]
    clear hW
    go_wp2_with (first
      | (go_at_call 76; (with_reducible refine (H1.out _ HB.out).mono ?_); rintro e w1 ⟨rfl, hb⟩; have e7 : w1.cell? ⟨w.heap.size, 7, none⟩ = _ := (hb.cell (p := ⟨w.heap.size, 7, none⟩) hlm).trans c7; have e8 : w1.cell? ⟨w.heap.size, 8, none⟩ = _ := (hb.cell (p := ⟨w.heap.size, 8, none⟩) hlm).trans c8; have f8 : w1.cell? ⟨w.heap.size + 1, 8, none⟩ = _ := (hb.cell (p := ⟨w.heap.size + 1, 8, none⟩) hlp).trans d8; have f9 : w1.cell? ⟨w.heap.size + 1, 9, none⟩ = _ := (hb.cell (p := ⟨w.heap.size + 1, 9, none⟩) hlp).trans d9; have hkm := Nat.lt_of_lt_of_le hlm hb.size; have hkp := Nat.lt_of_lt_of_le hlp hb.size; have HB1 := Lib.hid (HB.out.trans (hb.mono HB.out.size)); clear hb)
      | (go_at_call 77; (with_reducible refine (H2.out _ HB1.out).mono ?_); rintro e w2 ⟨rfl, hb⟩; have j8 : w2.cell? ⟨w.heap.size, 8, none⟩ = _ := (hb.cell (p := ⟨w.heap.size, 8, none⟩) hkm).trans e8; have l9 : w2.cell? ⟨w.heap.size + 1, 9, none⟩ = _ := (hb.cell (p := ⟨w.heap.size + 1, 9, none⟩) hkp).trans f9; have HB2 := Lib.hid (HB1.out.trans (hb.mono HB1.out.size)); clear hb)
      | (go_at_call 78; (with_reducible refine (H3.out _ HB2.out).mono ?_); rintro e w3 ⟨rfl, hb⟩; have HB3 := Lib.hid (HB2.out.trans (hb.mono HB2.out.size)); clear hb))
    go_ret
    exact ⟨rfl, by first | exact HB3.out | exact HB2.out | exact HB1.out | exact HB.out⟩
  | true =>
    cases b1 with
    | false =>
      obtain rfl : R = 4 := by rw [← hR]; rfl
      clear hR
      go_enter Tryz.func46, Tryz.ntmps46
      go_upto_region 1 with (fail)
      rw [← hW]
      clear hW
      go_wp2_with (first
        | (go_at_call 76; (with_reducible refine (H1.out _ HB.out).mono ?_); rintro e w1 ⟨rfl, hb⟩; have e7 : w1.cell? ⟨w.heap.size, 7, none⟩ = _ := (hb.cell (p := ⟨w.heap.size, 7, none⟩) hlm).trans c7; have e8 : w1.cell? ⟨w.heap.size, 8, none⟩ = _ := (hb.cell (p := ⟨w.heap.size, 8, none⟩) hlm).trans c8; have f8 : w1.cell? ⟨w.heap.size + 1, 8, none⟩ = _ := (hb.cell (p := ⟨w.heap.size + 1, 8, none⟩) hlp).trans d8; have f9 : w1.cell? ⟨w.heap.size + 1, 9, none⟩ = _ := (hb.cell (p := ⟨w.heap.size + 1, 9, none⟩) hlp).trans d9; have hkm := Nat.lt_of_lt_of_le hlm hb.size; have hkp := Nat.lt_of_lt_of_le hlp hb.size; have HB1 := Lib.hid (HB.out.trans (hb.mono HB.out.size)); clear hb)
        | (go_at_call 77; (with_reducible refine (H2.out _ HB1.out).mono ?_); rintro e w2 ⟨rfl, hb⟩; have j8 : w2.cell? ⟨w.heap.size, 8, none⟩ = _ := (hb.cell (p := ⟨w.heap.size, 8, none⟩) hkm).trans e8; have l9 : w2.cell? ⟨w.heap.size + 1, 9, none⟩ = _ := (hb.cell (p := ⟨w.heap.size + 1, 9, none⟩) hkp).trans f9; have HB2 := Lib.hid (HB1.out.trans (hb.mono HB1.out.size)); clear hb)
        | (go_at_call 78; (with_reducible refine (H3.out _ HB2.out).mono ?_); rintro e w3 ⟨rfl, hb⟩; have HB3 := Lib.hid (HB2.out.trans (hb.mono HB2.out.size)); clear hb))
      go_ret
      exact ⟨rfl, by first | exact HB3.out | exact HB2.out | exact HB1.out | exact HB.out⟩
    | true =>
      cases b2 with
      | false =>
        obtain rfl : R = 5 := by rw [← hR]; rfl
        clear hR
        go_enter Tryz.func46, Tryz.ntmps46
        go_upto_region 1 with (fail)
        rw [← hW]
        clear hW
        go_wp2_with (first
          | (go_at_call 76; (with_reducible refine (H1.out _ HB.out).mono ?_); rintro e w1 ⟨rfl, hb⟩; have e7 : w1.cell? ⟨w.heap.size, 7, none⟩ = _ := (hb.cell (p := ⟨w.heap.size, 7, none⟩) hlm).trans c7; have e8 : w1.cell? ⟨w.heap.size, 8, none⟩ = _ := (hb.cell (p := ⟨w.heap.size, 8, none⟩) hlm).trans c8; have f8 : w1.cell? ⟨w.heap.size + 1, 8, none⟩ = _ := (hb.cell (p := ⟨w.heap.size + 1, 8, none⟩) hlp).trans d8; have f9 : w1.cell? ⟨w.heap.size + 1, 9, none⟩ = _ := (hb.cell (p := ⟨w.heap.size + 1, 9, none⟩) hlp).trans d9; have hkm := Nat.lt_of_lt_of_le hlm hb.size; have hkp := Nat.lt_of_lt_of_le hlp hb.size; have HB1 := Lib.hid (HB.out.trans (hb.mono HB.out.size)); clear hb)
          | (go_at_call 77; (with_reducible refine (H2.out _ HB1.out).mono ?_); rintro e w2 ⟨rfl, hb⟩; have j8 : w2.cell? ⟨w.heap.size, 8, none⟩ = _ := (hb.cell (p := ⟨w.heap.size, 8, none⟩) hkm).trans e8; have l9 : w2.cell? ⟨w.heap.size + 1, 9, none⟩ = _ := (hb.cell (p := ⟨w.heap.size + 1, 9, none⟩) hkp).trans f9; have HB2 := Lib.hid (HB1.out.trans (hb.mono HB1.out.size)); clear hb)
          | (go_at_call 78; (with_reducible refine (H3.out _ HB2.out).mono ?_); rintro e w3 ⟨rfl, hb⟩; have HB3 := Lib.hid (HB2.out.trans (hb.mono HB2.out.size)); clear hb))
        go_ret
        exact ⟨rfl, by first | exact HB3.out | exact HB2.out | exact HB1.out | exact HB.out⟩
      | true =>
        cases b3 with
        | false =>
          obtain rfl : R = 6 := by rw [← hR]; rfl
          clear hR
          go_enter Tryz.func46, Tryz.ntmps46
          go_upto_region 1 with (fail)
          rw [← hW]
          clear hW
          go_wp2_with (first
            | (go_at_call 76; (with_reducible refine (H1.out _ HB.out).mono ?_); rintro e w1 ⟨rfl, hb⟩; have e7 : w1.cell? ⟨w.heap.size, 7, none⟩ = _ := (hb.cell (p := ⟨w.heap.size, 7, none⟩) hlm).trans c7; have e8 : w1.cell? ⟨w.heap.size, 8, none⟩ = _ := (hb.cell (p := ⟨w.heap.size, 8, none⟩) hlm).trans c8; have f8 : w1.cell? ⟨w.heap.size + 1, 8, none⟩ = _ := (hb.cell (p := ⟨w.heap.size + 1, 8, none⟩) hlp).trans d8; have f9 : w1.cell? ⟨w.heap.size + 1, 9, none⟩ = _ := (hb.cell (p := ⟨w.heap.size + 1, 9, none⟩) hlp).trans d9; have hkm := Nat.lt_of_lt_of_le hlm hb.size; have hkp := Nat.lt_of_lt_of_le hlp hb.size; have HB1 := Lib.hid (HB.out.trans (hb.mono HB.out.size)); clear hb)
            | (go_at_call 77; (with_reducible refine (H2.out _ HB1.out).mono ?_); rintro e w2 ⟨rfl, hb⟩; have j8 : w2.cell? ⟨w.heap.size, 8, none⟩ = _ := (hb.cell (p := ⟨w.heap.size, 8, none⟩) hkm).trans e8; have l9 : w2.cell? ⟨w.heap.size + 1, 9, none⟩ = _ := (hb.cell (p := ⟨w.heap.size + 1, 9, none⟩) hkp).trans f9; have HB2 := Lib.hid (HB1.out.trans (hb.mono HB1.out.size)); clear hb)
            | (go_at_call 78; (with_reducible refine (H3.out _ HB2.out).mono ?_); rintro e w3 ⟨rfl, hb⟩; have HB3 := Lib.hid (HB2.out.trans (hb.mono HB2.out.size)); clear hb))
          go_ret
          exact ⟨rfl, by first | exact HB3.out | exact HB2.out | exact HB1.out | exact HB.out⟩
        | true =>
          obtain rfl : R = 0 := by rw [← hR]; rfl
          clear hR
          go_enter Tryz.func46, Tryz.ntmps46
          go_upto_region 1 with (fail)
          rw [← hW]
          clear hW
          go_wp2_with (first
            | (go_at_call 76; (with_reducible refine (H1.out _ HB.out).mono ?_); rintro e w1 ⟨rfl, hb⟩; have e7 : w1.cell? ⟨w.heap.size, 7, none⟩ = _ := (hb.cell (p := ⟨w.heap.size, 7, none⟩) hlm).trans c7; have e8 : w1.cell? ⟨w.heap.size, 8, none⟩ = _ := (hb.cell (p := ⟨w.heap.size, 8, none⟩) hlm).trans c8; have f8 : w1.cell? ⟨w.heap.size + 1, 8, none⟩ = _ := (hb.cell (p := ⟨w.heap.size + 1, 8, none⟩) hlp).trans d8; have f9 : w1.cell? ⟨w.heap.size + 1, 9, none⟩ = _ := (hb.cell (p := ⟨w.heap.size + 1, 9, none⟩) hlp).trans d9; have hkm := Nat.lt_of_lt_of_le hlm hb.size; have hkp := Nat.lt_of_lt_of_le hlp hb.size; have HB1 := Lib.hid (HB.out.trans (hb.mono HB.out.size)); clear hb)
            | (go_at_call 77; (with_reducible refine (H2.out _ HB1.out).mono ?_); rintro e w2 ⟨rfl, hb⟩; have j8 : w2.cell? ⟨w.heap.size, 8, none⟩ = _ := (hb.cell (p := ⟨w.heap.size, 8, none⟩) hkm).trans e8; have l9 : w2.cell? ⟨w.heap.size + 1, 9, none⟩ = _ := (hb.cell (p := ⟨w.heap.size + 1, 9, none⟩) hkp).trans f9; have HB2 := Lib.hid (HB1.out.trans (hb.mono HB1.out.size)); clear hb)
            | (go_at_call 78; (with_reducible refine (H3.out _ HB2.out).mono ?_); rintro e w3 ⟨rfl, hb⟩; have HB3 := Lib.hid (HB2.out.trans (hb.mono HB2.out.size)); clear hb))
          go_ret
          exact ⟨rfl, by first | exact HB3.out | exact HB2.out | exact HB1.out | exact HB.out⟩
end Go.Proofs.YthbpnfpalcgfeaaGreat
