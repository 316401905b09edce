/-
  Apart: Near.
-/
import Derived.Test.YthbpnfpalcgfeaaGreatFt1
namespace Go.Proofs.YthbpnfpalcgfeaaGreat
open Go.RowKit
set_option linter.unusedVariables false
set_option linter.unusedSimpArgs false

set_option maxRecDepth 100000 in
set_option maxHeartbeats 4000000 in
theorem near_any (a c : Option Addr) (ka kc : Nat) (ms : List Mac) (bs : List Bd) (p : Pd) (on : ByteArray) (w : World) (hY : YA w a ms c bs) (hP : PodAt w p) (hp : lightP p = true) :
    Calls Tryz.prog 44 #[.slice a ms.length ka, .slice c bs.length kc, .agg (prow p).toArray, .string on] w fun e w' => e = .returned (.bool (nearB ms bs p on)) ∧ Below w.heap.size w w' := by
  have hfi := fun V (hV : Below w.heap.size w V) => find_any a ka ms on V (hY.ml.mono hV) (by have := hY.mm; omega)
  obtain ⟨R, hR⟩ : ∃ R, nearB ms bs p on = R := ⟨_, rfl⟩
  rw [hR]
  unfold nearB at hR
  obtain ⟨W, hW⟩ : ∃ W, W = (w.alloc (.cells #[.string (p).nm, .int .i64 (p).n0, .int .i64 (p).n1, .int .i64 (p).n2, .int .i64 (p).n3, .int .i64 (p).n4, .slice (p).la (p).labs.length (p).lk, .slice (p).sa (p).sels.length (p).sk, .slice (p).ta (p).trms.length (p).tk, .slice (p).ba (p).bers.length (p).bk, .slice (p).pa (p).prts.length (p).pk, .slice (p).aa (p).aprs.length (p).ak, .bool (p).wd, .slice (p).da (p).spds.length (p).dk, .int .i64 (p).sw, .int .i64 (p).rk, .string (p).ow, .bool (p).dm, .bool (p).pn, .bool (p).lc] 31)) := ⟨_, rfl⟩
  have hX : Box w.heap.size (prow p) W := by rw [hW]; exact (Box.new w (prow p) 31)
  have hbw : Below w.heap.size w W := by rw [hW]; (repeat' (first | with_reducible exact Below.refl _ _ | with_reducible assumption | with_reducible refine Below.drew ?_ | with_reducible refine below_drewN' ?_ _ | with_reducible refine Below.alloc ?_ ?_ _ | with_reducible refine Below.setCell ?_ ?_ _ | with_reducible refine below_step (by assumption) ?_ ?_ | omega | (simp; done) | (simp; omega)))
  have HB := Lib.hid hbw
  have HX := Lib.hid hX
  have HYA := Lib.hid hY
  have HPA := Lib.hid hP
  obtain ⟨N, hN⟩ : ∃ N, bs.length = N := ⟨_, rfl⟩
  obtain ⟨n, hn⟩ : ∃ n, ms.length = n := ⟨_, rfl⟩
  have hNb := hY.bb
  have HN := Lib.hid hN
  have Hn := Lib.hid hn
  have hpl := lightP_lens hp
  rw [hN] at hNb
  rw [hn] at hfi ⊢
  rw [hN]
  show Calls Tryz.prog 44 #[.slice a n ka, .slice c N kc, .agg #[.string (p).nm, .int .i64 (p).n0, .int .i64 (p).n1, .int .i64 (p).n2, .int .i64 (p).n3, .int .i64 (p).n4, .slice (p).la (p).labs.length (p).lk, .slice (p).sa (p).sels.length (p).sk, .slice (p).ta (p).trms.length (p).tk, .slice (p).ba (p).bers.length (p).bk, .slice (p).pa (p).prts.length (p).pk, .slice (p).aa (p).aprs.length (p).ak, .bool (p).wd, .slice (p).da (p).spds.length (p).dk, .int .i64 (p).sw, .int .i64 (p).rk, .string (p).ow, .bool (p).dm, .bool (p).pn, .bool (p).lc], .string on] w _
  rcases find_cases ms on with ⟨h1, h2⟩ | ⟨i, m, h1, h2, h3, h4⟩
  · obtain rfl : R = false := by rw [← hR, h2]; rfl
    rw [h1] at hfi
    have HFi := Lib.hid hfi
    clear hfi h1 h2 hR hX hbw hY hP hp hN hn
    go_enter Tryz.func44, Tryz.ntmps44
    go_upto_region 1 with (fail)
    rw [← hW]
    clear hW
    go_wp2_with (go_at_call 20; (with_reducible refine (HFi.out _ HB.out).mono ?_); rintro e w1 ⟨rfl, hb⟩; have HB1 := Lib.hid (HB.out.trans (hb.mono HB.out.size)); clear hb)
    go_ret
    exact ⟨rfl, HB1.out⟩
  · rw [h4] at hR
    have hR : bs.any (nearOf ms p on) = R := hR
    have HR := Lib.hid hR
    rw [h1] at hfi
    have HFi := Lib.hid hfi
    clear hfi h1 h2 h3 h4 hR hX hbw hY hP hp hN hn
    go_enter Tryz.func44, Tryz.ntmps44
    go_upto_region 1 with (fail)
    rw [← hW]
    clear hW
    go_wp2_with (go_at_call 20; (with_reducible refine (HFi.out _ HB.out).mono ?_); rintro e w1 ⟨rfl, hb⟩; have HB1 := Lib.hid (HB.out.trans (hb.mono HB.out.size)); have HX1 := Lib.hid (HX.out.mono hb); clear hb)
    clear HB HX HFi
    go_loopw [17] (fun vi wr => ∃ k : Nat, k ≤ N ∧ vi = .int .i64 k ∧ (bs.take k).any (nearOf ms p on) = false ∧ Box w.heap.size (prow p) wr ∧ Below w.heap.size w wr) (fun vi _ => N - (intOf vi).toNat)
    case atStart => exact ⟨0, Nat.zero_le _, rfl, rfl, HX1.out, HB1.out⟩
    case round =>
      clear HX1 HB1
      obtain ⟨k, hk, rfl, hE, hX, hB⟩ := hrel
      have HE := Lib.hid hE
      have HX := Lib.hid hX
      have HB := Lib.hid hB
      have hlp := hX.lt
      have HRp := Lib.hid (show wr.rangeAt w.heap.size 0 [.string (p).nm, .int .i64 (p).n0, .int .i64 (p).n1, .int .i64 (p).n2, .int .i64 (p).n3, .int .i64 (p).n4, .slice (p).la (p).labs.length (p).lk, .slice (p).sa (p).sels.length (p).sk, .slice (p).ta (p).trms.length (p).tk, .slice (p).ba (p).bers.length (p).bk, .slice (p).pa (p).prts.length (p).pk, .slice (p).aa (p).aprs.length (p).ak, .bool (p).wd, .slice (p).da (p).spds.length (p).dk, .int .i64 (p).sw, .int .i64 (p).rk, .string (p).ow, .bool (p).dm, .bool (p).pn, .bool (p).lc] from hX.range)
      clear hE hX
      by_cases hlt : k < N
      · obtain ⟨b, hbk⟩ := mem_at (l := bs) (k := k) (by rw [HN.out]; exact hlt)
        have hbm := List.mem_of_getElem? hbk
        obtain ⟨q, o, rfl, hq, hc⟩ := (HYA.out.bl.mono hB) (by rw [HN.out]; omega)
        have c0 : wr.cell? ⟨q, o + k * 21, none⟩ = some (.string b.p.nm) := hc k b hbk 0 (by decide)
        have c20 : wr.cell? ⟨q, o + k * 21 + 20, none⟩ = some (.string b.on) := hc k b hbk 20 (by decide)
        have HRq := Lib.hid (show wr.rangeAt q (o + k * 21) [.string (b.p).nm, .int .i64 (b.p).n0, .int .i64 (b.p).n1, .int .i64 (b.p).n2, .int .i64 (b.p).n3, .int .i64 (b.p).n4, .slice (b.p).la (b.p).labs.length (b.p).lk, .slice (b.p).sa (b.p).sels.length (b.p).sk, .slice (b.p).ta (b.p).trms.length (b.p).tk, .slice (b.p).ba (b.p).bers.length (b.p).bk, .slice (b.p).pa (b.p).prts.length (b.p).pk, .slice (b.p).aa (b.p).aprs.length (b.p).ak, .bool (b.p).wd, .slice (b.p).da (b.p).spds.length (b.p).dk, .int .i64 (b.p).sw, .int .i64 (b.p).rk, .string (b.p).ow, .bool (b.p).dm, .bool (b.p).pn, .bool (b.p).lc] from fun j v hj => by
          have hj20 : j < 20 := (List.getElem?_eq_some_iff.1 hj).1
          rw [hc k b hbk j (by omega)]
          show (prow b.p ++ [.string b.on])[j]? = _
          rw [List.getElem?_append_left (by rw [prow_len]; exact hj20)]
          exact hj)
        obtain ⟨mt, hmt⟩ : ∃ x, matB b p = x := ⟨_, rfl⟩
        obtain ⟨k1, hk1⟩ : ∃ x, awayB ms p.aprs p.wd b.p.labs on b.on = x := ⟨_, rfl⟩
        obtain ⟨k2, hk2⟩ : ∃ x, awayB ms b.p.aprs b.p.wd p.labs on b.on = x := ⟨_, rfl⟩
        have hnx : nearOf ms p on b = (mt && (k1 || k2)) := by unfold nearOf; rw [hmt, hk1, hk2]
        have hlb := lightP_lens (HYA.out.lb b hbm)
        have HM := Lib.hid (show ∀ V, Below wr.heap.size wr V → Calls Tryz.prog 70 #[.pointer (some ⟨q, o + k * 21, none⟩), .agg #[.string (p).nm, .int .i64 (p).n0, .int .i64 (p).n1, .int .i64 (p).n2, .int .i64 (p).n3, .int .i64 (p).n4, .slice (p).la (p).labs.length (p).lk, .slice (p).sa (p).sels.length (p).sk, .slice (p).ta (p).trms.length (p).tk, .slice (p).ba (p).bers.length (p).bk, .slice (p).pa (p).prts.length (p).pk, .slice (p).aa (p).aprs.length (p).ak, .bool (p).wd, .slice (p).da (p).spds.length (p).dk, .int .i64 (p).sw, .int .i64 (p).rk, .string (p).ow, .bool (p).dm, .bool (p).pn, .bool (p).lc]] V fun e w' => e = .returned (.bool mt) ∧ Below V.heap.size V w' from fun V hV => by
          have h9 := matters_any q (o + k * 21) b p V ((hV.cell (p := ⟨q, o + k * 21, none⟩) hq).trans c0) ((hV.cell (p := ⟨q, o + k * 21 + 20, none⟩) hq).trans c20) (Nat.lt_of_lt_of_le hq hV.size)
          rw [hmt] at h9
          exact h9)
        have HK1 := Lib.hid (show ∀ V, Below wr.heap.size wr V → Calls Tryz.prog 71 #[.slice a n ka, .agg #[.string (p).nm, .int .i64 (p).n0, .int .i64 (p).n1, .int .i64 (p).n2, .int .i64 (p).n3, .int .i64 (p).n4, .slice (p).la (p).labs.length (p).lk, .slice (p).sa (p).sels.length (p).sk, .slice (p).ta (p).trms.length (p).tk, .slice (p).ba (p).bers.length (p).bk, .slice (p).pa (p).prts.length (p).pk, .slice (p).aa (p).aprs.length (p).ak, .bool (p).wd, .slice (p).da (p).spds.length (p).dk, .int .i64 (p).sw, .int .i64 (p).rk, .string (p).ow, .bool (p).dm, .bool (p).pn, .bool (p).lc], .agg #[.string (b.p).nm, .int .i64 (b.p).n0, .int .i64 (b.p).n1, .int .i64 (b.p).n2, .int .i64 (b.p).n3, .int .i64 (b.p).n4, .slice (b.p).la (b.p).labs.length (b.p).lk, .slice (b.p).sa (b.p).sels.length (b.p).sk, .slice (b.p).ta (b.p).trms.length (b.p).tk, .slice (b.p).ba (b.p).bers.length (b.p).bk, .slice (b.p).pa (b.p).prts.length (b.p).pk, .slice (b.p).aa (b.p).aprs.length (b.p).ak, .bool (b.p).wd, .slice (b.p).da (b.p).spds.length (b.p).dk, .int .i64 (b.p).sw, .int .i64 (b.p).rk, .string (b.p).ow, .bool (b.p).dm, .bool (b.p).pn, .bool (b.p).lc], .string on, .string b.on] V fun e w' => e = .returned (.bool k1) ∧ Below V.heap.size V w' from fun V hV => by
          have hbv := HB.out.trans (hV.mono HB.out.size)
          have h9 := away_any a ka ms p b.p on b.on V (HYA.out.ml.mono hbv) (fun m hm => ((HYA.out.mi m hm).mono hbv).here) (by have := HYA.out.mm; omega) (HPA.out.mono hbv) ((HYA.out.bi b hbm).mono hbv).here (by omega) (by omega)
          rw [hk1, Hn.out] at h9
          exact h9)
        have HK2 := Lib.hid (show ∀ V, Below wr.heap.size wr V → Calls Tryz.prog 71 #[.slice a n ka, .agg #[.string (b.p).nm, .int .i64 (b.p).n0, .int .i64 (b.p).n1, .int .i64 (b.p).n2, .int .i64 (b.p).n3, .int .i64 (b.p).n4, .slice (b.p).la (b.p).labs.length (b.p).lk, .slice (b.p).sa (b.p).sels.length (b.p).sk, .slice (b.p).ta (b.p).trms.length (b.p).tk, .slice (b.p).ba (b.p).bers.length (b.p).bk, .slice (b.p).pa (b.p).prts.length (b.p).pk, .slice (b.p).aa (b.p).aprs.length (b.p).ak, .bool (b.p).wd, .slice (b.p).da (b.p).spds.length (b.p).dk, .int .i64 (b.p).sw, .int .i64 (b.p).rk, .string (b.p).ow, .bool (b.p).dm, .bool (b.p).pn, .bool (b.p).lc], .agg #[.string (p).nm, .int .i64 (p).n0, .int .i64 (p).n1, .int .i64 (p).n2, .int .i64 (p).n3, .int .i64 (p).n4, .slice (p).la (p).labs.length (p).lk, .slice (p).sa (p).sels.length (p).sk, .slice (p).ta (p).trms.length (p).tk, .slice (p).ba (p).bers.length (p).bk, .slice (p).pa (p).prts.length (p).pk, .slice (p).aa (p).aprs.length (p).ak, .bool (p).wd, .slice (p).da (p).spds.length (p).dk, .int .i64 (p).sw, .int .i64 (p).rk, .string (p).ow, .bool (p).dm, .bool (p).pn, .bool (p).lc], .string on, .string b.on] V fun e w' => e = .returned (.bool k2) ∧ Below V.heap.size V w' from fun V hV => by
          have hbv := HB.out.trans (hV.mono HB.out.size)
          have h9 := away_any a ka ms b.p p on b.on V (HYA.out.ml.mono hbv) (fun m hm => ((HYA.out.mi m hm).mono hbv).here) (by have := HYA.out.mm; omega) ((HYA.out.bi b hbm).mono hbv).here (HPA.out.mono hbv) (by omega) (by omega)
          rw [hk2, Hn.out] at h9
          exact h9)
        have Hbk := Lib.hid hbk
        have Hnx := Lib.hid hnx
        clear hmt hk1 hk2 hnx hlb hc hbk hbm c0 hpl hB
        cases mt with
        | false =>
          have HNx := Lib.hid (show (bs.take (k + 1)).any (nearOf ms p on) = false from Lb.any_take1 Hbk.out Hnx.out HE.out)
          go_upto_region 7 with (fail)
          have hcH := held_cell
          refine region_rel (by kernel_rfl) (by kernel_rfl) ?_
          repeat
            ((with_reducible refine relStep (fun K hK => ?_))
             (have HK := Lib.hid hK)
             clear hK
             (apply relInl
              · intro r n hf
                have Hf := Lib.hid hf
                clear hf
                (first
                  | ((first | ((with_reducible refine at_rel (ty := 31) ?_); refine rel_load rfl w.heap.size 0 rfl [.string (p).nm, .int .i64 (p).n0, .int .i64 (p).n1, .int .i64 (p).n2, .int .i64 (p).n3, .int .i64 (p).n4, .slice (p).la (p).labs.length (p).lk, .slice (p).sa (p).sels.length (p).sk, .slice (p).ta (p).trms.length (p).tk, .slice (p).ba (p).bers.length (p).bk, .slice (p).pa (p).prts.length (p).pk, .slice (p).aa (p).aprs.length (p).ak, .bool (p).wd, .slice (p).da (p).spds.length (p).dk, .int .i64 (p).sw, .int .i64 (p).rk, .string (p).ow, .bool (p).dm, .bool (p).pn, .bool (p).lc] _ Tryz.underlying31 rfl (by kernel_rfl) (rangeAt_mono HRp.out hlp n.below) rfl) | ((with_reducible refine at_rel (ty := 31) ?_); refine rel_load rfl q (o + k * 21) rfl [.string (b.p).nm, .int .i64 (b.p).n0, .int .i64 (b.p).n1, .int .i64 (b.p).n2, .int .i64 (b.p).n3, .int .i64 (b.p).n4, .slice (b.p).la (b.p).labs.length (b.p).lk, .slice (b.p).sa (b.p).sels.length (b.p).sk, .slice (b.p).ta (b.p).trms.length (b.p).tk, .slice (b.p).ba (b.p).bers.length (b.p).bk, .slice (b.p).pa (b.p).prts.length (b.p).pk, .slice (b.p).aa (b.p).aprs.length (b.p).ak, .bool (b.p).wd, .slice (b.p).da (b.p).spds.length (b.p).dk, .int .i64 (b.p).sw, .int .i64 (b.p).rk, .string (b.p).ow, .bool (b.p).dm, .bool (b.p).pn, .bool (b.p).lc] _ Tryz.underlying31 rfl (by kernel_rfl) (rangeAt_mono HRq.out hq n.below) rfl)))
                  | (unfold relAt
                     go_simp
                     (first | (refine relUpon_val ?_ (Below.refl _ _); exact rfl) | exact rfl | (refine relUpon_enter ?_; (first | (go_at_call 70; (with_reducible refine (HM.out _ n.below).mono ?_); rintro e w9 ⟨rfl, hb⟩; exact ⟨⟨_, rfl, rfl⟩, hb⟩) | (go_at_call 71; (first | (with_reducible refine (HK1.out _ n.below).mono ?_) | (with_reducible refine (HK2.out _ n.below).mono ?_)); rintro e w9 ⟨rfl, hb⟩; exact ⟨⟨_, rfl, rfl⟩, hb⟩))))))
              (simp only [Act.put, List.setIfInBounds_toArray, List.set_cons_zero, List.set_cons_succ])
              (with_reducible refine HK.out _ _ ?_)
              clear HK K))
          refine relNil ?_
          intro r9 n9 hx9
          clear hcH
          (try simp only [List.nil_append, List.cons_append, List.mem_cons, List.not_mem_nil, or_false, forall_eq_or_imp, forall_eq, false_implies, implies_true] at hx9)
          obtain ⟨w9, hb9⟩ := n9
          (try dsimp only)
          obtain ⟨hc9, hf9⟩ := bcell hb9
          have hz9 := hb9.size
          (try simp at hz9)
          go_wp2
          go_roundw
          case rel => exact ⟨k + 1, by omega, by go_num, HNx.out, HX.out.mono hb9, HB.out.trans (hb9.mono HB.out.size)⟩
          case measure => simp [intOf]; omega
        | true =>
          cases k1 with
          | true =>
            have HRt := Lib.hid (show R = true by rw [← HR.out, List.any_eq_true]; exact ⟨b, List.mem_of_getElem? Hbk.out, Hnx.out⟩)
            go_upto_region 7 with (fail)
            have hcH := held_cell
            refine region_rel (by kernel_rfl) (by kernel_rfl) ?_
            repeat
              ((with_reducible refine relStep (fun K hK => ?_))
               (have HK := Lib.hid hK)
               clear hK
               (apply relInl
                · intro r n hf
                  have Hf := Lib.hid hf
                  clear hf
                  (first
                    | ((first | ((with_reducible refine at_rel (ty := 31) ?_); refine rel_load rfl w.heap.size 0 rfl [.string (p).nm, .int .i64 (p).n0, .int .i64 (p).n1, .int .i64 (p).n2, .int .i64 (p).n3, .int .i64 (p).n4, .slice (p).la (p).labs.length (p).lk, .slice (p).sa (p).sels.length (p).sk, .slice (p).ta (p).trms.length (p).tk, .slice (p).ba (p).bers.length (p).bk, .slice (p).pa (p).prts.length (p).pk, .slice (p).aa (p).aprs.length (p).ak, .bool (p).wd, .slice (p).da (p).spds.length (p).dk, .int .i64 (p).sw, .int .i64 (p).rk, .string (p).ow, .bool (p).dm, .bool (p).pn, .bool (p).lc] _ Tryz.underlying31 rfl (by kernel_rfl) (rangeAt_mono HRp.out hlp n.below) rfl) | ((with_reducible refine at_rel (ty := 31) ?_); refine rel_load rfl q (o + k * 21) rfl [.string (b.p).nm, .int .i64 (b.p).n0, .int .i64 (b.p).n1, .int .i64 (b.p).n2, .int .i64 (b.p).n3, .int .i64 (b.p).n4, .slice (b.p).la (b.p).labs.length (b.p).lk, .slice (b.p).sa (b.p).sels.length (b.p).sk, .slice (b.p).ta (b.p).trms.length (b.p).tk, .slice (b.p).ba (b.p).bers.length (b.p).bk, .slice (b.p).pa (b.p).prts.length (b.p).pk, .slice (b.p).aa (b.p).aprs.length (b.p).ak, .bool (b.p).wd, .slice (b.p).da (b.p).spds.length (b.p).dk, .int .i64 (b.p).sw, .int .i64 (b.p).rk, .string (b.p).ow, .bool (b.p).dm, .bool (b.p).pn, .bool (b.p).lc] _ Tryz.underlying31 rfl (by kernel_rfl) (rangeAt_mono HRq.out hq n.below) rfl)))
                    | (unfold relAt
                       go_simp
                       (first | (refine relUpon_val ?_ (Below.refl _ _); exact rfl) | exact rfl | (refine relUpon_enter ?_; (first | (go_at_call 70; (with_reducible refine (HM.out _ n.below).mono ?_); rintro e w9 ⟨rfl, hb⟩; exact ⟨⟨_, rfl, rfl⟩, hb⟩) | (go_at_call 71; (first | (with_reducible refine (HK1.out _ n.below).mono ?_) | (with_reducible refine (HK2.out _ n.below).mono ?_)); rintro e w9 ⟨rfl, hb⟩; exact ⟨⟨_, rfl, rfl⟩, hb⟩))))))
                (simp only [Act.put, List.setIfInBounds_toArray, List.set_cons_zero, List.set_cons_succ])
                (with_reducible refine HK.out _ _ ?_)
                clear HK K))
            refine relNil ?_
            intro r9 n9 hx9
            clear hcH
            (try simp only [List.nil_append, List.cons_append, List.mem_cons, List.not_mem_nil, or_false, forall_eq_or_imp, forall_eq, false_implies, implies_true] at hx9)
            obtain ⟨w9, hb9⟩ := n9
            (try dsimp only)
            obtain ⟨hc9, hf9⟩ := bcell hb9
            have hz9 := hb9.size
            (try simp at hz9)
            go_wp2
            go_ret
            exact ⟨by rw [HRt.out]; first | done | rfl, HB.out.trans (hb9.mono HB.out.size)⟩
          | false =>
            cases k2 with
            | true =>
              have HRt := Lib.hid (show R = true by rw [← HR.out, List.any_eq_true]; exact ⟨b, List.mem_of_getElem? Hbk.out, Hnx.out⟩)
              go_upto_region 7 with (fail)
              have hcH := held_cell
              refine region_rel (by kernel_rfl) (by kernel_rfl) ?_
              repeat
                ((with_reducible refine relStep (fun K hK => ?_))
                 (have HK := Lib.hid hK)
                 clear hK
                 (apply relInl
                  · intro r n hf
                    have Hf := Lib.hid hf
                    clear hf
                    (first
                      | ((first | ((with_reducible refine at_rel (ty := 31) ?_); refine rel_load rfl w.heap.size 0 rfl [.string (p).nm, .int .i64 (p).n0, .int .i64 (p).n1, .int .i64 (p).n2, .int .i64 (p).n3, .int .i64 (p).n4, .slice (p).la (p).labs.length (p).lk, .slice (p).sa (p).sels.length (p).sk, .slice (p).ta (p).trms.length (p).tk, .slice (p).ba (p).bers.length (p).bk, .slice (p).pa (p).prts.length (p).pk, .slice (p).aa (p).aprs.length (p).ak, .bool (p).wd, .slice (p).da (p).spds.length (p).dk, .int .i64 (p).sw, .int .i64 (p).rk, .string (p).ow, .bool (p).dm, .bool (p).pn, .bool (p).lc] _ Tryz.underlying31 rfl (by kernel_rfl) (rangeAt_mono HRp.out hlp n.below) rfl) | ((with_reducible refine at_rel (ty := 31) ?_); refine rel_load rfl q (o + k * 21) rfl [.string (b.p).nm, .int .i64 (b.p).n0, .int .i64 (b.p).n1, .int .i64 (b.p).n2, .int .i64 (b.p).n3, .int .i64 (b.p).n4, .slice (b.p).la (b.p).labs.length (b.p).lk, .slice (b.p).sa (b.p).sels.length (b.p).sk, .slice (b.p).ta (b.p).trms.length (b.p).tk, .slice (b.p).ba (b.p).bers.length (b.p).bk, .slice (b.p).pa (b.p).prts.length (b.p).pk, .slice (b.p).aa (b.p).aprs.length (b.p).ak, .bool (b.p).wd, .slice (b.p).da (b.p).spds.length (b.p).dk, .int .i64 (b.p).sw, .int .i64 (b.p).rk, .string (b.p).ow, .bool (b.p).dm, .bool (b.p).pn, .bool (b.p).lc] _ Tryz.underlying31 rfl (by kernel_rfl) (rangeAt_mono HRq.out hq n.below) rfl)))
                      | (unfold relAt
                         go_simp
                         (first | (refine relUpon_val ?_ (Below.refl _ _); exact rfl) | exact rfl | (refine relUpon_enter ?_; (first | (go_at_call 70; (with_reducible refine (HM.out _ n.below).mono ?_); rintro e w9 ⟨rfl, hb⟩; exact ⟨⟨_, rfl, rfl⟩, hb⟩) | (go_at_call 71; (first | (with_reducible refine (HK1.out _ n.below).mono ?_) | (with_reducible refine (HK2.out _ n.below).mono ?_)); rintro e w9 ⟨rfl, hb⟩; exact ⟨⟨_, rfl, rfl⟩, hb⟩))))))
                  (simp only [Act.put, List.setIfInBounds_toArray, List.set_cons_zero, List.set_cons_succ])
                  (with_reducible refine HK.out _ _ ?_)
                  clear HK K))
              refine relNil ?_
              intro r9 n9 hx9
              clear hcH
              (try simp only [List.nil_append, List.cons_append, List.mem_cons, List.not_mem_nil, or_false, forall_eq_or_imp, forall_eq, false_implies, implies_true] at hx9)
              obtain ⟨w9, hb9⟩ := n9
              (try dsimp only)
              obtain ⟨hc9, hf9⟩ := bcell hb9
              have hz9 := hb9.size
              (try simp at hz9)
              go_wp2
              go_ret
              exact ⟨by rw [HRt.out]; first | done | rfl, HB.out.trans (hb9.mono HB.out.size)⟩
            | false =>
              have HNx := Lib.hid (show (bs.take (k + 1)).any (nearOf ms p on) = false from Lb.any_take1 Hbk.out Hnx.out HE.out)
              go_upto_region 7 with (fail)
              have hcH := held_cell
              refine region_rel (by kernel_rfl) (by kernel_rfl) ?_
              repeat
                ((with_reducible refine relStep (fun K hK => ?_))
                 (have HK := Lib.hid hK)
                 clear hK
                 (apply relInl
                  · intro r n hf
                    have Hf := Lib.hid hf
                    clear hf
                    (first
                      | ((first | ((with_reducible refine at_rel (ty := 31) ?_); refine rel_load rfl w.heap.size 0 rfl [.string (p).nm, .int .i64 (p).n0, .int .i64 (p).n1, .int .i64 (p).n2, .int .i64 (p).n3, .int .i64 (p).n4, .slice (p).la (p).labs.length (p).lk, .slice (p).sa (p).sels.length (p).sk, .slice (p).ta (p).trms.length (p).tk, .slice (p).ba (p).bers.length (p).bk, .slice (p).pa (p).prts.length (p).pk, .slice (p).aa (p).aprs.length (p).ak, .bool (p).wd, .slice (p).da (p).spds.length (p).dk, .int .i64 (p).sw, .int .i64 (p).rk, .string (p).ow, .bool (p).dm, .bool (p).pn, .bool (p).lc] _ Tryz.underlying31 rfl (by kernel_rfl) (rangeAt_mono HRp.out hlp n.below) rfl) | ((with_reducible refine at_rel (ty := 31) ?_); refine rel_load rfl q (o + k * 21) rfl [.string (b.p).nm, .int .i64 (b.p).n0, .int .i64 (b.p).n1, .int .i64 (b.p).n2, .int .i64 (b.p).n3, .int .i64 (b.p).n4, .slice (b.p).la (b.p).labs.length (b.p).lk, .slice (b.p).sa (b.p).sels.length (b.p).sk, .slice (b.p).ta (b.p).trms.length (b.p).tk, .slice (b.p).ba (b.p).bers.length (b.p).bk, .slice (b.p).pa (b.p).prts.length (b.p).pk, .slice (b.p).aa (b.p).aprs.length (b.p).ak, .bool (b.p).wd, .slice (b.p).da (b.p).spds.length (b.p).dk, .int .i64 (b.p).sw, .int .i64 (b.p).rk, .string (b.p).ow, .bool (b.p).dm, .bool (b.p).pn, .bool (b.p).lc] _ Tryz.underlying31 rfl (by kernel_rfl) (rangeAt_mono HRq.out hq n.below) rfl)))
                      | (unfold relAt
                         go_simp
                         (first | (refine relUpon_val ?_ (Below.refl _ _); exact rfl) | exact rfl | (refine relUpon_enter ?_; (first | (go_at_call 70; (with_reducible refine (HM.out _ n.below).mono ?_); rintro e w9 ⟨rfl, hb⟩; exact ⟨⟨_, rfl, rfl⟩, hb⟩) | (go_at_call 71; (first | (with_reducible refine (HK1.out _ n.below).mono ?_) | (with_reducible refine (HK2.out _ n.below).mono ?_)); rintro e w9 ⟨rfl, hb⟩; exact ⟨⟨_, rfl, rfl⟩, hb⟩))))))
                  (simp only [Act.put, List.setIfInBounds_toArray, List.set_cons_zero, List.set_cons_succ])
                  (with_reducible refine HK.out _ _ ?_)
                  clear HK K))
              refine relNil ?_
              intro r9 n9 hx9
              clear hcH
              (try simp only [List.nil_append, List.cons_append, List.mem_cons, List.not_mem_nil, or_false, forall_eq_or_imp, forall_eq, false_implies, implies_true] at hx9)
              obtain ⟨w9, hb9⟩ := n9
              (try dsimp only)
              obtain ⟨hc9, hf9⟩ := bcell hb9
              have hz9 := hb9.size
              (try simp at hz9)
              go_wp2
              go_roundw
              case rel => exact ⟨k + 1, by omega, by go_num, HNx.out, HX.out.mono hb9, HB.out.trans (hb9.mono HB.out.size)⟩
              case measure => simp [intOf]; omega
      · obtain rfl : k = N := by omega
        have HRf := Lib.hid (show R = false by
          rw [← HR.out]
          have h9 := HE.out
          rw [List.take_of_length_le (by rw [HN.out]; exact Nat.le_refl _)] at h9
          exact h9)
        clear HRp
        go_wp2
        go_ret
        exact ⟨by rw [HRf.out]; first | done | rfl, HB.out⟩
end Go.Proofs.YthbpnfpalcgfeaaGreat
