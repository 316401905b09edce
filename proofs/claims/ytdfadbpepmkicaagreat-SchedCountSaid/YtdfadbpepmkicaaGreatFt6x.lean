/-
  Fit: Why, why of a question, reasons.
-/
import Derived.Test.YtdfadbpepmkicaaGreatFt3x
namespace Go.Proofs.YtdfadbpepmkicaaGreat
open Go.RowKit
set_option linter.unusedVariables false
set_option linter.unusedSimpArgs false
set_option maxRecDepth 100000 in
set_option maxHeartbeats 4000000 in
theorem near_any (a c : Option Addr) (ka kc : Nat) (ms : List Mac) (bs : List Bd) (p : Pd) (on : ByteArray) (w : World) (hY : YA w a ms c bs) (hP : PodAt w p) (hp : lightP p = true) :
    Calls Tryz.prog 131 #[.slice a ms.length ka, .slice c bs.length kc, .agg (prow p).toArray, .string on] w fun e w' => e = .returned (.bool (nearB ms bs p on)) ∧ Below w.heap.size w w' := by
  have hfi := fun V (hV : Below w.heap.size w V) => find_any a ka ms on V (hY.ml.mono hV) (by have := hY.mm; omega)
  obtain ⟨R, hR⟩ : ∃ R, nearB ms bs p on = R := ⟨_, rfl⟩
  rw [hR]
  unfold nearB at hR
  obtain ⟨W, hW⟩ : ∃ W, W = (w.alloc (.cells #[.string (p).nm, .int .i64 (p).n0, .int .i64 (p).n1, .int .i64 (p).n2, .int .i64 (p).n3, .int .i64 (p).n4, .slice (p).la (p).labs.length (p).lk, .slice (p).sa (p).sels.length (p).sk, .slice (p).ta (p).trms.length (p).tk, .slice (p).ba (p).bers.length (p).bk, .slice (p).pa (p).prts.length (p).pk, .slice (p).aa (p).aprs.length (p).ak, .bool (p).wd, .slice (p).da (p).spds.length (p).dk, .int .i64 (p).sw, .int .i64 (p).rk, .string (p).ow, .bool (p).dm, .bool (p).pn, .bool (p).lc] 40)) := ⟨_, rfl⟩
  have hX : Box w.heap.size (prow p) W := by rw [hW]; exact (Box.new w (prow p) 40)
  have hbw : Below w.heap.size w W := by rw [hW]; (repeat' (first | with_reducible exact Below.refl _ _ | with_reducible assumption | with_reducible refine Below.drew ?_ | with_reducible refine below_drewN' ?_ _ | with_reducible refine Below.alloc ?_ ?_ _ | with_reducible refine Below.setCell ?_ ?_ _ | with_reducible refine below_step (by assumption) ?_ ?_ | omega | (simp; done) | (simp; omega)))
  have HB := Lib.hid hbw
  have HX := Lib.hid hX
  have HYA := Lib.hid hY
  have HPA := Lib.hid hP
  obtain ⟨N, hN⟩ : ∃ N, bs.length = N := ⟨_, rfl⟩
  obtain ⟨n, hn⟩ : ∃ n, ms.length = n := ⟨_, rfl⟩
  have hNb := hY.bb
  have HN := Lib.hid hN
  have Hn := Lib.hid hn
  have hpl := lightP_lens hp
  rw [hN] at hNb
  rw [hn] at hfi ⊢
  rw [hN]
  show Calls Tryz.prog 131 #[.slice a n ka, .slice c N kc, .agg #[.string (p).nm, .int .i64 (p).n0, .int .i64 (p).n1, .int .i64 (p).n2, .int .i64 (p).n3, .int .i64 (p).n4, .slice (p).la (p).labs.length (p).lk, .slice (p).sa (p).sels.length (p).sk, .slice (p).ta (p).trms.length (p).tk, .slice (p).ba (p).bers.length (p).bk, .slice (p).pa (p).prts.length (p).pk, .slice (p).aa (p).aprs.length (p).ak, .bool (p).wd, .slice (p).da (p).spds.length (p).dk, .int .i64 (p).sw, .int .i64 (p).rk, .string (p).ow, .bool (p).dm, .bool (p).pn, .bool (p).lc], .string on] w _
  rcases find_cases ms on with ⟨h1, h2⟩ | ⟨i, m, h1, h2, h3, h4⟩
  · obtain rfl : R = false := by rw [← hR, h2]; rfl
    rw [h1] at hfi
    have HFi := Lib.hid hfi
    clear hfi h1 h2 hR hX hbw hY hP hp hN hn
    go_enter Tryz.func131, Tryz.ntmps131
    go_upto_region 1 with (fail)
    rw [← hW]
    clear hW
    go_wp2_with (go_at_call 66; (with_reducible refine (HFi.out _ HB.out).mono ?_); rintro e w1 ⟨rfl, hb⟩; have HB1 := Lib.hid (HB.out.trans (hb.mono HB.out.size)); clear hb)
    go_ret
    exact ⟨rfl, HB1.out⟩
  · rw [h4] at hR
    have hR : bs.any (nearOf ms p on) = R := hR
    have HR := Lib.hid hR
    rw [h1] at hfi
    have HFi := Lib.hid hfi
    clear hfi h1 h2 h3 h4 hR hX hbw hY hP hp hN hn
    go_enter Tryz.func131, Tryz.ntmps131
    go_upto_region 1 with (fail)
    rw [← hW]
    clear hW
    go_wp2_with (go_at_call 66; (with_reducible refine (HFi.out _ HB.out).mono ?_); rintro e w1 ⟨rfl, hb⟩; have HB1 := Lib.hid (HB.out.trans (hb.mono HB.out.size)); have HX1 := Lib.hid (HX.out.mono hb); clear hb)
    clear HB HX HFi
    go_loopw [17] (fun vi wr => ∃ k : Nat, k ≤ N ∧ vi = .int .i64 k ∧ (bs.take k).any (nearOf ms p on) = false ∧ Box w.heap.size (prow p) wr ∧ Below w.heap.size w wr) (fun vi _ => N - (intOf vi).toNat)
    case atStart => exact ⟨0, Nat.zero_le _, rfl, rfl, HX1.out, HB1.out⟩
    case round =>
      clear HX1 HB1
      obtain ⟨k, hk, rfl, hE, hX, hB⟩ := hrel
      have HE := Lib.hid hE
      have HX := Lib.hid hX
      have HB := Lib.hid hB
      have hlp := hX.lt
      have HRp := Lib.hid (show wr.rangeAt w.heap.size 0 [.string (p).nm, .int .i64 (p).n0, .int .i64 (p).n1, .int .i64 (p).n2, .int .i64 (p).n3, .int .i64 (p).n4, .slice (p).la (p).labs.length (p).lk, .slice (p).sa (p).sels.length (p).sk, .slice (p).ta (p).trms.length (p).tk, .slice (p).ba (p).bers.length (p).bk, .slice (p).pa (p).prts.length (p).pk, .slice (p).aa (p).aprs.length (p).ak, .bool (p).wd, .slice (p).da (p).spds.length (p).dk, .int .i64 (p).sw, .int .i64 (p).rk, .string (p).ow, .bool (p).dm, .bool (p).pn, .bool (p).lc] from hX.range)
      clear hE hX
      by_cases hlt : k < N
      · obtain ⟨b, hbk⟩ := mem_at (l := bs) (k := k) (by rw [HN.out]; exact hlt)
        have hbm := List.mem_of_getElem? hbk
        obtain ⟨q, o, rfl, hq, hc⟩ := (HYA.out.bl.mono hB) (by rw [HN.out]; omega)
        have c0 : wr.cell? ⟨q, o + k * 21, none⟩ = some (.string b.p.nm) := hc k b hbk 0 (by decide)
        have c20 : wr.cell? ⟨q, o + k * 21 + 20, none⟩ = some (.string b.on) := hc k b hbk 20 (by decide)
        have HRq := Lib.hid (show wr.rangeAt q (o + k * 21) [.string (b.p).nm, .int .i64 (b.p).n0, .int .i64 (b.p).n1, .int .i64 (b.p).n2, .int .i64 (b.p).n3, .int .i64 (b.p).n4, .slice (b.p).la (b.p).labs.length (b.p).lk, .slice (b.p).sa (b.p).sels.length (b.p).sk, .slice (b.p).ta (b.p).trms.length (b.p).tk, .slice (b.p).ba (b.p).bers.length (b.p).bk, .slice (b.p).pa (b.p).prts.length (b.p).pk, .slice (b.p).aa (b.p).aprs.length (b.p).ak, .bool (b.p).wd, .slice (b.p).da (b.p).spds.length (b.p).dk, .int .i64 (b.p).sw, .int .i64 (b.p).rk, .string (b.p).ow, .bool (b.p).dm, .bool (b.p).pn, .bool (b.p).lc] from fun j v hj => by
          have hj20 : j < 20 := (List.getElem?_eq_some_iff.1 hj).1
          rw [hc k b hbk j (by omega)]
          show (prow b.p ++ [.string b.on])[j]? = _
          rw [List.getElem?_append_left (by rw [prow_len]; exact hj20)]
          exact hj)
        obtain ⟨mt, hmt⟩ : ∃ x, matB b p = x := ⟨_, rfl⟩
        obtain ⟨k1, hk1⟩ : ∃ x, awayB ms p.aprs p.wd b.p.labs on b.on = x := ⟨_, rfl⟩
        obtain ⟨k2, hk2⟩ : ∃ x, awayB ms b.p.aprs b.p.wd p.labs on b.on = x := ⟨_, rfl⟩
        have hnx : nearOf ms p on b = (mt && (k1 || k2)) := by unfold nearOf; rw [hmt, hk1, hk2]
        have hlb := lightP_lens (HYA.out.lb b hbm)
        have HM := Lib.hid (show ∀ V, Below wr.heap.size wr V → Calls Tryz.prog 142 #[.pointer (some ⟨q, o + k * 21, none⟩), .agg #[.string (p).nm, .int .i64 (p).n0, .int .i64 (p).n1, .int .i64 (p).n2, .int .i64 (p).n3, .int .i64 (p).n4, .slice (p).la (p).labs.length (p).lk, .slice (p).sa (p).sels.length (p).sk, .slice (p).ta (p).trms.length (p).tk, .slice (p).ba (p).bers.length (p).bk, .slice (p).pa (p).prts.length (p).pk, .slice (p).aa (p).aprs.length (p).ak, .bool (p).wd, .slice (p).da (p).spds.length (p).dk, .int .i64 (p).sw, .int .i64 (p).rk, .string (p).ow, .bool (p).dm, .bool (p).pn, .bool (p).lc]] V fun e w' => e = .returned (.bool mt) ∧ Below V.heap.size V w' from fun V hV => by
          have h9 := matters_any q (o + k * 21) b p V ((hV.cell (p := ⟨q, o + k * 21, none⟩) hq).trans c0) ((hV.cell (p := ⟨q, o + k * 21 + 20, none⟩) hq).trans c20) (Nat.lt_of_lt_of_le hq hV.size)
          rw [hmt] at h9
          exact h9)
        have HK1 := Lib.hid (show ∀ V, Below wr.heap.size wr V → Calls Tryz.prog 143 #[.slice a n ka, .agg #[.string (p).nm, .int .i64 (p).n0, .int .i64 (p).n1, .int .i64 (p).n2, .int .i64 (p).n3, .int .i64 (p).n4, .slice (p).la (p).labs.length (p).lk, .slice (p).sa (p).sels.length (p).sk, .slice (p).ta (p).trms.length (p).tk, .slice (p).ba (p).bers.length (p).bk, .slice (p).pa (p).prts.length (p).pk, .slice (p).aa (p).aprs.length (p).ak, .bool (p).wd, .slice (p).da (p).spds.length (p).dk, .int .i64 (p).sw, .int .i64 (p).rk, .string (p).ow, .bool (p).dm, .bool (p).pn, .bool (p).lc], .agg #[.string (b.p).nm, .int .i64 (b.p).n0, .int .i64 (b.p).n1, .int .i64 (b.p).n2, .int .i64 (b.p).n3, .int .i64 (b.p).n4, .slice (b.p).la (b.p).labs.length (b.p).lk, .slice (b.p).sa (b.p).sels.length (b.p).sk, .slice (b.p).ta (b.p).trms.length (b.p).tk, .slice (b.p).ba (b.p).bers.length (b.p).bk, .slice (b.p).pa (b.p).prts.length (b.p).pk, .slice (b.p).aa (b.p).aprs.length (b.p).ak, .bool (b.p).wd, .slice (b.p).da (b.p).spds.length (b.p).dk, .int .i64 (b.p).sw, .int .i64 (b.p).rk, .string (b.p).ow, .bool (b.p).dm, .bool (b.p).pn, .bool (b.p).lc], .string on, .string b.on] V fun e w' => e = .returned (.bool k1) ∧ Below V.heap.size V w' from fun V hV => by
          have hbv := HB.out.trans (hV.mono HB.out.size)
          have h9 := away_any a ka ms p b.p on b.on V (HYA.out.ml.mono hbv) (fun m hm => ((HYA.out.mi m hm).mono hbv).here) (by have := HYA.out.mm; omega) (HPA.out.mono hbv) ((HYA.out.bi b hbm).mono hbv).here (by omega) (by omega)
          rw [hk1, Hn.out] at h9
          exact h9)
        have HK2 := Lib.hid (show ∀ V, Below wr.heap.size wr V → Calls Tryz.prog 143 #[.slice a n ka, .agg #[.string (b.p).nm, .int .i64 (b.p).n0, .int .i64 (b.p).n1, .int .i64 (b.p).n2, .int .i64 (b.p).n3, .int .i64 (b.p).n4, .slice (b.p).la (b.p).labs.length (b.p).lk, .slice (b.p).sa (b.p).sels.length (b.p).sk, .slice (b.p).ta (b.p).trms.length (b.p).tk, .slice (b.p).ba (b.p).bers.length (b.p).bk, .slice (b.p).pa (b.p).prts.length (b.p).pk, .slice (b.p).aa (b.p).aprs.length (b.p).ak, .bool (b.p).wd, .slice (b.p).da (b.p).spds.length (b.p).dk, .int .i64 (b.p).sw, .int .i64 (b.p).rk, .string (b.p).ow, .bool (b.p).dm, .bool (b.p).pn, .bool (b.p).lc], .agg #[.string (p).nm, .int .i64 (p).n0, .int .i64 (p).n1, .int .i64 (p).n2, .int .i64 (p).n3, .int .i64 (p).n4, .slice (p).la (p).labs.length (p).lk, .slice (p).sa (p).sels.length (p).sk, .slice (p).ta (p).trms.length (p).tk, .slice (p).ba (p).bers.length (p).bk, .slice (p).pa (p).prts.length (p).pk, .slice (p).aa (p).aprs.length (p).ak, .bool (p).wd, .slice (p).da (p).spds.length (p).dk, .int .i64 (p).sw, .int .i64 (p).rk, .string (p).ow, .bool (p).dm, .bool (p).pn, .bool (p).lc], .string on, .string b.on] V fun e w' => e = .returned (.bool k2) ∧ Below V.heap.size V w' from fun V hV => by
          have hbv := HB.out.trans (hV.mono HB.out.size)
          have h9 := away_any a ka ms b.p p on b.on V (HYA.out.ml.mono hbv) (fun m hm => ((HYA.out.mi m hm).mono hbv).here) (by have := HYA.out.mm; omega) ((HYA.out.bi b hbm).mono hbv).here (HPA.out.mono hbv) (by omega) (by omega)
          rw [hk2, Hn.out] at h9
          exact h9)
        have Hbk := Lib.hid hbk
        have Hnx := Lib.hid hnx
        clear hmt hk1 hk2 hnx hlb hc hbk hbm c0 hpl hB
        cases mt with
        | false =>
          have HNx := Lib.hid (show (bs.take (k + 1)).any (nearOf ms p on) = false from Lb.any_take1 Hbk.out Hnx.out HE.out)
          go_upto_region 7 with (fail)
          have hcH := held_cell
          refine region_rel (by kernel_rfl) (by kernel_rfl) ?_
          repeat
            ((with_reducible refine relStep (fun K hK => ?_))
             (have HK := Lib.hid hK)
             clear hK
             (apply relInl
              · intro r n hf
                have Hf := Lib.hid hf
                clear hf
                (first
                  | ((first | ((with_reducible refine at_rel (ty := 40) ?_); refine rel_load rfl w.heap.size 0 rfl [.string (p).nm, .int .i64 (p).n0, .int .i64 (p).n1, .int .i64 (p).n2, .int .i64 (p).n3, .int .i64 (p).n4, .slice (p).la (p).labs.length (p).lk, .slice (p).sa (p).sels.length (p).sk, .slice (p).ta (p).trms.length (p).tk, .slice (p).ba (p).bers.length (p).bk, .slice (p).pa (p).prts.length (p).pk, .slice (p).aa (p).aprs.length (p).ak, .bool (p).wd, .slice (p).da (p).spds.length (p).dk, .int .i64 (p).sw, .int .i64 (p).rk, .string (p).ow, .bool (p).dm, .bool (p).pn, .bool (p).lc] _ Tryz.underlying40 rfl (by kernel_rfl) (rangeAt_mono HRp.out hlp n.below) rfl) | ((with_reducible refine at_rel (ty := 40) ?_); refine rel_load rfl q (o + k * 21) rfl [.string (b.p).nm, .int .i64 (b.p).n0, .int .i64 (b.p).n1, .int .i64 (b.p).n2, .int .i64 (b.p).n3, .int .i64 (b.p).n4, .slice (b.p).la (b.p).labs.length (b.p).lk, .slice (b.p).sa (b.p).sels.length (b.p).sk, .slice (b.p).ta (b.p).trms.length (b.p).tk, .slice (b.p).ba (b.p).bers.length (b.p).bk, .slice (b.p).pa (b.p).prts.length (b.p).pk, .slice (b.p).aa (b.p).aprs.length (b.p).ak, .bool (b.p).wd, .slice (b.p).da (b.p).spds.length (b.p).dk, .int .i64 (b.p).sw, .int .i64 (b.p).rk, .string (b.p).ow, .bool (b.p).dm, .bool (b.p).pn, .bool (b.p).lc] _ Tryz.underlying40 rfl (by kernel_rfl) (rangeAt_mono HRq.out hq n.below) rfl)))
                  | (unfold relAt
                     go_simp
                     (first | (refine relUpon_val ?_ (Below.refl _ _); exact rfl) | exact rfl | (refine relUpon_enter ?_; (first | (go_at_call 142; (with_reducible refine (HM.out _ n.below).mono ?_); rintro e w9 ⟨rfl, hb⟩; exact ⟨⟨_, rfl, rfl⟩, hb⟩) | (go_at_call 143; (first | (with_reducible refine (HK1.out _ n.below).mono ?_) | (with_reducible refine (HK2.out _ n.below).mono ?_)); rintro e w9 ⟨rfl, hb⟩; exact ⟨⟨_, rfl, rfl⟩, hb⟩))))))
              (simp only [Act.put, List.setIfInBounds_toArray, List.set_cons_zero, List.set_cons_succ])
              (with_reducible refine HK.out _ _ ?_)
              clear HK K))
          refine relNil ?_
          intro r9 n9 hx9
          clear hcH
          (try simp only [List.nil_append, List.cons_append, List.mem_cons, List.not_mem_nil, or_false, forall_eq_or_imp, forall_eq, false_implies, implies_true] at hx9)
          obtain ⟨w9, hb9⟩ := n9
          (try dsimp only)
          obtain ⟨hc9, hf9⟩ := bcell hb9
          have hz9 := hb9.size
          (try simp at hz9)
          go_wp2
          go_roundw
          case rel => exact ⟨k + 1, by omega, by go_num, HNx.out, HX.out.mono hb9, HB.out.trans (hb9.mono HB.out.size)⟩
          case measure => simp [intOf]; omega
        | true =>
          cases k1 with
          | true =>
            have HRt := Lib.hid (show R = true by rw [← HR.out, List.any_eq_true]; exact ⟨b, List.mem_of_getElem? Hbk.out, Hnx.out⟩)
            go_upto_region 7 with (fail)
            have hcH := held_cell
            refine region_rel (by kernel_rfl) (by kernel_rfl) ?_
            repeat
              ((with_reducible refine relStep (fun K hK => ?_))
               (have HK := Lib.hid hK)
               clear hK
               (apply relInl
                · intro r n hf
                  have Hf := Lib.hid hf
                  clear hf
                  (first
                    | ((first | ((with_reducible refine at_rel (ty := 40) ?_); refine rel_load rfl w.heap.size 0 rfl [.string (p).nm, .int .i64 (p).n0, .int .i64 (p).n1, .int .i64 (p).n2, .int .i64 (p).n3, .int .i64 (p).n4, .slice (p).la (p).labs.length (p).lk, .slice (p).sa (p).sels.length (p).sk, .slice (p).ta (p).trms.length (p).tk, .slice (p).ba (p).bers.length (p).bk, .slice (p).pa (p).prts.length (p).pk, .slice (p).aa (p).aprs.length (p).ak, .bool (p).wd, .slice (p).da (p).spds.length (p).dk, .int .i64 (p).sw, .int .i64 (p).rk, .string (p).ow, .bool (p).dm, .bool (p).pn, .bool (p).lc] _ Tryz.underlying40 rfl (by kernel_rfl) (rangeAt_mono HRp.out hlp n.below) rfl) | ((with_reducible refine at_rel (ty := 40) ?_); refine rel_load rfl q (o + k * 21) rfl [.string (b.p).nm, .int .i64 (b.p).n0, .int .i64 (b.p).n1, .int .i64 (b.p).n2, .int .i64 (b.p).n3, .int .i64 (b.p).n4, .slice (b.p).la (b.p).labs.length (b.p).lk, .slice (b.p).sa (b.p).sels.length (b.p).sk, .slice (b.p).ta (b.p).trms.length (b.p).tk, .slice (b.p).ba (b.p).bers.length (b.p).bk, .slice (b.p).pa (b.p).prts.length (b.p).pk, .slice (b.p).aa (b.p).aprs.length (b.p).ak, .bool (b.p).wd, .slice (b.p).da (b.p).spds.length (b.p).dk, .int .i64 (b.p).sw, .int .i64 (b.p).rk, .string (b.p).ow, .bool (b.p).dm, .bool (b.p).pn, .bool (b.p).lc] _ Tryz.underlying40 rfl (by kernel_rfl) (rangeAt_mono HRq.out hq n.below) rfl)))
                    | (unfold relAt
                       go_simp
                       (first | (refine relUpon_val ?_ (Below.refl _ _); exact rfl) | exact rfl | (refine relUpon_enter ?_; (first | (go_at_call 142; (with_reducible refine (HM.out _ n.below).mono ?_); rintro e w9 ⟨rfl, hb⟩; exact ⟨⟨_, rfl, rfl⟩, hb⟩) | (go_at_call 143; (first | (with_reducible refine (HK1.out _ n.below).mono ?_) | (with_reducible refine (HK2.out _ n.below).mono ?_)); rintro e w9 ⟨rfl, hb⟩; exact ⟨⟨_, rfl, rfl⟩, hb⟩))))))
                (simp only [Act.put, List.setIfInBounds_toArray, List.set_cons_zero, List.set_cons_succ])
                (with_reducible refine HK.out _ _ ?_)
                clear HK K))
            refine relNil ?_
            intro r9 n9 hx9
            clear hcH
            (try simp only [List.nil_append, List.cons_append, List.mem_cons, List.not_mem_nil, or_false, forall_eq_or_imp, forall_eq, false_implies, implies_true] at hx9)
            obtain ⟨w9, hb9⟩ := n9
            (try dsimp only)
            obtain ⟨hc9, hf9⟩ := bcell hb9
            have hz9 := hb9.size
            (try simp at hz9)
            go_wp2
            go_ret
            exact ⟨by rw [HRt.out]; first | done | rfl, HB.out.trans (hb9.mono HB.out.size)⟩
          | false =>
            cases k2 with
            | true =>
              have HRt := Lib.hid (show R = true by rw [← HR.out, List.any_eq_true]; exact ⟨b, List.mem_of_getElem? Hbk.out, Hnx.out⟩)
              go_upto_region 7 with (fail)
              have hcH := held_cell
              refine region_rel (by kernel_rfl) (by kernel_rfl) ?_
              repeat
                ((with_reducible refine relStep (fun K hK => ?_))
                 (have HK := Lib.hid hK)
                 clear hK
                 (apply relInl
                  · intro r n hf
                    have Hf := Lib.hid hf
                    clear hf
                    (first
                      | ((first | ((with_reducible refine at_rel (ty := 40) ?_); refine rel_load rfl w.heap.size 0 rfl [.string (p).nm, .int .i64 (p).n0, .int .i64 (p).n1, .int .i64 (p).n2, .int .i64 (p).n3, .int .i64 (p).n4, .slice (p).la (p).labs.length (p).lk, .slice (p).sa (p).sels.length (p).sk, .slice (p).ta (p).trms.length (p).tk, .slice (p).ba (p).bers.length (p).bk, .slice (p).pa (p).prts.length (p).pk, .slice (p).aa (p).aprs.length (p).ak, .bool (p).wd, .slice (p).da (p).spds.length (p).dk, .int .i64 (p).sw, .int .i64 (p).rk, .string (p).ow, .bool (p).dm, .bool (p).pn, .bool (p).lc] _ Tryz.underlying40 rfl (by kernel_rfl) (rangeAt_mono HRp.out hlp n.below) rfl) | ((with_reducible refine at_rel (ty := 40) ?_); refine rel_load rfl q (o + k * 21) rfl [.string (b.p).nm, .int .i64 (b.p).n0, .int .i64 (b.p).n1, .int .i64 (b.p).n2, .int .i64 (b.p).n3, .int .i64 (b.p).n4, .slice (b.p).la (b.p).labs.length (b.p).lk, .slice (b.p).sa (b.p).sels.length (b.p).sk, .slice (b.p).ta (b.p).trms.length (b.p).tk, .slice (b.p).ba (b.p).bers.length (b.p).bk, .slice (b.p).pa (b.p).prts.length (b.p).pk, .slice (b.p).aa (b.p).aprs.length (b.p).ak, .bool (b.p).wd, .slice (b.p).da (b.p).spds.length (b.p).dk, .int .i64 (b.p).sw, .int .i64 (b.p).rk, .string (b.p).ow, .bool (b.p).dm, .bool (b.p).pn, .bool (b.p).lc] _ Tryz.underlying40 rfl (by kernel_rfl) (rangeAt_mono HRq.out hq n.below) rfl)))
                      | (unfold relAt
                         go_simp
                         (first | (refine relUpon_val ?_ (Below.refl _ _); exact rfl) | exact rfl | (refine relUpon_enter ?_; (first | (go_at_call 142; (with_reducible refine (HM.out _ n.below).mono ?_); rintro e w9 ⟨rfl, hb⟩; exact ⟨⟨_, rfl, rfl⟩, hb⟩) | (go_at_call 143; (first | (with_reducible refine (HK1.out _ n.below).mono ?_) | (with_reducible refine (HK2.out _ n.below).mono ?_)); rintro e w9 ⟨rfl, hb⟩; exact ⟨⟨_, rfl, rfl⟩, hb⟩))))))
                  (simp only [Act.put, List.setIfInBounds_toArray, List.set_cons_zero, List.set_cons_succ])
                  (with_reducible refine HK.out _ _ ?_)
                  clear HK K))
              refine relNil ?_
              intro r9 n9 hx9
              clear hcH
              (try simp only [List.nil_append, List.cons_append, List.mem_cons, List.not_mem_nil, or_false, forall_eq_or_imp, forall_eq, false_implies, implies_true] at hx9)
              obtain ⟨w9, hb9⟩ := n9
              (try dsimp only)
              obtain ⟨hc9, hf9⟩ := bcell hb9
              have hz9 := hb9.size
              (try simp at hz9)
              go_wp2
              go_ret
              exact ⟨by rw [HRt.out]; first | done | rfl, HB.out.trans (hb9.mono HB.out.size)⟩
            | false =>
              have HNx := Lib.hid (show (bs.take (k + 1)).any (nearOf ms p on) = false from Lb.any_take1 Hbk.out Hnx.out HE.out)
              go_upto_region 7 with (fail)
              have hcH := held_cell
              refine region_rel (by kernel_rfl) (by kernel_rfl) ?_
              repeat
                ((with_reducible refine relStep (fun K hK => ?_))
                 (have HK := Lib.hid hK)
                 clear hK
                 (apply relInl
                  · intro r n hf
                    have Hf := Lib.hid hf
                    clear hf
                    (first
                      | ((first | ((with_reducible refine at_rel (ty := 40) ?_); refine rel_load rfl w.heap.size 0 rfl [.string (p).nm, .int .i64 (p).n0, .int .i64 (p).n1, .int .i64 (p).n2, .int .i64 (p).n3, .int .i64 (p).n4, .slice (p).la (p).labs.length (p).lk, .slice (p).sa (p).sels.length (p).sk, .slice (p).ta (p).trms.length (p).tk, .slice (p).ba (p).bers.length (p).bk, .slice (p).pa (p).prts.length (p).pk, .slice (p).aa (p).aprs.length (p).ak, .bool (p).wd, .slice (p).da (p).spds.length (p).dk, .int .i64 (p).sw, .int .i64 (p).rk, .string (p).ow, .bool (p).dm, .bool (p).pn, .bool (p).lc] _ Tryz.underlying40 rfl (by kernel_rfl) (rangeAt_mono HRp.out hlp n.below) rfl) | ((with_reducible refine at_rel (ty := 40) ?_); refine rel_load rfl q (o + k * 21) rfl [.string (b.p).nm, .int .i64 (b.p).n0, .int .i64 (b.p).n1, .int .i64 (b.p).n2, .int .i64 (b.p).n3, .int .i64 (b.p).n4, .slice (b.p).la (b.p).labs.length (b.p).lk, .slice (b.p).sa (b.p).sels.length (b.p).sk, .slice (b.p).ta (b.p).trms.length (b.p).tk, .slice (b.p).ba (b.p).bers.length (b.p).bk, .slice (b.p).pa (b.p).prts.length (b.p).pk, .slice (b.p).aa (b.p).aprs.length (b.p).ak, .bool (b.p).wd, .slice (b.p).da (b.p).spds.length (b.p).dk, .int .i64 (b.p).sw, .int .i64 (b.p).rk, .string (b.p).ow, .bool (b.p).dm, .bool (b.p).pn, .bool (b.p).lc] _ Tryz.underlying40 rfl (by kernel_rfl) (rangeAt_mono HRq.out hq n.below) rfl)))
                      | (unfold relAt
                         go_simp
                         (first | (refine relUpon_val ?_ (Below.refl _ _); exact rfl) | exact rfl | (refine relUpon_enter ?_; (first | (go_at_call 142; (with_reducible refine (HM.out _ n.below).mono ?_); rintro e w9 ⟨rfl, hb⟩; exact ⟨⟨_, rfl, rfl⟩, hb⟩) | (go_at_call 143; (first | (with_reducible refine (HK1.out _ n.below).mono ?_) | (with_reducible refine (HK2.out _ n.below).mono ?_)); rintro e w9 ⟨rfl, hb⟩; exact ⟨⟨_, rfl, rfl⟩, hb⟩))))))
                  (simp only [Act.put, List.setIfInBounds_toArray, List.set_cons_zero, List.set_cons_succ])
                  (with_reducible refine HK.out _ _ ?_)
                  clear HK K))
              refine relNil ?_
              intro r9 n9 hx9
              clear hcH
              (try simp only [List.nil_append, List.cons_append, List.mem_cons, List.not_mem_nil, or_false, forall_eq_or_imp, forall_eq, false_implies, implies_true] at hx9)
              obtain ⟨w9, hb9⟩ := n9
              (try dsimp only)
              obtain ⟨hc9, hf9⟩ := bcell hb9
              have hz9 := hb9.size
              (try simp at hz9)
              go_wp2
              go_roundw
              case rel => exact ⟨k + 1, by omega, by go_num, HNx.out, HX.out.mono hb9, HB.out.trans (hb9.mono HB.out.size)⟩
              case measure => simp [intOf]; omega
      · obtain rfl : k = N := by omega
        have HRf := Lib.hid (show R = false by
          rw [← HR.out]
          have h9 := HE.out
          rw [List.take_of_length_le (by rw [HN.out]; exact Nat.le_refl _)] at h9
          exact h9)
        clear HRp
        go_wp2
        go_ret
        exact ⟨by rw [HRf.out]; first | done | rfl, HB.out⟩
end Go.Proofs.YtdfadbpepmkicaaGreat
namespace Go.Proofs.YtdfadbpepmkicaaGreat
open Go.RowKit
set_option linter.unusedVariables false
set_option linter.unusedSimpArgs false
set_option maxRecDepth 100000 in
set_option maxHeartbeats 8000000 in
theorem counts_any (a c : Option Addr) (ka kc : Nat) (ms : List Mac) (bs : List Bd) (p : Pd) (w : World) (hY : YA w a ms c bs) (hP : PodAt w p) (hp : lightP p = true) :
    Calls Tryz.prog 144 #[.slice a ms.length ka, .slice c bs.length kc, .agg (prow p).toArray] w (GivesC w (zonesY ms) (numsC ms bs p)) := by
  have hzo := fun V (hV : Below w.heap.size w V) => zones_any a ka ms V (hY.ml.mono hV) (fun m hm => (hY.mi m hm).mono hV) (fun m hm => (hY.mi m hm).here.ll) (by have := hY.mm; omega)
  have hHas := fun (b : Bd) (hb : b ∈ bs) V (hV : Below w.heap.size w V) => Lb.has_any b.p.la p.da b.p.lk p.dk b.p.labs p.spds V ((hY.bi b hb).mono hV).here.labs ((hP.mono hV).spds) (by have := lightP_lens (hY.lb b hb); omega) (by have := lightP_lens hp; omega)
  have hGet := fun (m : Mac) (hm : m ∈ ms) V (hV : Below w.heap.size w V) => Lb.get_any m.la m.lk m.labs zoneT V ((hY.mi m hm).mono hV).here.labs (hY.mi m hm).here.ll
  unfold zoneT at hGet
  obtain ⟨W, hW⟩ : ∃ W, W = (w.alloc (.cells #[.string (p).nm, .int .i64 (p).n0, .int .i64 (p).n1, .int .i64 (p).n2, .int .i64 (p).n3, .int .i64 (p).n4, .slice (p).la (p).labs.length (p).lk, .slice (p).sa (p).sels.length (p).sk, .slice (p).ta (p).trms.length (p).tk, .slice (p).ba (p).bers.length (p).bk, .slice (p).pa (p).prts.length (p).pk, .slice (p).aa (p).aprs.length (p).ak, .bool (p).wd, .slice (p).da (p).spds.length (p).dk, .int .i64 (p).sw, .int .i64 (p).rk, .string (p).ow, .bool (p).dm, .bool (p).pn, .bool (p).lc] 40)).alloc (.map #[] 0) := ⟨_, rfl⟩
  have hX : Box w.heap.size (prow p) W := by rw [hW]; exact (Box.new w (prow p) 40).mono ((Below.refl _ _).alloc (Nat.le_refl _) _)
  have hbw : Below w.heap.size w W := by rw [hW]; (repeat' (first | with_reducible exact Below.refl _ _ | with_reducible assumption | with_reducible refine Below.drew ?_ | with_reducible refine below_drewN' ?_ _ | with_reducible refine Below.alloc ?_ ?_ _ | with_reducible refine Below.setCell ?_ ?_ _ | with_reducible refine below_step (by assumption) ?_ ?_ | omega | (simp; done) | (simp; omega)))
  have hsz : W.heap.size = w.heap.size + 2 := by rw [hW]; simp
  have hmp : MapIs Tryz.prog 9 W (w.heap.size + 1) 0 (onF (bs.take 0) p) := by
    rw [hW]
    have h9 := MapIs.made (w.alloc (.cells #[.string (p).nm, .int .i64 (p).n0, .int .i64 (p).n1, .int .i64 (p).n2, .int .i64 (p).n3, .int .i64 (p).n4, .slice (p).la (p).labs.length (p).lk, .slice (p).sa (p).sels.length (p).sk, .slice (p).ta (p).trms.length (p).tk, .slice (p).ba (p).bers.length (p).bk, .slice (p).pa (p).prts.length (p).pk, .slice (p).aa (p).aprs.length (p).ak, .bool (p).wd, .slice (p).da (p).spds.length (p).dk, .int .i64 (p).sw, .int .i64 (p).rk, .string (p).ow, .bool (p).dm, .bool (p).pn, .bool (p).lc] 40)) Tryz.prog 9
    rw [World.size_alloc] at h9
    exact h9.eq fun s => rfl
  have HBW := Lib.hid hbw
  have HX := Lib.hid hX
  have HMW := Lib.hid hmp
  have HYA := Lib.hid hY
  have HPA := Lib.hid hP
  obtain ⟨N, hN⟩ : ∃ N, bs.length = N := ⟨_, rfl⟩
  obtain ⟨n, hn⟩ : ∃ n, ms.length = n := ⟨_, rfl⟩
  have hNb := hY.bb
  have hnb := hY.mm
  have HN := Lib.hid hN
  have Hn := Lib.hid hn
  have HZo := Lib.hid hzo
  have HHas := Lib.hid hHas
  have HGet := Lib.hid hGet
  rw [hN] at hNb
  rw [hn] at HZo hnb
  rw [hn, hN]
  obtain ⟨m1, hm1⟩ : ∃ m1, w.heap.size + 1 = m1 := ⟨_, rfl⟩
  rw [hm1] at HMW
  have hm1b : w.heap.size ≤ m1 ∧ m1 < W.heap.size ∧ w.heap.size ≠ m1 := by omega
  obtain ⟨i0, hi, hz0, hz1, hz2⟩ := info_parts Tryz.info3
  have Hi := Lib.hid hi
  have Hz0 := Lib.hid hz0
  have Hz1 := Lib.hid hz1
  have Hz2 := Lib.hid hz2
  clear hi hz0 hz1 hz2
  show Calls Tryz.prog 144 #[.slice a n ka, .slice c N kc, .agg #[.string (p).nm, .int .i64 (p).n0, .int .i64 (p).n1, .int .i64 (p).n2, .int .i64 (p).n3, .int .i64 (p).n4, .slice (p).la (p).labs.length (p).lk, .slice (p).sa (p).sels.length (p).sk, .slice (p).ta (p).trms.length (p).tk, .slice (p).ba (p).bers.length (p).bk, .slice (p).pa (p).prts.length (p).pk, .slice (p).aa (p).aprs.length (p).ak, .bool (p).wd, .slice (p).da (p).spds.length (p).dk, .int .i64 (p).sw, .int .i64 (p).rk, .string (p).ow, .bool (p).dm, .bool (p).pn, .bool (p).lc]] w _
  clear hzo hHas hGet hX hbw hmp hY hP hp hN hn hsz
  have hmk := @run_makeMap Tryz.prog
  go_enter Tryz.func144, Tryz.ntmps144
  go_upto_region 2 with (fail)
  rw [← hW]
  clear hW hm1
  go_wp2
  go_loopw [21] (fun vi wr => ∃ k : Nat, k ≤ N ∧ vi = .int .i64 k ∧ MapIs Tryz.prog 9 wr m1 k (onF (bs.take k) p) ∧ Only [m1] W wr) (fun vi _ => N - (intOf vi).toNat)
  case atStart => exact ⟨0, Nat.zero_le _, rfl, HMW.out, Only.refl _ _⟩
  case round =>
    obtain ⟨k, hk, rfl, hM, hO⟩ := hrel
    have HM := Lib.hid hM
    have HO := Lib.hid hO
    have hB := hO.below1 HBW.out (by have := hm1b; omega) hm1b.1
    have HB := Lib.hid hB
    by_cases hlt : k < N
    · obtain ⟨b, hbk⟩ := mem_at (l := bs) (k := k) (by rw [HN.out]; exact hlt)
      have hbm := List.mem_of_getElem? hbk
      obtain ⟨q, o, rfl, hq, hc⟩ := (HYA.out.bl.mono hB) (by rw [HN.out]; omega)
      have c0 : wr.cell? ⟨q, o + k * 21, none⟩ = some (.string b.p.nm) := hc k b hbk 0 (by decide)
      have c6 : wr.cell? ⟨q, o + k * 21 + 6, none⟩ = some (.slice b.p.la b.p.labs.length b.p.lk) := hc k b hbk 6 (by decide)
      have c20 : wr.cell? ⟨q, o + k * 21 + 20, none⟩ = some (.string b.on) := hc k b hbk 20 (by decide)
      have hXr : Box w.heap.size (prow p) wr := HX.out.only hO (by have := hm1b; simp; omega)
      have hlp := hXr.lt
      have HRp := Lib.hid (show wr.rangeAt w.heap.size 0 [.string (p).nm, .int .i64 (p).n0, .int .i64 (p).n1, .int .i64 (p).n2, .int .i64 (p).n3, .int .i64 (p).n4, .slice (p).la (p).labs.length (p).lk, .slice (p).sa (p).sels.length (p).sk, .slice (p).ta (p).trms.length (p).tk, .slice (p).ba (p).bers.length (p).bk, .slice (p).pa (p).prts.length (p).pk, .slice (p).aa (p).aprs.length (p).ak, .bool (p).wd, .slice (p).da (p).spds.length (p).dk, .int .i64 (p).sw, .int .i64 (p).rk, .string (p).ow, .bool (p).dm, .bool (p).pn, .bool (p).lc] from hXr.range)
      have d13 : wr.cell? ⟨w.heap.size, 13, none⟩ = some (.slice p.da p.spds.length p.dk) := hXr.cell 13
      obtain ⟨mt, hmt⟩ : ∃ x, matB b p = x := ⟨_, rfl⟩
      obtain ⟨h, hh⟩ : ∃ x, Lb.hasP b.p.labs p.spds = x := ⟨_, rfl⟩
      have hop : onP p b = (mt && h) := by unfold onP; rw [hmt, hh]
      have HMt := Lib.hid (show ∀ V, Below wr.heap.size wr V → Calls Tryz.prog 142 #[.pointer (some ⟨q, o + k * 21, none⟩), .agg #[.string (p).nm, .int .i64 (p).n0, .int .i64 (p).n1, .int .i64 (p).n2, .int .i64 (p).n3, .int .i64 (p).n4, .slice (p).la (p).labs.length (p).lk, .slice (p).sa (p).sels.length (p).sk, .slice (p).ta (p).trms.length (p).tk, .slice (p).ba (p).bers.length (p).bk, .slice (p).pa (p).prts.length (p).pk, .slice (p).aa (p).aprs.length (p).ak, .bool (p).wd, .slice (p).da (p).spds.length (p).dk, .int .i64 (p).sw, .int .i64 (p).rk, .string (p).ow, .bool (p).dm, .bool (p).pn, .bool (p).lc]] V fun e w' => e = .returned (.bool mt) ∧ Below V.heap.size V w' from fun V hV => by
        have h9 := matters_any q (o + k * 21) b p V ((hV.cell (p := ⟨q, o + k * 21, none⟩) hq).trans c0) ((hV.cell (p := ⟨q, o + k * 21 + 20, none⟩) hq).trans c20) (Nat.lt_of_lt_of_le hq hV.size)
        rw [hmt] at h9
        exact h9)
      have HHs := Lib.hid (show ∀ V, Below wr.heap.size wr V → Calls Tryz.prog 135 #[.slice b.p.la b.p.labs.length b.p.lk, .slice p.da p.spds.length p.dk] V fun e w' => e = .returned (.bool h) ∧ Below V.heap.size V w' from fun V hV => by
        have h9 := HHas.out b hbm V (HB.out.trans (hV.mono HB.out.size))
        rw [hh] at h9
        exact h9)
      have Hbk := Lib.hid hbk
      have Hop := Lib.hid hop
      have hlo := HYA.out.lo b hbm
      clear hmt hh hop hc hbk hbm c0 hXr hM hO hB
      cases mt with
      | false =>
        have HNx := Lib.hid (show ∀ s, onF (bs.take k) p s = onF (bs.take (k + 1)) p s from on_no Hbk.out (by rw [Hop.out]; rfl))
        go_upto_region 5 with (fail)
        have hcH := held_cell
        refine region_rel (by kernel_rfl) (by kernel_rfl) ?_
        repeat
          ((with_reducible refine relStep (fun K hK => ?_))
           (have HK := Lib.hid hK)
           clear hK
           (apply relInl
            · intro r n hf
              have Hf := Lib.hid hf
              clear hf
              (first
                | (((with_reducible refine at_rel (ty := 40) ?_); refine rel_load rfl w.heap.size 0 rfl [.string (p).nm, .int .i64 (p).n0, .int .i64 (p).n1, .int .i64 (p).n2, .int .i64 (p).n3, .int .i64 (p).n4, .slice (p).la (p).labs.length (p).lk, .slice (p).sa (p).sels.length (p).sk, .slice (p).ta (p).trms.length (p).tk, .slice (p).ba (p).bers.length (p).bk, .slice (p).pa (p).prts.length (p).pk, .slice (p).aa (p).aprs.length (p).ak, .bool (p).wd, .slice (p).da (p).spds.length (p).dk, .int .i64 (p).sw, .int .i64 (p).rk, .string (p).ow, .bool (p).dm, .bool (p).pn, .bool (p).lc] _ Tryz.underlying40 rfl (by kernel_rfl) (rangeAt_mono HRp.out hlp n.below) rfl))
                | (unfold relAt
                   go_simp
                   (first | (refine relUpon_val ?_ (Below.refl _ _); exact rfl) | exact rfl | (refine relUpon_enter ?_; (first | (go_at_call 142; (with_reducible refine (HMt.out _ n.below).mono ?_); rintro e w9 ⟨rfl, hb⟩; exact ⟨⟨_, rfl, rfl⟩, hb⟩) | (go_at_call 135; (with_reducible refine (HHs.out _ n.below).mono ?_); rintro e w9 ⟨rfl, hb⟩; exact ⟨⟨_, rfl, rfl⟩, hb⟩))))))
            (simp only [Act.put, List.setIfInBounds_toArray, List.set_cons_zero, List.set_cons_succ])
            (with_reducible refine HK.out _ _ ?_)
            clear HK K))
        refine relNil ?_
        intro r9 n9 hx9
        clear hcH
        (try simp only [List.nil_append, List.cons_append, List.mem_cons, List.not_mem_nil, or_false, forall_eq_or_imp, forall_eq, false_implies, implies_true] at hx9)
        obtain ⟨w9, hb9⟩ := n9
        (try dsimp only)
        obtain ⟨hc9, hf9⟩ := bcell hb9
        have hz9 := hb9.size
        (try simp at hz9)
        go_wp2
        go_roundw
        case rel => exact ⟨k + 1, by omega, by go_num, ((HM.out.below hb9).mono (Nat.le_succ _)).eq HNx.out, HO.out.step1 hb9⟩
        case measure => simp [intOf]; omega
      | true =>
        cases h with
        | false =>
          have HNx := Lib.hid (show ∀ s, onF (bs.take k) p s = onF (bs.take (k + 1)) p s from on_no Hbk.out (by rw [Hop.out]; rfl))
          go_upto_region 5 with (fail)
          have hcH := held_cell
          refine region_rel (by kernel_rfl) (by kernel_rfl) ?_
          repeat
            ((with_reducible refine relStep (fun K hK => ?_))
             (have HK := Lib.hid hK)
             clear hK
             (apply relInl
              · intro r n hf
                have Hf := Lib.hid hf
                clear hf
                (first
                  | (((with_reducible refine at_rel (ty := 40) ?_); refine rel_load rfl w.heap.size 0 rfl [.string (p).nm, .int .i64 (p).n0, .int .i64 (p).n1, .int .i64 (p).n2, .int .i64 (p).n3, .int .i64 (p).n4, .slice (p).la (p).labs.length (p).lk, .slice (p).sa (p).sels.length (p).sk, .slice (p).ta (p).trms.length (p).tk, .slice (p).ba (p).bers.length (p).bk, .slice (p).pa (p).prts.length (p).pk, .slice (p).aa (p).aprs.length (p).ak, .bool (p).wd, .slice (p).da (p).spds.length (p).dk, .int .i64 (p).sw, .int .i64 (p).rk, .string (p).ow, .bool (p).dm, .bool (p).pn, .bool (p).lc] _ Tryz.underlying40 rfl (by kernel_rfl) (rangeAt_mono HRp.out hlp n.below) rfl))
                  | (unfold relAt
                     go_simp
                     (first | (refine relUpon_val ?_ (Below.refl _ _); exact rfl) | exact rfl | (refine relUpon_enter ?_; (first | (go_at_call 142; (with_reducible refine (HMt.out _ n.below).mono ?_); rintro e w9 ⟨rfl, hb⟩; exact ⟨⟨_, rfl, rfl⟩, hb⟩) | (go_at_call 135; (with_reducible refine (HHs.out _ n.below).mono ?_); rintro e w9 ⟨rfl, hb⟩; exact ⟨⟨_, rfl, rfl⟩, hb⟩))))))
              (simp only [Act.put, List.setIfInBounds_toArray, List.set_cons_zero, List.set_cons_succ])
              (with_reducible refine HK.out _ _ ?_)
              clear HK K))
          refine relNil ?_
          intro r9 n9 hx9
          clear hcH
          (try simp only [List.nil_append, List.cons_append, List.mem_cons, List.not_mem_nil, or_false, forall_eq_or_imp, forall_eq, false_implies, implies_true] at hx9)
          obtain ⟨w9, hb9⟩ := n9
          (try dsimp only)
          obtain ⟨hc9, hf9⟩ := bcell hb9
          have hz9 := hb9.size
          (try simp at hz9)
          go_wp2
          go_roundw
          case rel => exact ⟨k + 1, by omega, by go_num, ((HM.out.below hb9).mono (Nat.le_succ _)).eq HNx.out, HO.out.step1 hb9⟩
          case measure => simp [intOf]; omega
        | true =>
          have HNx := Lib.hid (fun s => on_yes (p := p) Hbk.out (by rw [Hop.out]; rfl) s)
          have Hgt := Lib.hid (on_get (bs.take k) p b.on)
          have hcl := onCnt_len (bs.take k) p b.on
          have hcl2 := List.length_take_le k bs
          obtain ⟨cn, hcn⟩ : ∃ x, onCnt (bs.take k) p b.on = x := ⟨_, rfl⟩
          rw [hcn] at HNx Hgt hcl
          have hw9 : IntKind.i64.wrap ((cn : Int) + 1) = (cn : Int) + 1 := wrap_in (by omega) (by omega)
          clear hcn
          go_upto_region 5 with (fail)
          have hcH := held_cell
          refine region_rel (by kernel_rfl) (by kernel_rfl) ?_
          repeat
            ((with_reducible refine relStep (fun K hK => ?_))
             (have HK := Lib.hid hK)
             clear hK
             (apply relInl
              · intro r n hf
                have Hf := Lib.hid hf
                clear hf
                (first
                  | (((with_reducible refine at_rel (ty := 40) ?_); refine rel_load rfl w.heap.size 0 rfl [.string (p).nm, .int .i64 (p).n0, .int .i64 (p).n1, .int .i64 (p).n2, .int .i64 (p).n3, .int .i64 (p).n4, .slice (p).la (p).labs.length (p).lk, .slice (p).sa (p).sels.length (p).sk, .slice (p).ta (p).trms.length (p).tk, .slice (p).ba (p).bers.length (p).bk, .slice (p).pa (p).prts.length (p).pk, .slice (p).aa (p).aprs.length (p).ak, .bool (p).wd, .slice (p).da (p).spds.length (p).dk, .int .i64 (p).sw, .int .i64 (p).rk, .string (p).ow, .bool (p).dm, .bool (p).pn, .bool (p).lc] _ Tryz.underlying40 rfl (by kernel_rfl) (rangeAt_mono HRp.out hlp n.below) rfl))
                  | (unfold relAt
                     go_simp
                     (first | (refine relUpon_val ?_ (Below.refl _ _); exact rfl) | exact rfl | (refine relUpon_enter ?_; (first | (go_at_call 142; (with_reducible refine (HMt.out _ n.below).mono ?_); rintro e w9 ⟨rfl, hb⟩; exact ⟨⟨_, rfl, rfl⟩, hb⟩) | (go_at_call 135; (with_reducible refine (HHs.out _ n.below).mono ?_); rintro e w9 ⟨rfl, hb⟩; exact ⟨⟨_, rfl, rfl⟩, hb⟩))))))
              (simp only [Act.put, List.setIfInBounds_toArray, List.set_cons_zero, List.set_cons_succ])
              (with_reducible refine HK.out _ _ ?_)
              clear HK K))
          refine relNil ?_
          intro r9 n9 hx9
          clear hcH
          (try simp only [List.nil_append, List.cons_append, List.mem_cons, List.not_mem_nil, or_false, forall_eq_or_imp, forall_eq, false_implies, implies_true] at hx9)
          obtain ⟨w9, hb9⟩ := n9
          (try dsimp only)
          obtain ⟨hc9, hf9⟩ := bcell hb9
          have hz9 := hb9.size
          (try simp at hz9)
          have d20 : w9.cell? ⟨q, o + k * 21 + 20, none⟩ = some (.string b.on) := (hb9.cell (p := ⟨q, o + k * 21 + 20, none⟩) hq).trans c20
          have HM9 := Lib.hid (HM.out.below hb9)
          have HO9 := Lib.hid (HO.out.step1 hb9)
          clear c6 c20 d13 HMt HHs HRp hb9 hc9 hf9
          go_wp2_with (first
            | (at_lookup; refine at_look rfl _ _ 155 9 3 rfl ft_law_str Tryz.underlying155 Tryz.underlying9 _ (ft_zero_int _) HM9.out rfl _ rfl (by unfold maxLen; omega) ?_; rw [Hgt.out])
            | (at_mapUpdate; refine at_put rfl _ _ _ 155 9 3 rfl ft_law_str Tryz.underlying155 Tryz.underlying9 HM9.out (by unfold maxLen; omega) rfl _ rfl (by unfold maxLen; omega) (.int .i64 ((cn : Int) + 1)) (by rfl) ?_; intro w7 hm7 hg7; have HM7 := Lib.hid hm7; have HG7 := Lib.hid hg7; clear hm7 hg7))
          go_roundw
          case rel => exact ⟨k + 1, by omega, by go_num, HM7.out.eq HNx.out, HO9.out.grown1 HG7.out⟩
          case measure => simp [intOf]; omega
    · obtain rfl : k = N := by omega
      have hM1 : MapIs Tryz.prog 9 wr m1 k (onF bs p) := HM.out.eq fun s => by rw [List.take_of_length_le (Nat.le_of_eq HN.out)]
      have hm1r := hM1.lt
      obtain ⟨m2, hm2⟩ : ∃ m2, wr.heap.size = m2 := ⟨_, rfl⟩
      obtain ⟨V, hV⟩ : ∃ V, V = wr.alloc (.map #[] 0) := ⟨_, rfl⟩
      have HMV := Lib.hid (show MapIs Tryz.prog 9 V m1 k (onF bs p) by rw [hV]; exact hM1.below ((Below.refl _ _).alloc (Nat.le_refl _) _))
      have HZV := Lib.hid (show MapIs Tryz.prog 9 V m2 0 (zfF (ms.take 0) (onCnt bs p)) by rw [hV, ← hm2]; exact (MapIs.made wr Tryz.prog 9).eq fun s => rfl)
      have HBV := Lib.hid (show Below w.heap.size w V by rw [hV]; exact hB.alloc hB.size _)
      have hmm : w.heap.size ≤ m2 ∧ m2 < V.heap.size ∧ m1 < m2 := by rw [hV, World.size_alloc, hm2]; have := hB.size; omega
      clear hM hO hB hM1 HM HO HB HX HMW HBW hm1r hm1b HHas
      go_upto_region 9 with (fail)
      (try rw [hm2])
      rw [← hV]
      clear hV hm2
      go_wp2
      go_loopw [52] (fun vi wr => ∃ j : Nat, j ≤ n ∧ vi = .int .i64 j ∧ MapIs Tryz.prog 9 wr m2 j (zfF (ms.take j) (onCnt bs p)) ∧ Only [m2] V wr) (fun vi _ => n - (intOf vi).toNat)
      case atStart => exact ⟨0, Nat.zero_le _, rfl, HZV.out, Only.refl _ _⟩
      case round =>
        obtain ⟨j, hj, rfl, hM, hO⟩ := hrel
        have HM := Lib.hid hM
        have HO := Lib.hid hO
        have hB := hO.below1 HBV.out (by have := hmm; omega) hmm.1
        have HB := Lib.hid hB
        have HM1 := Lib.hid (show MapIs Tryz.prog 9 wr m1 k (onF bs p) from HMV.out.same (hO.block m1 HMV.out.lt (by have := hmm; simp; omega)))
        by_cases hlt2 : j < n
        · obtain ⟨m, hmj⟩ := mem_at (l := ms) (k := j) (by rw [Hn.out]; exact hlt2)
          have hmm2 := List.mem_of_getElem? hmj
          obtain ⟨q, o, rfl, hq, hc⟩ := (HYA.out.ml.mono hB) (by rw [Hn.out]; omega)
          have c7 : wr.cell? ⟨q, o + j * 10 + 7, none⟩ = some (.slice m.la m.labs.length m.lk) := hc j m hmj 7 (by decide)
          have c0 : wr.cell? ⟨q, o + j * 10, none⟩ = some (.string m.nm) := hc j m hmj 0 (by decide)
          have HG := Lib.hid (fun V hV => HGet.out m hmm2 V hV)
          have HY1 := Lib.hid (fun h s => zf_yes (ms := ms) (k := j) (m := m) hmj (onCnt bs p) h s)
          have HY0 := Lib.hid (fun h s => zf_no (ms := ms) (k := j) (m := m) hmj (onCnt bs p) h s)
          have HLt := lightM_iff (HYA.out.lm m hmm2)
          have hnm := HLt.nm
          have hzs : (Lb.getV m.labs zoneT).size ≤ 300 := by
            unfold Lb.getV
            split
            · rename_i x hx
              exact (HLt.ls x (List.mem_of_find?_eq_some hx)).2
            · show 0 ≤ 300; decide
          have Hg1 := Lib.hid (on_get bs p m.nm)
          have hc1 := onCnt_len bs p m.nm
          obtain ⟨c1, hc1'⟩ : ∃ x, onCnt bs p m.nm = x := ⟨_, rfl⟩
          rw [hc1'] at Hg1 HY1 hc1
          have Hg2 := Lib.hid (zf_get (ms.take j) (onCnt bs p) (Lb.getV m.labs zoneT))
          have hc2 := zSum_le (ms.take j) (onCnt bs p) 1000 (fun x => Nat.le_trans (onCnt_len bs p x) (by rw [HN.out]; exact hNb)) (Lb.getV m.labs zoneT)
          have hc3 : (ms.take j).length * 1000 ≤ 1000 * 1000 := Nat.mul_le_mul_right _ (Nat.le_trans (List.length_take_le _ _) (by omega))
          obtain ⟨c2, hc2'⟩ : ∃ x, zSum (ms.take j) (onCnt bs p) (Lb.getV m.labs zoneT) = x := ⟨_, rfl⟩
          rw [hc2'] at Hg2 HY1 hc2
          rw [HN.out] at hc1
          have hw9 : IntKind.i64.wrap ((c2 : Int) + (c1 : Int)) = (c2 : Int) + (c1 : Int) := wrap_in (by omega) (by omega)
          obtain ⟨z, hz⟩ : ∃ z, Lb.getV m.labs zoneT = z := ⟨_, rfl⟩
          obtain ⟨g, hg⟩ : ∃ g, Lb.getB m.labs zoneT = g := ⟨_, rfl⟩
          rw [hz] at HY1 Hg2 hzs
          rw [hg] at HY1 HY0
          unfold zoneT at hz hg
          rw [hz, hg] at HG
          clear hc hmj hmm2 hM hO hB HLt hc1' hc2' hz hg
          cases g with
          | false =>
            have HNx := Lib.hid (HY0.out rfl)
            clear HY1 HY0 Hg1 Hg2 hw9
            go_wp2_with (go_at_call 154; (with_reducible refine (HG.out _ HB.out).mono ?_); rintro e w3 ⟨rfl, hb3⟩; have HM3 := Lib.hid (HM.out.below hb3); have HO3 := Lib.hid (HO.out.step1 hb3); clear hb3)
            go_roundw
            case rel => exact ⟨j + 1, by omega, by go_num, (HM3.out.mono (Nat.le_succ _)).eq HNx.out, HO3.out⟩
            case measure => simp [intOf]; omega
          | true =>
            have HNx := Lib.hid (HY1.out rfl)
            clear HY1 HY0
            go_upto_region 14 with (go_at_call 154; (with_reducible refine (HG.out _ HB.out).mono ?_); rintro e w3 ⟨rfl, hb3⟩; have HM3 := Lib.hid (HM.out.below hb3); have HM13 := Lib.hid (HM1.out.below hb3); have HO3 := Lib.hid (HO.out.step1 hb3); have e0 : w3.cell? ⟨q, o + j * 10, none⟩ = some (.string m.nm) := (hb3.cell (p := ⟨q, o + j * 10, none⟩) hq).trans c0; have hq3 : q < w3.heap.size := Nat.lt_of_lt_of_le hq hb3.size; clear hb3)
            have hcH := held_cell
            refine region_rel_tail 11 (by kernel_rfl) (by kernel_rfl) (by kernel_rfl) ?_
            dsimp only [List.take, List.drop]
            repeat
              ((with_reducible refine relStep (fun K hK => ?_))
               (have HK := Lib.hid hK)
               clear hK
               (apply relInl
                · intro r n hf
                  have Hf := Lib.hid hf
                  clear hf
                  (first
                    | ((first | ((with_reducible refine at_rlook ?_); refine rel_look rfl _ _ 155 9 3 rfl ft_law_str Tryz.underlying155 Tryz.underlying9 _ (ft_zero_int _) (HM3.out.below n.below) rfl _ rfl (by unfold maxLen; omega) Hg2.out) | ((with_reducible refine at_rlook ?_); refine rel_look rfl _ _ 155 9 3 rfl ft_law_str Tryz.underlying155 Tryz.underlying9 _ (ft_zero_int _) (HM13.out.below n.below) rfl _ rfl (by unfold maxLen; omega) Hg1.out)))
                    | (unfold relAt
                       go_simp
                       (first | (refine relUpon_val ?_ (Below.refl _ _); exact rfl) | exact rfl | (refine relUpon_enter ?_; fail))))
                (simp only [Act.put, List.setIfInBounds_toArray, List.set_cons_zero, List.set_cons_succ])
                (with_reducible refine HK.out _ _ ?_)
                clear HK K))
            refine relNil ?_
            intro r9 n9 hx9
            clear hcH
            (try simp only [List.nil_append, List.cons_append, List.mem_cons, List.not_mem_nil, or_false, forall_eq_or_imp, forall_eq, false_implies, implies_true] at hx9)
            obtain ⟨w9, hb9⟩ := n9
            (try dsimp only)
            obtain ⟨hc9, hf9⟩ := bcell hb9
            have hz9 := hb9.size
            (try simp at hz9)
            have HM9 := Lib.hid (HM3.out.below hb9)
            have HO9 := Lib.hid (HO3.out.step1 hb9)
            go_wp2_with (at_mapUpdate; refine at_put rfl _ _ _ 155 9 3 rfl ft_law_str Tryz.underlying155 Tryz.underlying9 HM9.out (by unfold maxLen; omega) rfl _ rfl (by unfold maxLen; omega) (.int .i64 ((c2 : Int) + (c1 : Int))) (by rfl) ?_; intro w7 hm7 hg7; have HM7 := Lib.hid hm7; have HG7 := Lib.hid hg7; clear hm7 hg7)
            go_roundw
            case rel => exact ⟨j + 1, by omega, by go_num, HM7.out.eq HNx.out, HO9.out.grown1 HG7.out⟩
            case measure => simp [intOf]; omega
        · obtain rfl : j = n := by omega
          have HMz := Lib.hid (show MapIs Tryz.prog 9 wr m2 j (zfF ms (onCnt bs p)) from HM.out.eq fun s => by rw [List.take_of_length_le (Nat.le_of_eq Hn.out)])
          have hZl := zonesY_len ms
          rw [Hn.out] at hZl
          obtain ⟨Z, hZ⟩ : ∃ Z, zonesY ms = Z := ⟨_, rfl⟩
          have HZe := Lib.hid (show numsC ms bs p = Z.map fun z => (zCnt ms bs p z : Int) by unfold numsC; rw [hZ])
          have HZq := Lib.hid hZ
          rw [hZ] at HZo hZl
          obtain ⟨nz, hnz⟩ : ∃ nz, Z.length = nz := ⟨_, rfl⟩
          have Hnz := Lib.hid hnz
          have HZs := Lib.hid (show ∀ z ∈ Z, z.size ≤ 300 by
            rw [← hZ]
            have : ∀ (l : List Mac) (out : List ByteArray), (∀ m ∈ l, m ∈ ms) → (∀ z ∈ out, z.size ≤ 300) → ∀ z ∈ l.foldl zoneA out, z.size ≤ 300 := by
              intro l
              induction l with
              | nil => intro out _ h; exact h
              | cons m l ih =>
                intro out hl h
                rw [List.foldl_cons]
                refine ih _ (fun x hx => hl x (List.mem_cons_of_mem _ hx)) ?_
                have HLt := lightM_iff (HYA.out.lm m (hl m List.mem_cons_self))
                have hzs : (Lb.getV m.labs zoneT).size ≤ 300 := by
                  unfold Lb.getV
                  split
                  · rename_i x hx
                    exact (HLt.ls x (List.mem_of_find?_eq_some hx)).2
                  · show 0 ≤ 300; decide
                intro z hz
                unfold zoneA at hz
                split at hz
                · split at hz
                  · split at hz
                    · exact h z hz
                    · rcases List.mem_append.1 hz with hz | hz
                      · exact h z hz
                      · obtain rfl : z = _ := by simpa using hz
                        exact hzs
                  · exact h z hz
                · exact h z hz
            exact this ms [] (fun m hm => hm) (fun z hz => by cases hz))
          rw [hnz] at hZl
          clear hM hO hB HM HO HM1 hZ HGet hnz HMV HZV HBV
          go_upto_region 18 with (go_at_call 155; (with_reducible refine (HZo.out _ HB.out).mono ?_); rintro e w3 ⟨⟨v, rfl, hv⟩, hb3⟩; obtain ⟨az, kz, rfl, hnilz, hrz⟩ := IsL.of_own scs_len (by decide) hv; have HT3 := Lib.hid hrz; have HM3 := Lib.hid (HMz.out.below hb3); have HB3 := Lib.hid (HB.out.trans (hb3.mono HB.out.size)); clear hv hrz hb3 hnilz; rw [Hnz.out])
          obtain ⟨V3, hV3⟩ : ∃ V3, V3 = w3 := ⟨_, rfl⟩
          rw [← hV3] at HT3 HM3 HB3 ⊢
          clear hV3
          go_wp2
          go_loopw [15, 81] (fun vo vi wr => ∃ (t : Nat) (Q : List Int), t ≤ nz ∧ vi = .int .i64 t ∧ Q = (Z.take t).map (fun z => (zCnt ms bs p z : Int)) ∧ Q.length = t ∧ wr.ownsRow V3.heap.size 3 1 vo Q.length (Q.flatMap pcs) ∧ Below V3.heap.size V3 wr) (fun _ vi _ => nz - (intOf vi).toNat)
          case atStart => exact ⟨0, [], Nat.zero_le _, rfl, rfl, rfl, World.ownsRow_nil _ _ _ _, Below.refl _ _⟩
          case round =>
            obtain ⟨t, Q, ht, rfl, hE, hLk, hO, hB⟩ := hrel
            have HE := Lib.hid hE
            have HB := Lib.hid hB
            have HO := Lib.hid hO
            have hbz := hB.size
            have Hlk := Lib.hid hLk
            obtain ⟨ao, ko, rfl⟩ := own_sl hO
            by_cases hlt3 : t < nz
            · obtain ⟨z, hz⟩ := mem_at (l := Z) (k := t) (by rw [Hnz.out]; exact hlt3)
              obtain ⟨q, o, rfl, hq, hc⟩ := (HT3.out.mono hB) (by rw [Hnz.out]; omega)
              have c0 : wr.cell? ⟨q, o + t, none⟩ = some (.string z) := by
                have h9 := hc t z hz 0 (by decide)
                rw [Nat.mul_one] at h9
                exact h9
              have Hg2 := Lib.hid (zf_get ms (onCnt bs p) z)
              have hzz := HZs.out z (List.mem_of_getElem? hz)
              have HM := Lib.hid (HM3.out.below hB)
              have HNx := Lib.hid (show Q ++ [(zCnt ms bs p z : Int)] = (Z.take (t + 1)).map (fun z => (zCnt ms bs p z : Int)) by rw [List.take_add_one, hz, List.map_append, hE]; rfl)
              obtain ⟨cn, hcn⟩ : ∃ x, zCnt ms bs p z = x := ⟨_, rfl⟩
              have hcn2 : zSum ms (onCnt bs p) z = cn := hcn
              rw [hcn2] at Hg2
              rw [hcn] at HNx
              have hQl : Q.length ≤ 1000 := by omega
              clear hE hO hB hc hz hcn hcn2 hLk
              go_wp2_with (first
                | (at_lookup; refine at_look rfl _ _ 155 9 3 rfl ft_law_str Tryz.underlying155 Tryz.underlying9 _ (ft_zero_int _) HM.out rfl _ rfl (by unfold maxLen; omega) ?_; rw [Hg2.out])
                | (at_builtin; refine wpList_append_src rfl (.tmp 85) (.tmp 89) 30 rfl V3.heap.size 3 i0 _ 1 8 Tryz.underlying30 Hi.out Hz0.out Hz1.out Hz2.out rfl (by decide) _ Q.length (Q.flatMap pcs) rfl (HO.out.alloc _) (some ⟨wr.heap.size, 0, none⟩) 1 1 (pcs (cn : Int)) rfl rfl (fun q e => by injection e with e; rw [← e]; exact news_at _ _ _) (fun e => by cases e) (pcs_one _) (by unfold maxLen; omega) (by omega) (by simp; omega) ?_; intro v6 w6 hown6 hgrow6; obtain ⟨a6, k6, rfl⟩ := own_sl hown6; have HB6 := Lib.hid (own_below (HO.out.alloc _) (HB.out.alloc hbz _) (by simp; omega) hgrow6); have HO6 := Lib.hid hown6; clear hown6 hgrow6))
              go_roundw
              case rel =>
                refine ⟨t + 1, Q ++ [(cn : Int)], by omega, by go_num, HNx.out, by rw [List.length_append, Hlk.out]; rfl, ?_, HB6.out⟩
                rw [List.length_append, List.flatMap_append]
                have h9 := HO6.out
                simpa using h9
              case measure => simp [intOf]; omega
            · obtain rfl : t = nz := by omega
              have HQ := Lib.hid (show Q = numsC ms bs p by rw [HZe.out, HE.out, List.take_of_length_le (Nat.le_of_eq Hnz.out)])
              have hTz := HT3.out.mono hB
              have HTz := Lib.hid hTz
              obtain ⟨_, _, e9, hnilq, hrq⟩ := IsL.of_own pcs_len (by decide) hO
              injection e9 with e1 e2 e3
              subst e1
              have HRq := Lib.hid hrq
              have hBw := HB3.out.trans (hB.mono HB3.out.size)
              have HBw := Lib.hid hBw
              clear hE hO hB hTz hrq hnilq hBw e2 e3
              go_wp2
              refine bodyPost_ret (v := .tuple #[.slice az t kz, .slice ao Q.length ko]) (by simp [results, Tryz.results144, go_sem]) rfl ⟨⟨az, kz, ao, ko, ?_, by rw [HZq.out]; exact HTz.out, by rw [← HQ.out]; exact HRq.out⟩, HBw.out⟩
              rw [← HQ.out, HZq.out, Hnz.out]
end Go.Proofs.YtdfadbpepmkicaaGreat
namespace Go.Proofs.YtdfadbpepmkicaaGreat
open Go.RowKit
set_option linter.unusedVariables false
set_option linter.unusedSimpArgs false
theorem min_next {l : List Int} {k : Nat} {y : Int} (h : l[k]? = some y) (hk : 1 ≤ k) : minL (l.take (k + 1)) = minS (minL (l.take k)) y := by
  match l, k, hk with
  | [], k + 1, _ => simp at h
  | x :: l, k + 1, _ =>
    rw [List.take_succ_cons, List.take_succ_cons]
    show (l.take (k + 1)).foldl minS x = minS ((l.take k).foldl minS x) y
    have h : l[k]? = some y := by simpa using h
    rw [List.take_add_one, h, List.foldl_append]
    rfl
set_option maxRecDepth 100000 in
set_option maxHeartbeats 4000000 in
theorem min_any (c : Option Addr) (kc : Nat) (l : List Int) (w : World) (hF : IntL w c l) (hm : l.length ≤ 1000000) (h1 : 1 ≤ l.length) :
    Calls Tryz.prog 147 #[.slice c l.length kc] w fun e w' => e = .returned (.int .i64 (minL l)) ∧ Below w.heap.size w w' := by
  obtain ⟨n, hn⟩ : ∃ n, l.length = n := ⟨_, rfl⟩
  have HN := Lib.hid hn
  have HF := Lib.hid hF
  obtain ⟨R, hR⟩ : ∃ R, minL l = R := ⟨_, rfl⟩
  have HR := Lib.hid hR
  obtain ⟨x, hx⟩ := mem_at (l := l) (k := 0) (by omega)
  have HM0 := Lib.hid (show minL (l.take 1) = x by
    match l, hx with
    | y :: l, hx =>
      obtain rfl : y = x := by simpa using hx
      rfl)
  obtain ⟨b, o, rfl, hb, hc⟩ := hF (by omega)
  have c0 : w.cell? ⟨b, o, none⟩ = some (.int .i64 x) := by
    have h9 := hc 0 x hx 0 (by decide)
    rw [Nat.zero_mul] at h9
    exact h9
  rw [hn] at hm h1 ⊢
  rw [hR]
  clear hn hF hR hx hc
  go_enter Tryz.func147, Tryz.ntmps147
  go_wp2
  go_loopw [3, 4] (fun vm vi wr => ∃ k : Nat, 1 ≤ k ∧ k ≤ n ∧ vi = .int .i64 k ∧ vm = .int .i64 (minL (l.take k)) ∧ Below w.heap.size w wr) (fun _ vi _ => n - (intOf vi).toNat)
  case atStart => exact ⟨1, Nat.le_refl _, h1, rfl, by rw [HM0.out], by (repeat' (first | with_reducible exact Below.refl _ _ | with_reducible assumption | with_reducible refine Below.drew ?_ | with_reducible refine below_drewN' ?_ _ | with_reducible refine Below.alloc ?_ ?_ _ | with_reducible refine Below.setCell ?_ ?_ _ | with_reducible refine below_step (by assumption) ?_ ?_ | omega | (simp; done) | (simp; omega)))⟩
  case round =>
    obtain ⟨k, hk1, hk, rfl, rfl, hB⟩ := hrel
    have HB := Lib.hid hB
    by_cases hlt : k < n
    · obtain ⟨y, hy⟩ := mem_at (l := l) (k := k) (by rw [HN.out]; exact hlt)
      obtain ⟨b2, o2, e9, hb2, hc⟩ := (HF.out.mono hB) (by rw [HN.out]; omega)
      injection e9 with e9
      injection e9 with e1 e2
      subst e1 e2
      have c1 : wr.cell? ⟨b, o + k, none⟩ = some (.int .i64 y) := by
        have h9 := hc k y hy 0 (by decide)
        rw [Nat.mul_one] at h9
        exact h9
      have HNx := Lib.hid (min_next hy hk1)
      obtain ⟨m, hm'⟩ : ∃ m, minL (l.take k) = m := ⟨_, rfl⟩
      rw [hm'] at HNx ⊢
      clear hB hc hy hm'
      by_cases hlt2 : y < m
      · have HNy := Lib.hid (show minL (l.take (k + 1)) = y by rw [HNx.out]; exact if_pos hlt2)
        have e9 : min m y = y := by omega
        have e8 : min y m = y := by omega
        go_wp2
        go_roundw
        case rel => exact ⟨k + 1, by omega, by omega, by go_num, by rw [HNy.out], HB.out⟩
        case measure => simp [intOf]; omega
      · have HNy := Lib.hid (show minL (l.take (k + 1)) = m by rw [HNx.out]; exact if_neg hlt2)
        have e9 : min m y = m := by omega
        have e8 : min y m = m := by omega
        go_wp2
        go_roundw
        case rel => exact ⟨k + 1, by omega, by omega, by go_num, by rw [HNy.out], HB.out⟩
        case measure => simp [intOf]; omega
    · obtain rfl : k = n := by omega
      have HRr := Lib.hid (show minL (l.take k) = R by rw [List.take_of_length_le (Nat.le_of_eq HN.out)]; exact HR.out)
      clear hB
      go_wp2
      go_ret
      exact ⟨by first | rfl | (rw [HRr.out]; first | done | rfl), HB.out⟩
theorem idx_in {α : Type} {p : α → Bool} : ∀ {l : List α}, l.any p = true → ∃ (i : Nat) (y : α), Lb.idxI p l = (i : Int) ∧ l[i]? = some y ∧ p y = true := by
  intro l h
  unfold Lb.idxI
  rw [if_pos h]
  have hlt : l.findIdx p < l.length := List.findIdx_lt_length.2 (by simpa using h)
  exact ⟨l.findIdx p, l[l.findIdx p], rfl, List.getElem?_eq_getElem hlt, List.findIdx_getElem (w := hlt)⟩
set_option maxRecDepth 100000 in
set_option maxHeartbeats 8000000 in
theorem many_any (a c : Option Addr) (ka kc : Nat) (ms : List Mac) (bs : List Bd) (p : Pd) (on : ByteArray) (w : World) (hY : YA w a ms c bs) (hP : PodAt w p) (hp : lightP p = true) :
    Calls Tryz.prog 132 #[.slice a ms.length ka, .slice c bs.length kc, .agg (prow p).toArray, .string on] w fun e w' => e = .returned (.bool (manyB ms bs p on)) ∧ Below w.heap.size w w' := by
  have hfi := fun V (hV : Below w.heap.size w V) => find_any a ka ms on V (hY.ml.mono hV) (by have := hY.mm; omega)
  have hco := fun V (hV : Below w.heap.size w V) => counts_any a c ka kc ms bs p V (hY.mono hV) (hP.mono hV) hp
  have hzo := fun V (hV : Below w.heap.size w V) => zone_any a ka ms on V (hY.ml.mono hV) (fun m hm => ((hY.mi m hm).mono hV).here) (by have := hY.mm; omega)
  have hha := fun V (hV : Below w.heap.size w V) => Lb.has_any p.la p.da p.lk p.dk p.labs p.spds V (hP.mono hV).labs (hP.mono hV).spds (by have := lightP_lens hp; omega) (by have := lightP_lens hp; omega)
  have hix := fun az kz V (hT : TxtL V az (zonesY ms)) => Lb.indexs_any az kz (zonesY ms) (zV ms on) V hT (by have := zonesY_len ms; have := hY.mm; omega)
  have hNl : (numsC ms bs p).length = (zonesY ms).length := by unfold numsC; rw [List.length_map]
  have hZl := zonesY_len ms
  have hml := hY.mm
  have hmi := fun an kn V (hT : IntL V an (numsC ms bs p)) (h1 : 1 ≤ (zonesY ms).length) => min_any an kn (numsC ms bs p) V hT (by rw [hNl]; omega) (by rw [hNl]; exact h1)
  have hmr := minL_range (numsC ms bs p) (1000 * 1000) (by omega) (fun x hx => by
    unfold numsC at hx
    obtain ⟨z, _, rfl⟩ := List.mem_map.1 hx
    have h9 := zCnt_le ms bs p z
    have h8 := Nat.mul_le_mul hY.mm hY.bb
    omega)
  obtain ⟨R, hR⟩ : ∃ R, manyB ms bs p on = R := ⟨_, rfl⟩
  rw [hR]
  unfold manyB at hR
  obtain ⟨W, hW⟩ : ∃ W, W = (w.alloc (.cells #[.string (p).nm, .int .i64 (p).n0, .int .i64 (p).n1, .int .i64 (p).n2, .int .i64 (p).n3, .int .i64 (p).n4, .slice (p).la (p).labs.length (p).lk, .slice (p).sa (p).sels.length (p).sk, .slice (p).ta (p).trms.length (p).tk, .slice (p).ba (p).bers.length (p).bk, .slice (p).pa (p).prts.length (p).pk, .slice (p).aa (p).aprs.length (p).ak, .bool (p).wd, .slice (p).da (p).spds.length (p).dk, .int .i64 (p).sw, .int .i64 (p).rk, .string (p).ow, .bool (p).dm, .bool (p).pn, .bool (p).lc] 40)) := ⟨_, rfl⟩
  have hX : Box w.heap.size (prow p) W := by rw [hW]; exact (Box.new w (prow p) 40)
  have hbw : Below w.heap.size w W := by rw [hW]; (repeat' (first | with_reducible exact Below.refl _ _ | with_reducible assumption | with_reducible refine Below.drew ?_ | with_reducible refine below_drewN' ?_ _ | with_reducible refine Below.alloc ?_ ?_ _ | with_reducible refine Below.setCell ?_ ?_ _ | with_reducible refine below_step (by assumption) ?_ ?_ | omega | (simp; done) | (simp; omega)))
  have HB := Lib.hid hbw
  have HX := Lib.hid hX
  have c13 : W.cell? ⟨w.heap.size, 13, none⟩ = some (.slice p.da p.spds.length p.dk) := hX.cell 13
  have hlp := hX.lt
  obtain ⟨N, hN⟩ : ∃ N, bs.length = N := ⟨_, rfl⟩
  obtain ⟨n, hn⟩ : ∃ n, ms.length = n := ⟨_, rfl⟩
  rw [hn] at hfi hzo
  rw [hn, hN] at hco
  rw [hn, hN]
  show Calls Tryz.prog 132 #[.slice a n ka, .slice c N kc, .agg #[.string (p).nm, .int .i64 (p).n0, .int .i64 (p).n1, .int .i64 (p).n2, .int .i64 (p).n3, .int .i64 (p).n4, .slice (p).la (p).labs.length (p).lk, .slice (p).sa (p).sels.length (p).sk, .slice (p).ta (p).trms.length (p).tk, .slice (p).ba (p).bers.length (p).bk, .slice (p).pa (p).prts.length (p).pk, .slice (p).aa (p).aprs.length (p).ak, .bool (p).wd, .slice (p).da (p).spds.length (p).dk, .int .i64 (p).sw, .int .i64 (p).rk, .string (p).ow, .bool (p).dm, .bool (p).pn, .bool (p).lc], .string on] w _
  by_cases h0 : p.spds.length = 0
  · have q0 : ((p.spds.length : Int) == 0) = true := by rw [h0]; rfl
    rw [if_pos h0] at hR
    subst hR
    clear hfi hco hzo hha hix hNl hZl hml hmi hmr hX hbw hY hP hp hN hn h0
    go_enter Tryz.func132, Tryz.ntmps132
    go_upto_region 1 with (fail)
    rw [← hW]
    clear hW
    go_wp2
    go_ret
    exact ⟨rfl, HB.out⟩
  · have q0 : ((p.spds.length : Int) == 0) = false := by rw [beq_eq_false_iff_ne]; omega
    rw [if_neg h0] at hR
    clear h0
    rcases find_cases ms on with ⟨h1, h2⟩ | ⟨i, m, h1, h2, h3, h4⟩
    · rw [if_pos (by rw [h2]; rfl)] at hR
      subst hR
      rw [h1] at hfi
      have HFi := Lib.hid hfi
      clear hfi hco hzo hha hix hNl hZl hml hmi hmr hX hbw hY hP hp hN hn h1 h2
      go_enter Tryz.func132, Tryz.ntmps132
      go_upto_region 1 with (fail)
      rw [← hW]
      clear hW
      go_wp2_with (go_at_call 66; (with_reducible refine (HFi.out _ HB.out).mono ?_); rintro e w1 ⟨rfl, hb⟩; have HB1 := Lib.hid (HB.out.trans (hb.mono HB.out.size)); clear hb)
      go_ret
      exact ⟨rfl, HB1.out⟩
    · rw [if_neg (by rw [h4]; exact Bool.false_ne_true)] at hR
      rw [h1] at hfi
      have HFi := Lib.hid hfi
      have HCo := Lib.hid hco
      have HZo := Lib.hid hzo
      have HHa := Lib.hid hha
      have HIx := Lib.hid hix
      have HMi := Lib.hid hmi
      have HNums := Lib.hid (show ∀ (j : Nat) z, (zonesY ms)[j]? = some z → (numsC ms bs p)[j]? = some (zCnt ms bs p z : Int) from fun j z hz => by
        unfold numsC
        rw [List.getElem?_map, hz]
        rfl)
      have hzn := zCnt_le ms bs p (zV ms on)
      have hzn2 := Nat.mul_le_mul hY.mm hY.bb
      unfold zNum at hR
      obtain ⟨Z, hZ⟩ : ∃ Z, zonesY ms = Z := ⟨_, rfl⟩
      obtain ⟨L, hL⟩ : ∃ L, numsC ms bs p = L := ⟨_, rfl⟩
      obtain ⟨zv, hzv⟩ : ∃ z, zV ms on = z := ⟨_, rfl⟩
      obtain ⟨zb, hzb⟩ : ∃ z, zB ms on = z := ⟨_, rfl⟩
      obtain ⟨hs, hhs⟩ : ∃ z, Lb.hasP p.labs p.spds = z := ⟨_, rfl⟩
      obtain ⟨mn, hmn⟩ : ∃ z, minL L = z := ⟨_, rfl⟩
      have HCn := Lib.hid (show ∀ (j : Nat) z, Z[j]? = some z → L[j]? = some (zCnt ms bs p z : Int) by rw [← hZ, ← hL]; exact HNums.out)
      obtain ⟨cn, hcn⟩ : ∃ z, zCnt ms bs p zv = z := ⟨_, rfl⟩
      rw [hZ, hL, hzv, hzb, hhs, hmn, hcn] at hR
      rw [hzv, hcn] at hzn
      rw [hzv, hzb] at HZo
      rw [hhs] at HHa
      rw [hZ, hzv] at HIx
      rw [hL, hZ, hmn] at HMi
      rw [hL, hZ] at hNl
      rw [hL, hmn] at hmr
      rw [hZ, hL] at HCo
      rw [hZ] at hZl
      obtain ⟨nz, hnz⟩ : ∃ nz, Z.length = nz := ⟨_, rfl⟩
      rw [hnz] at HIx hNl hZl HMi
      rw [hNl] at HMi
      have HCo2 := Lib.hid (show ∀ V, Below w.heap.size w V → Calls Tryz.prog 144 #[.slice a n ka, .slice c N kc, .agg #[.string (p).nm, .int .i64 (p).n0, .int .i64 (p).n1, .int .i64 (p).n2, .int .i64 (p).n3, .int .i64 (p).n4, .slice (p).la (p).labs.length (p).lk, .slice (p).sa (p).sels.length (p).sk, .slice (p).ta (p).trms.length (p).tk, .slice (p).ba (p).bers.length (p).bk, .slice (p).pa (p).prts.length (p).pk, .slice (p).aa (p).aprs.length (p).ak, .bool (p).wd, .slice (p).da (p).spds.length (p).dk, .int .i64 (p).sw, .int .i64 (p).rk, .string (p).ow, .bool (p).dm, .bool (p).pn, .bool (p).lc]] V fun e w' => (∃ az kz an kn, e = .returned (.tuple #[.slice az nz kz, .slice an nz kn]) ∧ TxtL w' az Z ∧ IntL w' an L) ∧ Below V.heap.size V w' from fun V hV => (HCo.out V hV).mono fun e w' h => by
        obtain ⟨⟨az, kz, an, kn, e1, h1, h2⟩, h3⟩ := h
        exact ⟨⟨az, kz, an, kn, by rw [e1, hnz, hNl], h1, h2⟩, h3⟩)
      have c14 : W.cell? ⟨w.heap.size, 14, none⟩ = some (.int .i64 p.sw) := hX.cell 14
      have HRp := Lib.hid (fun V (h : Box w.heap.size (prow p) V) => show V.rangeAt w.heap.size 0 [.string (p).nm, .int .i64 (p).n0, .int .i64 (p).n1, .int .i64 (p).n2, .int .i64 (p).n3, .int .i64 (p).n4, .slice (p).la (p).labs.length (p).lk, .slice (p).sa (p).sels.length (p).sk, .slice (p).ta (p).trms.length (p).tk, .slice (p).ba (p).bers.length (p).bk, .slice (p).pa (p).prts.length (p).pk, .slice (p).aa (p).aprs.length (p).ak, .bool (p).wd, .slice (p).da (p).spds.length (p).dk, .int .i64 (p).sw, .int .i64 (p).rk, .string (p).ow, .bool (p).dm, .bool (p).pn, .bool (p).lc] from h.range)
      clear hfi hco hzo hha hix hmi hX hbw hY hP hp hN hn h1 h2 h3 h4 hZ hL hzv hzb hhs hmn hnz HNums HCo c14
      rcases (show (zb = true ∧ Z.any (strB zv) = true) ∨ ¬ (zb = true ∧ Z.any (strB zv) = true) from Decidable.em _) with hg | hg
      · rw [if_pos hg] at hR
        obtain ⟨rfl, hz⟩ := hg
        obtain ⟨i', y, hix, hiy, hy⟩ := idx_in hz
        obtain rfl : zv = y := of_decide_eq_true hy
        have hLi := HCn.out i' _ hiy
        rw [hcn] at hLi
        have hnz1 : 1 ≤ nz := by
          have := (List.getElem?_eq_some_iff.1 hLi).1
          omega
        have hLl : 0 < L.length := by omega
        have hil : i' < nz := by
          have := (List.getElem?_eq_some_iff.1 hLi).1
          omega
        have HLi := Lib.hid hLi
        have HLl := Lib.hid hLl
        rw [hix] at HIx
        have hw1 : IntKind.i64.wrap ((cn : Int) + 1) = (cn : Int) + 1 := wrap_in (by omega) (by omega)
        have hw2 : IntKind.i64.wrap ((cn : Int) + 1 - mn) = (cn : Int) + 1 - mn := wrap_in (by omega) (by omega)
        have hw3 : IntKind.i64.wrap ((cn : Int) - mn) = (cn : Int) - mn := wrap_in (by omega) (by omega)
        have hi0 : ((i' : Int) < 0) = False := by simp
        clear hz hy hiy hix hLi hLl hcn HCn hNl
        go_enter Tryz.func132, Tryz.ntmps132
        go_upto_region 1 with (fail)
        rw [← hW]
        clear hW
        go_upto_region 8 with (first
          | (go_at_call 66; (with_reducible refine (HFi.out _ HB.out).mono ?_); rintro e w1 ⟨rfl, hb⟩; have HB1 := Lib.hid (HB.out.trans (hb.mono HB.out.size)); have HX1 := Lib.hid (HX.out.mono hb); clear hb)
            | ((with_reducible refine at_load (ty := 40) ?_); refine load_cells rfl 40 (.tmp 6) rfl w.heap.size 0 rfl [.string (p).nm, .int .i64 (p).n0, .int .i64 (p).n1, .int .i64 (p).n2, .int .i64 (p).n3, .int .i64 (p).n4, .slice (p).la (p).labs.length (p).lk, .slice (p).sa (p).sels.length (p).sk, .slice (p).ta (p).trms.length (p).tk, .slice (p).ba (p).bers.length (p).bk, .slice (p).pa (p).prts.length (p).pk, .slice (p).aa (p).aprs.length (p).ak, .bool (p).wd, .slice (p).da (p).spds.length (p).dk, .int .i64 (p).sw, .int .i64 (p).rk, .string (p).ow, .bool (p).dm, .bool (p).pn, .bool (p).lc] _ Tryz.underlying40 rfl (by kernel_rfl) (HRp.out _ HX1.out) ?_)
            | (go_at_call 144; (with_reducible refine (HCo2.out _ HB1.out).mono ?_); rintro e w2 ⟨⟨az, kz, an, kn, rfl, hT, hI⟩, hb⟩; have HB2 := Lib.hid (HB1.out.trans (hb.mono HB1.out.size)); have HX2 := Lib.hid (HX1.out.mono hb); have HT2 := Lib.hid hT; have HI2 := Lib.hid hI; clear hb hT hI)
            | (go_at_call 145; (with_reducible refine (HZo.out _ HB2.out).mono ?_); rintro e w3 ⟨rfl, hb⟩; have HB3 := Lib.hid (HB2.out.trans (hb.mono HB2.out.size)); have HX3 := Lib.hid (HX2.out.mono hb); have HT3 := Lib.hid (HT2.out.mono hb); have HI3 := Lib.hid (HI2.out.mono hb); clear hb)
          | (go_at_call 146; (with_reducible refine (HIx.out _ _ _ HT3.out).mono ?_); rintro e w4 ⟨rfl, hb⟩; have HB4 := Lib.hid (HB3.out.trans (hb.mono HB3.out.size)); have HX4 := Lib.hid (HX3.out.mono hb); have HI4 := Lib.hid (HI3.out.mono hb); clear hb))
        obtain ⟨bn, on', rfl, hbn, hcl⟩ := HI4.out HLl.out
        have n0 : w4.cell? ⟨bn, on' + i', none⟩ = some (.int .i64 cn) := by
          have h9 := hcl i' _ HLi.out 0 (by decide)
          rw [Nat.mul_one] at h9
          exact h9
        have c6 : w4.cell? ⟨w.heap.size, 6, none⟩ = some (.slice p.la p.labs.length p.lk) := HX4.out.cell 6
        have d13 : w4.cell? ⟨w.heap.size, 13, none⟩ = some (.slice p.da p.spds.length p.dk) := HX4.out.cell 13
        have hl4 := HX4.out.lt
        clear hcl c13 hlp HIx HZo HCo2 HFi
        cases hs with
        | true =>
          have hR : decide (p.sw < (cn : Int) + 1 - mn) = R := hR
          go_upto_region 11 with (go_at_call 135; (with_reducible refine (HHa.out _ HB4.out).mono ?_); rintro e w5 ⟨rfl, hb⟩; have HB5 := Lib.hid (HB4.out.trans (hb.mono HB4.out.size)); have HX5 := Lib.hid (HX4.out.mono hb); have HI5 := Lib.hid (HI4.out.mono hb); clear hb)
          have c14 : w5.cell? ⟨w.heap.size, 14, none⟩ = some (.int .i64 p.sw) := HX5.out.cell 14
          have hl5 := HX5.out.lt
          clear n0 c6 d13 hl4
          have hcH := held_cell
          refine region_rel (by kernel_rfl) (by kernel_rfl) ?_
          repeat
            ((with_reducible refine relStep (fun K hK => ?_))
             (have HK := Lib.hid hK)
             clear hK
             (apply relInl
              · intro r n hf
                have Hf := Lib.hid hf
                clear hf
                (first
                  | (fail)
                  | (unfold relAt
                     go_simp
                     (first | (refine relUpon_val ?_ (Below.refl _ _); exact rfl) | exact rfl | (refine relUpon_enter ?_; (go_at_call 147; (with_reducible refine (HMi.out _ _ _ (HI5.out.mono n.below) hnz1).mono ?_); rintro e w9 ⟨rfl, hb⟩; exact ⟨⟨_, rfl, rfl⟩, hb⟩)))))
              (simp only [Act.put, List.setIfInBounds_toArray, List.set_cons_zero, List.set_cons_succ])
              (with_reducible refine HK.out _ _ ?_)
              clear HK K))
          refine relNil ?_
          intro r9 n9 hx9
          clear hcH
          (try simp only [List.nil_append, List.cons_append, List.mem_cons, List.not_mem_nil, or_false, forall_eq_or_imp, forall_eq, false_implies, implies_true] at hx9)
          obtain ⟨w9, hb9⟩ := n9
          (try dsimp only)
          obtain ⟨hc9, hf9⟩ := bcell hb9
          have hz9 := hb9.size
          (try simp at hz9)
          have HB9 := Lib.hid (HB5.out.trans (hb9.mono HB5.out.size))
          clear hb9 hc9 hf9 hz9
          go_wp2
          go_ret
          exact ⟨by rw [← hR]; first | done | rfl, HB9.out⟩
        | false =>
          have hR : decide (p.sw < (cn : Int) - mn) = R := by
            rw [← hR]
            show _ = decide (p.sw < (cn : Int) + 0 - mn)
            rw [Int.add_zero]
          go_upto_region 11 with (go_at_call 135; (with_reducible refine (HHa.out _ HB4.out).mono ?_); rintro e w5 ⟨rfl, hb⟩; have HB5 := Lib.hid (HB4.out.trans (hb.mono HB4.out.size)); have HX5 := Lib.hid (HX4.out.mono hb); have HI5 := Lib.hid (HI4.out.mono hb); clear hb)
          have c14 : w5.cell? ⟨w.heap.size, 14, none⟩ = some (.int .i64 p.sw) := HX5.out.cell 14
          have hl5 := HX5.out.lt
          clear n0 c6 d13 hl4
          have hcH := held_cell
          refine region_rel (by kernel_rfl) (by kernel_rfl) ?_
          repeat
            ((with_reducible refine relStep (fun K hK => ?_))
             (have HK := Lib.hid hK)
             clear hK
             (apply relInl
              · intro r n hf
                have Hf := Lib.hid hf
                clear hf
                (first
                  | (fail)
                  | (unfold relAt
                     go_simp
                     (first | (refine relUpon_val ?_ (Below.refl _ _); exact rfl) | exact rfl | (refine relUpon_enter ?_; (go_at_call 147; (with_reducible refine (HMi.out _ _ _ (HI5.out.mono n.below) hnz1).mono ?_); rintro e w9 ⟨rfl, hb⟩; exact ⟨⟨_, rfl, rfl⟩, hb⟩)))))
              (simp only [Act.put, List.setIfInBounds_toArray, List.set_cons_zero, List.set_cons_succ])
              (with_reducible refine HK.out _ _ ?_)
              clear HK K))
          refine relNil ?_
          intro r9 n9 hx9
          clear hcH
          (try simp only [List.nil_append, List.cons_append, List.mem_cons, List.not_mem_nil, or_false, forall_eq_or_imp, forall_eq, false_implies, implies_true] at hx9)
          obtain ⟨w9, hb9⟩ := n9
          (try dsimp only)
          obtain ⟨hc9, hf9⟩ := bcell hb9
          have hz9 := hb9.size
          (try simp at hz9)
          have HB9 := Lib.hid (HB5.out.trans (hb9.mono HB5.out.size))
          clear hb9 hc9 hf9 hz9
          go_wp2
          go_ret
          exact ⟨by rw [← hR]; first | done | rfl, HB9.out⟩
      · rw [if_neg hg] at hR
        subst hR
        obtain ⟨ix, hix⟩ : ∃ ix, Lb.idxI (strB zv) Z = ix := ⟨_, rfl⟩
        have hii : zb = true → ix = -1 := fun h => by
          rw [← hix]
          unfold Lb.idxI
          rw [if_neg (fun h2 => hg ⟨h, h2⟩)]
        rw [hix] at HIx
        clear hix hg hcn HCn hNl HMi HHa hmr
        cases zb with
        | true =>
          obtain rfl := hii rfl
          clear hii
          go_enter Tryz.func132, Tryz.ntmps132
          go_upto_region 1 with (fail)
          rw [← hW]
          clear hW
          go_wp2_with (first
            | (go_at_call 66; (with_reducible refine (HFi.out _ HB.out).mono ?_); rintro e w1 ⟨rfl, hb⟩; have HB1 := Lib.hid (HB.out.trans (hb.mono HB.out.size)); have HX1 := Lib.hid (HX.out.mono hb); clear hb)
              | ((with_reducible refine at_load (ty := 40) ?_); refine load_cells rfl 40 (.tmp 6) rfl w.heap.size 0 rfl [.string (p).nm, .int .i64 (p).n0, .int .i64 (p).n1, .int .i64 (p).n2, .int .i64 (p).n3, .int .i64 (p).n4, .slice (p).la (p).labs.length (p).lk, .slice (p).sa (p).sels.length (p).sk, .slice (p).ta (p).trms.length (p).tk, .slice (p).ba (p).bers.length (p).bk, .slice (p).pa (p).prts.length (p).pk, .slice (p).aa (p).aprs.length (p).ak, .bool (p).wd, .slice (p).da (p).spds.length (p).dk, .int .i64 (p).sw, .int .i64 (p).rk, .string (p).ow, .bool (p).dm, .bool (p).pn, .bool (p).lc] _ Tryz.underlying40 rfl (by kernel_rfl) (HRp.out _ HX1.out) ?_)
              | (go_at_call 144; (with_reducible refine (HCo2.out _ HB1.out).mono ?_); rintro e w2 ⟨⟨az, kz, an, kn, rfl, hT, hI⟩, hb⟩; have HB2 := Lib.hid (HB1.out.trans (hb.mono HB1.out.size)); have HX2 := Lib.hid (HX1.out.mono hb); have HT2 := Lib.hid hT; have HI2 := Lib.hid hI; clear hb hT hI)
              | (go_at_call 145; (with_reducible refine (HZo.out _ HB2.out).mono ?_); rintro e w3 ⟨rfl, hb⟩; have HB3 := Lib.hid (HB2.out.trans (hb.mono HB2.out.size)); have HX3 := Lib.hid (HX2.out.mono hb); have HT3 := Lib.hid (HT2.out.mono hb); have HI3 := Lib.hid (HI2.out.mono hb); clear hb)
            | (go_at_call 146; (with_reducible refine (HIx.out _ _ _ HT3.out).mono ?_); rintro e w4 ⟨rfl, hb⟩; have HB4 := Lib.hid (HB3.out.trans (hb.mono HB3.out.size)); clear hb))
          go_ret
          exact ⟨rfl, HB4.out⟩
        | false =>
          clear hii
          go_enter Tryz.func132, Tryz.ntmps132
          go_upto_region 1 with (fail)
          rw [← hW]
          clear hW
          go_wp2_with (first
            | (go_at_call 66; (with_reducible refine (HFi.out _ HB.out).mono ?_); rintro e w1 ⟨rfl, hb⟩; have HB1 := Lib.hid (HB.out.trans (hb.mono HB.out.size)); have HX1 := Lib.hid (HX.out.mono hb); clear hb)
              | ((with_reducible refine at_load (ty := 40) ?_); refine load_cells rfl 40 (.tmp 6) rfl w.heap.size 0 rfl [.string (p).nm, .int .i64 (p).n0, .int .i64 (p).n1, .int .i64 (p).n2, .int .i64 (p).n3, .int .i64 (p).n4, .slice (p).la (p).labs.length (p).lk, .slice (p).sa (p).sels.length (p).sk, .slice (p).ta (p).trms.length (p).tk, .slice (p).ba (p).bers.length (p).bk, .slice (p).pa (p).prts.length (p).pk, .slice (p).aa (p).aprs.length (p).ak, .bool (p).wd, .slice (p).da (p).spds.length (p).dk, .int .i64 (p).sw, .int .i64 (p).rk, .string (p).ow, .bool (p).dm, .bool (p).pn, .bool (p).lc] _ Tryz.underlying40 rfl (by kernel_rfl) (HRp.out _ HX1.out) ?_)
              | (go_at_call 144; (with_reducible refine (HCo2.out _ HB1.out).mono ?_); rintro e w2 ⟨⟨az, kz, an, kn, rfl, hT, hI⟩, hb⟩; have HB2 := Lib.hid (HB1.out.trans (hb.mono HB1.out.size)); have HX2 := Lib.hid (HX1.out.mono hb); have HT2 := Lib.hid hT; have HI2 := Lib.hid hI; clear hb hT hI)
              | (go_at_call 145; (with_reducible refine (HZo.out _ HB2.out).mono ?_); rintro e w3 ⟨rfl, hb⟩; have HB3 := Lib.hid (HB2.out.trans (hb.mono HB2.out.size)); have HX3 := Lib.hid (HX2.out.mono hb); have HT3 := Lib.hid (HT2.out.mono hb); have HI3 := Lib.hid (HI2.out.mono hb); clear hb)
            | (go_at_call 146; (with_reducible refine (HIx.out _ _ _ HT3.out).mono ?_); rintro e w4 ⟨rfl, hb⟩; have HB4 := Lib.hid (HB3.out.trans (hb.mono HB3.out.size)); clear hb))
          go_ret
          exact ⟨rfl, HB4.out⟩
set_option maxRecDepth 100000 in
set_option maxHeartbeats 4000000 in
theorem awhy_any (a c : Option Addr) (ka kc : Nat) (ms : List Mac) (bs : List Bd) (p : Pd) (on : ByteArray) (w : World) (hY : YA w a ms c bs) (hP : PodAt w p) (hp : lightP p = true) :
    Calls Tryz.prog 121 #[.slice a ms.length ka, .slice c bs.length kc, .agg (prow p).toArray, .string on] w fun e w' => e = .returned (.int .i64 (apartW ms bs p on)) ∧ Below w.heap.size w w' := by
  have h1 := fun V (hV : Below w.heap.size w V) => near_any a c ka kc ms bs p on V (hY.mono hV) (hP.mono hV) hp
  have h2 := fun V (hV : Below w.heap.size w V) => many_any a c ka kc ms bs p on V (hY.mono hV) (hP.mono hV) hp
  obtain ⟨R, hR⟩ : ∃ R, apartW ms bs p on = R := ⟨_, rfl⟩
  rw [hR]
  unfold apartW at hR
  obtain ⟨nb, hnb⟩ : ∃ x, nearB ms bs p on = x := ⟨_, rfl⟩
  obtain ⟨mb, hmb⟩ : ∃ x, manyB ms bs p on = x := ⟨_, rfl⟩
  rw [hnb] at h1
  rw [hmb] at h2
  rw [hnb, hmb] at hR
  obtain ⟨W, hW⟩ : ∃ W, W = (w.alloc (.cells #[.string (p).nm, .int .i64 (p).n0, .int .i64 (p).n1, .int .i64 (p).n2, .int .i64 (p).n3, .int .i64 (p).n4, .slice (p).la (p).labs.length (p).lk, .slice (p).sa (p).sels.length (p).sk, .slice (p).ta (p).trms.length (p).tk, .slice (p).ba (p).bers.length (p).bk, .slice (p).pa (p).prts.length (p).pk, .slice (p).aa (p).aprs.length (p).ak, .bool (p).wd, .slice (p).da (p).spds.length (p).dk, .int .i64 (p).sw, .int .i64 (p).rk, .string (p).ow, .bool (p).dm, .bool (p).pn, .bool (p).lc] 40)) := ⟨_, rfl⟩
  have hX : Box w.heap.size (prow p) W := by rw [hW]; exact (Box.new w (prow p) 40)
  have hbw : Below w.heap.size w W := by rw [hW]; (repeat' (first | with_reducible exact Below.refl _ _ | with_reducible assumption | with_reducible refine Below.drew ?_ | with_reducible refine below_drewN' ?_ _ | with_reducible refine Below.alloc ?_ ?_ _ | with_reducible refine Below.setCell ?_ ?_ _ | with_reducible refine below_step (by assumption) ?_ ?_ | omega | (simp; done) | (simp; omega)))
  have HB := Lib.hid hbw
  have HX := Lib.hid hX
  have HRp := Lib.hid (fun V (h : Box w.heap.size (prow p) V) => show V.rangeAt w.heap.size 0 [.string (p).nm, .int .i64 (p).n0, .int .i64 (p).n1, .int .i64 (p).n2, .int .i64 (p).n3, .int .i64 (p).n4, .slice (p).la (p).labs.length (p).lk, .slice (p).sa (p).sels.length (p).sk, .slice (p).ta (p).trms.length (p).tk, .slice (p).ba (p).bers.length (p).bk, .slice (p).pa (p).prts.length (p).pk, .slice (p).aa (p).aprs.length (p).ak, .bool (p).wd, .slice (p).da (p).spds.length (p).dk, .int .i64 (p).sw, .int .i64 (p).rk, .string (p).ow, .bool (p).dm, .bool (p).pn, .bool (p).lc] from h.range)
  obtain ⟨N, hN⟩ : ∃ N, bs.length = N := ⟨_, rfl⟩
  obtain ⟨n, hn⟩ : ∃ n, ms.length = n := ⟨_, rfl⟩
  rw [hn, hN] at h1 h2 ⊢
  have H1 := Lib.hid (show ∀ V, Below w.heap.size w V → Calls Tryz.prog 131 #[.slice a n ka, .slice c N kc, .agg #[.string (p).nm, .int .i64 (p).n0, .int .i64 (p).n1, .int .i64 (p).n2, .int .i64 (p).n3, .int .i64 (p).n4, .slice (p).la (p).labs.length (p).lk, .slice (p).sa (p).sels.length (p).sk, .slice (p).ta (p).trms.length (p).tk, .slice (p).ba (p).bers.length (p).bk, .slice (p).pa (p).prts.length (p).pk, .slice (p).aa (p).aprs.length (p).ak, .bool (p).wd, .slice (p).da (p).spds.length (p).dk, .int .i64 (p).sw, .int .i64 (p).rk, .string (p).ow, .bool (p).dm, .bool (p).pn, .bool (p).lc], .string on] V fun e w' => e = .returned (.bool nb) ∧ Below V.heap.size V w' from h1)
  have H2 := Lib.hid (show ∀ V, Below w.heap.size w V → Calls Tryz.prog 132 #[.slice a n ka, .slice c N kc, .agg #[.string (p).nm, .int .i64 (p).n0, .int .i64 (p).n1, .int .i64 (p).n2, .int .i64 (p).n3, .int .i64 (p).n4, .slice (p).la (p).labs.length (p).lk, .slice (p).sa (p).sels.length (p).sk, .slice (p).ta (p).trms.length (p).tk, .slice (p).ba (p).bers.length (p).bk, .slice (p).pa (p).prts.length (p).pk, .slice (p).aa (p).aprs.length (p).ak, .bool (p).wd, .slice (p).da (p).spds.length (p).dk, .int .i64 (p).sw, .int .i64 (p).rk, .string (p).ow, .bool (p).dm, .bool (p).pn, .bool (p).lc], .string on] V fun e w' => e = .returned (.bool mb) ∧ Below V.heap.size V w' from h2)
  show Calls Tryz.prog 121 #[.slice a n ka, .slice c N kc, .agg #[.string (p).nm, .int .i64 (p).n0, .int .i64 (p).n1, .int .i64 (p).n2, .int .i64 (p).n3, .int .i64 (p).n4, .slice (p).la (p).labs.length (p).lk, .slice (p).sa (p).sels.length (p).sk, .slice (p).ta (p).trms.length (p).tk, .slice (p).ba (p).bers.length (p).bk, .slice (p).pa (p).prts.length (p).pk, .slice (p).aa (p).aprs.length (p).ak, .bool (p).wd, .slice (p).da (p).spds.length (p).dk, .int .i64 (p).sw, .int .i64 (p).rk, .string (p).ow, .bool (p).dm, .bool (p).pn, .bool (p).lc], .string on] w _
  clear h1 h2 hnb hmb hX hbw hN hn hY hP hp
  cases nb with
  | true =>
    obtain rfl : R = 7 := by rw [← hR]; rfl
    clear hR
    go_enter Tryz.func121, Tryz.ntmps121
    go_upto_region 1 with (fail)
    rw [← hW]
    clear hW
    go_wp2_with (first
      | ((with_reducible refine at_load (ty := 40) ?_); refine load_cells rfl 40 (.tmp 6) rfl w.heap.size 0 rfl [.string (p).nm, .int .i64 (p).n0, .int .i64 (p).n1, .int .i64 (p).n2, .int .i64 (p).n3, .int .i64 (p).n4, .slice (p).la (p).labs.length (p).lk, .slice (p).sa (p).sels.length (p).sk, .slice (p).ta (p).trms.length (p).tk, .slice (p).ba (p).bers.length (p).bk, .slice (p).pa (p).prts.length (p).pk, .slice (p).aa (p).aprs.length (p).ak, .bool (p).wd, .slice (p).da (p).spds.length (p).dk, .int .i64 (p).sw, .int .i64 (p).rk, .string (p).ow, .bool (p).dm, .bool (p).pn, .bool (p).lc] _ Tryz.underlying40 rfl (by kernel_rfl) (by first | exact HRp.out _ HX1.out | exact HRp.out _ HX.out) ?_)
      | (go_at_call 131; (with_reducible refine (H1.out _ HB.out).mono ?_); rintro e w1 ⟨rfl, hb⟩; have HB1 := Lib.hid (HB.out.trans (hb.mono HB.out.size)); have HX1 := Lib.hid (HX.out.mono hb); clear hb)
      | (go_at_call 132; (with_reducible refine (H2.out _ HB1.out).mono ?_); rintro e w2 ⟨rfl, hb⟩; have HB2 := Lib.hid (HB1.out.trans (hb.mono HB1.out.size)); clear hb))
    go_ret
    exact ⟨rfl, by first | exact HB2.out | exact HB1.out⟩
  | false =>
    cases mb with
    | true =>
      obtain rfl : R = 8 := by rw [← hR]; rfl
      clear hR
      go_enter Tryz.func121, Tryz.ntmps121
      go_upto_region 1 with (fail)
      rw [← hW]
      clear hW
      go_wp2_with (first
        | ((with_reducible refine at_load (ty := 40) ?_); refine load_cells rfl 40 (.tmp 6) rfl w.heap.size 0 rfl [.string (p).nm, .int .i64 (p).n0, .int .i64 (p).n1, .int .i64 (p).n2, .int .i64 (p).n3, .int .i64 (p).n4, .slice (p).la (p).labs.length (p).lk, .slice (p).sa (p).sels.length (p).sk, .slice (p).ta (p).trms.length (p).tk, .slice (p).ba (p).bers.length (p).bk, .slice (p).pa (p).prts.length (p).pk, .slice (p).aa (p).aprs.length (p).ak, .bool (p).wd, .slice (p).da (p).spds.length (p).dk, .int .i64 (p).sw, .int .i64 (p).rk, .string (p).ow, .bool (p).dm, .bool (p).pn, .bool (p).lc] _ Tryz.underlying40 rfl (by kernel_rfl) (by first | exact HRp.out _ HX1.out | exact HRp.out _ HX.out) ?_)
        | (go_at_call 131; (with_reducible refine (H1.out _ HB.out).mono ?_); rintro e w1 ⟨rfl, hb⟩; have HB1 := Lib.hid (HB.out.trans (hb.mono HB.out.size)); have HX1 := Lib.hid (HX.out.mono hb); clear hb)
        | (go_at_call 132; (with_reducible refine (H2.out _ HB1.out).mono ?_); rintro e w2 ⟨rfl, hb⟩; have HB2 := Lib.hid (HB1.out.trans (hb.mono HB1.out.size)); clear hb))
      go_ret
      exact ⟨rfl, by first | exact HB2.out | exact HB1.out⟩
    | false =>
      obtain rfl : R = 0 := by rw [← hR]; rfl
      clear hR
      go_enter Tryz.func121, Tryz.ntmps121
      go_upto_region 1 with (fail)
      rw [← hW]
      clear hW
      go_wp2_with (first
        | ((with_reducible refine at_load (ty := 40) ?_); refine load_cells rfl 40 (.tmp 6) rfl w.heap.size 0 rfl [.string (p).nm, .int .i64 (p).n0, .int .i64 (p).n1, .int .i64 (p).n2, .int .i64 (p).n3, .int .i64 (p).n4, .slice (p).la (p).labs.length (p).lk, .slice (p).sa (p).sels.length (p).sk, .slice (p).ta (p).trms.length (p).tk, .slice (p).ba (p).bers.length (p).bk, .slice (p).pa (p).prts.length (p).pk, .slice (p).aa (p).aprs.length (p).ak, .bool (p).wd, .slice (p).da (p).spds.length (p).dk, .int .i64 (p).sw, .int .i64 (p).rk, .string (p).ow, .bool (p).dm, .bool (p).pn, .bool (p).lc] _ Tryz.underlying40 rfl (by kernel_rfl) (by first | exact HRp.out _ HX1.out | exact HRp.out _ HX.out) ?_)
        | (go_at_call 131; (with_reducible refine (H1.out _ HB.out).mono ?_); rintro e w1 ⟨rfl, hb⟩; have HB1 := Lib.hid (HB.out.trans (hb.mono HB.out.size)); have HX1 := Lib.hid (HX.out.mono hb); clear hb)
        | (go_at_call 132; (with_reducible refine (H2.out _ HB1.out).mono ?_); rintro e w2 ⟨rfl, hb⟩; have HB2 := Lib.hid (HB1.out.trans (hb.mono HB1.out.size)); clear hb))
      go_ret
      exact ⟨rfl, by first | exact HB2.out | exact HB1.out⟩
end Go.Proofs.YtdfadbpepmkicaaGreat
namespace Go.Proofs.YtdfadbpepmkicaaGreat
open Go.RowKit
set_option linter.unusedVariables false
set_option linter.unusedSimpArgs false
set_option maxRecDepth 100000 in
set_option maxHeartbeats 4000000 in
theorem fwhy_any (a c : Option Addr) (ka kc : Nat) (ms : List Mac) (bs : List Bd) (p : Pd) (on : ByteArray) (w : World) (hY : YA w a ms c bs) (hP : PodAt w p) (hp : lightP p = true) :
    Calls Tryz.prog 103 #[.slice a ms.length ka, .slice c bs.length kc, .agg (prow p).toArray, .string on] w fun e w' => e = .returned (.int .i64 (whyF ms bs p on)) ∧ Below w.heap.size w w' := by
  have hfi := fun V (hV : Below w.heap.size w V) => find_any a ka ms on V (hY.ml.mono hV) (by have := hY.mm; omega)
  have haw := fun V (hV : Below w.heap.size w V) => awhy_any a c ka kc ms bs p on V (hY.mono hV) (hP.mono hV) hp
  obtain ⟨R, hR⟩ : ∃ R, whyF ms bs p on = R := ⟨_, rfl⟩
  rw [hR]
  unfold whyF at hR
  obtain ⟨W, hW⟩ : ∃ W, W = (w.alloc (.cells #[.string (p).nm, .int .i64 (p).n0, .int .i64 (p).n1, .int .i64 (p).n2, .int .i64 (p).n3, .int .i64 (p).n4, .slice (p).la (p).labs.length (p).lk, .slice (p).sa (p).sels.length (p).sk, .slice (p).ta (p).trms.length (p).tk, .slice (p).ba (p).bers.length (p).bk, .slice (p).pa (p).prts.length (p).pk, .slice (p).aa (p).aprs.length (p).ak, .bool (p).wd, .slice (p).da (p).spds.length (p).dk, .int .i64 (p).sw, .int .i64 (p).rk, .string (p).ow, .bool (p).dm, .bool (p).pn, .bool (p).lc] 40)) := ⟨_, rfl⟩
  have hX : Box w.heap.size (prow p) W := by rw [hW]; exact (Box.new w (prow p) 40)
  have hbw : Below w.heap.size w W := by rw [hW]; (repeat' (first | with_reducible exact Below.refl _ _ | with_reducible assumption | with_reducible refine Below.drew ?_ | with_reducible refine below_drewN' ?_ _ | with_reducible refine Below.alloc ?_ ?_ _ | with_reducible refine Below.setCell ?_ ?_ _ | with_reducible refine below_step (by assumption) ?_ ?_ | omega | (simp; done) | (simp; omega)))
  have HB := Lib.hid hbw
  have HX := Lib.hid hX
  have HRp := Lib.hid (fun V (h : Box w.heap.size (prow p) V) => show V.rangeAt w.heap.size 0 [.string (p).nm, .int .i64 (p).n0, .int .i64 (p).n1, .int .i64 (p).n2, .int .i64 (p).n3, .int .i64 (p).n4, .slice (p).la (p).labs.length (p).lk, .slice (p).sa (p).sels.length (p).sk, .slice (p).ta (p).trms.length (p).tk, .slice (p).ba (p).bers.length (p).bk, .slice (p).pa (p).prts.length (p).pk, .slice (p).aa (p).aprs.length (p).ak, .bool (p).wd, .slice (p).da (p).spds.length (p).dk, .int .i64 (p).sw, .int .i64 (p).rk, .string (p).ow, .bool (p).dm, .bool (p).pn, .bool (p).lc] from h.range)
  obtain ⟨N, hN⟩ : ∃ N, bs.length = N := ⟨_, rfl⟩
  obtain ⟨n, hn⟩ : ∃ n, ms.length = n := ⟨_, rfl⟩
  rw [hn] at hfi
  rw [hn, hN] at haw ⊢
  show Calls Tryz.prog 103 #[.slice a n ka, .slice c N kc, .agg #[.string (p).nm, .int .i64 (p).n0, .int .i64 (p).n1, .int .i64 (p).n2, .int .i64 (p).n3, .int .i64 (p).n4, .slice (p).la (p).labs.length (p).lk, .slice (p).sa (p).sels.length (p).sk, .slice (p).ta (p).trms.length (p).tk, .slice (p).ba (p).bers.length (p).bk, .slice (p).pa (p).prts.length (p).pk, .slice (p).aa (p).aprs.length (p).ak, .bool (p).wd, .slice (p).da (p).spds.length (p).dk, .int .i64 (p).sw, .int .i64 (p).rk, .string (p).ow, .bool (p).dm, .bool (p).pn, .bool (p).lc], .string on] w _
  rcases find_cases ms on with ⟨h1, h2⟩ | ⟨i, m, h1, h2, h3, h4⟩
  · rw [h2] at hR
    subst hR
    rw [h1] at hfi
    have HFi := Lib.hid hfi
    clear hfi haw hX hbw hY hP hp hN hn h1 h2
    go_enter Tryz.func103, Tryz.ntmps103
    go_upto_region 1 with (fail)
    rw [← hW]
    clear hW
    go_wp2_with (go_at_call 66; (with_reducible refine (HFi.out _ HB.out).mono ?_); rintro e w1 ⟨rfl, hb⟩; have HB1 := Lib.hid (HB.out.trans (hb.mono HB.out.size)); clear hb)
    go_ret
    exact ⟨rfl, HB1.out⟩
  · rw [h4] at hR
    rw [h1] at hfi
    have hin : i < n := by rw [← hn]; exact (List.getElem?_eq_some_iff.1 h2).1
    have hmm := List.mem_of_getElem? h2
    have HSu := Lib.hid (show ∀ V, Below w.heap.size w V → Calls Tryz.prog 120 #[.agg #[.string (m).nm, .string (m).gp, .int .i64 (m).r0, .int .i64 (m).r1, .int .i64 (m).r2, .int .i64 (m).r3, .int .i64 (m).r4, .slice (m).la (m).labs.length (m).lk, .slice (m).ta (m).tnts.length (m).tk, .bool (m).rd], .slice c N kc, .agg #[.string (p).nm, .int .i64 (p).n0, .int .i64 (p).n1, .int .i64 (p).n2, .int .i64 (p).n3, .int .i64 (p).n4, .slice (p).la (p).labs.length (p).lk, .slice (p).sa (p).sels.length (p).sk, .slice (p).ta (p).trms.length (p).tk, .slice (p).ba (p).bers.length (p).bk, .slice (p).pa (p).prts.length (p).pk, .slice (p).aa (p).aprs.length (p).ak, .bool (p).wd, .slice (p).da (p).spds.length (p).dk, .int .i64 (p).sw, .int .i64 (p).rk, .string (p).ow, .bool (p).dm, .bool (p).pn, .bool (p).lc]] V fun e w' => e = .returned (.int .i64 (suitS m bs p)) ∧ Below V.heap.size V w' from fun V hV => by
      have hYV := hY.mono hV
      have h9 := ssuits_any m c kc bs p V (hYV.mi m hmm).here hYV.bl (fun b hb => (hYV.bi b hb).here) (hP.mono hV) (hY.lm m hmm) hp (by have := hY.bb; omega) (fun b hb => by have := lightP_lens (hY.lb b hb); omega)
      rw [hN] at h9
      exact h9)
    obtain ⟨s, hs⟩ : ∃ s, suitS m bs p = s := ⟨_, rfl⟩
    obtain ⟨aw, haw'⟩ : ∃ s, apartW ms bs p on = s := ⟨_, rfl⟩
    rw [hs] at HSu
    rw [haw'] at haw
    have hR : (if s = 0 then aw else s) = R := by rw [← hs, ← haw']; exact hR
    have HFi := Lib.hid hfi
    have HAw := Lib.hid (show ∀ V, Below w.heap.size w V → Calls Tryz.prog 121 #[.slice a n ka, .slice c N kc, .agg #[.string (p).nm, .int .i64 (p).n0, .int .i64 (p).n1, .int .i64 (p).n2, .int .i64 (p).n3, .int .i64 (p).n4, .slice (p).la (p).labs.length (p).lk, .slice (p).sa (p).sels.length (p).sk, .slice (p).ta (p).trms.length (p).tk, .slice (p).ba (p).bers.length (p).bk, .slice (p).pa (p).prts.length (p).pk, .slice (p).aa (p).aprs.length (p).ak, .bool (p).wd, .slice (p).da (p).spds.length (p).dk, .int .i64 (p).sw, .int .i64 (p).rk, .string (p).ow, .bool (p).dm, .bool (p).pn, .bool (p).lc], .string on] V fun e w' => e = .returned (.int .i64 aw) ∧ Below V.heap.size V w' from haw)
    obtain ⟨q, o, rfl, hq, hc⟩ := (hY.mono hbw).ml (by omega)
    have HQ := Lib.hid (show W.rangeAt q (o + i * 10) [.string (m).nm, .string (m).gp, .int .i64 (m).r0, .int .i64 (m).r1, .int .i64 (m).r2, .int .i64 (m).r3, .int .i64 (m).r4, .slice (m).la (m).labs.length (m).lk, .slice (m).ta (m).tnts.length (m).tk, .bool (m).rd] from fun j v hj => by
      have hj10 : j < 10 := (List.getElem?_eq_some_iff.1 hj).1
      rw [hc i m h2 j hj10]
      exact hj)
    clear hfi haw hX hbw hY hP hp hN hn h1 h2 h3 h4 hs haw' hc hmm
    by_cases h0 : s = 0
    · subst h0
      rw [if_pos rfl] at hR
      subst hR
      go_enter Tryz.func103, Tryz.ntmps103
      go_upto_region 1 with (fail)
      rw [← hW]
      clear hW
      go_upto_region 4 with (go_at_call 66; (with_reducible refine (HFi.out _ HB.out).mono ?_); rintro e w1 ⟨rfl, hb⟩; have HB1 := Lib.hid (HB.out.trans (hb.mono HB.out.size)); have HX1 := Lib.hid (HX.out.mono hb); have HQ1 := Lib.hid (rangeAt_mono HQ.out hq hb); have hq1 := Nat.lt_of_lt_of_le hq hb.size; clear hb)
      have hlx := HX1.out.lt
      have HP1 := Lib.hid (HRp.out _ HX1.out)
      have hcH := held_cell
      refine region_rel (by kernel_rfl) (by kernel_rfl) ?_
      repeat
        ((with_reducible refine relStep (fun K hK => ?_))
         (have HK := Lib.hid hK)
         clear hK
         (apply relInl
          · intro r n hf
            have Hf := Lib.hid hf
            clear hf
            (first
              | ((first | ((with_reducible refine at_rel (ty := 57) ?_); refine rel_load rfl q (o + i * 10) rfl [.string (m).nm, .string (m).gp, .int .i64 (m).r0, .int .i64 (m).r1, .int .i64 (m).r2, .int .i64 (m).r3, .int .i64 (m).r4, .slice (m).la (m).labs.length (m).lk, .slice (m).ta (m).tnts.length (m).tk, .bool (m).rd] _ Tryz.underlying57 rfl (by kernel_rfl) (rangeAt_mono HQ1.out hq1 n.below) rfl) | ((with_reducible refine at_rel (ty := 40) ?_); refine rel_load rfl w.heap.size 0 rfl [.string (p).nm, .int .i64 (p).n0, .int .i64 (p).n1, .int .i64 (p).n2, .int .i64 (p).n3, .int .i64 (p).n4, .slice (p).la (p).labs.length (p).lk, .slice (p).sa (p).sels.length (p).sk, .slice (p).ta (p).trms.length (p).tk, .slice (p).ba (p).bers.length (p).bk, .slice (p).pa (p).prts.length (p).pk, .slice (p).aa (p).aprs.length (p).ak, .bool (p).wd, .slice (p).da (p).spds.length (p).dk, .int .i64 (p).sw, .int .i64 (p).rk, .string (p).ow, .bool (p).dm, .bool (p).pn, .bool (p).lc] _ Tryz.underlying40 rfl (by kernel_rfl) (rangeAt_mono HP1.out hlx n.below) rfl)))
              | (unfold relAt
                 go_simp
                 (first | (refine relUpon_val ?_ (Below.refl _ _); exact rfl) | exact rfl | (refine relUpon_enter ?_; (go_at_call 120; (with_reducible refine (HSu.out _ (HB1.out.trans (n.below.mono HB1.out.size))).mono ?_); rintro e w9 ⟨rfl, hb⟩; exact ⟨⟨_, rfl, rfl⟩, hb⟩)))))
          (simp only [Act.put, List.setIfInBounds_toArray, List.set_cons_zero, List.set_cons_succ])
          (with_reducible refine HK.out _ _ ?_)
          clear HK K))
      refine relNil ?_
      intro r9 n9 hx9
      clear hcH
      (try simp only [List.nil_append, List.cons_append, List.mem_cons, List.not_mem_nil, or_false, forall_eq_or_imp, forall_eq, false_implies, implies_true] at hx9)
      obtain ⟨w9, hb9⟩ := n9
      (try dsimp only)
      obtain ⟨hc9, hf9⟩ := bcell hb9
      have hz9 := hb9.size
      (try simp at hz9)
      have HB9 := Lib.hid (HB1.out.trans (hb9.mono HB1.out.size))
      have HX9 := Lib.hid (HX1.out.mono hb9)
      clear hb9 hc9 hf9 hz9 HP1 hlx HQ1
      go_wp2_with (first
        | ((with_reducible refine at_load (ty := 40) ?_); refine load_cells rfl 40 (.tmp 6) rfl w.heap.size 0 rfl [.string (p).nm, .int .i64 (p).n0, .int .i64 (p).n1, .int .i64 (p).n2, .int .i64 (p).n3, .int .i64 (p).n4, .slice (p).la (p).labs.length (p).lk, .slice (p).sa (p).sels.length (p).sk, .slice (p).ta (p).trms.length (p).tk, .slice (p).ba (p).bers.length (p).bk, .slice (p).pa (p).prts.length (p).pk, .slice (p).aa (p).aprs.length (p).ak, .bool (p).wd, .slice (p).da (p).spds.length (p).dk, .int .i64 (p).sw, .int .i64 (p).rk, .string (p).ow, .bool (p).dm, .bool (p).pn, .bool (p).lc] _ Tryz.underlying40 rfl (by kernel_rfl) (HRp.out _ HX9.out) ?_)
        | (go_at_call 121; (with_reducible refine (HAw.out _ HB9.out).mono ?_); rintro e w2 ⟨rfl, hb⟩; have HB2 := Lib.hid (HB9.out.trans (hb.mono HB9.out.size)); clear hb))
      go_ret
      exact ⟨rfl, by first | exact HB2.out | exact HB9.out⟩
    · have q0 : (s == 0) = false := by simpa using h0
      rw [if_neg h0] at hR
      subst hR
      go_enter Tryz.func103, Tryz.ntmps103
      go_upto_region 1 with (fail)
      rw [← hW]
      clear hW
      go_upto_region 4 with (go_at_call 66; (with_reducible refine (HFi.out _ HB.out).mono ?_); rintro e w1 ⟨rfl, hb⟩; have HB1 := Lib.hid (HB.out.trans (hb.mono HB.out.size)); have HX1 := Lib.hid (HX.out.mono hb); have HQ1 := Lib.hid (rangeAt_mono HQ.out hq hb); have hq1 := Nat.lt_of_lt_of_le hq hb.size; clear hb)
      have hlx := HX1.out.lt
      have HP1 := Lib.hid (HRp.out _ HX1.out)
      have hcH := held_cell
      refine region_rel (by kernel_rfl) (by kernel_rfl) ?_
      repeat
        ((with_reducible refine relStep (fun K hK => ?_))
         (have HK := Lib.hid hK)
         clear hK
         (apply relInl
          · intro r n hf
            have Hf := Lib.hid hf
            clear hf
            (first
              | ((first | ((with_reducible refine at_rel (ty := 57) ?_); refine rel_load rfl q (o + i * 10) rfl [.string (m).nm, .string (m).gp, .int .i64 (m).r0, .int .i64 (m).r1, .int .i64 (m).r2, .int .i64 (m).r3, .int .i64 (m).r4, .slice (m).la (m).labs.length (m).lk, .slice (m).ta (m).tnts.length (m).tk, .bool (m).rd] _ Tryz.underlying57 rfl (by kernel_rfl) (rangeAt_mono HQ1.out hq1 n.below) rfl) | ((with_reducible refine at_rel (ty := 40) ?_); refine rel_load rfl w.heap.size 0 rfl [.string (p).nm, .int .i64 (p).n0, .int .i64 (p).n1, .int .i64 (p).n2, .int .i64 (p).n3, .int .i64 (p).n4, .slice (p).la (p).labs.length (p).lk, .slice (p).sa (p).sels.length (p).sk, .slice (p).ta (p).trms.length (p).tk, .slice (p).ba (p).bers.length (p).bk, .slice (p).pa (p).prts.length (p).pk, .slice (p).aa (p).aprs.length (p).ak, .bool (p).wd, .slice (p).da (p).spds.length (p).dk, .int .i64 (p).sw, .int .i64 (p).rk, .string (p).ow, .bool (p).dm, .bool (p).pn, .bool (p).lc] _ Tryz.underlying40 rfl (by kernel_rfl) (rangeAt_mono HP1.out hlx n.below) rfl)))
              | (unfold relAt
                 go_simp
                 (first | (refine relUpon_val ?_ (Below.refl _ _); exact rfl) | exact rfl | (refine relUpon_enter ?_; (go_at_call 120; (with_reducible refine (HSu.out _ (HB1.out.trans (n.below.mono HB1.out.size))).mono ?_); rintro e w9 ⟨rfl, hb⟩; exact ⟨⟨_, rfl, rfl⟩, hb⟩)))))
          (simp only [Act.put, List.setIfInBounds_toArray, List.set_cons_zero, List.set_cons_succ])
          (with_reducible refine HK.out _ _ ?_)
          clear HK K))
      refine relNil ?_
      intro r9 n9 hx9
      clear hcH
      (try simp only [List.nil_append, List.cons_append, List.mem_cons, List.not_mem_nil, or_false, forall_eq_or_imp, forall_eq, false_implies, implies_true] at hx9)
      obtain ⟨w9, hb9⟩ := n9
      (try dsimp only)
      obtain ⟨hc9, hf9⟩ := bcell hb9
      have hz9 := hb9.size
      (try simp at hz9)
      have HB9 := Lib.hid (HB1.out.trans (hb9.mono HB1.out.size))
      have HX9 := Lib.hid (HX1.out.mono hb9)
      clear hb9 hc9 hf9 hz9 HP1 hlx HQ1
      go_wp2_with (first
        | ((with_reducible refine at_load (ty := 40) ?_); refine load_cells rfl 40 (.tmp 6) rfl w.heap.size 0 rfl [.string (p).nm, .int .i64 (p).n0, .int .i64 (p).n1, .int .i64 (p).n2, .int .i64 (p).n3, .int .i64 (p).n4, .slice (p).la (p).labs.length (p).lk, .slice (p).sa (p).sels.length (p).sk, .slice (p).ta (p).trms.length (p).tk, .slice (p).ba (p).bers.length (p).bk, .slice (p).pa (p).prts.length (p).pk, .slice (p).aa (p).aprs.length (p).ak, .bool (p).wd, .slice (p).da (p).spds.length (p).dk, .int .i64 (p).sw, .int .i64 (p).rk, .string (p).ow, .bool (p).dm, .bool (p).pn, .bool (p).lc] _ Tryz.underlying40 rfl (by kernel_rfl) (HRp.out _ HX9.out) ?_)
        | (go_at_call 121; (with_reducible refine (HAw.out _ HB9.out).mono ?_); rintro e w2 ⟨rfl, hb⟩; have HB2 := Lib.hid (HB9.out.trans (hb.mono HB9.out.size)); clear hb))
      go_ret
      exact ⟨rfl, by first | exact HB2.out | exact HB9.out⟩
set_option maxRecDepth 100000 in
set_option maxHeartbeats 4000000 in
theorem qwhy_any (a c : Option Addr) (ka kc : Nat) (ms : List Mac) (bs : List Bd) (p : Pd) (on : ByteArray) (w : World) (hY : YA w a ms c bs) (hP : PodAt w p) (hp : lightP p = true) (n N : Nat) (hn : ms.length = n) (hN : bs.length = N) :
    Calls Tryz.prog 74 #[.agg #[.slice a n ka, .slice c N kc, .string (p).nm, .int .i64 (p).n0, .int .i64 (p).n1, .int .i64 (p).n2, .int .i64 (p).n3, .int .i64 (p).n4, .slice (p).la (p).labs.length (p).lk, .slice (p).sa (p).sels.length (p).sk, .slice (p).ta (p).trms.length (p).tk, .slice (p).ba (p).bers.length (p).bk, .slice (p).pa (p).prts.length (p).pk, .slice (p).aa (p).aprs.length (p).ak, .bool (p).wd, .slice (p).da (p).spds.length (p).dk, .int .i64 (p).sw, .int .i64 (p).rk, .string (p).ow, .bool (p).dm, .bool (p).pn, .bool (p).lc], .string on] w fun e w' => e = .returned (.int .i64 (whyF ms bs p on)) ∧ Below w.heap.size w w' := by
  have hwh := fun V (hV : Below w.heap.size w V) => fwhy_any a c ka kc ms bs p on V (hY.mono hV) (hP.mono hV) hp
  obtain ⟨R, hR⟩ : ∃ R, whyF ms bs p on = R := ⟨_, rfl⟩
  rw [hn, hN] at hwh
  rw [hR] at hwh ⊢
  have HWh := Lib.hid (show ∀ V, Below w.heap.size w V → Calls Tryz.prog 103 #[.slice a n ka, .slice c N kc, .agg #[.string (p).nm, .int .i64 (p).n0, .int .i64 (p).n1, .int .i64 (p).n2, .int .i64 (p).n3, .int .i64 (p).n4, .slice (p).la (p).labs.length (p).lk, .slice (p).sa (p).sels.length (p).sk, .slice (p).ta (p).trms.length (p).tk, .slice (p).ba (p).bers.length (p).bk, .slice (p).pa (p).prts.length (p).pk, .slice (p).aa (p).aprs.length (p).ak, .bool (p).wd, .slice (p).da (p).spds.length (p).dk, .int .i64 (p).sw, .int .i64 (p).rk, .string (p).ow, .bool (p).dm, .bool (p).pn, .bool (p).lc], .string on] V fun e w' => e = .returned (.int .i64 R) ∧ Below V.heap.size V w' from hwh)
  obtain ⟨W, hW⟩ : ∃ W, W = (w.alloc (.cells #[.slice a n ka, .slice c N kc, .string (p).nm, .int .i64 (p).n0, .int .i64 (p).n1, .int .i64 (p).n2, .int .i64 (p).n3, .int .i64 (p).n4, .slice (p).la (p).labs.length (p).lk, .slice (p).sa (p).sels.length (p).sk, .slice (p).ta (p).trms.length (p).tk, .slice (p).ba (p).bers.length (p).bk, .slice (p).pa (p).prts.length (p).pk, .slice (p).aa (p).aprs.length (p).ak, .bool (p).wd, .slice (p).da (p).spds.length (p).dk, .int .i64 (p).sw, .int .i64 (p).rk, .string (p).ow, .bool (p).dm, .bool (p).pn, .bool (p).lc] 108)) := ⟨_, rfl⟩
  have hX : Box w.heap.size [.slice a n ka, .slice c N kc, .string (p).nm, .int .i64 (p).n0, .int .i64 (p).n1, .int .i64 (p).n2, .int .i64 (p).n3, .int .i64 (p).n4, .slice (p).la (p).labs.length (p).lk, .slice (p).sa (p).sels.length (p).sk, .slice (p).ta (p).trms.length (p).tk, .slice (p).ba (p).bers.length (p).bk, .slice (p).pa (p).prts.length (p).pk, .slice (p).aa (p).aprs.length (p).ak, .bool (p).wd, .slice (p).da (p).spds.length (p).dk, .int .i64 (p).sw, .int .i64 (p).rk, .string (p).ow, .bool (p).dm, .bool (p).pn, .bool (p).lc] W := by rw [hW]; exact (Box.new w [.slice a n ka, .slice c N kc, .string (p).nm, .int .i64 (p).n0, .int .i64 (p).n1, .int .i64 (p).n2, .int .i64 (p).n3, .int .i64 (p).n4, .slice (p).la (p).labs.length (p).lk, .slice (p).sa (p).sels.length (p).sk, .slice (p).ta (p).trms.length (p).tk, .slice (p).ba (p).bers.length (p).bk, .slice (p).pa (p).prts.length (p).pk, .slice (p).aa (p).aprs.length (p).ak, .bool (p).wd, .slice (p).da (p).spds.length (p).dk, .int .i64 (p).sw, .int .i64 (p).rk, .string (p).ow, .bool (p).dm, .bool (p).pn, .bool (p).lc] 108)
  have hbw : Below w.heap.size w W := by rw [hW]; (repeat' (first | with_reducible exact Below.refl _ _ | with_reducible assumption | with_reducible refine Below.drew ?_ | with_reducible refine below_drewN' ?_ _ | with_reducible refine Below.alloc ?_ ?_ _ | with_reducible refine Below.setCell ?_ ?_ _ | with_reducible refine below_step (by assumption) ?_ ?_ | omega | (simp; done) | (simp; omega)))
  have HB := Lib.hid hbw
  have c0 : W.cell? ⟨w.heap.size, 0, none⟩ = some (.slice a n ka) := hX.cell 0
  have c1 : W.cell? ⟨w.heap.size, 1, none⟩ = some (.slice c N kc) := hX.cell 1
  have HRp := Lib.hid (show W.rangeAt w.heap.size 2 [.string (p).nm, .int .i64 (p).n0, .int .i64 (p).n1, .int .i64 (p).n2, .int .i64 (p).n3, .int .i64 (p).n4, .slice (p).la (p).labs.length (p).lk, .slice (p).sa (p).sels.length (p).sk, .slice (p).ta (p).trms.length (p).tk, .slice (p).ba (p).bers.length (p).bk, .slice (p).pa (p).prts.length (p).pk, .slice (p).aa (p).aprs.length (p).ak, .bool (p).wd, .slice (p).da (p).spds.length (p).dk, .int .i64 (p).sw, .int .i64 (p).rk, .string (p).ow, .bool (p).dm, .bool (p).pn, .bool (p).lc] from fun j v hj => by
    rw [hX.cell (2 + j), Nat.add_comm 2 j]
    exact hj)
  have hlx := hX.lt
  clear hwh hR hX hbw hY hP hp hn hN
  go_enter Tryz.func74, Tryz.ntmps74
  go_upto_region 1 with (fail)
  rw [← hW]
  clear hW
  go_wp2_with (first
    | ((with_reducible refine at_load (ty := 40) ?_); refine load_cells rfl 40 (.tmp 9) rfl w.heap.size 2 rfl [.string (p).nm, .int .i64 (p).n0, .int .i64 (p).n1, .int .i64 (p).n2, .int .i64 (p).n3, .int .i64 (p).n4, .slice (p).la (p).labs.length (p).lk, .slice (p).sa (p).sels.length (p).sk, .slice (p).ta (p).trms.length (p).tk, .slice (p).ba (p).bers.length (p).bk, .slice (p).pa (p).prts.length (p).pk, .slice (p).aa (p).aprs.length (p).ak, .bool (p).wd, .slice (p).da (p).spds.length (p).dk, .int .i64 (p).sw, .int .i64 (p).rk, .string (p).ow, .bool (p).dm, .bool (p).pn, .bool (p).lc] _ Tryz.underlying40 rfl (by kernel_rfl) HRp.out ?_)
    | (go_at_call 103; (with_reducible refine (HWh.out _ HB.out).mono ?_); rintro e w2 ⟨rfl, hb⟩; have HB2 := Lib.hid (HB.out.trans (hb.mono HB.out.size)); clear hb))
  go_ret
  exact ⟨rfl, HB2.out⟩
def GivesI (w : World) (L : List Int) (e : Ending) (w' : World) : Prop := (∃ v, e = .returned v ∧ w'.ownsRow w.heap.size 3 1 v L.length (L.flatMap pcs)) ∧ Below w.heap.size w w'
set_option maxRecDepth 100000 in
set_option maxHeartbeats 4000000 in
theorem reasons_any (a : Option Addr) (ka : Nat) (ms : List Mac) (fn : Nat) (caps : Array Value) (f : ByteArray → Int) (w : World) (hF : MacL w a ms) (hl : ms.length ≤ 1000)
    (hent : ∀ (args : Array Value) (V : World), (callFunc fn args).run Tryz.prog V = .ok (.enter fn args) V)
    (hstep : ∀ m ∈ ms, ∀ V, Below w.heap.size w V → Calls Tryz.prog fn (caps.push (.string m.nm)) V fun e w' => e = .returned (.int .i64 (f m.nm)) ∧ Below V.heap.size V w') :
    Calls Tryz.prog 73 #[.slice a ms.length ka, .func (.func fn) caps #[]] w (GivesI w (ms.map fun m => f m.nm)) := by
  obtain ⟨n, hn⟩ : ∃ n, ms.length = n := ⟨_, rfl⟩
  have HN := Lib.hid hn
  have HF := Lib.hid hF
  have HS := Lib.hid hstep
  rw [hn] at hl ⊢
  clear hn hF hstep
  obtain ⟨i0, hi, hz0, hz1, hz2⟩ := info_parts Tryz.info3
  have Hi := Lib.hid hi
  have Hz0 := Lib.hid hz0
  have Hz1 := Lib.hid hz1
  have Hz2 := Lib.hid hz2
  clear hi hz0 hz1 hz2
  go_enter Tryz.func73, Tryz.ntmps73
  go_wp2
  go_loopw [5, 9] (fun vo vi wr => ∃ (k : Nat) (Q : List Int), k ≤ n ∧ vi = .int .i64 k ∧ Q = (ms.take k).map (fun m => f m.nm) ∧ Q.length ≤ k ∧ wr.ownsRow w.heap.size 3 1 vo Q.length (Q.flatMap pcs) ∧ Below w.heap.size w wr) (fun _ vi _ => n - (intOf vi).toNat)
  case atStart => exact ⟨0, [], Nat.zero_le _, rfl, rfl, Nat.le_refl _, World.ownsRow_nil _ _ _ _, by (repeat' (first | with_reducible exact Below.refl _ _ | with_reducible assumption | with_reducible refine Below.drew ?_ | with_reducible refine below_drewN' ?_ _ | with_reducible refine Below.alloc ?_ ?_ _ | with_reducible refine Below.setCell ?_ ?_ _ | with_reducible refine below_step (by assumption) ?_ ?_ | omega | (simp; done) | (simp; omega)))⟩
  case round =>
    obtain ⟨k, Q, hk, rfl, hE, hLk, hO, hB⟩ := hrel
    have HE := Lib.hid hE
    have HB := Lib.hid hB
    have HO := Lib.hid hO
    have hbz := hB.size
    obtain ⟨ao, ko, rfl⟩ := own_sl hO
    by_cases hlt : k < n
    · obtain ⟨m, hm⟩ := mem_at (l := ms) (k := k) (by rw [HN.out]; exact hlt)
      obtain ⟨b, o, rfl, hb, hc⟩ := (HF.out.mono hB) (by rw [HN.out]; omega)
      have c0 : wr.cell? ⟨b, o + k * 10, none⟩ = some (.string m.nm) := hc k m hm 0 (by decide)
      have HNx := Lib.hid (show Q ++ [f m.nm] = (ms.take (k + 1)).map (fun m => f m.nm) by rw [List.take_add_one, hm, List.map_append, hE]; rfl)
      have HSm := Lib.hid (HS.out m (List.mem_of_getElem? hm))
      obtain ⟨r, hr⟩ : ∃ r, f m.nm = r := ⟨_, rfl⟩
      rw [hr] at HNx HSm
      clear hE hO hB hc hm hr
      go_wp2_with (first
        | ((with_reducible refine (HSm.out _ HB.out).mono ?_); rintro e w3 ⟨rfl, hb3⟩; have HB3 := Lib.hid (HB.out.trans (hb3.mono hbz)); have hbz3 := Nat.le_trans hbz hb3.size; have HO3 := Lib.hid (own_kept HO.out hb3); clear hb3)
        | (at_builtin; refine wpList_append_src rfl (.tmp 12) (.tmp 20) 30 rfl w.heap.size 3 i0 _ 1 8 Tryz.underlying30 Hi.out Hz0.out Hz1.out Hz2.out rfl (by decide) _ Q.length (Q.flatMap pcs) rfl (HO3.out.alloc _) (some ⟨w3.heap.size, 0, none⟩) 1 1 (pcs r) rfl rfl (fun q e => by injection e with e; rw [← e]; exact news_at _ _ _) (fun e => by cases e) (pcs_one _) (by unfold maxLen; omega) (by omega) (by simp; omega) ?_; intro v6 w6 hown6 hgrow6; obtain ⟨a6, k6, rfl⟩ := own_sl hown6; have HB6 := Lib.hid (own_below (HO3.out.alloc _) (HB3.out.alloc hbz3 _) (by simp; omega) hgrow6); have HO6 := Lib.hid hown6; clear hown6 hgrow6))
      go_roundw
      case rel =>
        refine ⟨k + 1, Q ++ [r], by omega, by go_num, HNx.out, by rw [List.length_append]; show Q.length + 1 ≤ _; omega, ?_, HB6.out⟩
        rw [List.length_append, List.flatMap_append]
        have h9 := HO6.out
        simpa using h9
      case measure => simp [intOf]; omega
    · obtain rfl : k = n := by omega
      have HL := Lib.hid (show Q = ms.map fun m => f m.nm by rw [hE, List.take_of_length_le (by rw [HN.out]; exact Nat.le_refl _)])
      clear hE hO hB
      go_wp2
      refine bodyPost_ret (v := .slice ao Q.length ko) (by simp [results, Tryz.results73, go_sem]) rfl ⟨⟨_, rfl, by rw [← HL.out]; exact HO.out⟩, HB.out⟩
end Go.Proofs.YtdfadbpepmkicaaGreat
