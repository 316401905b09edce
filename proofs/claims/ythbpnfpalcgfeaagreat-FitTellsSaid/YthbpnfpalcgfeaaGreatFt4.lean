/-
  Apart: Counts, the walk.
-/
import Derived.Test.YthbpnfpalcgfeaaGreatFt3
namespace Go.Proofs.YthbpnfpalcgfeaaGreat
open Go.RowKit
set_option linter.unusedVariables false
set_option linter.unusedSimpArgs false

set_option maxRecDepth 100000 in
set_option maxHeartbeats 8000000 in
theorem counts_any (a c : Option Addr) (ka kc : Nat) (ms : List Mac) (bs : List Bd) (p : Pd) (w : World) (hY : YA w a ms c bs) (hP : PodAt w p) (hp : lightP p = true) :
    Calls Tryz.prog 72 #[.slice a ms.length ka, .slice c bs.length kc, .agg (prow p).toArray] w (GivesC w (zonesY ms) (numsC ms bs p)) := by
  have hzo := fun V (hV : Below w.heap.size w V) => zones_any a ka ms V (hY.ml.mono hV) (fun m hm => (hY.mi m hm).mono hV) (fun m hm => (hY.mi m hm).here.ll) (by have := hY.mm; omega)
  have hHas := fun (b : Bd) (hb : b ∈ bs) V (hV : Below w.heap.size w V) => Lb.has_any b.p.la p.da b.p.lk p.dk b.p.labs p.spds V ((hY.bi b hb).mono hV).here.labs ((hP.mono hV).spds) (by have := lightP_lens (hY.lb b hb); omega) (by have := lightP_lens hp; omega)
  have hGet := fun (m : Mac) (hm : m ∈ ms) V (hV : Below w.heap.size w V) => Lb.get_any m.la m.lk m.labs zoneT V ((hY.mi m hm).mono hV).here.labs (hY.mi m hm).here.ll
  unfold zoneT at hGet
  obtain ⟨W, hW⟩ : ∃ W, W = (w.alloc (.cells #[.string (p).nm, .int .i64 (p).n0, .int .i64 (p).n1, .int .i64 (p).n2, .int .i64 (p).n3, .int .i64 (p).n4, .slice (p).la (p).labs.length (p).lk, .slice (p).sa (p).sels.length (p).sk, .slice (p).ta (p).trms.length (p).tk, .slice (p).ba (p).bers.length (p).bk, .slice (p).pa (p).prts.length (p).pk, .slice (p).aa (p).aprs.length (p).ak, .bool (p).wd, .slice (p).da (p).spds.length (p).dk, .int .i64 (p).sw, .int .i64 (p).rk, .string (p).ow, .bool (p).dm, .bool (p).pn, .bool (p).lc] 31)).alloc (.map #[] 0) := ⟨_, rfl⟩
  have hX : Box w.heap.size (prow p) W := by rw [hW]; exact (Box.new w (prow p) 31).mono ((Below.refl _ _).alloc (Nat.le_refl _) _)
  have hbw : Below w.heap.size w W := by rw [hW]; (repeat' (first | with_reducible exact Below.refl _ _ | with_reducible assumption | with_reducible refine Below.drew ?_ | with_reducible refine below_drewN' ?_ _ | with_reducible refine Below.alloc ?_ ?_ _ | with_reducible refine Below.setCell ?_ ?_ _ | with_reducible refine below_step (by assumption) ?_ ?_ | omega | (simp; done) | (simp; omega)))
  have hsz : W.heap.size = w.heap.size + 2 := by rw [hW]; simp
  have hmp : MapIs Tryz.prog 9 W (w.heap.size + 1) 0 (onF (bs.take 0) p) := by
    rw [hW]
    have h9 := MapIs.made (w.alloc (.cells #[.string (p).nm, .int .i64 (p).n0, .int .i64 (p).n1, .int .i64 (p).n2, .int .i64 (p).n3, .int .i64 (p).n4, .slice (p).la (p).labs.length (p).lk, .slice (p).sa (p).sels.length (p).sk, .slice (p).ta (p).trms.length (p).tk, .slice (p).ba (p).bers.length (p).bk, .slice (p).pa (p).prts.length (p).pk, .slice (p).aa (p).aprs.length (p).ak, .bool (p).wd, .slice (p).da (p).spds.length (p).dk, .int .i64 (p).sw, .int .i64 (p).rk, .string (p).ow, .bool (p).dm, .bool (p).pn, .bool (p).lc] 31)) Tryz.prog 9
    rw [World.size_alloc] at h9
    exact h9.eq fun s => rfl
  have HBW := Lib.hid hbw
  have HX := Lib.hid hX
  have HMW := Lib.hid hmp
  have HYA := Lib.hid hY
  have HPA := Lib.hid hP
  obtain ⟨N, hN⟩ : ∃ N, bs.length = N := ⟨_, rfl⟩
  obtain ⟨n, hn⟩ : ∃ n, ms.length = n := ⟨_, rfl⟩
  have hNb := hY.bb
  have hnb := hY.mm
  have HN := Lib.hid hN
  have Hn := Lib.hid hn
  have HZo := Lib.hid hzo
  have HHas := Lib.hid hHas
  have HGet := Lib.hid hGet
  rw [hN] at hNb
  rw [hn] at HZo hnb
  rw [hn, hN]
  obtain ⟨m1, hm1⟩ : ∃ m1, w.heap.size + 1 = m1 := ⟨_, rfl⟩
  rw [hm1] at HMW
  have hm1b : w.heap.size ≤ m1 ∧ m1 < W.heap.size ∧ w.heap.size ≠ m1 := by omega
  obtain ⟨i0, hi, hz0, hz1, hz2⟩ := info_parts Tryz.info3
  have Hi := Lib.hid hi
  have Hz0 := Lib.hid hz0
  have Hz1 := Lib.hid hz1
  have Hz2 := Lib.hid hz2
  clear hi hz0 hz1 hz2
  show Calls Tryz.prog 72 #[.slice a n ka, .slice c N kc, .agg #[.string (p).nm, .int .i64 (p).n0, .int .i64 (p).n1, .int .i64 (p).n2, .int .i64 (p).n3, .int .i64 (p).n4, .slice (p).la (p).labs.length (p).lk, .slice (p).sa (p).sels.length (p).sk, .slice (p).ta (p).trms.length (p).tk, .slice (p).ba (p).bers.length (p).bk, .slice (p).pa (p).prts.length (p).pk, .slice (p).aa (p).aprs.length (p).ak, .bool (p).wd, .slice (p).da (p).spds.length (p).dk, .int .i64 (p).sw, .int .i64 (p).rk, .string (p).ow, .bool (p).dm, .bool (p).pn, .bool (p).lc]] w _
  clear hzo hHas hGet hX hbw hmp hY hP hp hN hn hsz
  have hmk := @run_makeMap Tryz.prog
  go_enter Tryz.func72, Tryz.ntmps72
  go_upto_region 2 with (fail)
  rw [← hW]
  clear hW hm1
  go_wp2
  go_loopw [21] (fun vi wr => ∃ k : Nat, k ≤ N ∧ vi = .int .i64 k ∧ MapIs Tryz.prog 9 wr m1 k (onF (bs.take k) p) ∧ Only [m1] W wr) (fun vi _ => N - (intOf vi).toNat)
  case atStart => exact ⟨0, Nat.zero_le _, rfl, HMW.out, Only.refl _ _⟩
  case round =>
    obtain ⟨k, hk, rfl, hM, hO⟩ := hrel
    have HM := Lib.hid hM
    have HO := Lib.hid hO
    have hB := hO.below1 HBW.out (by have := hm1b; omega) hm1b.1
    have HB := Lib.hid hB
    by_cases hlt : k < N
    · obtain ⟨b, hbk⟩ := mem_at (l := bs) (k := k) (by rw [HN.out]; exact hlt)
      have hbm := List.mem_of_getElem? hbk
      obtain ⟨q, o, rfl, hq, hc⟩ := (HYA.out.bl.mono hB) (by rw [HN.out]; omega)
      have c0 : wr.cell? ⟨q, o + k * 21, none⟩ = some (.string b.p.nm) := hc k b hbk 0 (by decide)
      have c6 : wr.cell? ⟨q, o + k * 21 + 6, none⟩ = some (.slice b.p.la b.p.labs.length b.p.lk) := hc k b hbk 6 (by decide)
      have c20 : wr.cell? ⟨q, o + k * 21 + 20, none⟩ = some (.string b.on) := hc k b hbk 20 (by decide)
      have hXr : Box w.heap.size (prow p) wr := HX.out.only hO (by have := hm1b; simp; omega)
      have hlp := hXr.lt
      have HRp := Lib.hid (show wr.rangeAt w.heap.size 0 [.string (p).nm, .int .i64 (p).n0, .int .i64 (p).n1, .int .i64 (p).n2, .int .i64 (p).n3, .int .i64 (p).n4, .slice (p).la (p).labs.length (p).lk, .slice (p).sa (p).sels.length (p).sk, .slice (p).ta (p).trms.length (p).tk, .slice (p).ba (p).bers.length (p).bk, .slice (p).pa (p).prts.length (p).pk, .slice (p).aa (p).aprs.length (p).ak, .bool (p).wd, .slice (p).da (p).spds.length (p).dk, .int .i64 (p).sw, .int .i64 (p).rk, .string (p).ow, .bool (p).dm, .bool (p).pn, .bool (p).lc] from hXr.range)
      have d13 : wr.cell? ⟨w.heap.size, 13, none⟩ = some (.slice p.da p.spds.length p.dk) := hXr.cell 13
      obtain ⟨mt, hmt⟩ : ∃ x, matB b p = x := ⟨_, rfl⟩
      obtain ⟨h, hh⟩ : ∃ x, Lb.hasP b.p.labs p.spds = x := ⟨_, rfl⟩
      have hop : onP p b = (mt && h) := by unfold onP; rw [hmt, hh]
      have HMt := Lib.hid (show ∀ V, Below wr.heap.size wr V → Calls Tryz.prog 70 #[.pointer (some ⟨q, o + k * 21, none⟩), .agg #[.string (p).nm, .int .i64 (p).n0, .int .i64 (p).n1, .int .i64 (p).n2, .int .i64 (p).n3, .int .i64 (p).n4, .slice (p).la (p).labs.length (p).lk, .slice (p).sa (p).sels.length (p).sk, .slice (p).ta (p).trms.length (p).tk, .slice (p).ba (p).bers.length (p).bk, .slice (p).pa (p).prts.length (p).pk, .slice (p).aa (p).aprs.length (p).ak, .bool (p).wd, .slice (p).da (p).spds.length (p).dk, .int .i64 (p).sw, .int .i64 (p).rk, .string (p).ow, .bool (p).dm, .bool (p).pn, .bool (p).lc]] V fun e w' => e = .returned (.bool mt) ∧ Below V.heap.size V w' from fun V hV => by
        have h9 := matters_any q (o + k * 21) b p V ((hV.cell (p := ⟨q, o + k * 21, none⟩) hq).trans c0) ((hV.cell (p := ⟨q, o + k * 21 + 20, none⟩) hq).trans c20) (Nat.lt_of_lt_of_le hq hV.size)
        rw [hmt] at h9
        exact h9)
      have HHs := Lib.hid (show ∀ V, Below wr.heap.size wr V → Calls Tryz.prog 63 #[.slice b.p.la b.p.labs.length b.p.lk, .slice p.da p.spds.length p.dk] V fun e w' => e = .returned (.bool h) ∧ Below V.heap.size V w' from fun V hV => by
        have h9 := HHas.out b hbm V (HB.out.trans (hV.mono HB.out.size))
        rw [hh] at h9
        exact h9)
      have Hbk := Lib.hid hbk
      have Hop := Lib.hid hop
      have hlo := HYA.out.lo b hbm
      clear hmt hh hop hc hbk hbm c0 hXr hM hO hB
      cases mt with
      | false =>
        have HNx := Lib.hid (show ∀ s, onF (bs.take k) p s = onF (bs.take (k + 1)) p s from on_no Hbk.out (by rw [Hop.out]; rfl))
        go_upto_region 5 with (fail)
        have hcH := held_cell
        refine region_rel (by kernel_rfl) (by kernel_rfl) ?_
        repeat
          ((with_reducible refine relStep (fun K hK => ?_))
           (have HK := Lib.hid hK)
           clear hK
           (apply relInl
            · intro r n hf
              have Hf := Lib.hid hf
              clear hf
              (first
                | (((with_reducible refine at_rel (ty := 31) ?_); refine rel_load rfl w.heap.size 0 rfl [.string (p).nm, .int .i64 (p).n0, .int .i64 (p).n1, .int .i64 (p).n2, .int .i64 (p).n3, .int .i64 (p).n4, .slice (p).la (p).labs.length (p).lk, .slice (p).sa (p).sels.length (p).sk, .slice (p).ta (p).trms.length (p).tk, .slice (p).ba (p).bers.length (p).bk, .slice (p).pa (p).prts.length (p).pk, .slice (p).aa (p).aprs.length (p).ak, .bool (p).wd, .slice (p).da (p).spds.length (p).dk, .int .i64 (p).sw, .int .i64 (p).rk, .string (p).ow, .bool (p).dm, .bool (p).pn, .bool (p).lc] _ Tryz.underlying31 rfl (by kernel_rfl) (rangeAt_mono HRp.out hlp n.below) rfl))
                | (unfold relAt
                   go_simp
                   (first | (refine relUpon_val ?_ (Below.refl _ _); exact rfl) | exact rfl | (refine relUpon_enter ?_; (first | (go_at_call 70; (with_reducible refine (HMt.out _ n.below).mono ?_); rintro e w9 ⟨rfl, hb⟩; exact ⟨⟨_, rfl, rfl⟩, hb⟩) | (go_at_call 63; (with_reducible refine (HHs.out _ n.below).mono ?_); rintro e w9 ⟨rfl, hb⟩; exact ⟨⟨_, rfl, rfl⟩, hb⟩))))))
            (simp only [Act.put, List.setIfInBounds_toArray, List.set_cons_zero, List.set_cons_succ])
            (with_reducible refine HK.out _ _ ?_)
            clear HK K))
        refine relNil ?_
        intro r9 n9 hx9
        clear hcH
        (try simp only [List.nil_append, List.cons_append, List.mem_cons, List.not_mem_nil, or_false, forall_eq_or_imp, forall_eq, false_implies, implies_true] at hx9)
        obtain ⟨w9, hb9⟩ := n9
        (try dsimp only)
        obtain ⟨hc9, hf9⟩ := bcell hb9
        have hz9 := hb9.size
        (try simp at hz9)
        go_wp2
        go_roundw
        case rel => exact ⟨k + 1, by omega, by go_num, ((HM.out.below hb9).mono (Nat.le_succ _)).eq HNx.out, HO.out.step1 hb9⟩
        case measure => simp [intOf]; omega
      | true =>
        cases h with
        | false =>
          have HNx := Lib.hid (show ∀ s, onF (bs.take k) p s = onF (bs.take (k + 1)) p s from on_no Hbk.out (by rw [Hop.out]; rfl))
          go_upto_region 5 with (fail)
          have hcH := held_cell
          refine region_rel (by kernel_rfl) (by kernel_rfl) ?_
          repeat
            ((with_reducible refine relStep (fun K hK => ?_))
             (have HK := Lib.hid hK)
             clear hK
             (apply relInl
              · intro r n hf
                have Hf := Lib.hid hf
                clear hf
                (first
                  | (((with_reducible refine at_rel (ty := 31) ?_); refine rel_load rfl w.heap.size 0 rfl [.string (p).nm, .int .i64 (p).n0, .int .i64 (p).n1, .int .i64 (p).n2, .int .i64 (p).n3, .int .i64 (p).n4, .slice (p).la (p).labs.length (p).lk, .slice (p).sa (p).sels.length (p).sk, .slice (p).ta (p).trms.length (p).tk, .slice (p).ba (p).bers.length (p).bk, .slice (p).pa (p).prts.length (p).pk, .slice (p).aa (p).aprs.length (p).ak, .bool (p).wd, .slice (p).da (p).spds.length (p).dk, .int .i64 (p).sw, .int .i64 (p).rk, .string (p).ow, .bool (p).dm, .bool (p).pn, .bool (p).lc] _ Tryz.underlying31 rfl (by kernel_rfl) (rangeAt_mono HRp.out hlp n.below) rfl))
                  | (unfold relAt
                     go_simp
                     (first | (refine relUpon_val ?_ (Below.refl _ _); exact rfl) | exact rfl | (refine relUpon_enter ?_; (first | (go_at_call 70; (with_reducible refine (HMt.out _ n.below).mono ?_); rintro e w9 ⟨rfl, hb⟩; exact ⟨⟨_, rfl, rfl⟩, hb⟩) | (go_at_call 63; (with_reducible refine (HHs.out _ n.below).mono ?_); rintro e w9 ⟨rfl, hb⟩; exact ⟨⟨_, rfl, rfl⟩, hb⟩))))))
              (simp only [Act.put, List.setIfInBounds_toArray, List.set_cons_zero, List.set_cons_succ])
              (with_reducible refine HK.out _ _ ?_)
              clear HK K))
          refine relNil ?_
          intro r9 n9 hx9
          clear hcH
          (try simp only [List.nil_append, List.cons_append, List.mem_cons, List.not_mem_nil, or_false, forall_eq_or_imp, forall_eq, false_implies, implies_true] at hx9)
          obtain ⟨w9, hb9⟩ := n9
          (try dsimp only)
          obtain ⟨hc9, hf9⟩ := bcell hb9
          have hz9 := hb9.size
          (try simp at hz9)
          go_wp2
          go_roundw
          case rel => exact ⟨k + 1, by omega, by go_num, ((HM.out.below hb9).mono (Nat.le_succ _)).eq HNx.out, HO.out.step1 hb9⟩
          case measure => simp [intOf]; omega
        | true =>
          have HNx := Lib.hid (fun s => on_yes (p := p) Hbk.out (by rw [Hop.out]; rfl) s)
          have Hgt := Lib.hid (on_get (bs.take k) p b.on)
          have hcl := onCnt_len (bs.take k) p b.on
          have hcl2 := List.length_take_le k bs
          obtain ⟨cn, hcn⟩ : ∃ x, onCnt (bs.take k) p b.on = x := ⟨_, rfl⟩
          rw [hcn] at HNx Hgt hcl
          have hw9 : IntKind.i64.wrap ((cn : Int) + 1) = (cn : Int) + 1 := wrap_in (by omega) (by omega)
          clear hcn
          go_upto_region 5 with (fail)
          have hcH := held_cell
          refine region_rel (by kernel_rfl) (by kernel_rfl) ?_
          repeat
            ((with_reducible refine relStep (fun K hK => ?_))
             (have HK := Lib.hid hK)
             clear hK
             (apply relInl
              · intro r n hf
                have Hf := Lib.hid hf
                clear hf
                (first
                  | (((with_reducible refine at_rel (ty := 31) ?_); refine rel_load rfl w.heap.size 0 rfl [.string (p).nm, .int .i64 (p).n0, .int .i64 (p).n1, .int .i64 (p).n2, .int .i64 (p).n3, .int .i64 (p).n4, .slice (p).la (p).labs.length (p).lk, .slice (p).sa (p).sels.length (p).sk, .slice (p).ta (p).trms.length (p).tk, .slice (p).ba (p).bers.length (p).bk, .slice (p).pa (p).prts.length (p).pk, .slice (p).aa (p).aprs.length (p).ak, .bool (p).wd, .slice (p).da (p).spds.length (p).dk, .int .i64 (p).sw, .int .i64 (p).rk, .string (p).ow, .bool (p).dm, .bool (p).pn, .bool (p).lc] _ Tryz.underlying31 rfl (by kernel_rfl) (rangeAt_mono HRp.out hlp n.below) rfl))
                  | (unfold relAt
                     go_simp
                     (first | (refine relUpon_val ?_ (Below.refl _ _); exact rfl) | exact rfl | (refine relUpon_enter ?_; (first | (go_at_call 70; (with_reducible refine (HMt.out _ n.below).mono ?_); rintro e w9 ⟨rfl, hb⟩; exact ⟨⟨_, rfl, rfl⟩, hb⟩) | (go_at_call 63; (with_reducible refine (HHs.out _ n.below).mono ?_); rintro e w9 ⟨rfl, hb⟩; exact ⟨⟨_, rfl, rfl⟩, hb⟩))))))
              (simp only [Act.put, List.setIfInBounds_toArray, List.set_cons_zero, List.set_cons_succ])
              (with_reducible refine HK.out _ _ ?_)
              clear HK K))
          refine relNil ?_
          intro r9 n9 hx9
          clear hcH
          (try simp only [List.nil_append, List.cons_append, List.mem_cons, List.not_mem_nil, or_false, forall_eq_or_imp, forall_eq, false_implies, implies_true] at hx9)
          obtain ⟨w9, hb9⟩ := n9
          (try dsimp only)
          obtain ⟨hc9, hf9⟩ := bcell hb9
          have hz9 := hb9.size
          (try simp at hz9)
          have d20 : w9.cell? ⟨q, o + k * 21 + 20, none⟩ = some (.string b.on) := (hb9.cell (p := ⟨q, o + k * 21 + 20, none⟩) hq).trans c20
          have HM9 := Lib.hid (HM.out.below hb9)
          have HO9 := Lib.hid (HO.out.step1 hb9)
          clear c6 c20 d13 HMt HHs HRp hb9 hc9 hf9
          go_wp2_with (first
            | (at_lookup; refine at_look rfl _ _ 119 9 3 rfl ft_law_str Tryz.underlying119 Tryz.underlying9 _ (ft_zero_int _) HM9.out rfl _ rfl (by unfold maxLen; omega) ?_; rw [Hgt.out])
            | (at_mapUpdate; refine at_put rfl _ _ _ 119 9 3 rfl ft_law_str Tryz.underlying119 Tryz.underlying9 HM9.out (by unfold maxLen; omega) rfl _ rfl (by unfold maxLen; omega) (.int .i64 ((cn : Int) + 1)) (by rfl) ?_; intro w7 hm7 hg7; have HM7 := Lib.hid hm7; have HG7 := Lib.hid hg7; clear hm7 hg7))
          go_roundw
          case rel => exact ⟨k + 1, by omega, by go_num, HM7.out.eq HNx.out, HO9.out.grown1 HG7.out⟩
          case measure => simp [intOf]; omega
    · obtain rfl : k = N := by omega
      have hM1 : MapIs Tryz.prog 9 wr m1 k (onF bs p) := HM.out.eq fun s => by rw [List.take_of_length_le (Nat.le_of_eq HN.out)]
      have hm1r := hM1.lt
      obtain ⟨m2, hm2⟩ : ∃ m2, wr.heap.size = m2 := ⟨_, rfl⟩
      obtain ⟨V, hV⟩ : ∃ V, V = wr.alloc (.map #[] 0) := ⟨_, rfl⟩
      have HMV := Lib.hid (show MapIs Tryz.prog 9 V m1 k (onF bs p) by rw [hV]; exact hM1.below ((Below.refl _ _).alloc (Nat.le_refl _) _))
      have HZV := Lib.hid (show MapIs Tryz.prog 9 V m2 0 (zfF (ms.take 0) (onCnt bs p)) by rw [hV, ← hm2]; exact (MapIs.made wr Tryz.prog 9).eq fun s => rfl)
      have HBV := Lib.hid (show Below w.heap.size w V by rw [hV]; exact hB.alloc hB.size _)
      have hmm : w.heap.size ≤ m2 ∧ m2 < V.heap.size ∧ m1 < m2 := by rw [hV, World.size_alloc, hm2]; have := hB.size; omega
      clear hM hO hB hM1 HM HO HB HX HMW HBW hm1r hm1b HHas
      go_upto_region 9 with (fail)
      (try rw [hm2])
      rw [← hV]
      clear hV hm2
      go_wp2
      go_loopw [52] (fun vi wr => ∃ j : Nat, j ≤ n ∧ vi = .int .i64 j ∧ MapIs Tryz.prog 9 wr m2 j (zfF (ms.take j) (onCnt bs p)) ∧ Only [m2] V wr) (fun vi _ => n - (intOf vi).toNat)
      case atStart => exact ⟨0, Nat.zero_le _, rfl, HZV.out, Only.refl _ _⟩
      case round =>
        obtain ⟨j, hj, rfl, hM, hO⟩ := hrel
        have HM := Lib.hid hM
        have HO := Lib.hid hO
        have hB := hO.below1 HBV.out (by have := hmm; omega) hmm.1
        have HB := Lib.hid hB
        have HM1 := Lib.hid (show MapIs Tryz.prog 9 wr m1 k (onF bs p) from HMV.out.same (hO.block m1 HMV.out.lt (by have := hmm; simp; omega)))
        by_cases hlt2 : j < n
        · obtain ⟨m, hmj⟩ := mem_at (l := ms) (k := j) (by rw [Hn.out]; exact hlt2)
          have hmm2 := List.mem_of_getElem? hmj
          obtain ⟨q, o, rfl, hq, hc⟩ := (HYA.out.ml.mono hB) (by rw [Hn.out]; omega)
          have c7 : wr.cell? ⟨q, o + j * 10 + 7, none⟩ = some (.slice m.la m.labs.length m.lk) := hc j m hmj 7 (by decide)
          have c0 : wr.cell? ⟨q, o + j * 10, none⟩ = some (.string m.nm) := hc j m hmj 0 (by decide)
          have HG := Lib.hid (fun V hV => HGet.out m hmm2 V hV)
          have HY1 := Lib.hid (fun h s => zf_yes (ms := ms) (k := j) (m := m) hmj (onCnt bs p) h s)
          have HY0 := Lib.hid (fun h s => zf_no (ms := ms) (k := j) (m := m) hmj (onCnt bs p) h s)
          have HLt := lightM_iff (HYA.out.lm m hmm2)
          have hnm := HLt.nm
          have hzs : (Lb.getV m.labs zoneT).size ≤ 300 := by
            unfold Lb.getV
            split
            · rename_i x hx
              exact (HLt.ls x (List.mem_of_find?_eq_some hx)).2
            · show 0 ≤ 300; decide
          have Hg1 := Lib.hid (on_get bs p m.nm)
          have hc1 := onCnt_len bs p m.nm
          obtain ⟨c1, hc1'⟩ : ∃ x, onCnt bs p m.nm = x := ⟨_, rfl⟩
          rw [hc1'] at Hg1 HY1 hc1
          have Hg2 := Lib.hid (zf_get (ms.take j) (onCnt bs p) (Lb.getV m.labs zoneT))
          have hc2 := zSum_le (ms.take j) (onCnt bs p) 1000 (fun x => Nat.le_trans (onCnt_len bs p x) (by rw [HN.out]; exact hNb)) (Lb.getV m.labs zoneT)
          have hc3 : (ms.take j).length * 1000 ≤ 1000 * 1000 := Nat.mul_le_mul_right _ (Nat.le_trans (List.length_take_le _ _) (by omega))
          obtain ⟨c2, hc2'⟩ : ∃ x, zSum (ms.take j) (onCnt bs p) (Lb.getV m.labs zoneT) = x := ⟨_, rfl⟩
          rw [hc2'] at Hg2 HY1 hc2
          rw [HN.out] at hc1
          have hw9 : IntKind.i64.wrap ((c2 : Int) + (c1 : Int)) = (c2 : Int) + (c1 : Int) := wrap_in (by omega) (by omega)
          obtain ⟨z, hz⟩ : ∃ z, Lb.getV m.labs zoneT = z := ⟨_, rfl⟩
          obtain ⟨g, hg⟩ : ∃ g, Lb.getB m.labs zoneT = g := ⟨_, rfl⟩
          rw [hz] at HY1 Hg2 hzs
          rw [hg] at HY1 HY0
          unfold zoneT at hz hg
          rw [hz, hg] at HG
          clear hc hmj hmm2 hM hO hB HLt hc1' hc2' hz hg
          cases g with
          | false =>
            have HNx := Lib.hid (HY0.out rfl)
            clear HY1 HY0 Hg1 Hg2 hw9
            go_wp2_with (go_at_call 100; (with_reducible refine (HG.out _ HB.out).mono ?_); rintro e w3 ⟨rfl, hb3⟩; have HM3 := Lib.hid (HM.out.below hb3); have HO3 := Lib.hid (HO.out.step1 hb3); clear hb3)
            go_roundw
            case rel => exact ⟨j + 1, by omega, by go_num, (HM3.out.mono (Nat.le_succ _)).eq HNx.out, HO3.out⟩
            case measure => simp [intOf]; omega
          | true =>
            have HNx := Lib.hid (HY1.out rfl)
            clear HY1 HY0
            go_upto_region 14 with (go_at_call 100; (with_reducible refine (HG.out _ HB.out).mono ?_); rintro e w3 ⟨rfl, hb3⟩; have HM3 := Lib.hid (HM.out.below hb3); have HM13 := Lib.hid (HM1.out.below hb3); have HO3 := Lib.hid (HO.out.step1 hb3); have e0 : w3.cell? ⟨q, o + j * 10, none⟩ = some (.string m.nm) := (hb3.cell (p := ⟨q, o + j * 10, none⟩) hq).trans c0; have hq3 : q < w3.heap.size := Nat.lt_of_lt_of_le hq hb3.size; clear hb3)
            have hcH := held_cell
            refine region_rel_tail 11 (by kernel_rfl) (by kernel_rfl) (by kernel_rfl) ?_
            dsimp only [List.take, List.drop]
            repeat
              ((with_reducible refine relStep (fun K hK => ?_))
               (have HK := Lib.hid hK)
               clear hK
               (apply relInl
                · intro r n hf
                  have Hf := Lib.hid hf
                  clear hf
                  (first
                    | ((first | ((with_reducible refine at_rlook ?_); refine rel_look rfl _ _ 119 9 3 rfl ft_law_str Tryz.underlying119 Tryz.underlying9 _ (ft_zero_int _) (HM3.out.below n.below) rfl _ rfl (by unfold maxLen; omega) Hg2.out) | ((with_reducible refine at_rlook ?_); refine rel_look rfl _ _ 119 9 3 rfl ft_law_str Tryz.underlying119 Tryz.underlying9 _ (ft_zero_int _) (HM13.out.below n.below) rfl _ rfl (by unfold maxLen; omega) Hg1.out)))
                    | (unfold relAt
                       go_simp
                       (first | (refine relUpon_val ?_ (Below.refl _ _); exact rfl) | exact rfl | (refine relUpon_enter ?_; fail))))
                (simp only [Act.put, List.setIfInBounds_toArray, List.set_cons_zero, List.set_cons_succ])
                (with_reducible refine HK.out _ _ ?_)
                clear HK K))
            refine relNil ?_
            intro r9 n9 hx9
            clear hcH
            (try simp only [List.nil_append, List.cons_append, List.mem_cons, List.not_mem_nil, or_false, forall_eq_or_imp, forall_eq, false_implies, implies_true] at hx9)
            obtain ⟨w9, hb9⟩ := n9
            (try dsimp only)
            obtain ⟨hc9, hf9⟩ := bcell hb9
            have hz9 := hb9.size
            (try simp at hz9)
            have HM9 := Lib.hid (HM3.out.below hb9)
            have HO9 := Lib.hid (HO3.out.step1 hb9)
            go_wp2_with (at_mapUpdate; refine at_put rfl _ _ _ 119 9 3 rfl ft_law_str Tryz.underlying119 Tryz.underlying9 HM9.out (by unfold maxLen; omega) rfl _ rfl (by unfold maxLen; omega) (.int .i64 ((c2 : Int) + (c1 : Int))) (by rfl) ?_; intro w7 hm7 hg7; have HM7 := Lib.hid hm7; have HG7 := Lib.hid hg7; clear hm7 hg7)
            go_roundw
            case rel => exact ⟨j + 1, by omega, by go_num, HM7.out.eq HNx.out, HO9.out.grown1 HG7.out⟩
            case measure => simp [intOf]; omega
        · obtain rfl : j = n := by omega
          have HMz := Lib.hid (show MapIs Tryz.prog 9 wr m2 j (zfF ms (onCnt bs p)) from HM.out.eq fun s => by rw [List.take_of_length_le (Nat.le_of_eq Hn.out)])
          have hZl := zonesY_len ms
          rw [Hn.out] at hZl
          obtain ⟨Z, hZ⟩ : ∃ Z, zonesY ms = Z := ⟨_, rfl⟩
          have HZe := Lib.hid (show numsC ms bs p = Z.map fun z => (zCnt ms bs p z : Int) by unfold numsC; rw [hZ])
          have HZq := Lib.hid hZ
          rw [hZ] at HZo hZl
          obtain ⟨nz, hnz⟩ : ∃ nz, Z.length = nz := ⟨_, rfl⟩
          have Hnz := Lib.hid hnz
          have HZs := Lib.hid (show ∀ z ∈ Z, z.size ≤ 300 by
            rw [← hZ]
            have : ∀ (l : List Mac) (out : List ByteArray), (∀ m ∈ l, m ∈ ms) → (∀ z ∈ out, z.size ≤ 300) → ∀ z ∈ l.foldl zoneA out, z.size ≤ 300 := by
              intro l
              induction l with
              | nil => intro out _ h; exact h
              | cons m l ih =>
                intro out hl h
                rw [List.foldl_cons]
                refine ih _ (fun x hx => hl x (List.mem_cons_of_mem _ hx)) ?_
                have HLt := lightM_iff (HYA.out.lm m (hl m List.mem_cons_self))
                have hzs : (Lb.getV m.labs zoneT).size ≤ 300 := by
                  unfold Lb.getV
                  split
                  · rename_i x hx
                    exact (HLt.ls x (List.mem_of_find?_eq_some hx)).2
                  · show 0 ≤ 300; decide
                intro z hz
                unfold zoneA at hz
                split at hz
                · split at hz
                  · split at hz
                    · exact h z hz
                    · rcases List.mem_append.1 hz with hz | hz
                      · exact h z hz
                      · obtain rfl : z = _ := by simpa using hz
                        exact hzs
                  · exact h z hz
                · exact h z hz
            exact this ms [] (fun m hm => hm) (fun z hz => by cases hz))
          rw [hnz] at hZl
          clear hM hO hB HM HO HM1 hZ HGet hnz HMV HZV HBV
          go_upto_region 18 with (go_at_call 101; (with_reducible refine (HZo.out _ HB.out).mono ?_); rintro e w3 ⟨⟨v, rfl, hv⟩, hb3⟩; obtain ⟨az, kz, rfl, hnilz, hrz⟩ := IsL.of_own scs_len (by decide) hv; have HT3 := Lib.hid hrz; have HM3 := Lib.hid (HMz.out.below hb3); have HB3 := Lib.hid (HB.out.trans (hb3.mono HB.out.size)); clear hv hrz hb3 hnilz; rw [Hnz.out])
          obtain ⟨V3, hV3⟩ : ∃ V3, V3 = w3 := ⟨_, rfl⟩
          rw [← hV3] at HT3 HM3 HB3 ⊢
          clear hV3
          go_wp2
          go_loopw [15, 81] (fun vo vi wr => ∃ (t : Nat) (Q : List Int), t ≤ nz ∧ vi = .int .i64 t ∧ Q = (Z.take t).map (fun z => (zCnt ms bs p z : Int)) ∧ Q.length = t ∧ wr.ownsRow V3.heap.size 3 1 vo Q.length (Q.flatMap pcs) ∧ Below V3.heap.size V3 wr) (fun _ vi _ => nz - (intOf vi).toNat)
          case atStart => exact ⟨0, [], Nat.zero_le _, rfl, rfl, rfl, World.ownsRow_nil _ _ _ _, Below.refl _ _⟩
          case round =>
            obtain ⟨t, Q, ht, rfl, hE, hLk, hO, hB⟩ := hrel
            have HE := Lib.hid hE
            have HB := Lib.hid hB
            have HO := Lib.hid hO
            have hbz := hB.size
            have Hlk := Lib.hid hLk
            obtain ⟨ao, ko, rfl⟩ := own_sl hO
            by_cases hlt3 : t < nz
            · obtain ⟨z, hz⟩ := mem_at (l := Z) (k := t) (by rw [Hnz.out]; exact hlt3)
              obtain ⟨q, o, rfl, hq, hc⟩ := (HT3.out.mono hB) (by rw [Hnz.out]; omega)
              have c0 : wr.cell? ⟨q, o + t, none⟩ = some (.string z) := by
                have h9 := hc t z hz 0 (by decide)
                rw [Nat.mul_one] at h9
                exact h9
              have Hg2 := Lib.hid (zf_get ms (onCnt bs p) z)
              have hzz := HZs.out z (List.mem_of_getElem? hz)
              have HM := Lib.hid (HM3.out.below hB)
              have HNx := Lib.hid (show Q ++ [(zCnt ms bs p z : Int)] = (Z.take (t + 1)).map (fun z => (zCnt ms bs p z : Int)) by rw [List.take_add_one, hz, List.map_append, hE]; rfl)
              obtain ⟨cn, hcn⟩ : ∃ x, zCnt ms bs p z = x := ⟨_, rfl⟩
              have hcn2 : zSum ms (onCnt bs p) z = cn := hcn
              rw [hcn2] at Hg2
              rw [hcn] at HNx
              have hQl : Q.length ≤ 1000 := by omega
              clear hE hO hB hc hz hcn hcn2 hLk
              go_wp2_with (first
                | (at_lookup; refine at_look rfl _ _ 119 9 3 rfl ft_law_str Tryz.underlying119 Tryz.underlying9 _ (ft_zero_int _) HM.out rfl _ rfl (by unfold maxLen; omega) ?_; rw [Hg2.out])
                | (at_builtin; refine wpList_append_src rfl (.tmp 85) (.tmp 89) 29 rfl V3.heap.size 3 i0 _ 1 8 Tryz.underlying29 Hi.out Hz0.out Hz1.out Hz2.out rfl (by decide) _ Q.length (Q.flatMap pcs) rfl (HO.out.alloc _) (some ⟨wr.heap.size, 0, none⟩) 1 1 (pcs (cn : Int)) rfl rfl (fun q e => by injection e with e; rw [← e]; exact news_at _ _ _) (fun e => by cases e) (pcs_one _) (by unfold maxLen; omega) (by omega) (by simp; omega) ?_; intro v6 w6 hown6 hgrow6; obtain ⟨a6, k6, rfl⟩ := own_sl hown6; have HB6 := Lib.hid (own_below (HO.out.alloc _) (HB.out.alloc hbz _) (by simp; omega) hgrow6); have HO6 := Lib.hid hown6; clear hown6 hgrow6))
              go_roundw
              case rel =>
                refine ⟨t + 1, Q ++ [(cn : Int)], by omega, by go_num, HNx.out, by rw [List.length_append, Hlk.out]; rfl, ?_, HB6.out⟩
                rw [List.length_append, List.flatMap_append]
                have h9 := HO6.out
                simpa using h9
              case measure => simp [intOf]; omega
            · obtain rfl : t = nz := by omega
              have HQ := Lib.hid (show Q = numsC ms bs p by rw [HZe.out, HE.out, List.take_of_length_le (Nat.le_of_eq Hnz.out)])
              have hTz := HT3.out.mono hB
              have HTz := Lib.hid hTz
              obtain ⟨_, _, e9, hnilq, hrq⟩ := IsL.of_own pcs_len (by decide) hO
              injection e9 with e1 e2 e3
              subst e1
              have HRq := Lib.hid hrq
              have hBw := HB3.out.trans (hB.mono HB3.out.size)
              have HBw := Lib.hid hBw
              clear hE hO hB hTz hrq hnilq hBw e2 e3
              go_wp2
              refine bodyPost_ret (v := .tuple #[.slice az t kz, .slice ao Q.length ko]) (by simp [results, Tryz.results72, go_sem]) rfl ⟨⟨az, kz, ao, ko, ?_, by rw [HZq.out]; exact HTz.out, by rw [← HQ.out]; exact HRq.out⟩, HBw.out⟩
              rw [← HQ.out, HZq.out, Hnz.out]
end Go.Proofs.YthbpnfpalcgfeaaGreat
