/-
  Fit: Why, why of a question, reasons.
-/
import Derived.Test.YthbpnfpalcgfeaaGreatFt5
namespace Go.Proofs.YthbpnfpalcgfeaaGreat
open Go.RowKit
set_option linter.unusedVariables false
set_option linter.unusedSimpArgs false

set_option maxRecDepth 100000 in
set_option maxHeartbeats 4000000 in
theorem fwhy_any (a c : Option Addr) (ka kc : Nat) (ms : List Mac) (bs : List Bd) (p : Pd) (on : ByteArray) (w : World) (hY : YA w a ms c bs) (hP : PodAt w p) (hp : lightP p = true) :
    Calls Tryz.prog 6 #[.slice a ms.length ka, .slice c bs.length kc, .agg (prow p).toArray, .string on] w fun e w' => e = .returned (.int .i64 (whyF ms bs p on)) ∧ Below w.heap.size w w' := by
  have hfi := fun V (hV : Below w.heap.size w V) => find_any a ka ms on V (hY.ml.mono hV) (by have := hY.mm; omega)
  have haw := fun V (hV : Below w.heap.size w V) => awhy_any a c ka kc ms bs p on V (hY.mono hV) (hP.mono hV) hp
  obtain ⟨R, hR⟩ : ∃ R, whyF ms bs p on = R := ⟨_, rfl⟩
  rw [hR]
  unfold whyF at hR
  obtain ⟨W, hW⟩ : ∃ W, W = (w.alloc (.cells #[.string (p).nm, .int .i64 (p).n0, .int .i64 (p).n1, .int .i64 (p).n2, .int .i64 (p).n3, .int .i64 (p).n4, .slice (p).la (p).labs.length (p).lk, .slice (p).sa (p).sels.length (p).sk, .slice (p).ta (p).trms.length (p).tk, .slice (p).ba (p).bers.length (p).bk, .slice (p).pa (p).prts.length (p).pk, .slice (p).aa (p).aprs.length (p).ak, .bool (p).wd, .slice (p).da (p).spds.length (p).dk, .int .i64 (p).sw, .int .i64 (p).rk, .string (p).ow, .bool (p).dm, .bool (p).pn, .bool (p).lc] 31)) := ⟨_, rfl⟩
  have hX : Box w.heap.size (prow p) W := by rw [hW]; exact (Box.new w (prow p) 31)
  have hbw : Below w.heap.size w W := by rw [hW]; (repeat' (first | with_reducible exact Below.refl _ _ | with_reducible assumption | with_reducible refine Below.drew ?_ | with_reducible refine below_drewN' ?_ _ | with_reducible refine Below.alloc ?_ ?_ _ | with_reducible refine Below.setCell ?_ ?_ _ | with_reducible refine below_step (by assumption) ?_ ?_ | omega | (simp; done) | (simp; omega)))
  have HB := Lib.hid hbw
  have HX := Lib.hid hX
  have HRp := Lib.hid (fun V (h : Box w.heap.size (prow p) V) => show V.rangeAt w.heap.size 0 [.string (p).nm, .int .i64 (p).n0, .int .i64 (p).n1, .int .i64 (p).n2, .int .i64 (p).n3, .int .i64 (p).n4, .slice (p).la (p).labs.length (p).lk, .slice (p).sa (p).sels.length (p).sk, .slice (p).ta (p).trms.length (p).tk, .slice (p).ba (p).bers.length (p).bk, .slice (p).pa (p).prts.length (p).pk, .slice (p).aa (p).aprs.length (p).ak, .bool (p).wd, .slice (p).da (p).spds.length (p).dk, .int .i64 (p).sw, .int .i64 (p).rk, .string (p).ow, .bool (p).dm, .bool (p).pn, .bool (p).lc] from h.range)
  obtain ⟨N, hN⟩ : ∃ N, bs.length = N := ⟨_, rfl⟩
  obtain ⟨n, hn⟩ : ∃ n, ms.length = n := ⟨_, rfl⟩
  rw [hn] at hfi
  rw [hn, hN] at haw ⊢
  show Calls Tryz.prog 6 #[.slice a n ka, .slice c N kc, .agg #[.string (p).nm, .int .i64 (p).n0, .int .i64 (p).n1, .int .i64 (p).n2, .int .i64 (p).n3, .int .i64 (p).n4, .slice (p).la (p).labs.length (p).lk, .slice (p).sa (p).sels.length (p).sk, .slice (p).ta (p).trms.length (p).tk, .slice (p).ba (p).bers.length (p).bk, .slice (p).pa (p).prts.length (p).pk, .slice (p).aa (p).aprs.length (p).ak, .bool (p).wd, .slice (p).da (p).spds.length (p).dk, .int .i64 (p).sw, .int .i64 (p).rk, .string (p).ow, .bool (p).dm, .bool (p).pn, .bool (p).lc], .string on] w _
  rcases find_cases ms on with ⟨h1, h2⟩ | ⟨i, m, h1, h2, h3, h4⟩
  · rw [h2] at hR
    subst hR
    rw [h1] at hfi
    have HFi := Lib.hid hfi
    clear hfi haw hX hbw hY hP hp hN hn h1 h2
    go_enter Tryz.func6, Tryz.ntmps6
    go_upto_region 1 with (fail)
    rw [← hW]
    clear hW
    go_wp2_with (go_at_call 20; (with_reducible refine (HFi.out _ HB.out).mono ?_); rintro e w1 ⟨rfl, hb⟩; have HB1 := Lib.hid (HB.out.trans (hb.mono HB.out.size)); clear hb)
    go_ret
    exact ⟨rfl, HB1.out⟩
  · rw [h4] at hR
    rw [h1] at hfi
    have hin : i < n := by rw [← hn]; exact (List.getElem?_eq_some_iff.1 h2).1
    have hmm := List.mem_of_getElem? h2
    have HSu := Lib.hid (show ∀ V, Below w.heap.size w V → Calls Tryz.prog 21 #[.agg #[.string (m).nm, .string (m).gp, .int .i64 (m).r0, .int .i64 (m).r1, .int .i64 (m).r2, .int .i64 (m).r3, .int .i64 (m).r4, .slice (m).la (m).labs.length (m).lk, .slice (m).ta (m).tnts.length (m).tk, .bool (m).rd], .slice c N kc, .agg #[.string (p).nm, .int .i64 (p).n0, .int .i64 (p).n1, .int .i64 (p).n2, .int .i64 (p).n3, .int .i64 (p).n4, .slice (p).la (p).labs.length (p).lk, .slice (p).sa (p).sels.length (p).sk, .slice (p).ta (p).trms.length (p).tk, .slice (p).ba (p).bers.length (p).bk, .slice (p).pa (p).prts.length (p).pk, .slice (p).aa (p).aprs.length (p).ak, .bool (p).wd, .slice (p).da (p).spds.length (p).dk, .int .i64 (p).sw, .int .i64 (p).rk, .string (p).ow, .bool (p).dm, .bool (p).pn, .bool (p).lc]] V fun e w' => e = .returned (.int .i64 (suitS m bs p)) ∧ Below V.heap.size V w' from fun V hV => by
      have hYV := hY.mono hV
      have h9 := ssuits_any m c kc bs p V (hYV.mi m hmm).here hYV.bl (fun b hb => (hYV.bi b hb).here) (hP.mono hV) (hY.lm m hmm) hp (by have := hY.bb; omega) (fun b hb => by have := lightP_lens (hY.lb b hb); omega)
      rw [hN] at h9
      exact h9)
    obtain ⟨s, hs⟩ : ∃ s, suitS m bs p = s := ⟨_, rfl⟩
    obtain ⟨aw, haw'⟩ : ∃ s, apartW ms bs p on = s := ⟨_, rfl⟩
    rw [hs] at HSu
    rw [haw'] at haw
    have hR : (if s = 0 then aw else s) = R := by rw [← hs, ← haw']; exact hR
    have HFi := Lib.hid hfi
    have HAw := Lib.hid (show ∀ V, Below w.heap.size w V → Calls Tryz.prog 22 #[.slice a n ka, .slice c N kc, .agg #[.string (p).nm, .int .i64 (p).n0, .int .i64 (p).n1, .int .i64 (p).n2, .int .i64 (p).n3, .int .i64 (p).n4, .slice (p).la (p).labs.length (p).lk, .slice (p).sa (p).sels.length (p).sk, .slice (p).ta (p).trms.length (p).tk, .slice (p).ba (p).bers.length (p).bk, .slice (p).pa (p).prts.length (p).pk, .slice (p).aa (p).aprs.length (p).ak, .bool (p).wd, .slice (p).da (p).spds.length (p).dk, .int .i64 (p).sw, .int .i64 (p).rk, .string (p).ow, .bool (p).dm, .bool (p).pn, .bool (p).lc], .string on] V fun e w' => e = .returned (.int .i64 aw) ∧ Below V.heap.size V w' from haw)
    obtain ⟨q, o, rfl, hq, hc⟩ := (hY.mono hbw).ml (by omega)
    have HQ := Lib.hid (show W.rangeAt q (o + i * 10) [.string (m).nm, .string (m).gp, .int .i64 (m).r0, .int .i64 (m).r1, .int .i64 (m).r2, .int .i64 (m).r3, .int .i64 (m).r4, .slice (m).la (m).labs.length (m).lk, .slice (m).ta (m).tnts.length (m).tk, .bool (m).rd] from fun j v hj => by
      have hj10 : j < 10 := (List.getElem?_eq_some_iff.1 hj).1
      rw [hc i m h2 j hj10]
      exact hj)
    clear hfi haw hX hbw hY hP hp hN hn h1 h2 h3 h4 hs haw' hc hmm
    by_cases h0 : s = 0
    · subst h0
      rw [if_pos rfl] at hR
      subst hR
      go_enter Tryz.func6, Tryz.ntmps6
      go_upto_region 1 with (fail)
      rw [← hW]
      clear hW
      go_upto_region 4 with (go_at_call 20; (with_reducible refine (HFi.out _ HB.out).mono ?_); rintro e w1 ⟨rfl, hb⟩; have HB1 := Lib.hid (HB.out.trans (hb.mono HB.out.size)); have HX1 := Lib.hid (HX.out.mono hb); have HQ1 := Lib.hid (rangeAt_mono HQ.out hq hb); have hq1 := Nat.lt_of_lt_of_le hq hb.size; clear hb)
      have hlx := HX1.out.lt
      have HP1 := Lib.hid (HRp.out _ HX1.out)
      have hcH := held_cell
      refine region_rel (by kernel_rfl) (by kernel_rfl) ?_
      repeat
        ((with_reducible refine relStep (fun K hK => ?_))
         (have HK := Lib.hid hK)
         clear hK
         (apply relInl
          · intro r n hf
            have Hf := Lib.hid hf
            clear hf
            (first
              | ((first | ((with_reducible refine at_rel (ty := 37) ?_); refine rel_load rfl q (o + i * 10) rfl [.string (m).nm, .string (m).gp, .int .i64 (m).r0, .int .i64 (m).r1, .int .i64 (m).r2, .int .i64 (m).r3, .int .i64 (m).r4, .slice (m).la (m).labs.length (m).lk, .slice (m).ta (m).tnts.length (m).tk, .bool (m).rd] _ Tryz.underlying37 rfl (by kernel_rfl) (rangeAt_mono HQ1.out hq1 n.below) rfl) | ((with_reducible refine at_rel (ty := 31) ?_); refine rel_load rfl w.heap.size 0 rfl [.string (p).nm, .int .i64 (p).n0, .int .i64 (p).n1, .int .i64 (p).n2, .int .i64 (p).n3, .int .i64 (p).n4, .slice (p).la (p).labs.length (p).lk, .slice (p).sa (p).sels.length (p).sk, .slice (p).ta (p).trms.length (p).tk, .slice (p).ba (p).bers.length (p).bk, .slice (p).pa (p).prts.length (p).pk, .slice (p).aa (p).aprs.length (p).ak, .bool (p).wd, .slice (p).da (p).spds.length (p).dk, .int .i64 (p).sw, .int .i64 (p).rk, .string (p).ow, .bool (p).dm, .bool (p).pn, .bool (p).lc] _ Tryz.underlying31 rfl (by kernel_rfl) (rangeAt_mono HP1.out hlx n.below) rfl)))
              | (unfold relAt
                 go_simp
                 (first | (refine relUpon_val ?_ (Below.refl _ _); exact rfl) | exact rfl | (refine relUpon_enter ?_; (go_at_call 21; (with_reducible refine (HSu.out _ (HB1.out.trans (n.below.mono HB1.out.size))).mono ?_); rintro e w9 ⟨rfl, hb⟩; exact ⟨⟨_, rfl, rfl⟩, hb⟩)))))
          (simp only [Act.put, List.setIfInBounds_toArray, List.set_cons_zero, List.set_cons_succ])
          (with_reducible refine HK.out _ _ ?_)
          clear HK K))
      refine relNil ?_
      intro r9 n9 hx9
      clear hcH
      (try simp only [List.nil_append, List.cons_append, List.mem_cons, List.not_mem_nil, or_false, forall_eq_or_imp, forall_eq, false_implies, implies_true] at hx9)
      obtain ⟨w9, hb9⟩ := n9
      (try dsimp only)
      obtain ⟨hc9, hf9⟩ := bcell hb9
      have hz9 := hb9.size
      (try simp at hz9)
      have HB9 := Lib.hid (HB1.out.trans (hb9.mono HB1.out.size))
      have HX9 := Lib.hid (HX1.out.mono hb9)
      clear hb9 hc9 hf9 hz9 HP1 hlx HQ1
      go_wp2_with (first
        | ((with_reducible refine at_load (ty := 31) ?_); refine load_cells rfl 31 (.tmp 6) rfl w.heap.size 0 rfl [.string (p).nm, .int .i64 (p).n0, .int .i64 (p).n1, .int .i64 (p).n2, .int .i64 (p).n3, .int .i64 (p).n4, .slice (p).la (p).labs.length (p).lk, .slice (p).sa (p).sels.length (p).sk, .slice (p).ta (p).trms.length (p).tk, .slice (p).ba (p).bers.length (p).bk, .slice (p).pa (p).prts.length (p).pk, .slice (p).aa (p).aprs.length (p).ak, .bool (p).wd, .slice (p).da (p).spds.length (p).dk, .int .i64 (p).sw, .int .i64 (p).rk, .string (p).ow, .bool (p).dm, .bool (p).pn, .bool (p).lc] _ Tryz.underlying31 rfl (by kernel_rfl) (HRp.out _ HX9.out) ?_)
        | (go_at_call 22; (with_reducible refine (HAw.out _ HB9.out).mono ?_); rintro e w2 ⟨rfl, hb⟩; have HB2 := Lib.hid (HB9.out.trans (hb.mono HB9.out.size)); clear hb))
      go_ret
      exact ⟨rfl, by first | exact HB2.out | exact HB9.out⟩
    · have q0 : (s == 0) = false := by simpa using h0
      rw [if_neg h0] at hR
      subst hR
      go_enter Tryz.func6, Tryz.ntmps6
      go_upto_region 1 with (fail)
      rw [← hW]
      clear hW
      go_upto_region 4 with (go_at_call 20; (with_reducible refine (HFi.out _ HB.out).mono ?_); rintro e w1 ⟨rfl, hb⟩; have HB1 := Lib.hid (HB.out.trans (hb.mono HB.out.size)); have HX1 := Lib.hid (HX.out.mono hb); have HQ1 := Lib.hid (rangeAt_mono HQ.out hq hb); have hq1 := Nat.lt_of_lt_of_le hq hb.size; clear hb)
      have hlx := HX1.out.lt
      have HP1 := Lib.hid (HRp.out _ HX1.out)
      have hcH := held_cell
      refine region_rel (by kernel_rfl) (by kernel_rfl) ?_
      repeat
        ((with_reducible refine relStep (fun K hK => ?_))
         (have HK := Lib.hid hK)
         clear hK
         (apply relInl
          · intro r n hf
            have Hf := Lib.hid hf
            clear hf
            (first
              | ((first | ((with_reducible refine at_rel (ty := 37) ?_); refine rel_load rfl q (o + i * 10) rfl [.string (m).nm, .string (m).gp, .int .i64 (m).r0, .int .i64 (m).r1, .int .i64 (m).r2, .int .i64 (m).r3, .int .i64 (m).r4, .slice (m).la (m).labs.length (m).lk, .slice (m).ta (m).tnts.length (m).tk, .bool (m).rd] _ Tryz.underlying37 rfl (by kernel_rfl) (rangeAt_mono HQ1.out hq1 n.below) rfl) | ((with_reducible refine at_rel (ty := 31) ?_); refine rel_load rfl w.heap.size 0 rfl [.string (p).nm, .int .i64 (p).n0, .int .i64 (p).n1, .int .i64 (p).n2, .int .i64 (p).n3, .int .i64 (p).n4, .slice (p).la (p).labs.length (p).lk, .slice (p).sa (p).sels.length (p).sk, .slice (p).ta (p).trms.length (p).tk, .slice (p).ba (p).bers.length (p).bk, .slice (p).pa (p).prts.length (p).pk, .slice (p).aa (p).aprs.length (p).ak, .bool (p).wd, .slice (p).da (p).spds.length (p).dk, .int .i64 (p).sw, .int .i64 (p).rk, .string (p).ow, .bool (p).dm, .bool (p).pn, .bool (p).lc] _ Tryz.underlying31 rfl (by kernel_rfl) (rangeAt_mono HP1.out hlx n.below) rfl)))
              | (unfold relAt
                 go_simp
                 (first | (refine relUpon_val ?_ (Below.refl _ _); exact rfl) | exact rfl | (refine relUpon_enter ?_; (go_at_call 21; (with_reducible refine (HSu.out _ (HB1.out.trans (n.below.mono HB1.out.size))).mono ?_); rintro e w9 ⟨rfl, hb⟩; exact ⟨⟨_, rfl, rfl⟩, hb⟩)))))
          (simp only [Act.put, List.setIfInBounds_toArray, List.set_cons_zero, List.set_cons_succ])
          (with_reducible refine HK.out _ _ ?_)
          clear HK K))
      refine relNil ?_
      intro r9 n9 hx9
      clear hcH
      (try simp only [List.nil_append, List.cons_append, List.mem_cons, List.not_mem_nil, or_false, forall_eq_or_imp, forall_eq, false_implies, implies_true] at hx9)
      obtain ⟨w9, hb9⟩ := n9
      (try dsimp only)
      obtain ⟨hc9, hf9⟩ := bcell hb9
      have hz9 := hb9.size
      (try simp at hz9)
      have HB9 := Lib.hid (HB1.out.trans (hb9.mono HB1.out.size))
      have HX9 := Lib.hid (HX1.out.mono hb9)
      clear hb9 hc9 hf9 hz9 HP1 hlx HQ1
      go_wp2_with (first
        | ((with_reducible refine at_load (ty := 31) ?_); refine load_cells rfl 31 (.tmp 6) rfl w.heap.size 0 rfl [.string (p).nm, .int .i64 (p).n0, .int .i64 (p).n1, .int .i64 (p).n2, .int .i64 (p).n3, .int .i64 (p).n4, .slice (p).la (p).labs.length (p).lk, .slice (p).sa (p).sels.length (p).sk, .slice (p).ta (p).trms.length (p).tk, .slice (p).ba (p).bers.length (p).bk, .slice (p).pa (p).prts.length (p).pk, .slice (p).aa (p).aprs.length (p).ak, .bool (p).wd, .slice (p).da (p).spds.length (p).dk, .int .i64 (p).sw, .int .i64 (p).rk, .string (p).ow, .bool (p).dm, .bool (p).pn, .bool (p).lc] _ Tryz.underlying31 rfl (by kernel_rfl) (HRp.out _ HX9.out) ?_)
        | (go_at_call 22; (with_reducible refine (HAw.out _ HB9.out).mono ?_); rintro e w2 ⟨rfl, hb⟩; have HB2 := Lib.hid (HB9.out.trans (hb.mono HB9.out.size)); clear hb))
      go_ret
      exact ⟨rfl, by first | exact HB2.out | exact HB9.out⟩
set_option maxRecDepth 100000 in
set_option maxHeartbeats 4000000 in
theorem qwhy_any (a c : Option Addr) (ka kc : Nat) (ms : List Mac) (bs : List Bd) (p : Pd) (on : ByteArray) (w : World) (hY : YA w a ms c bs) (hP : PodAt w p) (hp : lightP p = true) (n N : Nat) (hn : ms.length = n) (hN : bs.length = N) :
    Calls Tryz.prog 27 #[.agg #[.slice a n ka, .slice c N kc, .string (p).nm, .int .i64 (p).n0, .int .i64 (p).n1, .int .i64 (p).n2, .int .i64 (p).n3, .int .i64 (p).n4, .slice (p).la (p).labs.length (p).lk, .slice (p).sa (p).sels.length (p).sk, .slice (p).ta (p).trms.length (p).tk, .slice (p).ba (p).bers.length (p).bk, .slice (p).pa (p).prts.length (p).pk, .slice (p).aa (p).aprs.length (p).ak, .bool (p).wd, .slice (p).da (p).spds.length (p).dk, .int .i64 (p).sw, .int .i64 (p).rk, .string (p).ow, .bool (p).dm, .bool (p).pn, .bool (p).lc], .string on] w fun e w' => e = .returned (.int .i64 (whyF ms bs p on)) ∧ Below w.heap.size w w' := by
  have hwh := fun V (hV : Below w.heap.size w V) => fwhy_any a c ka kc ms bs p on V (hY.mono hV) (hP.mono hV) hp
  obtain ⟨R, hR⟩ : ∃ R, whyF ms bs p on = R := ⟨_, rfl⟩
  rw [hn, hN] at hwh
  rw [hR] at hwh ⊢
  have HWh := Lib.hid (show ∀ V, Below w.heap.size w V → Calls Tryz.prog 6 #[.slice a n ka, .slice c N kc, .agg #[.string (p).nm, .int .i64 (p).n0, .int .i64 (p).n1, .int .i64 (p).n2, .int .i64 (p).n3, .int .i64 (p).n4, .slice (p).la (p).labs.length (p).lk, .slice (p).sa (p).sels.length (p).sk, .slice (p).ta (p).trms.length (p).tk, .slice (p).ba (p).bers.length (p).bk, .slice (p).pa (p).prts.length (p).pk, .slice (p).aa (p).aprs.length (p).ak, .bool (p).wd, .slice (p).da (p).spds.length (p).dk, .int .i64 (p).sw, .int .i64 (p).rk, .string (p).ow, .bool (p).dm, .bool (p).pn, .bool (p).lc], .string on] V fun e w' => e = .returned (.int .i64 R) ∧ Below V.heap.size V w' from hwh)
  obtain ⟨W, hW⟩ : ∃ W, W = (w.alloc (.cells #[.slice a n ka, .slice c N kc, .string (p).nm, .int .i64 (p).n0, .int .i64 (p).n1, .int .i64 (p).n2, .int .i64 (p).n3, .int .i64 (p).n4, .slice (p).la (p).labs.length (p).lk, .slice (p).sa (p).sels.length (p).sk, .slice (p).ta (p).trms.length (p).tk, .slice (p).ba (p).bers.length (p).bk, .slice (p).pa (p).prts.length (p).pk, .slice (p).aa (p).aprs.length (p).ak, .bool (p).wd, .slice (p).da (p).spds.length (p).dk, .int .i64 (p).sw, .int .i64 (p).rk, .string (p).ow, .bool (p).dm, .bool (p).pn, .bool (p).lc] 53)) := ⟨_, rfl⟩
  have hX : Box w.heap.size [.slice a n ka, .slice c N kc, .string (p).nm, .int .i64 (p).n0, .int .i64 (p).n1, .int .i64 (p).n2, .int .i64 (p).n3, .int .i64 (p).n4, .slice (p).la (p).labs.length (p).lk, .slice (p).sa (p).sels.length (p).sk, .slice (p).ta (p).trms.length (p).tk, .slice (p).ba (p).bers.length (p).bk, .slice (p).pa (p).prts.length (p).pk, .slice (p).aa (p).aprs.length (p).ak, .bool (p).wd, .slice (p).da (p).spds.length (p).dk, .int .i64 (p).sw, .int .i64 (p).rk, .string (p).ow, .bool (p).dm, .bool (p).pn, .bool (p).lc] W := by rw [hW]; exact (Box.new w [.slice a n ka, .slice c N kc, .string (p).nm, .int .i64 (p).n0, .int .i64 (p).n1, .int .i64 (p).n2, .int .i64 (p).n3, .int .i64 (p).n4, .slice (p).la (p).labs.length (p).lk, .slice (p).sa (p).sels.length (p).sk, .slice (p).ta (p).trms.length (p).tk, .slice (p).ba (p).bers.length (p).bk, .slice (p).pa (p).prts.length (p).pk, .slice (p).aa (p).aprs.length (p).ak, .bool (p).wd, .slice (p).da (p).spds.length (p).dk, .int .i64 (p).sw, .int .i64 (p).rk, .string (p).ow, .bool (p).dm, .bool (p).pn, .bool (p).lc] 53)
  have hbw : Below w.heap.size w W := by rw [hW]; (repeat' (first | with_reducible exact Below.refl _ _ | with_reducible assumption | with_reducible refine Below.drew ?_ | with_reducible refine below_drewN' ?_ _ | with_reducible refine Below.alloc ?_ ?_ _ | with_reducible refine Below.setCell ?_ ?_ _ | with_reducible refine below_step (by assumption) ?_ ?_ | omega | (simp; done) | (simp; omega)))
  have HB := Lib.hid hbw
  have c0 : W.cell? ⟨w.heap.size, 0, none⟩ = some (.slice a n ka) := hX.cell 0
  have c1 : W.cell? ⟨w.heap.size, 1, none⟩ = some (.slice c N kc) := hX.cell 1
  have HRp := Lib.hid (show W.rangeAt w.heap.size 2 [.string (p).nm, .int .i64 (p).n0, .int .i64 (p).n1, .int .i64 (p).n2, .int .i64 (p).n3, .int .i64 (p).n4, .slice (p).la (p).labs.length (p).lk, .slice (p).sa (p).sels.length (p).sk, .slice (p).ta (p).trms.length (p).tk, .slice (p).ba (p).bers.length (p).bk, .slice (p).pa (p).prts.length (p).pk, .slice (p).aa (p).aprs.length (p).ak, .bool (p).wd, .slice (p).da (p).spds.length (p).dk, .int .i64 (p).sw, .int .i64 (p).rk, .string (p).ow, .bool (p).dm, .bool (p).pn, .bool (p).lc] from fun j v hj => by
    rw [hX.cell (2 + j), Nat.add_comm 2 j]
    exact hj)
  have hlx := hX.lt
  clear hwh hR hX hbw hY hP hp hn hN
  go_enter Tryz.func27, Tryz.ntmps27
  go_upto_region 1 with (fail)
  rw [← hW]
  clear hW
  go_wp2_with (first
    | ((with_reducible refine at_load (ty := 31) ?_); refine load_cells rfl 31 (.tmp 9) rfl w.heap.size 2 rfl [.string (p).nm, .int .i64 (p).n0, .int .i64 (p).n1, .int .i64 (p).n2, .int .i64 (p).n3, .int .i64 (p).n4, .slice (p).la (p).labs.length (p).lk, .slice (p).sa (p).sels.length (p).sk, .slice (p).ta (p).trms.length (p).tk, .slice (p).ba (p).bers.length (p).bk, .slice (p).pa (p).prts.length (p).pk, .slice (p).aa (p).aprs.length (p).ak, .bool (p).wd, .slice (p).da (p).spds.length (p).dk, .int .i64 (p).sw, .int .i64 (p).rk, .string (p).ow, .bool (p).dm, .bool (p).pn, .bool (p).lc] _ Tryz.underlying31 rfl (by kernel_rfl) HRp.out ?_)
    | (go_at_call 6; (with_reducible refine (HWh.out _ HB.out).mono ?_); rintro e w2 ⟨rfl, hb⟩; have HB2 := Lib.hid (HB.out.trans (hb.mono HB.out.size)); clear hb))
  go_ret
  exact ⟨rfl, HB2.out⟩
def GivesI (w : World) (L : List Int) (e : Ending) (w' : World) : Prop := (∃ v, e = .returned v ∧ w'.ownsRow w.heap.size 3 1 v L.length (L.flatMap pcs)) ∧ Below w.heap.size w w'
set_option maxRecDepth 100000 in
set_option maxHeartbeats 4000000 in
theorem reasons_any (a : Option Addr) (ka : Nat) (ms : List Mac) (fn : Nat) (caps : Array Value) (f : ByteArray → Int) (w : World) (hF : MacL w a ms) (hl : ms.length ≤ 1000)
    (hent : ∀ (args : Array Value) (V : World), (callFunc fn args).run Tryz.prog V = .ok (.enter fn args) V)
    (hstep : ∀ m ∈ ms, ∀ V, Below w.heap.size w V → Calls Tryz.prog fn (caps.push (.string m.nm)) V fun e w' => e = .returned (.int .i64 (f m.nm)) ∧ Below V.heap.size V w') :
    Calls Tryz.prog 26 #[.slice a ms.length ka, .func (.func fn) caps #[]] w (GivesI w (ms.map fun m => f m.nm)) := by
  obtain ⟨n, hn⟩ : ∃ n, ms.length = n := ⟨_, rfl⟩
  have HN := Lib.hid hn
  have HF := Lib.hid hF
  have HS := Lib.hid hstep
  rw [hn] at hl ⊢
  clear hn hF hstep
  obtain ⟨i0, hi, hz0, hz1, hz2⟩ := info_parts Tryz.info3
  have Hi := Lib.hid hi
  have Hz0 := Lib.hid hz0
  have Hz1 := Lib.hid hz1
  have Hz2 := Lib.hid hz2
  clear hi hz0 hz1 hz2
  go_enter Tryz.func26, Tryz.ntmps26
  go_wp2
  go_loopw [5, 9] (fun vo vi wr => ∃ (k : Nat) (Q : List Int), k ≤ n ∧ vi = .int .i64 k ∧ Q = (ms.take k).map (fun m => f m.nm) ∧ Q.length ≤ k ∧ wr.ownsRow w.heap.size 3 1 vo Q.length (Q.flatMap pcs) ∧ Below w.heap.size w wr) (fun _ vi _ => n - (intOf vi).toNat)
  case atStart => exact ⟨0, [], Nat.zero_le _, rfl, rfl, Nat.le_refl _, World.ownsRow_nil _ _ _ _, by (repeat' (first | with_reducible exact Below.refl _ _ | with_reducible assumption | with_reducible refine Below.drew ?_ | with_reducible refine below_drewN' ?_ _ | with_reducible refine Below.alloc ?_ ?_ _ | with_reducible refine Below.setCell ?_ ?_ _ | with_reducible refine below_step (by assumption) ?_ ?_ | omega | (simp; done) | (simp; omega)))⟩
  case round =>
    obtain ⟨k, Q, hk, rfl, hE, hLk, hO, hB⟩ := hrel
    have HE := Lib.hid hE
    have HB := Lib.hid hB
    have HO := Lib.hid hO
    have hbz := hB.size
    obtain ⟨ao, ko, rfl⟩ := own_sl hO
    by_cases hlt : k < n
    · obtain ⟨m, hm⟩ := mem_at (l := ms) (k := k) (by rw [HN.out]; exact hlt)
      obtain ⟨b, o, rfl, hb, hc⟩ := (HF.out.mono hB) (by rw [HN.out]; omega)
      have c0 : wr.cell? ⟨b, o + k * 10, none⟩ = some (.string m.nm) := hc k m hm 0 (by decide)
      have HNx := Lib.hid (show Q ++ [f m.nm] = (ms.take (k + 1)).map (fun m => f m.nm) by rw [List.take_add_one, hm, List.map_append, hE]; rfl)
      have HSm := Lib.hid (HS.out m (List.mem_of_getElem? hm))
      obtain ⟨r, hr⟩ : ∃ r, f m.nm = r := ⟨_, rfl⟩
      rw [hr] at HNx HSm
      clear hE hO hB hc hm hr
      go_wp2_with (first
        | ((with_reducible refine (HSm.out _ HB.out).mono ?_); rintro e w3 ⟨rfl, hb3⟩; have HB3 := Lib.hid (HB.out.trans (hb3.mono hbz)); have hbz3 := Nat.le_trans hbz hb3.size; have HO3 := Lib.hid (own_kept HO.out hb3); clear hb3)
        | (at_builtin; refine wpList_append_src rfl (.tmp 12) (.tmp 20) 29 rfl w.heap.size 3 i0 _ 1 8 Tryz.underlying29 Hi.out Hz0.out Hz1.out Hz2.out rfl (by decide) _ Q.length (Q.flatMap pcs) rfl (HO3.out.alloc _) (some ⟨w3.heap.size, 0, none⟩) 1 1 (pcs r) rfl rfl (fun q e => by injection e with e; rw [← e]; exact news_at _ _ _) (fun e => by cases e) (pcs_one _) (by unfold maxLen; omega) (by omega) (by simp; omega) ?_; intro v6 w6 hown6 hgrow6; obtain ⟨a6, k6, rfl⟩ := own_sl hown6; have HB6 := Lib.hid (own_below (HO3.out.alloc _) (HB3.out.alloc hbz3 _) (by simp; omega) hgrow6); have HO6 := Lib.hid hown6; clear hown6 hgrow6))
      go_roundw
      case rel =>
        refine ⟨k + 1, Q ++ [r], by omega, by go_num, HNx.out, by rw [List.length_append]; show Q.length + 1 ≤ _; omega, ?_, HB6.out⟩
        rw [List.length_append, List.flatMap_append]
        have h9 := HO6.out
        simpa using h9
      case measure => simp [intOf]; omega
    · obtain rfl : k = n := by omega
      have HL := Lib.hid (show Q = ms.map fun m => f m.nm by rw [hE, List.take_of_length_le (by rw [HN.out]; exact Nat.le_refl _)])
      clear hE hO hB
      go_wp2
      refine bodyPost_ret (v := .slice ao Q.length ko) (by simp [results, Tryz.results26, go_sem]) rfl ⟨⟨_, rfl, by rw [← HL.out]; exact HO.out⟩, HB.out⟩
end Go.Proofs.YthbpnfpalcgfeaaGreat
