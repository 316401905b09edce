/-
  The document's Why, Where, Tally, Feasible.
-/
import Derived.Test.YthbpnfpalcgfeaaGreatFrG
namespace Go.Proofs.YthbpnfpalcgfeaaGreat
open Go.RowKit
set_option linter.unusedVariables false
set_option linter.unusedSimpArgs false

theorem YQ.pq {ms : List Mac} {bs : List Bd} (h : YQ ms bs) {b : Bd} (hb : b ∈ bs) : PQ b.p := ⟨(h.hb b hb).2.1, (h.hb b hb).2.2⟩
theorem rs_of {w : World} {a c : Option Addr} {ms : List Mac} {bs : List Bd} {p : Pd} {m : Mac} (hY : YA w a ms c bs) (hp : lightP p = true) (hq : YQ ms bs) (hpq : PQ p) (hm : m ∈ ms) : RS m bs p :=
  ⟨⟨hY.lm m hm, hp, (hq.hm m hm).2, hpq.tr⟩, (hq.hm m hm).1, fun b hb => (hq.hb b hb).1, fun b hb => by have := lightP_lens (hY.lb b hb); omega⟩
set_option maxRecDepth 100000 in
set_option maxHeartbeats 4000000 in
theorem refwhy_any (a c : Option Addr) (ka kc : Nat) (ms : List Mac) (bs : List Bd) (p : Pd) (on : ByteArray) (w : World) (hY : YA w a ms c bs) (hP : PodAt w p) (hp : lightP p = true) (hyq : YQ ms bs) (hpq : PQ p) :
    Calls Tryz.prog 7 #[.slice a ms.length ka, .slice c bs.length kc, .agg (prow p).toArray, .string on] w fun e w' => e = .returned (.int .i64 (whyF ms bs p on)) ∧ Below w.heap.size w w' := by
  have hfi := fun V (hV : Below w.heap.size w V) => rfind_any a ka ms on V (hY.ml.mono hV) (by have := hY.mm; omega)
  have haw := fun V (hV : Below w.heap.size w V) => refawhy_any a c ka kc ms bs p on V (hY.mono hV) (hP.mono hV) hp hyq hpq
  obtain ⟨R, hR⟩ : ∃ R, whyF ms bs p on = R := ⟨_, rfl⟩
  rw [hR]
  unfold whyF at hR
  obtain ⟨W, hW⟩ : ∃ W, W = (w.alloc (.cells #[.string (p).nm, .int .i64 (p).n0, .int .i64 (p).n1, .int .i64 (p).n2, .int .i64 (p).n3, .int .i64 (p).n4, .slice (p).la (p).labs.length (p).lk, .slice (p).sa (p).sels.length (p).sk, .slice (p).ta (p).trms.length (p).tk, .slice (p).ba (p).bers.length (p).bk, .slice (p).pa (p).prts.length (p).pk, .slice (p).aa (p).aprs.length (p).ak, .bool (p).wd, .slice (p).da (p).spds.length (p).dk, .int .i64 (p).sw, .int .i64 (p).rk, .string (p).ow, .bool (p).dm, .bool (p).pn, .bool (p).lc] 31)) := ⟨_, rfl⟩
  have hX : Box w.heap.size (prow p) W := by rw [hW]; exact (Box.new w (prow p) 31)
  have hbw : Below w.heap.size w W := by rw [hW]; exact (Below.refl _ _).alloc (Nat.le_refl _) _
  have HB := Lib.hid hbw
  have HX := Lib.hid hX
  have HRp := Lib.hid (fun V (h : Box w.heap.size (prow p) V) => show V.rangeAt w.heap.size 0 [.string (p).nm, .int .i64 (p).n0, .int .i64 (p).n1, .int .i64 (p).n2, .int .i64 (p).n3, .int .i64 (p).n4, .slice (p).la (p).labs.length (p).lk, .slice (p).sa (p).sels.length (p).sk, .slice (p).ta (p).trms.length (p).tk, .slice (p).ba (p).bers.length (p).bk, .slice (p).pa (p).prts.length (p).pk, .slice (p).aa (p).aprs.length (p).ak, .bool (p).wd, .slice (p).da (p).spds.length (p).dk, .int .i64 (p).sw, .int .i64 (p).rk, .string (p).ow, .bool (p).dm, .bool (p).pn, .bool (p).lc] from h.range)
  obtain ⟨N, hN⟩ : ∃ N, bs.length = N := ⟨_, rfl⟩
  obtain ⟨n, hn⟩ : ∃ n, ms.length = n := ⟨_, rfl⟩
  rw [hn] at hfi
  rw [hn, hN] at haw ⊢
  show Calls Tryz.prog 7 #[.slice a n ka, .slice c N kc, .agg #[.string (p).nm, .int .i64 (p).n0, .int .i64 (p).n1, .int .i64 (p).n2, .int .i64 (p).n3, .int .i64 (p).n4, .slice (p).la (p).labs.length (p).lk, .slice (p).sa (p).sels.length (p).sk, .slice (p).ta (p).trms.length (p).tk, .slice (p).ba (p).bers.length (p).bk, .slice (p).pa (p).prts.length (p).pk, .slice (p).aa (p).aprs.length (p).ak, .bool (p).wd, .slice (p).da (p).spds.length (p).dk, .int .i64 (p).sw, .int .i64 (p).rk, .string (p).ow, .bool (p).dm, .bool (p).pn, .bool (p).lc], .string on] w _
  rcases find_cases ms on with ⟨h1, h2⟩ | ⟨i, m, h1, h2, h3, h4⟩
  · rw [h2] at hR
    subst hR
    rw [h1] at hfi
    have HFi := Lib.hid hfi
    clear hfi haw hX hbw hY hP hp hN hn h1 h2 hyq hpq
    go_enter Tryz.func7, Tryz.ntmps7
    go_upto_region 1 with (fail)
    rw [← hW]
    clear hW
    go_wp2_with (go_at_call 23; (with_reducible refine (HFi.out _ HB.out).mono ?_); rintro e w1 ⟨rfl, hb⟩; have HB1 := Lib.hid (HB.out.trans (hb.mono HB.out.size)); clear hb)
    go_ret
    exact ⟨rfl, HB1.out⟩
  · rw [h4] at hR
    rw [h1] at hfi
    have hin : i < n := by rw [← hn]; exact (List.getElem?_eq_some_iff.1 h2).1
    have hmm := List.mem_of_getElem? h2
    have HSu := Lib.hid (show ∀ V, Below w.heap.size w V → Calls Tryz.prog 24 #[.agg #[.string (m).nm, .string (m).gp, .int .i64 (m).r0, .int .i64 (m).r1, .int .i64 (m).r2, .int .i64 (m).r3, .int .i64 (m).r4, .slice (m).la (m).labs.length (m).lk, .slice (m).ta (m).tnts.length (m).tk, .bool (m).rd], .slice c N kc, .agg #[.string (p).nm, .int .i64 (p).n0, .int .i64 (p).n1, .int .i64 (p).n2, .int .i64 (p).n3, .int .i64 (p).n4, .slice (p).la (p).labs.length (p).lk, .slice (p).sa (p).sels.length (p).sk, .slice (p).ta (p).trms.length (p).tk, .slice (p).ba (p).bers.length (p).bk, .slice (p).pa (p).prts.length (p).pk, .slice (p).aa (p).aprs.length (p).ak, .bool (p).wd, .slice (p).da (p).spds.length (p).dk, .int .i64 (p).sw, .int .i64 (p).rk, .string (p).ow, .bool (p).dm, .bool (p).pn, .bool (p).lc]] V fun e w' => e = .returned (.int .i64 (suitS m bs p)) ∧ Below V.heap.size V w' from fun V hV => by
      have hYV := hY.mono hV
      have h9 := refsuits_any m c kc bs p V (hYV.mi m hmm).here hYV.bl (fun b hb => (hYV.bi b hb).here) (hP.mono hV) (rs_of hYV hp hyq hpq hmm) hY.bb
      rw [hN] at h9
      exact h9)
    obtain ⟨s, hs⟩ : ∃ s, suitS m bs p = s := ⟨_, rfl⟩
    obtain ⟨aw, haw'⟩ : ∃ s, apartW ms bs p on = s := ⟨_, rfl⟩
    rw [hs] at HSu
    rw [haw'] at haw
    have hR : (if s = 0 then aw else s) = R := by rw [← hs, ← haw']; exact hR
    have HFi := Lib.hid hfi
    have HAw := Lib.hid (show ∀ V, Below w.heap.size w V → Calls Tryz.prog 25 #[.slice a n ka, .slice c N kc, .agg #[.string (p).nm, .int .i64 (p).n0, .int .i64 (p).n1, .int .i64 (p).n2, .int .i64 (p).n3, .int .i64 (p).n4, .slice (p).la (p).labs.length (p).lk, .slice (p).sa (p).sels.length (p).sk, .slice (p).ta (p).trms.length (p).tk, .slice (p).ba (p).bers.length (p).bk, .slice (p).pa (p).prts.length (p).pk, .slice (p).aa (p).aprs.length (p).ak, .bool (p).wd, .slice (p).da (p).spds.length (p).dk, .int .i64 (p).sw, .int .i64 (p).rk, .string (p).ow, .bool (p).dm, .bool (p).pn, .bool (p).lc], .string on] V fun e w' => e = .returned (.int .i64 aw) ∧ Below V.heap.size V w' from haw)
    obtain ⟨q, o, rfl, hq, hc⟩ := (hY.mono hbw).ml (by omega)
    have HQ := Lib.hid (show W.rangeAt q (o + i * 10) [.string (m).nm, .string (m).gp, .int .i64 (m).r0, .int .i64 (m).r1, .int .i64 (m).r2, .int .i64 (m).r3, .int .i64 (m).r4, .slice (m).la (m).labs.length (m).lk, .slice (m).ta (m).tnts.length (m).tk, .bool (m).rd] from fun j v hj => by
      have hj10 : j < 10 := (List.getElem?_eq_some_iff.1 hj).1
      rw [hc i m h2 j hj10]
      exact hj)
    clear hfi haw hX hbw hY hP hp hN hn h1 h2 h3 h4 hs haw' hc hmm hyq hpq
    by_cases h0 : s = 0
    · subst h0
      rw [if_pos rfl] at hR
      subst hR
      go_enter Tryz.func7, Tryz.ntmps7
      go_upto_region 1 with (fail)
      rw [← hW]
      clear hW
      go_upto_region 4 with (go_at_call 23; (with_reducible refine (HFi.out _ HB.out).mono ?_); rintro e w1 ⟨rfl, hb⟩; have HB1 := Lib.hid (HB.out.trans (hb.mono HB.out.size)); have HX1 := Lib.hid (HX.out.mono hb); have HQ1 := Lib.hid (rangeAt_mono HQ.out hq hb); have hq1 := Nat.lt_of_lt_of_le hq hb.size; clear hb)
      have hlx := HX1.out.lt
      have HP1 := Lib.hid (HRp.out _ HX1.out)
      have hcH := held_cell
      refine region_rel (by kernel_rfl) (by kernel_rfl) ?_
      repeat
        ((with_reducible refine relStep (fun K hK => ?_))
         (have HK := Lib.hid hK)
         clear hK
         (apply relInl
          · intro r n hf
            have Hf := Lib.hid hf
            clear hf
            (first
              | ((first | ((with_reducible refine at_rel (ty := 37) ?_); refine rel_load rfl q (o + i * 10) rfl [.string (m).nm, .string (m).gp, .int .i64 (m).r0, .int .i64 (m).r1, .int .i64 (m).r2, .int .i64 (m).r3, .int .i64 (m).r4, .slice (m).la (m).labs.length (m).lk, .slice (m).ta (m).tnts.length (m).tk, .bool (m).rd] _ Tryz.underlying37 rfl (by kernel_rfl) (rangeAt_mono HQ1.out hq1 n.below) rfl) | ((with_reducible refine at_rel (ty := 31) ?_); refine rel_load rfl w.heap.size 0 rfl [.string (p).nm, .int .i64 (p).n0, .int .i64 (p).n1, .int .i64 (p).n2, .int .i64 (p).n3, .int .i64 (p).n4, .slice (p).la (p).labs.length (p).lk, .slice (p).sa (p).sels.length (p).sk, .slice (p).ta (p).trms.length (p).tk, .slice (p).ba (p).bers.length (p).bk, .slice (p).pa (p).prts.length (p).pk, .slice (p).aa (p).aprs.length (p).ak, .bool (p).wd, .slice (p).da (p).spds.length (p).dk, .int .i64 (p).sw, .int .i64 (p).rk, .string (p).ow, .bool (p).dm, .bool (p).pn, .bool (p).lc] _ Tryz.underlying31 rfl (by kernel_rfl) (rangeAt_mono HP1.out hlx n.below) rfl)))
              | (unfold relAt
                 go_simp
                 (first | (refine relUpon_val ?_ (Below.refl _ _); exact rfl) | exact rfl | (refine relUpon_enter ?_; (go_at_call 24; (with_reducible refine (HSu.out _ (HB1.out.trans (n.below.mono HB1.out.size))).mono ?_); rintro e w9 ⟨rfl, hb⟩; exact ⟨⟨_, rfl, rfl⟩, hb⟩)))))
          (simp only [Act.put, List.setIfInBounds_toArray, List.set_cons_zero, List.set_cons_succ])
          (with_reducible refine HK.out _ _ ?_)
          clear HK K))
      refine relNil ?_
      intro r9 n9 hx9
      clear hcH
      (try simp only [List.nil_append, List.cons_append, List.mem_cons, List.not_mem_nil, or_false, forall_eq_or_imp, forall_eq, false_implies, implies_true] at hx9)
      obtain ⟨w9, hb9⟩ := n9
      (try dsimp only)
      obtain ⟨hc9, hf9⟩ := bcell hb9
      have hz9 := hb9.size
      (try simp at hz9)
      have HB9 := Lib.hid (HB1.out.trans (hb9.mono HB1.out.size))
      have HX9 := Lib.hid (HX1.out.mono hb9)
      clear hb9 hc9 hf9 hz9 HP1 hlx HQ1
      go_wp2_with (first
        | ((with_reducible refine at_load (ty := 31) ?_); refine load_cells rfl 31 (.tmp 6) rfl w.heap.size 0 rfl [.string (p).nm, .int .i64 (p).n0, .int .i64 (p).n1, .int .i64 (p).n2, .int .i64 (p).n3, .int .i64 (p).n4, .slice (p).la (p).labs.length (p).lk, .slice (p).sa (p).sels.length (p).sk, .slice (p).ta (p).trms.length (p).tk, .slice (p).ba (p).bers.length (p).bk, .slice (p).pa (p).prts.length (p).pk, .slice (p).aa (p).aprs.length (p).ak, .bool (p).wd, .slice (p).da (p).spds.length (p).dk, .int .i64 (p).sw, .int .i64 (p).rk, .string (p).ow, .bool (p).dm, .bool (p).pn, .bool (p).lc] _ Tryz.underlying31 rfl (by kernel_rfl) (HRp.out _ HX9.out) ?_)
        | (go_at_call 25; (with_reducible refine (HAw.out _ HB9.out).mono ?_); rintro e w2 ⟨rfl, hb⟩; have HB2 := Lib.hid (HB9.out.trans (hb.mono HB9.out.size)); clear hb))
      go_ret
      exact ⟨rfl, by first | exact HB2.out | exact HB9.out⟩
    · have q0 : (s == 0) = false := by simpa using h0
      rw [if_neg h0] at hR
      subst hR
      go_enter Tryz.func7, Tryz.ntmps7
      go_upto_region 1 with (fail)
      rw [← hW]
      clear hW
      go_upto_region 4 with (go_at_call 23; (with_reducible refine (HFi.out _ HB.out).mono ?_); rintro e w1 ⟨rfl, hb⟩; have HB1 := Lib.hid (HB.out.trans (hb.mono HB.out.size)); have HX1 := Lib.hid (HX.out.mono hb); have HQ1 := Lib.hid (rangeAt_mono HQ.out hq hb); have hq1 := Nat.lt_of_lt_of_le hq hb.size; clear hb)
      have hlx := HX1.out.lt
      have HP1 := Lib.hid (HRp.out _ HX1.out)
      have hcH := held_cell
      refine region_rel (by kernel_rfl) (by kernel_rfl) ?_
      repeat
        ((with_reducible refine relStep (fun K hK => ?_))
         (have HK := Lib.hid hK)
         clear hK
         (apply relInl
          · intro r n hf
            have Hf := Lib.hid hf
            clear hf
            (first
              | ((first | ((with_reducible refine at_rel (ty := 37) ?_); refine rel_load rfl q (o + i * 10) rfl [.string (m).nm, .string (m).gp, .int .i64 (m).r0, .int .i64 (m).r1, .int .i64 (m).r2, .int .i64 (m).r3, .int .i64 (m).r4, .slice (m).la (m).labs.length (m).lk, .slice (m).ta (m).tnts.length (m).tk, .bool (m).rd] _ Tryz.underlying37 rfl (by kernel_rfl) (rangeAt_mono HQ1.out hq1 n.below) rfl) | ((with_reducible refine at_rel (ty := 31) ?_); refine rel_load rfl w.heap.size 0 rfl [.string (p).nm, .int .i64 (p).n0, .int .i64 (p).n1, .int .i64 (p).n2, .int .i64 (p).n3, .int .i64 (p).n4, .slice (p).la (p).labs.length (p).lk, .slice (p).sa (p).sels.length (p).sk, .slice (p).ta (p).trms.length (p).tk, .slice (p).ba (p).bers.length (p).bk, .slice (p).pa (p).prts.length (p).pk, .slice (p).aa (p).aprs.length (p).ak, .bool (p).wd, .slice (p).da (p).spds.length (p).dk, .int .i64 (p).sw, .int .i64 (p).rk, .string (p).ow, .bool (p).dm, .bool (p).pn, .bool (p).lc] _ Tryz.underlying31 rfl (by kernel_rfl) (rangeAt_mono HP1.out hlx n.below) rfl)))
              | (unfold relAt
                 go_simp
                 (first | (refine relUpon_val ?_ (Below.refl _ _); exact rfl) | exact rfl | (refine relUpon_enter ?_; (go_at_call 24; (with_reducible refine (HSu.out _ (HB1.out.trans (n.below.mono HB1.out.size))).mono ?_); rintro e w9 ⟨rfl, hb⟩; exact ⟨⟨_, rfl, rfl⟩, hb⟩)))))
          (simp only [Act.put, List.setIfInBounds_toArray, List.set_cons_zero, List.set_cons_succ])
          (with_reducible refine HK.out _ _ ?_)
          clear HK K))
      refine relNil ?_
      intro r9 n9 hx9
      clear hcH
      (try simp only [List.nil_append, List.cons_append, List.mem_cons, List.not_mem_nil, or_false, forall_eq_or_imp, forall_eq, false_implies, implies_true] at hx9)
      obtain ⟨w9, hb9⟩ := n9
      (try dsimp only)
      obtain ⟨hc9, hf9⟩ := bcell hb9
      have hz9 := hb9.size
      (try simp at hz9)
      have HB9 := Lib.hid (HB1.out.trans (hb9.mono HB1.out.size))
      have HX9 := Lib.hid (HX1.out.mono hb9)
      clear hb9 hc9 hf9 hz9 HP1 hlx HQ1
      go_wp2_with (first
        | ((with_reducible refine at_load (ty := 31) ?_); refine load_cells rfl 31 (.tmp 6) rfl w.heap.size 0 rfl [.string (p).nm, .int .i64 (p).n0, .int .i64 (p).n1, .int .i64 (p).n2, .int .i64 (p).n3, .int .i64 (p).n4, .slice (p).la (p).labs.length (p).lk, .slice (p).sa (p).sels.length (p).sk, .slice (p).ta (p).trms.length (p).tk, .slice (p).ba (p).bers.length (p).bk, .slice (p).pa (p).prts.length (p).pk, .slice (p).aa (p).aprs.length (p).ak, .bool (p).wd, .slice (p).da (p).spds.length (p).dk, .int .i64 (p).sw, .int .i64 (p).rk, .string (p).ow, .bool (p).dm, .bool (p).pn, .bool (p).lc] _ Tryz.underlying31 rfl (by kernel_rfl) (HRp.out _ HX9.out) ?_)
        | (go_at_call 25; (with_reducible refine (HAw.out _ HB9.out).mono ?_); rintro e w2 ⟨rfl, hb⟩; have HB2 := Lib.hid (HB9.out.trans (hb.mono HB9.out.size)); clear hb))
      go_ret
      exact ⟨rfl, by first | exact HB2.out | exact HB9.out⟩
set_option maxRecDepth 100000 in
set_option maxHeartbeats 4000000 in
theorem refwhere_any (a c : Option Addr) (ka kc : Nat) (ms : List Mac) (bs : List Bd) (p : Pd) (w : World) (hY : YA w a ms c bs) (hP : PodAt w p) (hp : lightP p = true) (hyq : YQ ms bs) (hpq : PQ p) :
    Calls Tryz.prog 10 #[.slice a ms.length ka, .slice c bs.length kc, .agg (prow p).toArray] w (GivesT w (whereF ms bs p)) := by
  obtain ⟨N, hN⟩ : ∃ N, bs.length = N := ⟨_, rfl⟩
  obtain ⟨n, hn⟩ : ∃ n, ms.length = n := ⟨_, rfl⟩
  have HWy := Lib.hid (show ∀ (x : ByteArray) V, Below w.heap.size w V → Calls Tryz.prog 7 #[.slice a n ka, .slice c N kc, .agg #[.string (p).nm, .int .i64 (p).n0, .int .i64 (p).n1, .int .i64 (p).n2, .int .i64 (p).n3, .int .i64 (p).n4, .slice (p).la (p).labs.length (p).lk, .slice (p).sa (p).sels.length (p).sk, .slice (p).ta (p).trms.length (p).tk, .slice (p).ba (p).bers.length (p).bk, .slice (p).pa (p).prts.length (p).pk, .slice (p).aa (p).aprs.length (p).ak, .bool (p).wd, .slice (p).da (p).spds.length (p).dk, .int .i64 (p).sw, .int .i64 (p).rk, .string (p).ow, .bool (p).dm, .bool (p).pn, .bool (p).lc], .string x] V fun e w' => e = .returned (.int .i64 (whyF ms bs p x)) ∧ Below V.heap.size V w' from fun x V hV => by
    have h9 := refwhy_any a c ka kc ms bs p x V (hY.mono hV) (hP.mono hV) hp hyq hpq
    rw [hn, hN] at h9
    exact h9)
  obtain ⟨W, hW⟩ : ∃ W, W = (w.alloc (.cells #[.string (p).nm, .int .i64 (p).n0, .int .i64 (p).n1, .int .i64 (p).n2, .int .i64 (p).n3, .int .i64 (p).n4, .slice (p).la (p).labs.length (p).lk, .slice (p).sa (p).sels.length (p).sk, .slice (p).ta (p).trms.length (p).tk, .slice (p).ba (p).bers.length (p).bk, .slice (p).pa (p).prts.length (p).pk, .slice (p).aa (p).aprs.length (p).ak, .bool (p).wd, .slice (p).da (p).spds.length (p).dk, .int .i64 (p).sw, .int .i64 (p).rk, .string (p).ow, .bool (p).dm, .bool (p).pn, .bool (p).lc] 31)) := ⟨_, rfl⟩
  have hX : Box w.heap.size (prow p) W := by rw [hW]; exact (Box.new w (prow p) 31)
  have hbw : Below w.heap.size w W := by rw [hW]; exact (Below.refl _ _).alloc (Nat.le_refl _) _
  have HB := Lib.hid hbw
  have HX := Lib.hid hX
  have HYA := Lib.hid hY
  have Hn := Lib.hid hn
  have hnb := hY.mm
  rw [hn] at hnb
  rw [hn, hN, where_eq]
  obtain ⟨i0, hi, hz0, hz1, hz2⟩ := info_parts Tryz.info9
  have Hi := Lib.hid hi
  have Hz0 := Lib.hid hz0
  have Hz1 := Lib.hid hz1
  have Hz2 := Lib.hid hz2
  clear hi hz0 hz1 hz2
  show Calls Tryz.prog 10 #[.slice a n ka, .slice c N kc, .agg #[.string (p).nm, .int .i64 (p).n0, .int .i64 (p).n1, .int .i64 (p).n2, .int .i64 (p).n3, .int .i64 (p).n4, .slice (p).la (p).labs.length (p).lk, .slice (p).sa (p).sels.length (p).sk, .slice (p).ta (p).trms.length (p).tk, .slice (p).ba (p).bers.length (p).bk, .slice (p).pa (p).prts.length (p).pk, .slice (p).aa (p).aprs.length (p).ak, .bool (p).wd, .slice (p).da (p).spds.length (p).dk, .int .i64 (p).sw, .int .i64 (p).rk, .string (p).ow, .bool (p).dm, .bool (p).pn, .bool (p).lc]] w _
  clear hX hbw hY hP hp hN hn hyq hpq
  go_enter Tryz.func10, Tryz.ntmps10
  go_upto_region 1 with (fail)
  rw [← hW]
  clear hW
  go_wp2
  go_loopw [7, 8] (fun vo vi wr => ∃ (k : Nat) (Q : List ByteArray), k ≤ n ∧ vi = .int .i64 k ∧ Q = ((ms.take k).filter (isOk ms bs p)).map Mac.nm ∧ Q.length ≤ k ∧ wr.ownsRow W.heap.size 9 1 vo Q.length (Q.flatMap scs) ∧ Below W.heap.size W wr) (fun _ vi _ => n - (intOf vi).toNat)
  case atStart => exact ⟨0, [], Nat.zero_le _, rfl, rfl, Nat.le_refl _, World.ownsRow_nil _ _ _ _, Below.refl _ _⟩
  case round =>
    obtain ⟨k, Q, hk, rfl, hE, hLk, hO, hB⟩ := hrel
    have HE := Lib.hid hE
    have HBr := Lib.hid hB
    have HO := Lib.hid hO
    have hbz := hB.size
    obtain ⟨ao, ko, rfl⟩ := own_sl hO
    by_cases hlt : k < n
    · obtain ⟨m, hm⟩ := mem_at (l := ms) (k := k) (by rw [Hn.out]; exact hlt)
      have hbwr := HB.out.trans (hB.mono HB.out.size)
      obtain ⟨b, f, rfl, hb, hd⟩ := (HYA.out.ml.mono hbwr) (by rw [Hn.out]; omega)
      have d0 : wr.cell? ⟨b, f + k * 10, none⟩ = some (.string m.nm) := hd k m hm 0 (by decide)
      have HD0 := Lib.hid d0
      have hlx := (HX.out.mono hB).lt
      have HRx := Lib.hid (show wr.rangeAt w.heap.size 0 [.string (p).nm, .int .i64 (p).n0, .int .i64 (p).n1, .int .i64 (p).n2, .int .i64 (p).n3, .int .i64 (p).n4, .slice (p).la (p).labs.length (p).lk, .slice (p).sa (p).sels.length (p).sk, .slice (p).ta (p).trms.length (p).tk, .slice (p).ba (p).bers.length (p).bk, .slice (p).pa (p).prts.length (p).pk, .slice (p).aa (p).aprs.length (p).ak, .bool (p).wd, .slice (p).da (p).spds.length (p).dk, .int .i64 (p).sw, .int .i64 (p).rk, .string (p).ow, .bool (p).dm, .bool (p).pn, .bool (p).lc] from (HX.out.mono hB).range)
      have HWm := Lib.hid (show ∀ V, Below wr.heap.size wr V → Calls Tryz.prog 7 #[.slice (some ⟨b, f, none⟩) n ka, .slice c N kc, .agg #[.string (p).nm, .int .i64 (p).n0, .int .i64 (p).n1, .int .i64 (p).n2, .int .i64 (p).n3, .int .i64 (p).n4, .slice (p).la (p).labs.length (p).lk, .slice (p).sa (p).sels.length (p).sk, .slice (p).ta (p).trms.length (p).tk, .slice (p).ba (p).bers.length (p).bk, .slice (p).pa (p).prts.length (p).pk, .slice (p).aa (p).aprs.length (p).ak, .bool (p).wd, .slice (p).da (p).spds.length (p).dk, .int .i64 (p).sw, .int .i64 (p).rk, .string (p).ow, .bool (p).dm, .bool (p).pn, .bool (p).lc], .string m.nm] V fun e w' => e = .returned (.int .i64 (whyF ms bs p m.nm)) ∧ Below V.heap.size V w' from fun V hV => HWy.out m.nm V (hbwr.trans (hV.mono hbwr.size)))
      have hnx := where_next hm (isOk ms bs p)
      rw [← hE] at hnx
      have hi : isOk ms bs p m = decide (whyF ms bs p m.nm = 0) := rfl
      rw [hi] at hnx
      obtain ⟨r, hr⟩ : ∃ r, whyF ms bs p m.nm = r := ⟨_, rfl⟩
      rw [hr] at HWm hnx
      obtain ⟨nm, hnm⟩ : ∃ nm, m.nm = nm := ⟨_, rfl⟩
      rw [hnm] at d0 HD0 HWm hnx
      clear hE hO hB hd hm hi hr hnm hbwr
      by_cases h0 : r = 0
      · subst h0
        rw [if_pos (by decide)] at hnx
        have HNx := Lib.hid hnx.symm
        clear hnx
        go_upto_region 5 with (fail)
        have hcH := held_cell
        refine region_rel (by kernel_rfl) (by kernel_rfl) ?_
        repeat
          ((with_reducible refine relStep (fun K hK => ?_))
           (have HK := Lib.hid hK)
           clear hK
           (apply relInl
            · intro r n hf
              have Hf := Lib.hid hf
              clear hf
              (first
                | (((with_reducible refine at_rel (ty := 31) ?_); refine rel_load rfl w.heap.size 0 rfl _ _ Tryz.underlying31 rfl (by kernel_rfl) (rangeAt_mono HRx.out hlx n.below) rfl))
                | (unfold relAt
                   go_simp
                   (first | (refine relUpon_val ?_ (Below.refl _ _); exact rfl) | exact rfl | (refine relUpon_enter ?_; (go_at_call 7; (with_reducible refine (HWm.out _ n.below).mono ?_); rintro e w9 ⟨rfl, hb⟩; exact ⟨⟨_, rfl, rfl⟩, hb⟩)))))
            (simp only [Act.put, List.setIfInBounds_toArray, List.set_cons_zero, List.set_cons_succ])
            (with_reducible refine HK.out _ _ ?_)
            clear HK K))
        refine relNil ?_
        intro r9 n9 hx9
        clear hcH
        (try simp only [List.nil_append, List.cons_append, List.mem_cons, List.not_mem_nil, or_false, forall_eq_or_imp, forall_eq, false_implies, implies_true] at hx9)
        obtain ⟨w9, hb9⟩ := n9
        (try dsimp only)
        obtain ⟨hc9, hf9⟩ := bcell hb9
        have hz9 := hb9.size
        (try simp at hz9)
        have HZ9 := Lib.hid hb9
        have HB9 := Lib.hid (HBr.out.trans (hb9.mono HBr.out.size))
        have HO9 := Lib.hid (own_kept HO.out hb9)
        have hbz9 := HB9.out.size
        clear hb9 hc9 hf9 hz9 d0 hlx
        have e0 : w9.cell? ⟨b, f + k * 10, none⟩ = some (.string nm) := (HZ9.out.cell (p := ⟨b, f + k * 10, none⟩) hb).trans HD0.out
        have hb9 : b < w9.heap.size := Nat.lt_of_lt_of_le hb HZ9.out.size
        go_wp2_with (at_builtin; refine wpList_append_src rfl (.tmp 25) (.tmp 31) 39 rfl W.heap.size 9 i0 _ 1 16 Tryz.underlying39 Hi.out Hz0.out Hz1.out Hz2.out rfl (by decide) _ Q.length (Q.flatMap scs) rfl (HO9.out.alloc _) (some ⟨w9.heap.size, 0, none⟩) 1 1 (scs nm) rfl rfl (fun q e => by injection e with e; rw [← e]; exact news_at _ _ _) (fun e => by cases e) (scs_one nm) (by unfold maxLen; omega) (by omega) (by simp; omega) ?_; intro v6 w6 hown6 hgrow6; obtain ⟨a6, k6, rfl⟩ := own_sl hown6; have HB6 := Lib.hid (own_below (HO9.out.alloc _) (HB9.out.alloc hbz9 _) (by simp; omega) hgrow6); have HO6 := Lib.hid hown6; clear hown6 hgrow6)
        go_roundw
        case rel =>
          refine ⟨k + 1, Q ++ [nm], by omega, by go_num, HNx.out, by rw [List.length_append]; show Q.length + 1 ≤ _; omega, ?_, HB6.out⟩
          rw [List.length_append, List.flatMap_append]
          have h9 := HO6.out
          simpa using h9
        case measure => simp [intOf]; omega
      · have q0 : (r == 0) = false := by simpa using h0
        rw [if_neg (by rw [decide_eq_false h0]; exact Bool.false_ne_true), List.append_nil] at hnx
        have HNx := Lib.hid hnx.symm
        clear hnx h0
        go_upto_region 5 with (fail)
        have hcH := held_cell
        refine region_rel (by kernel_rfl) (by kernel_rfl) ?_
        repeat
          ((with_reducible refine relStep (fun K hK => ?_))
           (have HK := Lib.hid hK)
           clear hK
           (apply relInl
            · intro r n hf
              have Hf := Lib.hid hf
              clear hf
              (first
                | (((with_reducible refine at_rel (ty := 31) ?_); refine rel_load rfl w.heap.size 0 rfl _ _ Tryz.underlying31 rfl (by kernel_rfl) (rangeAt_mono HRx.out hlx n.below) rfl))
                | (unfold relAt
                   go_simp
                   (first | (refine relUpon_val ?_ (Below.refl _ _); exact rfl) | exact rfl | (refine relUpon_enter ?_; (go_at_call 7; (with_reducible refine (HWm.out _ n.below).mono ?_); rintro e w9 ⟨rfl, hb⟩; exact ⟨⟨_, rfl, rfl⟩, hb⟩)))))
            (simp only [Act.put, List.setIfInBounds_toArray, List.set_cons_zero, List.set_cons_succ])
            (with_reducible refine HK.out _ _ ?_)
            clear HK K))
        refine relNil ?_
        intro r9 n9 hx9
        clear hcH
        (try simp only [List.nil_append, List.cons_append, List.mem_cons, List.not_mem_nil, or_false, forall_eq_or_imp, forall_eq, false_implies, implies_true] at hx9)
        obtain ⟨w9, hb9⟩ := n9
        (try dsimp only)
        obtain ⟨hc9, hf9⟩ := bcell hb9
        have hz9 := hb9.size
        (try simp at hz9)
        have HZ9 := Lib.hid hb9
        have HB9 := Lib.hid (HBr.out.trans (hb9.mono HBr.out.size))
        have HO9 := Lib.hid (own_kept HO.out hb9)
        have hbz9 := HB9.out.size
        clear hb9 hc9 hf9 hz9 d0 hlx
        go_wp2
        go_roundw
        case rel => exact ⟨k + 1, Q, by omega, by go_num, HNx.out, by omega, HO9.out, HB9.out⟩
        case measure => simp [intOf]; omega
    · obtain rfl : k = n := by omega
      have HL := Lib.hid (show Q = (ms.filter (isOk ms bs p)).map Mac.nm by rw [hE, List.take_of_length_le (by rw [Hn.out]; exact Nat.le_refl _)])
      have HBf := Lib.hid (HB.out.trans (hB.mono HB.out.size))
      have HOf := Lib.hid (own_base hO HB.out.size)
      clear hE hO hB
      go_wp2
      refine bodyPost_ret (v := .slice ao Q.length ko) (by simp [results, Tryz.results10, go_sem]) rfl ⟨⟨_, rfl, by rw [← HL.out]; exact HOf.out⟩, HBf.out⟩
set_option maxRecDepth 100000 in
set_option maxHeartbeats 8000000 in
theorem reftally_any (a c : Option Addr) (ka kc : Nat) (ms : List Mac) (bs : List Bd) (p : Pd) (w : World) (hY : YA w a ms c bs) (hP : PodAt w p) (hp : lightP p = true) (hyq : YQ ms bs) (hpq : PQ p) :
    Calls Tryz.prog 12 #[.slice a ms.length ka, .slice c bs.length kc, .agg (prow p).toArray] w fun e w' => e = .returned (.agg (tcl (whyL ms bs p)).toArray) ∧ Below w.heap.size w w' := by
  obtain ⟨N, hN⟩ : ∃ N, bs.length = N := ⟨_, rfl⟩
  obtain ⟨n, hn⟩ : ∃ n, ms.length = n := ⟨_, rfl⟩
  have HWy := Lib.hid (show ∀ (x : ByteArray) V, Below w.heap.size w V → Calls Tryz.prog 7 #[.slice a n ka, .slice c N kc, .agg #[.string (p).nm, .int .i64 (p).n0, .int .i64 (p).n1, .int .i64 (p).n2, .int .i64 (p).n3, .int .i64 (p).n4, .slice (p).la (p).labs.length (p).lk, .slice (p).sa (p).sels.length (p).sk, .slice (p).ta (p).trms.length (p).tk, .slice (p).ba (p).bers.length (p).bk, .slice (p).pa (p).prts.length (p).pk, .slice (p).aa (p).aprs.length (p).ak, .bool (p).wd, .slice (p).da (p).spds.length (p).dk, .int .i64 (p).sw, .int .i64 (p).rk, .string (p).ow, .bool (p).dm, .bool (p).pn, .bool (p).lc], .string x] V fun e w' => e = .returned (.int .i64 (whyF ms bs p x)) ∧ Below V.heap.size V w' from fun x V hV => by
    have h9 := refwhy_any a c ka kc ms bs p x V (hY.mono hV) (hP.mono hV) hp hyq hpq
    rw [hn, hN] at h9
    exact h9)
  obtain ⟨z0, z1⟩ := zero_of_info Tryz.info41
  obtain ⟨W, hW⟩ : ∃ W, W = ((w.alloc (.cells #[.string (p).nm, .int .i64 (p).n0, .int .i64 (p).n1, .int .i64 (p).n2, .int .i64 (p).n3, .int .i64 (p).n4, .slice (p).la (p).labs.length (p).lk, .slice (p).sa (p).sels.length (p).sk, .slice (p).ta (p).trms.length (p).tk, .slice (p).ba (p).bers.length (p).bk, .slice (p).pa (p).prts.length (p).pk, .slice (p).aa (p).aprs.length (p).ak, .bool (p).wd, .slice (p).da (p).spds.length (p).dk, .int .i64 (p).sw, .int .i64 (p).rk, .string (p).ow, .bool (p).dm, .bool (p).pn, .bool (p).lc] 31)).alloc (.cells (tcl []).toArray 41)).alloc (.cells (tcl []).toArray 41) := ⟨_, rfl⟩
  have hX : Box w.heap.size (prow p) W := by rw [hW]; exact ((Box.new w (prow p) 31).mono ((Below.refl _ _).alloc (Nat.le_refl _) _)).mono ((Below.refl _ _).alloc (Nat.le_refl _) _)
  have hbw : Below w.heap.size w W := by rw [hW]; exact (((Below.refl _ _).alloc (Nat.le_refl _) _).alloc (by simp) _).alloc (by simp; omega) _
  have hR : Blk W (w.heap.size + 1) 41 (tcl []) := by
    rw [hW]
    have h9 := Blk.new (w.alloc (.cells #[.string (p).nm, .int .i64 (p).n0, .int .i64 (p).n1, .int .i64 (p).n2, .int .i64 (p).n3, .int .i64 (p).n4, .slice (p).la (p).labs.length (p).lk, .slice (p).sa (p).sels.length (p).sk, .slice (p).ta (p).trms.length (p).tk, .slice (p).ba (p).bers.length (p).bk, .slice (p).pa (p).prts.length (p).pk, .slice (p).aa (p).aprs.length (p).ak, .bool (p).wd, .slice (p).da (p).spds.length (p).dk, .int .i64 (p).sw, .int .i64 (p).rk, .string (p).ow, .bool (p).dm, .bool (p).pn, .bool (p).lc] 31)) 41 (tcl [])
    rw [World.size_alloc] at h9
    exact h9.alloc _
  have hT : Blk W (w.heap.size + 1 + 1) 41 (tcl []) := by
    rw [hW]
    have h9 := Blk.new ((w.alloc (.cells #[.string (p).nm, .int .i64 (p).n0, .int .i64 (p).n1, .int .i64 (p).n2, .int .i64 (p).n3, .int .i64 (p).n4, .slice (p).la (p).labs.length (p).lk, .slice (p).sa (p).sels.length (p).sk, .slice (p).ta (p).trms.length (p).tk, .slice (p).ba (p).bers.length (p).bk, .slice (p).pa (p).prts.length (p).pk, .slice (p).aa (p).aprs.length (p).ak, .bool (p).wd, .slice (p).da (p).spds.length (p).dk, .int .i64 (p).sw, .int .i64 (p).rk, .string (p).ow, .bool (p).dm, .bool (p).pn, .bool (p).lc] 31)).alloc (.cells (tcl []).toArray 41)) 41 (tcl [])
    rw [World.size_alloc, World.size_alloc] at h9
    exact h9
  have HB := Lib.hid hbw
  have HR := Lib.hid hR
  have HT := Lib.hid hT
  have HX := Lib.hid hX
  have HYA := Lib.hid hY
  have Hn := Lib.hid hn
  have hnb := hY.mm
  rw [hn] at hnb
  obtain ⟨L, hL⟩ : ∃ L, whyL ms bs p = L := ⟨_, rfl⟩
  have HLr := Lib.hid (show ∀ (k : Nat) (m : Mac), ms[k]? = some m → ∃ q : Nat, q < 9 ∧ L[k]? = some (q : Int) ∧ whyF ms bs p m.nm = (q : Int) from fun k m hm => by
    have h9 := whyL_at (bs := bs) (p := p) hm
    have h8 := whyF_range ms bs p m.nm
    refine ⟨(whyF ms bs p m.nm).toNat, by omega, ?_, by omega⟩
    rw [← hL, h9]
    congr 1
    omega)
  have HLl := Lib.hid (show L.length = n by rw [← hL]; unfold whyL; rw [List.length_map, hn])
  rw [hL]
  rw [hn, hN]
  obtain ⟨T', hTT'⟩ : ∃ T, w.heap.size + 1 = T := ⟨_, rfl⟩
  have hWT : T' + 1 < W.heap.size := by rw [← hTT']; exact hT.lt
  rw [hTT'] at HR HT
  have htt : w.heap.size ≤ T' + 1 ∧ T' + 1 ≠ T' ∧ w.heap.size ≠ T' + 1 := by omega
  show Calls Tryz.prog 12 #[.slice a n ka, .slice c N kc, .agg #[.string (p).nm, .int .i64 (p).n0, .int .i64 (p).n1, .int .i64 (p).n2, .int .i64 (p).n3, .int .i64 (p).n4, .slice (p).la (p).labs.length (p).lk, .slice (p).sa (p).sels.length (p).sk, .slice (p).ta (p).trms.length (p).tk, .slice (p).ba (p).bers.length (p).bk, .slice (p).pa (p).prts.length (p).pk, .slice (p).aa (p).aprs.length (p).ak, .bool (p).wd, .slice (p).da (p).spds.length (p).dk, .int .i64 (p).sw, .int .i64 (p).rk, .string (p).ow, .bool (p).dm, .bool (p).pn, .bool (p).lc]] w _
  replace hW : W = ((w.alloc (.cells #[.string (p).nm, .int .i64 (p).n0, .int .i64 (p).n1, .int .i64 (p).n2, .int .i64 (p).n3, .int .i64 (p).n4, .slice (p).la (p).labs.length (p).lk, .slice (p).sa (p).sels.length (p).sk, .slice (p).ta (p).trms.length (p).tk, .slice (p).ba (p).bers.length (p).bk, .slice (p).pa (p).prts.length (p).pk, .slice (p).aa (p).aprs.length (p).ak, .bool (p).wd, .slice (p).da (p).spds.length (p).dk, .int .i64 (p).sw, .int .i64 (p).rk, .string (p).ow, .bool (p).dm, .bool (p).pn, .bool (p).lc] 31)).alloc (.cells #[.int .i64 0, .int .i64 0, .int .i64 0, .int .i64 0, .int .i64 0, .int .i64 0, .int .i64 0, .int .i64 0, .int .i64 0] 41)).alloc (.cells #[.int .i64 0, .int .i64 0, .int .i64 0, .int .i64 0, .int .i64 0, .int .i64 0, .int .i64 0, .int .i64 0, .int .i64 0] 41) := hW
  clear hX hbw hY hP hp hN hn hR hT hL hyq hpq
  go_enter Tryz.func12, Tryz.ntmps12
  go_upto_region 2 with (fail)
  rw [← hW]
  clear hW
  (try rw [hTT'])
  clear hTT'
  go_wp2
  go_loopw [8] (fun vi wr => ∃ k : Nat, k ≤ n ∧ vi = .int .i64 k ∧ Blk wr (T' + 1) 41 (tcl (L.take k)) ∧ Only [T' + 1] W wr) (fun vi _ => n - (intOf vi).toNat)
  case atStart => exact ⟨0, Nat.zero_le _, rfl, HT.out, Only.refl _ _⟩
  case round =>
    obtain ⟨k, hk, rfl, hT, hO⟩ := hrel
    have HT := Lib.hid hT
    have HO := Lib.hid hO
    have hB := hO.below1 HB.out HB.out.size htt.1
    have HBr := Lib.hid hB
    by_cases hlt : k < n
    · obtain ⟨m, hm⟩ := mem_at (l := ms) (k := k) (by rw [Hn.out]; exact hlt)
      obtain ⟨r, hr9, hLk, hwr⟩ := HLr.out k m hm
      obtain ⟨b, f, rfl, hb, hd⟩ := (HYA.out.ml.mono hB) (by rw [Hn.out]; omega)
      have d0 : wr.cell? ⟨b, f + k * 10, none⟩ = some (.string m.nm) := hd k m hm 0 (by decide)
      have hxr : Box w.heap.size (prow p) wr := HX.out.only hO (by have := htt.2.2; simp; omega)
      have hlx := hxr.lt
      have HRx := Lib.hid (show wr.rangeAt w.heap.size 0 [.string (p).nm, .int .i64 (p).n0, .int .i64 (p).n1, .int .i64 (p).n2, .int .i64 (p).n3, .int .i64 (p).n4, .slice (p).la (p).labs.length (p).lk, .slice (p).sa (p).sels.length (p).sk, .slice (p).ta (p).trms.length (p).tk, .slice (p).ba (p).bers.length (p).bk, .slice (p).pa (p).prts.length (p).pk, .slice (p).aa (p).aprs.length (p).ak, .bool (p).wd, .slice (p).da (p).spds.length (p).dk, .int .i64 (p).sw, .int .i64 (p).rk, .string (p).ow, .bool (p).dm, .bool (p).pn, .bool (p).lc] from hxr.range)
      have HWm := Lib.hid (show ∀ V, Below wr.heap.size wr V → Calls Tryz.prog 7 #[.slice (some ⟨b, f, none⟩) n ka, .slice c N kc, .agg #[.string (p).nm, .int .i64 (p).n0, .int .i64 (p).n1, .int .i64 (p).n2, .int .i64 (p).n3, .int .i64 (p).n4, .slice (p).la (p).labs.length (p).lk, .slice (p).sa (p).sels.length (p).sk, .slice (p).ta (p).trms.length (p).tk, .slice (p).ba (p).bers.length (p).bk, .slice (p).pa (p).prts.length (p).pk, .slice (p).aa (p).aprs.length (p).ak, .bool (p).wd, .slice (p).da (p).spds.length (p).dk, .int .i64 (p).sw, .int .i64 (p).rk, .string (p).ow, .bool (p).dm, .bool (p).pn, .bool (p).lc], .string m.nm] V fun e w' => e = .returned (.int .i64 (r : Int)) ∧ Below V.heap.size V w' from fun V hV => by
        have h9 := HWy.out m.nm V (HBr.out.trans (hV.mono HBr.out.size))
        rw [hwr] at h9
        exact h9)
      have e0 : wr.cell? ⟨T' + 1, r, none⟩ = some (.int .i64 (tc (L.take k) (r : Int) : Nat)) := (hT.cell r).trans (tcl_at _ hr9)
      have hlT := hT.lt
      have hr10 : ((r : Int) < 9) = True := eq_true (by omega)
      have HNx := Lib.hid (tcl_next hLk hr9)
      have htl := tc_le (L.take k) (r : Int)
      have htk := List.length_take_le k L
      obtain ⟨t, ht⟩ : ∃ t, tc (L.take k) (r : Int) = t := ⟨_, rfl⟩
      rw [ht] at e0 HNx htl
      have hw9 : IntKind.i64.wrap ((t : Int) + 1) = (t : Int) + 1 := wrap_in (by omega) (by omega)
      clear hT hO hd hLk ht hm hwr hxr hB
      go_upto_region 5 with (fail)
      have hcH := held_cell
      refine region_rel_tail 13 (by kernel_rfl) (by kernel_rfl) (by kernel_rfl) ?_
      dsimp only [List.take, List.drop]
      repeat
        ((with_reducible refine relStep (fun K hK => ?_))
         (have HK := Lib.hid hK)
         clear hK
         (apply relInl
          · intro r n hf
            have Hf := Lib.hid hf
            clear hf
            (first
              | (((with_reducible refine at_rel (ty := 31) ?_); refine rel_load rfl w.heap.size 0 rfl [.string (p).nm, .int .i64 (p).n0, .int .i64 (p).n1, .int .i64 (p).n2, .int .i64 (p).n3, .int .i64 (p).n4, .slice (p).la (p).labs.length (p).lk, .slice (p).sa (p).sels.length (p).sk, .slice (p).ta (p).trms.length (p).tk, .slice (p).ba (p).bers.length (p).bk, .slice (p).pa (p).prts.length (p).pk, .slice (p).aa (p).aprs.length (p).ak, .bool (p).wd, .slice (p).da (p).spds.length (p).dk, .int .i64 (p).sw, .int .i64 (p).rk, .string (p).ow, .bool (p).dm, .bool (p).pn, .bool (p).lc] _ Tryz.underlying31 rfl (by kernel_rfl) (rangeAt_mono HRx.out hlx n.below) rfl))
              | (unfold relAt
                 go_simp
                 (first | (refine relUpon_val ?_ (Below.refl _ _); exact rfl) | exact rfl | (refine relUpon_enter ?_; (go_at_call 7; (with_reducible refine (HWm.out _ n.below).mono ?_); rintro e w9 ⟨rfl, hb⟩; exact ⟨⟨_, rfl, rfl⟩, hb⟩)))))
          (simp only [Act.put, List.setIfInBounds_toArray, List.set_cons_zero, List.set_cons_succ])
          (with_reducible refine HK.out _ _ ?_)
          clear HK K))
      refine relNil ?_
      intro r9 n9 hx9
      clear hcH
      (try simp only [List.nil_append, List.cons_append, List.mem_cons, List.not_mem_nil, or_false, forall_eq_or_imp, forall_eq, false_implies, implies_true] at hx9)
      obtain ⟨w9, hb9⟩ := n9
      (try dsimp only)
      obtain ⟨hc9, hf9⟩ := bcell hb9
      have hz9 := hb9.size
      (try simp at hz9)
      have HT9 := Lib.hid (HT.out.below hb9)
      have HO9 := Lib.hid (HO.out.step1 hb9)
      have g0 := HT9.out.frozen r
      have g1 : w9.cell? ⟨T' + 1, r, none⟩ = some (.int .i64 t) := (hb9.cell (p := ⟨T' + 1, r, none⟩) hlT).trans e0
      have hl9 := HT9.out.lt
      clear hb9 hc9 hf9 hz9 e0 hlT d0
      go_wp2
      go_roundw
      case rel => exact ⟨k + 1, by omega, by go_num, by rw [← HNx.out]; exact HT9.out.set r _, HO9.out.setCell (.inl (by simp)) _⟩
      case measure => simp [intOf]; omega
    · obtain rfl : k = n := by omega
      have HTe := Lib.hid (show Blk wr (T' + 1) 41 (tcl L) by
        have h9 := hT
        rw [List.take_of_length_le (Nat.le_of_eq HLl.out)] at h9
        exact h9)
      have HRe := Lib.hid (HR.out.only hO (by simp))
      have HBe := Lib.hid hB
      have hlT := hT.lt
      clear hT hO HT HO hB
      go_wp2_with (first
        | ((with_reducible refine at_load (ty := 41) ?_); refine load_cells rfl 41 (.tmp 7) rfl (T' + 1) 0 rfl (tcl L) _ Tryz.underlying41 rfl (by kernel_rfl) (fun j v hj => by rw [Nat.zero_add, HTe.out.cell]; exact hj) ?_)
        | ((with_reducible refine at_store (ty := 41) ?_); refine store_blk rfl 41 (.tmp 6) (.tmp 28) rfl T' rfl (tcl L) rfl 41 (tcl []) HRe.out (by kernel_rfl) rfl (tcl_one L) ?_; intro w7 hb7 ho7; have HB7 := Lib.hid hb7; have HO7 := Lib.hid ho7; clear hb7 ho7))
      have q0 : w7.cell? ⟨T', 0, none⟩ = some (.int .i64 (tc L 0 : Nat)) := HB7.out.cell 0
      have q1 : w7.cell? ⟨T', 1, none⟩ = some (.int .i64 (tc L 1 : Nat)) := HB7.out.cell 1
      have q2 : w7.cell? ⟨T', 2, none⟩ = some (.int .i64 (tc L 2 : Nat)) := HB7.out.cell 2
      have q3 : w7.cell? ⟨T', 3, none⟩ = some (.int .i64 (tc L 3 : Nat)) := HB7.out.cell 3
      have q4 : w7.cell? ⟨T', 4, none⟩ = some (.int .i64 (tc L 4 : Nat)) := HB7.out.cell 4
      have q5 : w7.cell? ⟨T', 5, none⟩ = some (.int .i64 (tc L 5 : Nat)) := HB7.out.cell 5
      have q6 : w7.cell? ⟨T', 6, none⟩ = some (.int .i64 (tc L 6 : Nat)) := HB7.out.cell 6
      have q7 : w7.cell? ⟨T', 7, none⟩ = some (.int .i64 (tc L 7 : Nat)) := HB7.out.cell 7
      have q8 : w7.cell? ⟨T', 8, none⟩ = some (.int .i64 (tc L 8 : Nat)) := HB7.out.cell 8
      refine bodyPost_ret (by simp [results, Tryz.results12, go_sem, q0, q1, q2, q3, q4, q5, q6, q7, q8]; rfl) rfl ⟨rfl, HO7.out.below1 HBe.out HBe.out.size (by omega)⟩
set_option maxRecDepth 100000 in
set_option maxHeartbeats 4000000 in
theorem reffeas_any (a c : Option Addr) (ka kc : Nat) (ms : List Mac) (bs : List Bd) (w : World) (hY : YA w a ms c bs) (hyq : YQ ms bs) :
    Calls Tryz.prog 14 #[.slice a ms.length ka, .slice c bs.length kc] w fun e w' => e = .returned (.bool (feasF ms bs)) ∧ Below w.heap.size w w' := by
  obtain ⟨N, hN⟩ : ∃ N, bs.length = N := ⟨_, rfl⟩
  obtain ⟨n, hn⟩ : ∃ n, ms.length = n := ⟨_, rfl⟩
  obtain ⟨R, hR⟩ : ∃ R, feasF ms bs = R := ⟨_, rfl⟩
  have HR := Lib.hid (show bs.all (feasB ms bs) = R from hR)
  have HN := Lib.hid hN
  have Hn := Lib.hid hn
  have HYA := Lib.hid hY
  have HYQ := Lib.hid hyq
  have hNb := hY.bb
  rw [hN] at hNb
  rw [hn, hN, hR]
  clear hn hN hR hY hyq
  go_enter Tryz.func14, Tryz.ntmps14
  go_wp2
  go_loopw [5] (fun vi wr => ∃ k : Nat, k ≤ N ∧ vi = .int .i64 k ∧ (bs.take k).all (feasB ms bs) = true ∧ Below w.heap.size w wr) (fun vi _ => N - (intOf vi).toNat)
  case atStart => exact ⟨0, Nat.zero_le _, rfl, rfl, Below.refl _ _⟩
  case round =>
    obtain ⟨k, hk, rfl, hE, hB⟩ := hrel
    have HE := Lib.hid hE
    have HB := Lib.hid hB
    by_cases hlt : k < N
    · obtain ⟨b, hbk⟩ := mem_at (l := bs) (k := k) (by rw [HN.out]; exact hlt)
      have hbm := List.mem_of_getElem? hbk
      obtain ⟨q, o, rfl, hq, hc⟩ := (HYA.out.bl.mono hB) (by rw [HN.out]; omega)
      have c20 : wr.cell? ⟨q, o + k * 21 + 20, none⟩ = some (.string b.on) := hc k b hbk 20 (by decide)
      have HRq := Lib.hid (show wr.rangeAt q (o + k * 21) [.string (b.p).nm, .int .i64 (b.p).n0, .int .i64 (b.p).n1, .int .i64 (b.p).n2, .int .i64 (b.p).n3, .int .i64 (b.p).n4, .slice (b.p).la (b.p).labs.length (b.p).lk, .slice (b.p).sa (b.p).sels.length (b.p).sk, .slice (b.p).ta (b.p).trms.length (b.p).tk, .slice (b.p).ba (b.p).bers.length (b.p).bk, .slice (b.p).pa (b.p).prts.length (b.p).pk, .slice (b.p).aa (b.p).aprs.length (b.p).ak, .bool (b.p).wd, .slice (b.p).da (b.p).spds.length (b.p).dk, .int .i64 (b.p).sw, .int .i64 (b.p).rk, .string (b.p).ow, .bool (b.p).dm, .bool (b.p).pn, .bool (b.p).lc] from fun j v hj => by
        have hj20 : j < 20 := (List.getElem?_eq_some_iff.1 hj).1
        rw [hc k b hbk j (by omega)]
        show (prow b.p ++ [.string b.on])[j]? = _
        rw [List.getElem?_append_left (by rw [prow_len]; exact hj20)]
        exact hj)
      have HWh := Lib.hid (show ∀ V, Below wr.heap.size wr V → Calls Tryz.prog 7 #[.slice a n ka, .slice (some ⟨q, o, none⟩) N kc, .agg #[.string (b.p).nm, .int .i64 (b.p).n0, .int .i64 (b.p).n1, .int .i64 (b.p).n2, .int .i64 (b.p).n3, .int .i64 (b.p).n4, .slice (b.p).la (b.p).labs.length (b.p).lk, .slice (b.p).sa (b.p).sels.length (b.p).sk, .slice (b.p).ta (b.p).trms.length (b.p).tk, .slice (b.p).ba (b.p).bers.length (b.p).bk, .slice (b.p).pa (b.p).prts.length (b.p).pk, .slice (b.p).aa (b.p).aprs.length (b.p).ak, .bool (b.p).wd, .slice (b.p).da (b.p).spds.length (b.p).dk, .int .i64 (b.p).sw, .int .i64 (b.p).rk, .string (b.p).ow, .bool (b.p).dm, .bool (b.p).pn, .bool (b.p).lc], .string b.on] V fun e w' => e = .returned (.int .i64 (whyF ms bs b.p b.on)) ∧ Below V.heap.size V w' from fun V hV => by
        have hbv := HB.out.trans (hV.mono HB.out.size)
        have h9 := refwhy_any a (some ⟨q, o, none⟩) ka kc ms bs b.p b.on V (HYA.out.mono hbv) ((HYA.out.mono hbv).bi b hbm).here (HYA.out.lb b hbm) HYQ.out (HYQ.out.pq hbm)
        rw [Hn.out, HN.out] at h9
        exact h9)
      have hfb : feasB ms bs b = (decide (b.on = emp) || decide (whyF ms bs b.p b.on = 0)) := rfl
      obtain ⟨r, hr⟩ : ∃ r, whyF ms bs b.p b.on = r := ⟨_, rfl⟩
      rw [hr] at HWh hfb
      have HTk := Lib.hid (show feasB ms bs b = true → (bs.take (k + 1)).all (feasB ms bs) = true from fun h => by
        rw [List.take_add_one, hbk, List.all_append, HE.out]
        show (true && (feasB ms bs b && true)) = true
        rw [h]
        rfl)
      have HTn := Lib.hid (show feasB ms bs b = false → R = false from fun h => by
        rw [← HR.out, List.all_eq_false]
        exact ⟨b, hbm, by rw [h]; exact Bool.false_ne_true⟩)
      clear hE hB hc hbk hbm hr
      by_cases he : b.on = emp
      · have q1 := (emp_yes he).2.2
        have HNx := Lib.hid (HTk.out (by rw [hfb, decide_eq_true he]; rfl))
        clear hfb he HTk HTn
        go_upto_region 4 with (fail)
        have hcH := held_cell
        refine region_rel (by kernel_rfl) (by kernel_rfl) ?_
        repeat
          ((with_reducible refine relStep (fun K hK => ?_))
           (have HK := Lib.hid hK)
           clear hK
           (apply relInl
            · intro r n hf
              have Hf := Lib.hid hf
              clear hf
              (first
                | (((with_reducible refine at_rel (ty := 31) ?_); refine rel_load rfl q (o + k * 21) rfl _ _ Tryz.underlying31 rfl (by kernel_rfl) (rangeAt_mono HRq.out hq n.below) rfl))
                | (unfold relAt
                   go_simp
                   (first | (refine relUpon_val ?_ (Below.refl _ _); exact rfl) | exact rfl | (refine relUpon_enter ?_; (go_at_call 7; (with_reducible refine (HWh.out _ n.below).mono ?_); rintro e w9 ⟨rfl, hb⟩; exact ⟨⟨_, rfl, rfl⟩, hb⟩)))))
            (simp only [Act.put, List.setIfInBounds_toArray, List.set_cons_zero, List.set_cons_succ])
            (with_reducible refine HK.out _ _ ?_)
            clear HK K))
        refine relNil ?_
        intro r9 n9 hx9
        clear hcH
        (try simp only [List.nil_append, List.cons_append, List.mem_cons, List.not_mem_nil, or_false, forall_eq_or_imp, forall_eq, false_implies, implies_true] at hx9)
        obtain ⟨w9, hb9⟩ := n9
        (try dsimp only)
        obtain ⟨hc9, hf9⟩ := bcell hb9
        have hz9 := hb9.size
        (try simp at hz9)
        go_wp2
        go_roundw
        case rel => exact ⟨k + 1, by omega, by go_num, HNx.out, HB.out.trans (hb9.mono HB.out.size)⟩
        case measure => simp [intOf]; omega
      · have q1 := (emp_no he).2.2
        rw [decide_eq_false he] at hfb
        by_cases h0 : r = 0
        · subst h0
          have HNx := Lib.hid (HTk.out (by rw [hfb]; rfl))
          clear hfb he HTk HTn
          go_upto_region 4 with (fail)
          have hcH := held_cell
          refine region_rel (by kernel_rfl) (by kernel_rfl) ?_
          repeat
            ((with_reducible refine relStep (fun K hK => ?_))
             (have HK := Lib.hid hK)
             clear hK
             (apply relInl
              · intro r n hf
                have Hf := Lib.hid hf
                clear hf
                (first
                  | (((with_reducible refine at_rel (ty := 31) ?_); refine rel_load rfl q (o + k * 21) rfl _ _ Tryz.underlying31 rfl (by kernel_rfl) (rangeAt_mono HRq.out hq n.below) rfl))
                  | (unfold relAt
                     go_simp
                     (first | (refine relUpon_val ?_ (Below.refl _ _); exact rfl) | exact rfl | (refine relUpon_enter ?_; (go_at_call 7; (with_reducible refine (HWh.out _ n.below).mono ?_); rintro e w9 ⟨rfl, hb⟩; exact ⟨⟨_, rfl, rfl⟩, hb⟩)))))
              (simp only [Act.put, List.setIfInBounds_toArray, List.set_cons_zero, List.set_cons_succ])
              (with_reducible refine HK.out _ _ ?_)
              clear HK K))
          refine relNil ?_
          intro r9 n9 hx9
          clear hcH
          (try simp only [List.nil_append, List.cons_append, List.mem_cons, List.not_mem_nil, or_false, forall_eq_or_imp, forall_eq, false_implies, implies_true] at hx9)
          obtain ⟨w9, hb9⟩ := n9
          (try dsimp only)
          obtain ⟨hc9, hf9⟩ := bcell hb9
          have hz9 := hb9.size
          (try simp at hz9)
          go_wp2
          go_roundw
          case rel => exact ⟨k + 1, by omega, by go_num, HNx.out, HB.out.trans (hb9.mono HB.out.size)⟩
          case measure => simp [intOf]; omega
        · have q0 : (r == 0) = false := by simpa using h0
          have HRf := Lib.hid (HTn.out (by rw [hfb, decide_eq_false h0]; rfl))
          clear hfb he HTk HTn h0
          go_upto_region 4 with (fail)
          have hcH := held_cell
          refine region_rel (by kernel_rfl) (by kernel_rfl) ?_
          repeat
            ((with_reducible refine relStep (fun K hK => ?_))
             (have HK := Lib.hid hK)
             clear hK
             (apply relInl
              · intro r n hf
                have Hf := Lib.hid hf
                clear hf
                (first
                  | (((with_reducible refine at_rel (ty := 31) ?_); refine rel_load rfl q (o + k * 21) rfl _ _ Tryz.underlying31 rfl (by kernel_rfl) (rangeAt_mono HRq.out hq n.below) rfl))
                  | (unfold relAt
                     go_simp
                     (first | (refine relUpon_val ?_ (Below.refl _ _); exact rfl) | exact rfl | (refine relUpon_enter ?_; (go_at_call 7; (with_reducible refine (HWh.out _ n.below).mono ?_); rintro e w9 ⟨rfl, hb⟩; exact ⟨⟨_, rfl, rfl⟩, hb⟩)))))
              (simp only [Act.put, List.setIfInBounds_toArray, List.set_cons_zero, List.set_cons_succ])
              (with_reducible refine HK.out _ _ ?_)
              clear HK K))
          refine relNil ?_
          intro r9 n9 hx9
          clear hcH
          (try simp only [List.nil_append, List.cons_append, List.mem_cons, List.not_mem_nil, or_false, forall_eq_or_imp, forall_eq, false_implies, implies_true] at hx9)
          obtain ⟨w9, hb9⟩ := n9
          (try dsimp only)
          obtain ⟨hc9, hf9⟩ := bcell hb9
          have hz9 := hb9.size
          (try simp at hz9)
          go_wp2
          go_ret
          exact ⟨by first | rfl | (rw [HRf.out]; first | done | rfl), HB.out.trans (hb9.mono HB.out.size)⟩
    · obtain rfl : k = N := by omega
      have HRt := Lib.hid (show R = true by
        rw [← HR.out]
        have h9 := hE
        rw [List.take_of_length_le (by rw [HN.out]; exact Nat.le_refl _)] at h9
        exact h9)
      clear hE hB
      go_wp2
      go_ret
      exact ⟨by first | rfl | (rw [HRt.out]; first | done | rfl), HB.out⟩
end Go.Proofs.YthbpnfpalcgfeaaGreat
