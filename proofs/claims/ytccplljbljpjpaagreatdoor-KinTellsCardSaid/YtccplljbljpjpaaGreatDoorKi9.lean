/-
  Kin: KinTells, walked.
-/
import Derived.Test.YtccplljbljpjpaaGreatDoorKi8
namespace Go.Proofs.YtccplljbljpjpaaGreatDoor
open Go.ChangeShapes Go.WideShapes Go.ChangeAt Go.RowKit
set_option linter.unusedVariables false
set_option linter.unusedSimpArgs false

set_option maxRecDepth 100000 in
set_option maxHeartbeats 16000000 in
theorem ktells_any (a : Option Addr) (ka : Nat) (l : List Pd) (nm : ByteArray) (w : World) (hF : PodLs w a l) (hl : l.length ≤ maxLen) (hI : ∀ x ∈ l, PodAt w x) (hWT : WT w) (hT : Tab10 w) :
    Calls Tryz.prog 4 #[.slice a l.length ka, .string nm] w fun e w' => e = .returned (.bool true) ∧ Below w.heap.size w w' := by
  have HKn := Lib.hid (fun V (hV : Below w.heap.size w V) => kknown_any V (hWT.mono hV hWT.sz) (hT.mono hV))
  have HLi := Lib.hid (klight_any a ka l w hF hl hI)
  obtain ⟨m, hm⟩ : ∃ m, lightK l = m := ⟨_, rfl⟩
  rw [hm] at HLi
  cases m with
  | false =>
    clear hF hI hWT hT hm hl
    generalize l.length = n at HLi ⊢
    go_enter Tryz.func4, Tryz.ntmps4
    go_wp2_with (first
      | (go_at_call 5; (with_reducible refine HLi.out.mono ?_); rintro e w1 ⟨rfl, hb⟩; have HB1 := Lib.hid hb; clear hb)
      | (go_at_call 6; (with_reducible refine (HKn.out _ HB1.out).mono ?_); rintro e w2 ⟨rfl, hb⟩; have HB2 := Lib.hid (HB1.out.trans (hb.mono HB1.out.size)); clear hb))
    go_ret
    exact ⟨rfl, HB2.out⟩
  | true =>
    unfold lightK at hm
    simp only [Bool.and_eq_true, decide_eq_true_eq, List.all_eq_true] at hm
    have hl60 := hm.1
    have hL := hm.2
    by_cases hz : nm.size ≤ 300
    · have HT1 := Lib.hid (fun V (hV : Below w.heap.size w V) => stotal_any a ka l V (hF.mono hV) (by omega) (fun x hx => (hI x hx).mono hV) hL)
      have HT2 := Lib.hid (fun V (hV : Below w.heap.size w V) => rtotal_any a ka l V (hF.mono hV) (by omega) (fun x hx => (hI x hx).mono hV) hL)
      have HF1 := Lib.hid (fun V (hV : Below w.heap.size w V) => sfind_any a ka l nm V (hF.mono hV) (by omega))
      have HF2 := Lib.hid (fun V (hV : Below w.heap.size w V) => rfind_any a ka l nm V (hF.mono hV) (by omega))
      have HK1 := Lib.hid (fun p (hp : p ∈ l) V (hV : Below w.heap.size w V) => show Calls Tryz.prog 10 #[.agg #[.string (p).nm, .int .i64 (p).n0, .int .i64 (p).n1, .int .i64 (p).n2, .int .i64 (p).n3, .int .i64 (p).n4, .slice (p).la (p).labs.length (p).lk, .slice (p).sa (p).sels.length (p).sk, .slice (p).ta (p).trms.length (p).tk, .slice (p).ba (p).bers.length (p).bk, .slice (p).pa (p).prts.length (p).pk, .slice (p).aa (p).aprs.length (p).ak, .bool (p).wd, .slice (p).da (p).spds.length (p).dk, .int .i64 (p).sw, .int .i64 (p).rk, .string (p).ow, .bool (p).dm, .bool (p).pn, .bool (p).lc]] V fun e w' => e = .returned (.string (keyP p)) ∧ Below V.heap.size V w' from skey_any p V ((hI p hp).mono hV) (hL p hp) (hWT.mono hV hWT.sz) (hT.mono hV))
      have HK2 := Lib.hid (fun p (hp : p ∈ l) V (hV : Below w.heap.size w V) => show Calls Tryz.prog 11 #[.agg #[.string (p).nm, .int .i64 (p).n0, .int .i64 (p).n1, .int .i64 (p).n2, .int .i64 (p).n3, .int .i64 (p).n4, .slice (p).la (p).labs.length (p).lk, .slice (p).sa (p).sels.length (p).sk, .slice (p).ta (p).trms.length (p).tk, .slice (p).ba (p).bers.length (p).bk, .slice (p).pa (p).prts.length (p).pk, .slice (p).aa (p).aprs.length (p).ak, .bool (p).wd, .slice (p).da (p).spds.length (p).dk, .int .i64 (p).sw, .int .i64 (p).rk, .string (p).ow, .bool (p).dm, .bool (p).pn, .bool (p).lc]] V fun e w' => e = .returned (.string (keyP p)) ∧ Below V.heap.size V w' from rkey_any p V ((hI p hp).mono hV) (hL p hp))
      obtain ⟨n, hn⟩ : ∃ n, l.length = n := ⟨_, rfl⟩
      obtain ⟨T, hTt⟩ : ∃ T, totK l = T := ⟨_, rfl⟩
      obtain ⟨⟨te, t0, t1, t2, t3, t4⟩, rfl⟩ : ∃ T', T' = T := ⟨_, rfl⟩
      obtain ⟨fi, hfi⟩ : ∃ x, findN (l.map Pd.nm) nm 0 = x := ⟨_, rfl⟩
      rw [hTt, hn] at HT1 HT2
      rw [hfi, hn] at HF1 HF2
      rw [hn] at HLi hl60 ⊢
      have HN := Lib.hid hn
      have HF := Lib.hid hF
      clear hF hI hL hWT hT hm hl hn hTt hfi
      go_enter Tryz.func4, Tryz.ntmps4
      go_wp2_with (go_at_call 5; (with_reducible refine HLi.out.mono ?_); rintro e w1 ⟨rfl, hb⟩; have HB1 := Lib.hid hb; clear hb)
      go_loopw [5] (fun vi wr => ∃ k : Nat, k ≤ n ∧ vi = .int .i64 k ∧ Below w.heap.size w wr) (fun vi _ => n - (intOf vi).toNat)
      case atStart => exact ⟨0, Nat.zero_le _, rfl, HB1.out⟩
      case round =>
        obtain ⟨k, hk, rfl, hB⟩ := hrel
        have hbz := hB.size
        have HB := Lib.hid hB
        by_cases hlt : k < n
        · obtain ⟨p, hp⟩ := mem_at (l := l) (k := k) (by rw [HN.out]; exact hlt)
          obtain ⟨b, o, rfl, hb, hc⟩ := (HF.out.mono hB) (by rw [HN.out]; omega)
          have HRq := Lib.hid (show wr.rangeAt b (o + k * 20) [.string (p).nm, .int .i64 (p).n0, .int .i64 (p).n1, .int .i64 (p).n2, .int .i64 (p).n3, .int .i64 (p).n4, .slice (p).la (p).labs.length (p).lk, .slice (p).sa (p).sels.length (p).sk, .slice (p).ta (p).trms.length (p).tk, .slice (p).ba (p).bers.length (p).bk, .slice (p).pa (p).prts.length (p).pk, .slice (p).aa (p).aprs.length (p).ak, .bool (p).wd, .slice (p).da (p).spds.length (p).dk, .int .i64 (p).sw, .int .i64 (p).rk, .string (p).ow, .bool (p).dm, .bool (p).pn, .bool (p).lc] from fun j v hj => by
            have hj20 : j < 20 := (List.getElem?_eq_some_iff.1 hj).1
            rw [hc k p hp j hj20]
            exact hj)
          have HC1 := Lib.hid (HK1.out p (List.mem_of_getElem? hp))
          have HC2 := Lib.hid (HK2.out p (List.mem_of_getElem? hp))
          obtain ⟨y, hy⟩ : ∃ y, keyP p = y := ⟨_, rfl⟩
          rw [hy] at HC1 HC2
          clear hc hp hB hy
          obtain ⟨W, hWw⟩ : ∃ V, V = wr := ⟨_, rfl⟩
          subst hWw
          go_wp2
          have hcH := held_cell
          refine region_rel (by kernel_rfl) (by kernel_rfl) ?_
          repeat
            ((with_reducible refine relStep (fun K hK => ?_))
             (have HK := Lib.hid hK)
             clear hK
             (apply relInl
              · intro r n hf
                have Hf := Lib.hid hf
                clear hf
                (first
                  | (((with_reducible refine at_rel (ty := 38) ?_); refine rel_load rfl b (o + k * 20) rfl [.string (p).nm, .int .i64 (p).n0, .int .i64 (p).n1, .int .i64 (p).n2, .int .i64 (p).n3, .int .i64 (p).n4, .slice (p).la (p).labs.length (p).lk, .slice (p).sa (p).sels.length (p).sk, .slice (p).ta (p).trms.length (p).tk, .slice (p).ba (p).bers.length (p).bk, .slice (p).pa (p).prts.length (p).pk, .slice (p).aa (p).aprs.length (p).ak, .bool (p).wd, .slice (p).da (p).spds.length (p).dk, .int .i64 (p).sw, .int .i64 (p).rk, .string (p).ow, .bool (p).dm, .bool (p).pn, .bool (p).lc] _ Tryz.underlying38 rfl (by kernel_rfl) (rangeAt_mono HRq.out hb n.below) rfl))
                  | (unfold relAt
                     go_simp
                     (first | (refine relUpon_val ?_ (Below.refl _ _); exact rfl) | exact rfl | (refine relUpon_enter ?_; (first | (go_at_call 10; (with_reducible refine (HC1.out _ (HB.out.trans (n.below.mono hbz))).mono ?_); rintro e w9 ⟨rfl, hb⟩; exact ⟨⟨_, rfl, rfl⟩, hb⟩) | (go_at_call 11; (with_reducible refine (HC2.out _ (HB.out.trans (n.below.mono hbz))).mono ?_); rintro e w9 ⟨rfl, hb⟩; exact ⟨⟨_, rfl, rfl⟩, hb⟩))))))
              (simp only [Act.put, List.setIfInBounds_toArray, List.set_cons_zero, List.set_cons_succ])
              (with_reducible refine HK.out _ _ ?_)
              clear HK K))
          refine relNil ?_
          intro r9 n9 hx9
          clear hcH
          (try simp only [List.nil_append, List.cons_append, List.mem_cons, List.not_mem_nil, or_false, forall_eq_or_imp, forall_eq, false_implies, implies_true] at hx9)
          obtain ⟨w9, hb9⟩ := n9
          (try dsimp only)
          obtain ⟨hc9, hf9⟩ := bcell hb9
          have hz9 := hb9.size
          (try simp at hz9)
          have HB9 := Lib.hid (HB.out.trans (hb9.mono hbz))
          go_wp2
          go_roundw
          case rel => exact ⟨k + 1, by omega, by go_num, HB9.out⟩
          case measure => simp [intOf]; omega
        · obtain rfl : k = n := by omega
          clear hB
          go_upto_region 9 with (first
            | (go_at_call 12; (with_reducible refine (HT1.out _ HB.out).mono ?_); rintro e w3 ⟨rfl, hb⟩; have HB3 := Lib.hid (HB.out.trans (hb.mono HB.out.size)); clear hb)
            | ((with_reducible refine at_store (ty := 33) ?_); refine store_new rfl 33 (.tmp 6) (.tmp 39) rfl _ _ rfl rfl (by kernel_rfl) rfl (by rfl) rfl ?_))
          obtain ⟨x3, hx3⟩ : ∃ x, w3.heap.size = x := ⟨_, rfl⟩
          obtain ⟨w4, hw4⟩ : ∃ V, V = w3.alloc (.cells #[.int .i64 t0, .int .i64 t1, .int .i64 t2, .int .i64 t3, .int .i64 t4] 33) := ⟨_, rfl⟩
          have HX4 := Lib.hid (show Blk w4 x3 33 [.int .i64 t0, .int .i64 t1, .int .i64 t2, .int .i64 t3, .int .i64 t4] by rw [hw4, ← hx3]; exact Blk.new w3 33 _)
          have HB4 := Lib.hid (show Below w.heap.size w w4 by rw [hw4]; exact HB3.out.alloc HB3.out.size _)
          rw [hx3, ← hw4]
          clear hx3 hw4 HB3
          go_upto_region 10 with (first
            | (go_at_call 13; (with_reducible refine (HT2.out _ HB4.out).mono ?_); rintro e w5 ⟨rfl, hb⟩; have HX5 := Lib.hid (HX4.out.below hb); have HB5 := Lib.hid (HB4.out.trans (hb.mono HB4.out.size)); clear hb)
            | ((with_reducible refine at_store (ty := 33) ?_); refine store_new rfl 33 (.tmp 8) (.tmp 44) rfl _ _ rfl rfl (by kernel_rfl) rfl (by rfl) rfl ?_))
          obtain ⟨x5, hx5⟩ : ∃ x, w5.heap.size = x := ⟨_, rfl⟩
          obtain ⟨w6, hw6⟩ : ∃ V, V = w5.alloc (.cells #[.int .i64 t0, .int .i64 t1, .int .i64 t2, .int .i64 t3, .int .i64 t4] 33) := ⟨_, rfl⟩
          have HX6 := Lib.hid (show Blk w6 x3 33 [.int .i64 t0, .int .i64 t1, .int .i64 t2, .int .i64 t3, .int .i64 t4] by rw [hw6]; exact HX5.out.alloc _)
          have HY6 := Lib.hid (show Blk w6 x5 33 [.int .i64 t0, .int .i64 t1, .int .i64 t2, .int .i64 t3, .int .i64 t4] by rw [hw6, ← hx5]; exact Blk.new w5 33 _)
          have HB6 := Lib.hid (show Below w.heap.size w w6 by rw [hw6]; exact HB5.out.alloc HB5.out.size _)
          rw [hx5, ← hw6]
          clear hx5 hw6 HB5 HX5 HX4 HB4
          go_wp2_with (first
            | ((with_reducible refine at_load (ty := 33) ?_); refine load_cells rfl 33 (.tmp 6) rfl x3 0 rfl [.int .i64 t0, .int .i64 t1, .int .i64 t2, .int .i64 t3, .int .i64 t4] _ Tryz.underlying33 rfl (by kernel_rfl) (blk_range HX6.out) ?_)
            | ((with_reducible refine at_load (ty := 33) ?_); refine load_cells rfl 33 (.tmp 8) rfl x5 0 rfl [.int .i64 t0, .int .i64 t1, .int .i64 t2, .int .i64 t3, .int .i64 t4] _ Tryz.underlying33 rfl (by kernel_rfl) (blk_range HY6.out) ?_)
            | (go_at_call 14; (with_reducible refine (HF1.out _ HB6.out).mono ?_); rintro e w7 ⟨rfl, hb⟩; have HB7 := Lib.hid (HB6.out.trans (hb.mono HB6.out.size)); clear hb)
            | (go_at_call 15; (with_reducible refine (HF2.out _ HB7.out).mono ?_); rintro e w8 ⟨rfl, hb⟩; have HB8 := Lib.hid (HB7.out.trans (hb.mono HB7.out.size)); clear hb)
            | (go_at_call 6; (with_reducible refine (HKn.out _ HB8.out).mono ?_); rintro e w9 ⟨rfl, hb⟩; have HB9 := Lib.hid (HB8.out.trans (hb.mono HB8.out.size)); clear hb))
          go_ret
          exact ⟨rfl, HB9.out⟩
    · have q1 : ¬ ((nm.size : Int) ≤ 300) := by omega
      clear hF hI hWT hT hm hl hL
      generalize l.length = n at HLi hl60 ⊢
      go_enter Tryz.func4, Tryz.ntmps4
      go_wp2_with (first
        | (go_at_call 5; (with_reducible refine HLi.out.mono ?_); rintro e w1 ⟨rfl, hb⟩; have HB1 := Lib.hid hb; clear hb)
        | (go_at_call 6; (with_reducible refine (HKn.out _ HB1.out).mono ?_); rintro e w2 ⟨rfl, hb⟩; have HB2 := Lib.hid (HB1.out.trans (hb.mono HB1.out.size)); clear hb))
      go_ret
      exact ⟨rfl, HB2.out⟩
end Go.Proofs.YtccplljbljpjpaaGreatDoor
