/-
  The document's Near.
-/
import Derived.Test.YthbpnfpalcgfeaaGreatFrC
import Derived.Test.YthbpnfpalcgfeaaGreatFrP
namespace Go.Proofs.YthbpnfpalcgfeaaGreat
open Go.RowKit
set_option linter.unusedVariables false
set_option linter.unusedSimpArgs false

set_option maxRecDepth 100000 in
set_option maxHeartbeats 16000000 in
theorem refnear_any (a c : Option Addr) (ka kc : Nat) (ms : List Mac) (bs : List Bd) (p : Pd) (on : ByteArray) (w : World) (hY : YA w a ms c bs) (hP : PodAt w p) (hp : lightP p = true) (hq : YQ ms bs) (hpq : PQ p) :
    Calls Tryz.prog 48 #[.slice a ms.length ka, .slice c bs.length kc, .agg (prow p).toArray, .string on] w fun e w' => e = .returned (.bool (nearB ms bs p on)) ∧ Below w.heap.size w w' := by
  have hfi := fun V (hV : Below w.heap.size w V) => rfind_any a ka ms on V (hY.ml.mono hV) (by have := hY.mm; omega)
  obtain ⟨R, hR⟩ : ∃ R, nearB ms bs p on = R := ⟨_, rfl⟩
  rw [hR]
  unfold nearB at hR
  obtain ⟨W, hW⟩ : ∃ W, W = (w.alloc (.cells #[.string (p).nm, .int .i64 (p).n0, .int .i64 (p).n1, .int .i64 (p).n2, .int .i64 (p).n3, .int .i64 (p).n4, .slice (p).la (p).labs.length (p).lk, .slice (p).sa (p).sels.length (p).sk, .slice (p).ta (p).trms.length (p).tk, .slice (p).ba (p).bers.length (p).bk, .slice (p).pa (p).prts.length (p).pk, .slice (p).aa (p).aprs.length (p).ak, .bool (p).wd, .slice (p).da (p).spds.length (p).dk, .int .i64 (p).sw, .int .i64 (p).rk, .string (p).ow, .bool (p).dm, .bool (p).pn, .bool (p).lc] 31)) := ⟨_, rfl⟩
  have hX : Box w.heap.size (prow p) W := by rw [hW]; exact (Box.new w (prow p) 31)
  have hbw : Below w.heap.size w W := by rw [hW]; exact (Below.refl _ _).alloc (Nat.le_refl _) _
  have HB := Lib.hid hbw
  have HX := Lib.hid hX
  have HYA := Lib.hid hY
  have HPA := Lib.hid hP
  have HQY := Lib.hid hq
  have HPQ := Lib.hid hpq
  obtain ⟨N, hN⟩ : ∃ N, bs.length = N := ⟨_, rfl⟩
  obtain ⟨n, hn⟩ : ∃ n, ms.length = n := ⟨_, rfl⟩
  have hNb := hY.bb
  have HN := Lib.hid hN
  have Hn := Lib.hid hn
  have hpl := lightP_lens hp
  rw [hN] at hNb
  rw [hn] at hfi ⊢
  rw [hN]
  show Calls Tryz.prog 48 #[.slice a n ka, .slice c N kc, .agg #[.string (p).nm, .int .i64 (p).n0, .int .i64 (p).n1, .int .i64 (p).n2, .int .i64 (p).n3, .int .i64 (p).n4, .slice (p).la (p).labs.length (p).lk, .slice (p).sa (p).sels.length (p).sk, .slice (p).ta (p).trms.length (p).tk, .slice (p).ba (p).bers.length (p).bk, .slice (p).pa (p).prts.length (p).pk, .slice (p).aa (p).aprs.length (p).ak, .bool (p).wd, .slice (p).da (p).spds.length (p).dk, .int .i64 (p).sw, .int .i64 (p).rk, .string (p).ow, .bool (p).dm, .bool (p).pn, .bool (p).lc], .string on] w _
  rcases find_cases ms on with ⟨h1, h2⟩ | ⟨i, m, h1, h2, h3, h4⟩
  · obtain rfl : R = false := by rw [← hR, h2]; rfl
    rw [h1] at hfi
    have HFi := Lib.hid hfi
    clear hfi h1 h2 hR hX hbw hY hP hp hN hn hq hpq
    go_enter Tryz.func48, Tryz.ntmps48
    go_upto_region 1 with (fail)
    rw [← hW]
    clear hW
    go_wp2_with (go_at_call 23; (with_reducible refine (HFi.out _ HB.out).mono ?_); rintro e w1 ⟨rfl, hb⟩; have HB1 := Lib.hid (HB.out.trans (hb.mono HB.out.size)); clear hb)
    go_ret
    exact ⟨rfl, HB1.out⟩
  · rw [h4] at hR
    have hR : bs.any (nearOf ms p on) = R := hR
    have HR := Lib.hid hR
    rw [h1] at hfi
    have HFi := Lib.hid hfi
    clear hfi h1 h2 h3 h4 hR hX hbw hY hP hp hN hn hq hpq
    go_enter Tryz.func48, Tryz.ntmps48
    go_upto_region 1 with (fail)
    rw [← hW]
    clear hW
    go_wp2_with (go_at_call 23; (with_reducible refine (HFi.out _ HB.out).mono ?_); rintro e w1 ⟨rfl, hb⟩; have HB1 := Lib.hid (HB.out.trans (hb.mono HB.out.size)); have HX1 := Lib.hid (HX.out.mono hb); clear hb)
    clear HB HX HFi
    go_loopw [9] (fun vi wr => ∃ k : Nat, k ≤ N ∧ vi = .int .i64 k ∧ (bs.take k).any (nearOf ms p on) = false ∧ Box w.heap.size (prow p) wr ∧ Below w.heap.size w wr) (fun vi _ => N - (intOf vi).toNat)
    case atStart => exact ⟨0, Nat.zero_le _, rfl, rfl, HX1.out, HB1.out⟩
    case round =>
      clear HX1 HB1
      obtain ⟨k, hk, rfl, hE, hX, hB⟩ := hrel
      have HE := Lib.hid hE
      have HXb := Lib.hid hX
      have HBb := Lib.hid hB
      by_cases hlt : k < N
      · obtain ⟨b, hbk⟩ := mem_at (l := bs) (k := k) (by rw [HN.out]; exact hlt)
        have hbm := List.mem_of_getElem? hbk
        obtain ⟨q, o, rfl, hq, hc⟩ := (HYA.out.bl.mono hB) (by rw [HN.out]; omega)
        have HE20 := Lib.hid (show wr.cell? ⟨q, o + k * 21 + 20, none⟩ = some (.string b.on) from hc k b hbk 20 (by decide))
        have HRq := Lib.hid (show wr.rangeAt q (o + k * 21) [.string (b.p).nm, .int .i64 (b.p).n0, .int .i64 (b.p).n1, .int .i64 (b.p).n2, .int .i64 (b.p).n3, .int .i64 (b.p).n4, .slice (b.p).la (b.p).labs.length (b.p).lk, .slice (b.p).sa (b.p).sels.length (b.p).sk, .slice (b.p).ta (b.p).trms.length (b.p).tk, .slice (b.p).ba (b.p).bers.length (b.p).bk, .slice (b.p).pa (b.p).prts.length (b.p).pk, .slice (b.p).aa (b.p).aprs.length (b.p).ak, .bool (b.p).wd, .slice (b.p).da (b.p).spds.length (b.p).dk, .int .i64 (b.p).sw, .int .i64 (b.p).rk, .string (b.p).ow, .bool (b.p).dm, .bool (b.p).pn, .bool (b.p).lc] from fun j v hj => by
          have hj20 : j < 20 := (List.getElem?_eq_some_iff.1 hj).1
          rw [hc k b hbk j (by omega)]
          show (prow b.p ++ [.string b.on])[j]? = _
          rw [List.getElem?_append_left (by rw [prow_len]; exact hj20)]
          exact hj)
        have hlb := lightP_lens (HYA.out.lb b hbm)
        obtain ⟨Z, hZ⟩ : ∃ Z, wr.heap.size = Z := ⟨_, rfl⟩
        obtain ⟨w5, hw5⟩ : ∃ V, V = wr.alloc (.cells #[.string (b.p).nm, .int .i64 (b.p).n0, .int .i64 (b.p).n1, .int .i64 (b.p).n2, .int .i64 (b.p).n3, .int .i64 (b.p).n4, .slice (b.p).la (b.p).labs.length (b.p).lk, .slice (b.p).sa (b.p).sels.length (b.p).sk, .slice (b.p).ta (b.p).trms.length (b.p).tk, .slice (b.p).ba (b.p).bers.length (b.p).bk, .slice (b.p).pa (b.p).prts.length (b.p).pk, .slice (b.p).aa (b.p).aprs.length (b.p).ak, .bool (b.p).wd, .slice (b.p).da (b.p).spds.length (b.p).dk, .int .i64 (b.p).sw, .int .i64 (b.p).rk, .string (b.p).ow, .bool (b.p).dm, .bool (b.p).pn, .bool (b.p).lc] 31) := ⟨_, rfl⟩
        have HZ5 := Lib.hid (show Blk w5 Z 31 (prow b.p) by rw [hw5, ← hZ]; exact Blk.new wr 31 (prow b.p))
        have HBa := Lib.hid (show Below wr.heap.size wr w5 by rw [hw5]; exact (Below.refl _ _).alloc (Nat.le_refl _) _)
        have HX5 := Lib.hid (HXb.out.mono HBa.out)
        have HB5 := Lib.hid (HBa.out)
        obtain ⟨h1, hh1⟩ : ∃ x, Lb.hasP b.p.labs p.aprs = x := ⟨_, rfl⟩
        obtain ⟨h2, hh2⟩ : ∃ x, Lb.hasP p.labs b.p.aprs = x := ⟨_, rfl⟩
        obtain ⟨t1, ht1⟩ : ∃ x, togB ms on b.on p.wd = x := ⟨_, rfl⟩
        obtain ⟨t2, ht2⟩ : ∃ x, togB ms on b.on b.p.wd = x := ⟨_, rfl⟩
        obtain ⟨a1, ha1⟩ : ∃ x, p.aprs.length = x := ⟨_, rfl⟩
        obtain ⟨a2, ha2⟩ : ∃ x, b.p.aprs.length = x := ⟨_, rfl⟩
        have Ha1 := Lib.hid ha1
        have Ha2 := Lib.hid ha2
        have HC11 := Lib.hid (show ∀ V, Box w.heap.size (prow p) V → V.cell? ⟨w.heap.size, 11, none⟩ = some (.slice p.aa a1 p.ak) from fun V h => by rw [← ha1]; exact h.cell 11)
        have HD11 := Lib.hid (show ∀ V, Blk V Z 31 (prow b.p) → V.cell? ⟨Z, 11, none⟩ = some (.slice b.p.aa a2 b.p.ak) from fun V h => by rw [← ha2]; exact h.cell 11)
        have hnx : nearOf ms p on b = (matB b p && ((!decide (a1 = 0) && (h1 && t1)) || (!decide (a2 = 0) && (h2 && t2)))) := by
          unfold nearOf awayB
          rw [hh1, hh2, ha1, ha2, ← ht1, ← ht2]
          rfl
        have HH1 := Lib.hid (show ∀ V, Below wr.heap.size wr V → Calls Tryz.prog 76 #[.slice b.p.la b.p.labs.length b.p.lk, .slice p.aa a1 p.ak] V fun e w' => e = .returned (.bool h1) ∧ Below V.heap.size V w' from fun V hV => by
          have hbv := HBb.out.trans (hV.mono HBb.out.size)
          have h9 := Lb.refhas_any b.p.la p.aa b.p.lk p.ak b.p.labs p.aprs V (((HYA.out.mono hbv).bi b hbm).here.labs) ((HPA.out.mono hbv).aprs) (by omega) (by omega) (HQY.out.hb b hbm).2.1
          rw [hh1, ha1] at h9
          exact h9)
        have HH2 := Lib.hid (show ∀ V, Below wr.heap.size wr V → Calls Tryz.prog 76 #[.slice p.la p.labs.length p.lk, .slice b.p.aa a2 b.p.ak] V fun e w' => e = .returned (.bool h2) ∧ Below V.heap.size V w' from fun V hV => by
          have hbv := HBb.out.trans (hV.mono HBb.out.size)
          have h9 := Lb.refhas_any p.la b.p.aa p.lk b.p.ak p.labs b.p.aprs V ((HPA.out.mono hbv).labs) (((HYA.out.mono hbv).bi b hbm).here.aprs) (by omega) (by omega) HPQ.out.so
          rw [hh2, ha2] at h9
          exact h9)
        have HT1 := Lib.hid (show ∀ V, Below wr.heap.size wr V → Calls Tryz.prog 83 #[.slice a n ka, .string on, .string b.on, .bool p.wd] V fun e w' => e = .returned (.bool t1) ∧ Below V.heap.size V w' from fun V hV => by
          have hbv := HBb.out.trans (hV.mono HBb.out.size)
          have h9 := reftog_any a ka ms on b.on p.wd V (HYA.out.ml.mono hbv) (fun m hm => ((HYA.out.mi m hm).mono hbv).here) (by have := HYA.out.mm; omega)
          rw [ht1, Hn.out] at h9
          exact h9)
        have HT2 := Lib.hid (show ∀ V, Below wr.heap.size wr V → Calls Tryz.prog 83 #[.slice a n ka, .string on, .string b.on, .bool b.p.wd] V fun e w' => e = .returned (.bool t2) ∧ Below V.heap.size V w' from fun V hV => by
          have hbv := HBb.out.trans (hV.mono HBb.out.size)
          have h9 := reftog_any a ka ms on b.on b.p.wd V (HYA.out.ml.mono hbv) (fun m hm => ((HYA.out.mi m hm).mono hbv).here) (by have := HYA.out.mm; omega)
          rw [ht2, Hn.out] at h9
          exact h9)
        have HNo := Lib.hid (fun (h : nearOf ms p on b = false) => show (bs.take (k + 1)).any (nearOf ms p on) = false from Lb.any_take1 hbk h HE.out)
        have HYes := Lib.hid (fun (h : nearOf ms p on b = true) => show R = true by rw [← HR.out, List.any_eq_true]; exact ⟨b, hbm, h⟩)
        rw [hnx] at HNo HYes
        clear hE hX hB hc hbk hbm hh1 hh2 ht1 ht2 ha1 ha2 hnx hpl hlb
        go_upto_region 7 with (first
          | ((with_reducible refine at_load (ty := 31) ?_); refine load_cells rfl 31 (.tmp 24) rfl q (o + k * 21) rfl [.string (b.p).nm, .int .i64 (b.p).n0, .int .i64 (b.p).n1, .int .i64 (b.p).n2, .int .i64 (b.p).n3, .int .i64 (b.p).n4, .slice (b.p).la (b.p).labs.length (b.p).lk, .slice (b.p).sa (b.p).sels.length (b.p).sk, .slice (b.p).ta (b.p).trms.length (b.p).tk, .slice (b.p).ba (b.p).bers.length (b.p).bk, .slice (b.p).pa (b.p).prts.length (b.p).pk, .slice (b.p).aa (b.p).aprs.length (b.p).ak, .bool (b.p).wd, .slice (b.p).da (b.p).spds.length (b.p).dk, .int .i64 (b.p).sw, .int .i64 (b.p).rk, .string (b.p).ow, .bool (b.p).dm, .bool (b.p).pn, .bool (b.p).lc] _ Tryz.underlying31 rfl (by kernel_rfl) HRq.out ?_)
          | ((with_reducible refine at_store (ty := 31) ?_); refine store_new rfl 31 (.tmp 10) (.tmp 25) rfl _ _ (by first | rfl | (show _ = Value.pointer (some ⟨wr.heap.size, 0, none⟩); rw [hZ]; rfl)) rfl (by kernel_rfl) rfl (List.all_eq_true.2 (prow_one b.p)) rfl ?_))
        (try rw [hZ])
        rw [← hw5]
        clear hw5 hZ
        have y5c0 : w5.cell? ⟨w.heap.size, 0, none⟩ = some (.string p.nm) := HX5.out.cell 0
        have y5c6 : w5.cell? ⟨w.heap.size, 6, none⟩ = some (.slice p.la p.labs.length p.lk) := HX5.out.cell 6
        have y5c11 := HC11.out _ HX5.out
        have y5c12 : w5.cell? ⟨w.heap.size, 12, none⟩ = some (.bool p.wd) := HX5.out.cell 12
        have y5d0 : w5.cell? ⟨Z, 0, none⟩ = some (.string b.p.nm) := HZ5.out.cell 0
        have y5d6 : w5.cell? ⟨Z, 6, none⟩ = some (.slice b.p.la b.p.labs.length b.p.lk) := HZ5.out.cell 6
        have y5d11 := HD11.out _ HZ5.out
        have y5d12 : w5.cell? ⟨Z, 12, none⟩ = some (.bool b.p.wd) := HZ5.out.cell 12
        have y5e20 : w5.cell? ⟨q, o + k * 21 + 20, none⟩ = some (.string b.on) := (HB5.out.cell (p := ⟨q, o + k * 21 + 20, none⟩) hq).trans HE20.out
        have y5lx := HX5.out.lt
        have y5lz := HZ5.out.lt
        have y5lq := Nat.lt_of_lt_of_le hq HB5.out.size
        by_cases hnm : b.p.nm = p.nm
        · have q1 := str_yes hnm
          have HNx := Lib.hid (HNo.out (by unfold matB; rw [decide_eq_true hnm]; simp))
          clear hnm HNo HYes
          go_wp2
          go_roundw
          case rel => exact ⟨k + 1, by omega, by go_num, HNx.out, HX5.out, HBb.out.trans (HBa.out.mono HBb.out.size)⟩
          case measure => simp [intOf]; omega
        · have q1 := str_no hnm
          by_cases hon : b.on = emp
          · have q2 := (emp_yes hon).2.2
            have HNx := Lib.hid (HNo.out (by unfold matB; rw [decide_eq_true hon]; rfl))
            clear hnm hon HNo HYes
            go_wp2
            go_roundw
            case rel => exact ⟨k + 1, by omega, by go_num, HNx.out, HX5.out, HBb.out.trans (HBa.out.mono HBb.out.size)⟩
            case measure => simp [intOf]; omega
          · have q2 := (emp_no hon).2.2
            have hma : matB b p = true := by unfold matB; rw [decide_eq_false hon, decide_eq_false hnm]; rfl
            rw [hma] at HNo HYes
            clear hnm hon hma
            have C2 : (a2 = 0) ∨ (0 < a2 ∧ h2 = false) ∨ (0 < a2 ∧ h2 = true ∧ t2 = false) ∨ (0 < a2 ∧ h2 = true ∧ t2 = true) := by
              rcases Nat.eq_zero_or_pos a2 with h | h
              · exact .inl h
              · cases h2 <;> cases t2 <;> simp [h]
            by_cases hT : 0 < a1 ∧ h1 = true ∧ t1 = true
            · obtain ⟨C1, rfl, rfl⟩ := hT
              have HRt := Lib.hid (HYes.out (by simp; omega))
              clear HNo HYes C2
              go_upto_region 8 with (fail)
              have hcH := held_cell
              refine region_rel (by kernel_rfl) (by kernel_rfl) ?_
              repeat
                ((with_reducible refine relStep (fun K hK => ?_))
                 (have HK := Lib.hid hK)
                 clear hK
                 (apply relInl
                  · intro r n hf
                    have Hf := Lib.hid hf
                    clear hf
                    (first
                      | (fail)
                      | (unfold relAt
                         go_simp
                         (first | (refine relUpon_val ?_ (Below.refl _ _); exact rfl) | exact rfl | (refine relUpon_enter ?_; (first | (go_at_call 76; (first | (with_reducible refine (HH1.out _ (HB5.out.trans (n.below.mono HB5.out.size))).mono ?_) | (with_reducible refine (HH2.out _ (HB5.out.trans (n.below.mono HB5.out.size))).mono ?_)); rintro e w9 ⟨rfl, hb⟩; exact ⟨⟨_, rfl, rfl⟩, hb⟩) | (go_at_call 83; (first | (with_reducible refine (HT1.out _ (HB5.out.trans (n.below.mono HB5.out.size))).mono ?_) | (with_reducible refine (HT2.out _ (HB5.out.trans (n.below.mono HB5.out.size))).mono ?_)); rintro e w9 ⟨rfl, hb⟩; exact ⟨⟨_, rfl, rfl⟩, hb⟩))))))
                  (simp only [Act.put, List.setIfInBounds_toArray, List.set_cons_zero, List.set_cons_succ])
                  (with_reducible refine HK.out _ _ ?_)
                  clear HK K))
              refine relNil ?_
              intro r6 n6 hx6
              clear hcH
              (try simp only [List.nil_append, List.cons_append, List.mem_cons, List.not_mem_nil, or_false, forall_eq_or_imp, forall_eq, false_implies, implies_true] at hx6)
              obtain ⟨w6, hb6⟩ := n6
              (try dsimp only)
              obtain ⟨hc6, hf6⟩ := bcell hb6
              have hz6 := hb6.size
              (try simp at hz6)
              have HB6 := Lib.hid (HB5.out.trans (hb6.mono HB5.out.size))
              have HX6 := Lib.hid (HX5.out.mono hb6)
              have HZ6 := Lib.hid (HZ5.out.below hb6)
              clear hb6 hc6 hf6 hz6
              clear y5c0 y5c6 y5c11 y5c12 y5d0 y5d6 y5d11 y5d12 y5e20 y5lx y5lz y5lq
              go_wp2
              go_ret
              exact ⟨by first | rfl | (rw [HRt.out]; first | done | rfl), HBb.out.trans (HB6.out.mono HBb.out.size)⟩
            · have C1 : (a1 = 0) ∨ (0 < a1 ∧ h1 = false) ∨ (0 < a1 ∧ h1 = true ∧ t1 = false) := by
                rcases Nat.eq_zero_or_pos a1 with h | h
                · exact .inl h
                · cases h1 <;> cases t1 <;> simp [h] at hT ⊢
              clear hT
              rcases C1 with C1 | ⟨C1, rfl⟩ | ⟨C1, rfl, rfl⟩
              all_goals (try subst C1)
              all_goals
                go_upto_region 8 with (fail)
                have hcH := held_cell
                refine region_rel (by kernel_rfl) (by kernel_rfl) ?_
                repeat
                  ((with_reducible refine relStep (fun K hK => ?_))
                   (have HK := Lib.hid hK)
                   clear hK
                   (apply relInl
                    · intro r n hf
                      have Hf := Lib.hid hf
                      clear hf
                      (first
                        | (fail)
                        | (unfold relAt
                           go_simp
                           (first | (refine relUpon_val ?_ (Below.refl _ _); exact rfl) | exact rfl | (refine relUpon_enter ?_; (first | (go_at_call 76; (first | (with_reducible refine (HH1.out _ (HB5.out.trans (n.below.mono HB5.out.size))).mono ?_) | (with_reducible refine (HH2.out _ (HB5.out.trans (n.below.mono HB5.out.size))).mono ?_)); rintro e w9 ⟨rfl, hb⟩; exact ⟨⟨_, rfl, rfl⟩, hb⟩) | (go_at_call 83; (first | (with_reducible refine (HT1.out _ (HB5.out.trans (n.below.mono HB5.out.size))).mono ?_) | (with_reducible refine (HT2.out _ (HB5.out.trans (n.below.mono HB5.out.size))).mono ?_)); rintro e w9 ⟨rfl, hb⟩; exact ⟨⟨_, rfl, rfl⟩, hb⟩))))))
                    (simp only [Act.put, List.setIfInBounds_toArray, List.set_cons_zero, List.set_cons_succ])
                    (with_reducible refine HK.out _ _ ?_)
                    clear HK K))
                refine relNil ?_
                intro r6 n6 hx6
                clear hcH
                (try simp only [List.nil_append, List.cons_append, List.mem_cons, List.not_mem_nil, or_false, forall_eq_or_imp, forall_eq, false_implies, implies_true] at hx6)
                obtain ⟨w6, hb6⟩ := n6
                (try dsimp only)
                obtain ⟨hc6, hf6⟩ := bcell hb6
                have hz6 := hb6.size
                (try simp at hz6)
                have HB6 := Lib.hid (HB5.out.trans (hb6.mono HB5.out.size))
                have HX6 := Lib.hid (HX5.out.mono hb6)
                have HZ6 := Lib.hid (HZ5.out.below hb6)
                clear hb6 hc6 hf6 hz6
                clear y5c0 y5c6 y5c11 y5c12 y5d0 y5d6 y5d11 y5d12 y5e20 y5lx y5lz y5lq
                have y6c0 : w6.cell? ⟨w.heap.size, 0, none⟩ = some (.string p.nm) := HX6.out.cell 0
                have y6c6 : w6.cell? ⟨w.heap.size, 6, none⟩ = some (.slice p.la p.labs.length p.lk) := HX6.out.cell 6
                have y6c11 := HC11.out _ HX6.out
                have y6c12 : w6.cell? ⟨w.heap.size, 12, none⟩ = some (.bool p.wd) := HX6.out.cell 12
                have y6d0 : w6.cell? ⟨Z, 0, none⟩ = some (.string b.p.nm) := HZ6.out.cell 0
                have y6d6 : w6.cell? ⟨Z, 6, none⟩ = some (.slice b.p.la b.p.labs.length b.p.lk) := HZ6.out.cell 6
                have y6d11 := HD11.out _ HZ6.out
                have y6d12 : w6.cell? ⟨Z, 12, none⟩ = some (.bool b.p.wd) := HZ6.out.cell 12
                have y6e20 : w6.cell? ⟨q, o + k * 21 + 20, none⟩ = some (.string b.on) := (HB6.out.cell (p := ⟨q, o + k * 21 + 20, none⟩) hq).trans HE20.out
                have y6lx := HX6.out.lt
                have y6lz := HZ6.out.lt
                have y6lq := Nat.lt_of_lt_of_le hq HB6.out.size
                rcases C2 with C2 | ⟨C2, rfl⟩ | ⟨C2, rfl, rfl⟩ | ⟨C2, rfl, rfl⟩
                all_goals (try subst C2)
                all_goals
                  go_upto_region 10 with (fail)
                  have hcH := held_cell
                  refine region_rel (by kernel_rfl) (by kernel_rfl) ?_
                  repeat
                    ((with_reducible refine relStep (fun K hK => ?_))
                     (have HK := Lib.hid hK)
                     clear hK
                     (apply relInl
                      · intro r n hf
                        have Hf := Lib.hid hf
                        clear hf
                        (first
                          | (fail)
                          | (unfold relAt
                             go_simp
                             (first | (refine relUpon_val ?_ (Below.refl _ _); exact rfl) | exact rfl | (refine relUpon_enter ?_; (first | (go_at_call 76; (first | (with_reducible refine (HH1.out _ (HB6.out.trans (n.below.mono HB6.out.size))).mono ?_) | (with_reducible refine (HH2.out _ (HB6.out.trans (n.below.mono HB6.out.size))).mono ?_)); rintro e w9 ⟨rfl, hb⟩; exact ⟨⟨_, rfl, rfl⟩, hb⟩) | (go_at_call 83; (first | (with_reducible refine (HT1.out _ (HB6.out.trans (n.below.mono HB6.out.size))).mono ?_) | (with_reducible refine (HT2.out _ (HB6.out.trans (n.below.mono HB6.out.size))).mono ?_)); rintro e w9 ⟨rfl, hb⟩; exact ⟨⟨_, rfl, rfl⟩, hb⟩))))))
                      (simp only [Act.put, List.setIfInBounds_toArray, List.set_cons_zero, List.set_cons_succ])
                      (with_reducible refine HK.out _ _ ?_)
                      clear HK K))
                  refine relNil ?_
                  intro r7 n7 hx7
                  clear hcH
                  (try simp only [List.nil_append, List.cons_append, List.mem_cons, List.not_mem_nil, or_false, forall_eq_or_imp, forall_eq, false_implies, implies_true] at hx7)
                  obtain ⟨w7, hb7⟩ := n7
                  (try dsimp only)
                  obtain ⟨hc7, hf7⟩ := bcell hb7
                  have hz7 := hb7.size
                  (try simp at hz7)
                  have HB7 := Lib.hid (HB6.out.trans (hb7.mono HB6.out.size))
                  have HX7 := Lib.hid (HX6.out.mono hb7)
                  have HZ7 := Lib.hid (HZ6.out.below hb7)
                  clear hb7 hc7 hf7 hz7
                  clear y6c0 y6c6 y6c11 y6c12 y6d0 y6d6 y6d11 y6d12 y6e20 y6lx y6lz y6lq
                  first
                    | (have HNx := Lib.hid (HNo.out (by simp))
                       clear HNo HYes
                       go_wp2
                       go_roundw
                       case rel => exact ⟨k + 1, by omega, by go_num, HNx.out, HX7.out, HBb.out.trans (HB7.out.mono HBb.out.size)⟩
                       case measure => simp [intOf]; omega)
                    | (have HRt := Lib.hid (HYes.out (by simp; omega))
                       clear HNo HYes
                       go_wp2
                       go_ret
                       exact ⟨by first | rfl | (rw [HRt.out]; first | done | rfl), HBb.out.trans (HB7.out.mono HBb.out.size)⟩)
      · obtain rfl : N = k := by omega
        have HRf := Lib.hid (show R = false by
          rw [← HR.out]
          have h9 := HE.out
          rw [List.take_of_length_le (by rw [HN.out]; exact Nat.le_refl _)] at h9
          exact h9)
        clear hE hX hB
        go_wp2
        go_ret
        exact ⟨by first | rfl | (rw [HRf.out]; first | done | rfl), HBb.out⟩
end Go.Proofs.YthbpnfpalcgfeaaGreat
