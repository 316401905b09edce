/-
  PermitTaken: what is permitted in the state of a provider the provider takes.
-/
import Derived.Test.YtmkdfcggjlhcpaaGreatDoorPW0x
import Derived.Deep.Cut
namespace Go.Proofs.YtmkdfcggjlhcpaaGreatDoor
open Go.RowKit
set_option linter.unusedVariables false
set_option linter.unusedSimpArgs false
namespace permitTaken
set_option maxRecDepth 100000 in
set_option maxHeartbeats 32000000 in
theorem walkD (x : Wd) (w : World) (hT : Tab10 w) (hI : WdIn w x) (hE : lightGs x.l = true ∧ rightGs x.l = true ∧ x.l.length ≤ 4 ∧ x.c.nm.size ≤ 300) (hM30 : 30 < x.xs.length) (hw : ¬ (x.c.what = sUp ∨ x.c.what = sRaise ∨ x.c.what = sFix)) :
    Calls Tryz.prog 3 #[.agg #[.slice x.ga x.l.length x.gk, .int .i64 x.dl, .slice x.xa x.xs.length x.xk, .string x.c.what, .string x.c.nm, .int .i64 x.c.n]] w fun e w' => e = .returned (.bool true) ∧ Below w.heap.size w w' := by
  have HT := Lib.hid hT
  obtain ⟨ga, l, ka, dl, xa, xs, xk, what, nm, cn⟩ := x
  obtain ⟨hg, hm, hgn, ho, hoi, hci, hdb, hgl, hol⟩ := hI
  dsimp only at hg hm hgn ho hoi hci hdb hgl hol hE hM30 hw ⊢
  obtain ⟨hl0, hr0, h4, h3⟩ := hE
  have Hw := Lib.hid hw
  clear hw
  have HGi := Lib.hid hg
  have HMi := Lib.hid hm
  have HGn := Lib.hid hgn
  have HOi := Lib.hid ho
  have HOp := Lib.hid hoi
  have HCi := Lib.hid hci
  have HDb := Lib.hid hdb
  have HLg := Lib.hid (fun V (hV : Below w.heap.size w V) => lightgs_any ga l ka V (hg.mono hV) hgl (fun g hx => (hm g hx).mono hV))
  have HRg := Lib.hid (fun V (hV : Below w.heap.size w V) (h : lightGs l = true) => refrightgs_any ga l ka V (hg.mono hV) (fun g hx => (hm g hx).mono hV) h)
  have HGl := Lib.hid hgl
  have HOl := Lib.hid hol
  obtain ⟨lg, hlg⟩ : ∃ b, lightGs l = b := ⟨_, rfl⟩
  obtain ⟨rg, hrg⟩ : ∃ b, rightGs l = b := ⟨_, rfl⟩
  have Hlg := Lib.hid hlg
  have Hrg := Lib.hid hrg
  rw [hlg] at HLg HRg
  rw [hrg] at HRg
  obtain ⟨N, hN⟩ : ∃ n, l.length = n := ⟨_, rfl⟩
  obtain ⟨M, hM⟩ : ∃ n, xs.length = n := ⟨_, rfl⟩
  have HN := Lib.hid hN
  have HM := Lib.hid hM
  rw [hN] at HLg HRg h4 ⊢
  rw [hM] at hol hM30 ⊢
  obtain rfl : true = lg := by rw [← hlg, hl0]
  obtain rfl : true = rg := by rw [← hrg, hr0]
  clear hT hg hm hgn ho hoi hci hdb hgl hN hM hlg hrg hl0 hr0
  obtain ⟨W, hW⟩ : ∃ W, W = w.alloc (.cells #[.slice ga N ka, .int .i64 dl, .slice xa M xk, .string what, .string nm, .int .i64 cn] 27) := ⟨_, rfl⟩
  have HS := Lib.hid (show Blk W w.heap.size 27 [.slice ga N ka, .int .i64 dl, .slice xa M xk, .string what, .string nm, .int .i64 cn] by rw [hW]; exact Blk.new w _ _)
  have HB := Lib.hid (show Below w.heap.size w W by rw [hW]; exact (Below.refl _ _).alloc (Nat.le_refl _) _)
  have hlt := HS.out.lt
  go_enter Tryz.func3, Tryz.ntmps3
  go_upto_region 1 with (fail)
  rw [← hW]
  clear hW
  have s0 := HS.out.cell 0
  dsimp only [List.getElem?_cons_zero, List.getElem?_cons_succ] at s0
  have k4 : decide (4 < N) = false := decide_eq_false (by omega)
  have k4i : decide ((4 : Int) < (N : Int)) = false := decide_eq_false (by omega)
  have k3 : decide (300 < nm.size) = false := decide_eq_false (by omega)
  have k3i : decide ((300 : Int) < (nm.size : Int)) = false := decide_eq_false (by omega)
  go_upto_region 3 with (first
    | (go_at_call 4; (with_reducible refine (HLg.out _ HB.out).mono ?_); rintro e w1 ⟨rfl, hb⟩; have HB1 := Lib.hid (HB.out.trans (hb.mono HB.out.size)); have HS1 := Lib.hid (HS.out.below hb); have hlt1 := HS1.out.lt; clear hb s0; have s0 := HS1.out.cell 0; dsimp only [List.getElem?_cons_zero, List.getElem?_cons_succ] at s0)
    | (go_at_call 5; (with_reducible refine (HRg.out _ HB1.out (by trivial)).mono ?_); rintro e w2 ⟨rfl, hb⟩; have HB2 := Lib.hid (HB1.out.trans (hb.mono HB1.out.size)); have HS2 := Lib.hid (HS1.out.below hb); have hlt2 := HS2.out.lt; clear hb s0; have s0 := HS2.out.cell 0; have s4 := HS2.out.cell 4; dsimp only [List.getElem?_cons_zero, List.getElem?_cons_succ] at s0 s4))
  have HGr := Lib.hid (GrOk.mk' Hrg.out Hlg.out)
  clear HLg HRg HB HS hlt HB1 HS1 hlt1 s0 s4
  go_wp2
  go_loopw [3] (fun i wr => ∃ k : Nat, k ≤ N ∧ i = .int .i64 k ∧ Below w2.heap.size w2 wr) (fun i _ => N - (intOf i).toNat)
  case atStart => exact ⟨0, Nat.zero_le _, rfl, Below.refl _ _⟩
  case round =>
    obtain ⟨k, hk, rfl, hbr⟩ := hrel
    have HBr := Lib.hid (HB2.out.trans (hbr.mono HB2.out.size))
    have HSr := Lib.hid (HS2.out.below hbr)
    have HBq := Lib.hid hbr
    have hlr := HSr.out.lt
    have s0 := HSr.out.cell 0
    dsimp only [List.getElem?_cons_zero, List.getElem?_cons_succ] at s0
    clear hbr
    by_cases hlt : k < N
    · obtain ⟨g, hg⟩ := mem_at (l := l) (k := k) (by rw [HN.out]; exact hlt)
      obtain ⟨bg, og, rfl, hbg, hcg⟩ := HGi.out (by rw [HN.out]; omega)
      obtain ⟨-, -, g2, -⟩ := grow_cells (hcg k g hg)
      have g2 := (HBr.out.cell (p := ⟨bg, og + k * 15 + 2, none⟩) hbg).trans g2
      have hbgr : bg < wr.heap.size := Nat.lt_of_lt_of_le hbg HBr.out.size
      obtain ⟨mx, hmx⟩ : ∃ mx, g.mx = mx := ⟨_, rfl⟩
      rw [hmx] at g2
      clear hcg hg hmx
      by_cases h8 : 8 < mx
      · have k8 : decide (8 < mx) = true := decide_eq_true h8
        go_wp2_with (go_at_call 6; (with_reducible refine (known_any _).mono ?_); rintro e w8 ⟨rfl, hb⟩; have HB8 := Lib.hid (HBr.out.trans (hb.mono HBr.out.size)); clear hb)
        refine bodyPost_ret (v := .bool true) (by simp [results, Tryz.results3, go_sem]) rfl ⟨rfl, HB8.out⟩
      · have k8 : decide (8 < mx) = false := decide_eq_false h8
        go_wp2
        go_roundw
        case rel => exact ⟨k + 1, by omega, by go_num, HBq.out⟩
        case measure => simp [intOf]; omega
    · obtain rfl : N = k := by omega
      have s1 := HSr.out.cell 1
      dsimp only [List.getElem?_cons_zero, List.getElem?_cons_succ] at s1
      obtain ⟨V0, hV0⟩ : ∃ V, V = wr := ⟨_, rfl⟩
      rw [← hV0] at HBr HSr hlr s0 s1 ⊢
      clear hV0 HBq HB2 HS2 hlt2 hk hlt
      have hq3 := and3 dl
      obtain ⟨q, hq⟩ : ∃ q, bits .and .i64 dl 3 = q := ⟨_, rfl⟩
      rw [hq] at hq3
      have kw : IntKind.i64.wrap (1 + q) = 1 + q := wrap_in (by omega) (by omega)
      have HNw := Lib.hid (pnew_prov ga l ka (1 + q) V0 (HGi.out.mono HBr.out) (fun g hx => (HMi.out g hx).mono HBr.out) Hlg.out Hrg.out (by omega) (HT.out.mono HBr.out))
      rw [HN.out] at HNw
      go_upto_region 11 with (go_at_call 7; (with_reducible refine HNw.out.mono ?_); rintro e w3 ⟨c, rfl, hP⟩; have HP3 := Lib.hid hP; clear hP)
      have HG0 := Lib.hid (show (CS.new (l.map gkOf) (1 + q)).G = l.map gkOf ∧ (CS.new (l.map gkOf) (1 + q)).NoBr from ⟨rfl, nobr_new _ _⟩)
      obtain ⟨cs0, hcs0⟩ : ∃ s, CS.new (l.map gkOf) (1 + q) = s := ⟨_, rfl⟩
      rw [hcs0] at HP3 HG0
      clear hcs0 HNw kw hq hq3 s0 s1
      go_wp2
      go_loopw [6] (fun i wr => ∃ (k : Nat) (s : CS), k ≤ M ∧ k ≤ 30 ∧ i = .int .i64 k ∧ Prov V0 c s (k + 1) [] wr ∧ s.G = l.map gkOf ∧ s.NoBr) (fun i _ => M - (intOf i).toNat)
      case atStart => exact ⟨0, cs0, Nat.zero_le _, Nat.zero_le _, rfl, HP3.out, HG0.out.1, HG0.out.2⟩
      case round =>
        obtain ⟨k, s, hk, hk3, rfl, hP, hG, hBr⟩ := hrel
        have HP := Lib.hid hP
        have HG := Lib.hid hG
        have HNb := Lib.hid hBr
        have HSq := Lib.hid (HSr.out.below hP.bl)
        have hlq := HSq.out.lt
        have s2 := HSq.out.cell 2
        dsimp only [List.getElem?_cons_zero, List.getElem?_cons_succ] at s2
        clear hP hG hBr HP3 HG0
        by_cases hlt : k < M ∧ k < 30
        · obtain ⟨hl1, hl2⟩ := hlt
          obtain ⟨⟨yk, ynm, ygp, yn, yis⟩, hy⟩ := mem_at (l := xs) (k := k) (by rw [HM.out]; exact hl1)
          obtain ⟨bx, ox, rfl, hbx, hcx⟩ := HOi.out (by rw [HM.out]; omega)
          have hyi := HOp.out _ (List.mem_of_getElem? hy)
          have HBw := Lib.hid (HBr.out.trans (HP.out.bl.mono HBr.out.size))
          have HRy := Lib.hid (show wr.rangeAt bx (ox + k * 5) [.int .i64 yk, .string ynm, .string ygp, .int .i64 yn, .bool yis] from fun j v hj => by
            have hj5 : j < 5 := (List.getElem?_eq_some_iff.1 hj).1
            rw [HBw.out.cell (p := ⟨bx, ox + k * 5 + j, none⟩) hbx, hcx k _ hy j hj5]
            exact hj)
          have hbxr : bx < wr.heap.size := Nat.lt_of_lt_of_le hbx HBw.out.size
          obtain ⟨hy0, hy1⟩ : -9223372036854775808 ≤ yn ∧ yn ≤ 9223372036854775807 := hyi
          have HPa := Lib.hid (HP.out.below (below_alloc wr (.cells #[.int .i64 yk, .string ynm, .string ygp, .int .i64 yn, .bool yis] 43)))
          have H1 := Lib.hid (pv_inc V0 c (k + 1) s [] _ HPa.out (by omega) (HT.out.mono HBr.out) ygp yn hy0 hy1)
          have H2 := Lib.hid (pv_del V0 c (k + 1) s [] _ HPa.out (by omega) ynm)
          have H3 := Lib.hid (pv_dec V0 c (k + 1) s [] _ HPa.out (by omega) ygp yn hy0 hy1)
          have H4 := Lib.hid (pv_fail V0 c (k + 1) s [] _ HPa.out (by omega) ynm)
          have H5 := Lib.hid (pv_tick V0 c (k + 1) s [] _ HPa.out (by omega))
          have HR := Lib.hid (fun (s' : CS) (h : CS.Kp s s') => show s'.G = l.map gkOf ∧ s'.NoBr from ⟨h.1.trans HG.out, h.2 HNb.out⟩)
          clear hy hcx hy0 hy1
          by_cases e0 : yk = 0
          · subst e0
            go_wp2_with (first
              | ((with_reducible refine at_load (ty := 43) ?_); refine load_cells rfl 43 (.tmp 85) rfl bx (ox + k * 5) rfl [.int .i64 _, .string ynm, .string ygp, .int .i64 yn, .bool yis] _ Tryz.underlying43 rfl (by kernel_rfl) HRy.out ?_)
              | ((with_reducible refine at_store (ty := 43) ?_); refine store_new rfl 43 (.tmp 7) (.tmp 86) rfl _ _ rfl rfl (by kernel_rfl) rfl (by rfl) rfl ?_)
              | (go_at_call 8; (with_reducible refine H1.out.mono ?_); rintro e w4 ⟨rfl, hP, hK⟩; have HP4 := Lib.hid hP; clear hP hK))
            go_roundw
            case rel => exact ⟨k + 1, _, by omega, by omega, by go_num, HP4.out, (HR.out _ (kp_inc s _ _)).1, (HR.out _ (kp_inc s _ _)).2⟩
            case measure => simp [intOf]; omega
          · have q0 : (yk == 0) = false := by simpa using e0
            by_cases e1 : yk = 1
            · subst e1
              go_wp2_with (first
                | ((with_reducible refine at_load (ty := 43) ?_); refine load_cells rfl 43 (.tmp 85) rfl bx (ox + k * 5) rfl [.int .i64 _, .string ynm, .string ygp, .int .i64 yn, .bool yis] _ Tryz.underlying43 rfl (by kernel_rfl) HRy.out ?_)
                | ((with_reducible refine at_store (ty := 43) ?_); refine store_new rfl 43 (.tmp 7) (.tmp 86) rfl _ _ rfl rfl (by kernel_rfl) rfl (by rfl) rfl ?_)
                | (go_at_call 9; (with_reducible refine H2.out.mono ?_); rintro e w4 ⟨rfl, hP, hK⟩; have HP4 := Lib.hid hP; clear hP hK))
              go_roundw
              case rel => exact ⟨k + 1, _, by omega, by omega, by go_num, HP4.out, (HR.out _ (kp_del s _)).1, (HR.out _ (kp_del s _)).2⟩
              case measure => simp [intOf]; omega
            · have q1 : (yk == 1) = false := by simpa using e1
              by_cases e2 : yk = 2
              · subst e2
                go_wp2_with (first
                  | ((with_reducible refine at_load (ty := 43) ?_); refine load_cells rfl 43 (.tmp 85) rfl bx (ox + k * 5) rfl [.int .i64 _, .string ynm, .string ygp, .int .i64 yn, .bool yis] _ Tryz.underlying43 rfl (by kernel_rfl) HRy.out ?_)
                  | ((with_reducible refine at_store (ty := 43) ?_); refine store_new rfl 43 (.tmp 7) (.tmp 86) rfl _ _ rfl rfl (by kernel_rfl) rfl (by rfl) rfl ?_)
                  | (go_at_call 10; (with_reducible refine H3.out.mono ?_); rintro e w4 ⟨rfl, hP, hK⟩; have HP4 := Lib.hid hP; clear hP hK))
                go_roundw
                case rel => exact ⟨k + 1, _, by omega, by omega, by go_num, HP4.out, (HR.out _ (kp_dec s _ _)).1, (HR.out _ (kp_dec s _ _)).2⟩
                case measure => simp [intOf]; omega
              · have q2 : (yk == 2) = false := by simpa using e2
                by_cases e4 : yk = 4
                · subst e4
                  go_wp2_with (first
                    | ((with_reducible refine at_load (ty := 43) ?_); refine load_cells rfl 43 (.tmp 85) rfl bx (ox + k * 5) rfl [.int .i64 _, .string ynm, .string ygp, .int .i64 yn, .bool yis] _ Tryz.underlying43 rfl (by kernel_rfl) HRy.out ?_)
                    | ((with_reducible refine at_store (ty := 43) ?_); refine store_new rfl 43 (.tmp 7) (.tmp 86) rfl _ _ rfl rfl (by kernel_rfl) rfl (by rfl) rfl ?_)
                    | (go_at_call 11; (with_reducible refine H4.out.mono ?_); rintro e w4 ⟨rfl, hP, hK⟩; have HP4 := Lib.hid hP; clear hP hK))
                  go_roundw
                  case rel => exact ⟨k + 1, _, by omega, by omega, by go_num, HP4.out, (HR.out _ (kp_fail s _)).1, (HR.out _ (kp_fail s _)).2⟩
                  case measure => simp [intOf]; omega
                · have q4 : (yk == 4) = false := by simpa using e4
                  go_wp2_with (first
                    | ((with_reducible refine at_load (ty := 43) ?_); refine load_cells rfl 43 (.tmp 85) rfl bx (ox + k * 5) rfl [.int .i64 _, .string ynm, .string ygp, .int .i64 yn, .bool yis] _ Tryz.underlying43 rfl (by kernel_rfl) HRy.out ?_)
                    | ((with_reducible refine at_store (ty := 43) ?_); refine store_new rfl 43 (.tmp 7) (.tmp 86) rfl _ _ rfl rfl (by kernel_rfl) rfl (by rfl) rfl ?_)
                    | (go_at_call 12; (with_reducible refine H5.out.mono ?_); rintro e w4 ⟨rfl, hP, hK⟩; have HP4 := Lib.hid hP; clear hP hK))
                  go_roundw
                  case rel => exact ⟨k + 1, _, by omega, by omega, by go_num, HP4.out, (HR.out _ (kp_tick s)).1, (HR.out _ (kp_tick s)).2⟩
                  case measure => simp [intOf]; omega
        · have HP := Lib.hid (HP.out.up (show k + 1 ≤ 31 by omega))
          have HOf := Lib.hid (of_prov ga l ka V0 c 31 s [] wr HP.out (by omega) HG.out (HGi.out.mono HBr.out) HGn.out (fun g hx => (HMi.out g hx).mono HBr.out) Hlg.out Hrg.out)
          have hkf := kp_fail s emp
          obtain ⟨cs, hcs⟩ : ∃ z, (s.fail emp).1 = z := ⟨_, rfl⟩
          rw [hcs, HN.out] at HOf
          rw [hcs] at hkf
          have HGc := Lib.hid (hkf.1.trans HG.out)
          have HNc := Lib.hid (hkf.2 HNb.out)
          have s0 := HSq.out.cell 0
          dsimp only [List.getElem?_cons_zero, List.getElem?_cons_succ] at s0
          have hl1 : k < M := by omega
          have hl2 : ¬ k < 30 := by omega
          clear hkf hcs hlt HNb HG
          go_upto_region 26 with (first
            | (go_at_call 13; (with_reducible refine HOf.out.mono ?_); rintro e w5 ⟨s1, rfl, hso, hal, hP, -⟩; have HO5 := Lib.hid hso; have HA1 := Lib.hid hal; have HP5 := Lib.hid hP; clear hso hal hP)
            | ((with_reducible refine at_store (ty := 52) ?_); refine store_new rfl 52 (.tmp 8) (.tmp 125) rfl _ _ rfl rfl (by kernel_rfl) rfl (by rfl) rfl ?_))
          obtain ⟨V1, hV1⟩ : ∃ V, V = w5.alloc (.cells #[.slice s1.ga s1.C.length s1.gk, .slice s1.ta s1.T.length s1.tk, .slice s1.ia s1.L.length s1.ik, .int .i64 s1.c0, .int .i64 s1.c1, .int .i64 s1.c2, .slice s1.ra s1.R.length s1.rk, .int .i64 s1.un, .int .i64 s1.sh] 52) := ⟨_, rfl⟩
          have hb5 : Below w5.heap.size w5 V1 := by rw [hV1]; exact below_alloc _ _
          have HT1 := Lib.hid (show Blk V1 w5.heap.size 52 [.slice s1.ga s1.C.length s1.gk, .slice s1.ta s1.T.length s1.tk, .slice s1.ia s1.L.length s1.ik, .int .i64 s1.c0, .int .i64 s1.c1, .int .i64 s1.c2, .slice s1.ra s1.R.length s1.rk, .int .i64 s1.un, .int .i64 s1.sh] by rw [hV1]; exact Blk.new _ _ _)
          have HO1 := Lib.hid (HO5.out.mono hb5)
          have HP1 := Lib.hid (HP5.out.below hb5)
          rw [← hV1]
          clear hV1 hb5 HO5 HP5 HOf HP HSq hlq s0 s2
          generalize w5.heap.size = SX at HT1 ⊢
          have HS1 := Lib.hid (HSr.out.below HP1.out.bl)
          have HB1 := Lib.hid (HBr.out.trans (HP1.out.bl.mono HBr.out.size))
          have HK1 := Lib.hid ((stOf_ok HP1.out.ok HGc.out HGr.out (by omega)).alike HA1.out)
          have HI1 := Lib.hid (HO1.out.sIn HK1.out.gl)
          have hL1 := HA1.out.l
          have hR1 := HA1.out.r
          have hLL : s1.L.length = cs.L.length := by rw [hL1]; rfl
          have hRR : s1.R.length = 0 := by rw [hR1]; rfl
          have hL6 := HP1.out.l6 (by omega)
          obtain ⟨nL, hnL⟩ : ∃ v, cs.L.length = v := ⟨_, rfl⟩
          have HnL := Lib.hid hnL
          rw [hnL] at hLL hL6
          have HIc := Lib.hid (fun (a : Option Addr) (ka : Nat) V (hV : Below V1.heap.size V1 V) (h : InsL V a cs.L) => insts_same s1.ia a s1.ik ka nL cs.L V (by have h9 := (HI1.out.mono hV).i; rw [hL1] at h9; exact h9) h hnL hL6)
          have HTx := Lib.hid (fun V => show Calls Tryz.prog 16 #[.slice s1.ra 0 s1.rk, .slice none 0 0] V fun e w' => e = .returned (.bool true) ∧ Below V.heap.size V w' from texts_any s1.ra none s1.rk 0 [] [] V RowsAt.nil RowsAt.nil (Nat.zero_le _) (Nat.zero_le _))
          have HIn := Lib.hid (fun V (hV : Below V1.heap.size V1 V) => pv_insts V0 c 32 cs [] V (HP1.out.below hV) (by omega))
          have y2 := HT1.out.cell 2
          have y6 := HT1.out.cell 6
          dsimp only [List.getElem?_cons_zero, List.getElem?_cons_succ] at y2 y6
          rw [hLL] at y2
          rw [hRR] at y6
          have hlS := HT1.out.lt
          have hlW := HS1.out.lt
          have HRs := Lib.hid (HT1.out.range 0 [.slice s1.ga s1.C.length s1.gk, .slice s1.ta s1.T.length s1.tk, .slice s1.ia s1.L.length s1.ik, .int .i64 s1.c0, .int .i64 s1.c1, .int .i64 s1.c2, .slice s1.ra s1.R.length s1.rk, .int .i64 s1.un, .int .i64 s1.sh] rfl)
          have HRc := Lib.hid (HS1.out.range 3 [.string what, .string nm, .int .i64 cn] rfl)
          clear hL1 hR1 hLL hRR hnL
          have hcH := held_cell
          refine region_rel (by kernel_rfl) (by kernel_rfl) ?_
          repeat
            ((with_reducible refine relStep (fun K hK => ?_))
             (have HK := Lib.hid hK)
             clear hK
             (apply relInl
              · intro r n hf
                have Hf := Lib.hid hf
                clear hf
                (first
                  | (fail)
                  | (unfold relAt
                     go_simp
                     (first | (refine relUpon_val ?_ (Below.refl _ _); exact rfl) | exact rfl | (refine relUpon_enter ?_; fail))))
              (simp only [Act.put, List.setIfInBounds_toArray, List.set_cons_zero, List.set_cons_succ])
              (with_reducible refine HK.out _ _ ?_)
              clear HK K))
          (with_reducible refine relStep (fun K hK => ?_))
          (have HK := Lib.hid hK)
          clear hK
          refine relInr (RIn 0 cs.L) (RIn.stays _ _) (fun r n hf => ?_) ?_
          · have Hf := Lib.hid hf
            clear hf HK K
            unfold relAt
            (skip)
            go_simp
            ((refine relUpon_enter ?_; go_at_call 15; (with_reducible refine (HIn.out _ n.below).mono ?_); rintro e w9 ⟨⟨v, rfl, hv⟩, hb⟩; exact ⟨⟨_, rfl, RIn.of hv (Nat.zero_le _)⟩, hb⟩))
          (simp only [Act.put, List.setIfInBounds_toArray, List.set_cons_zero, List.set_cons_succ])
          (with_reducible refine HK.out _ _ ?_)
          clear HK K
          ((with_reducible refine relStep (fun K hK => ?_))
           (have HK := Lib.hid hK)
           clear hK
           (apply relInl
            · intro r n hf
              have Hf := Lib.hid hf
              clear hf
              ((have h1 := given_at Hf.out 0 rfl (by dsimp only; decide +kernel); (try dsimp only at h1); obtain ⟨a, ka9, e1, h1⟩ := h1; have h2 := ins_own h1; rw [HnL.out] at e1; unfold relAt; go_simp; (try rw [e1]); refine relUpon_enter ?_; go_at_call 14; (with_reducible refine (HIc.out _ _ _ n.below h2).mono ?_); rintro e w9 ⟨rfl, hb⟩; exact ⟨⟨_, rfl, rfl⟩, hb⟩)))
           (simp only [Act.put, List.setIfInBounds_toArray, List.set_cons_zero, List.set_cons_succ])
           (with_reducible refine HK.out _ _ ?_)
           clear HK K)
          repeat
            ((with_reducible refine relStep (fun K hK => ?_))
             (have HK := Lib.hid hK)
             clear hK
             (apply relInl
              · intro r n hf
                have Hf := Lib.hid hf
                clear hf
                (first
                  | (fail)
                  | (unfold relAt
                     go_simp
                     (first | (refine relUpon_val ?_ (Below.refl _ _); exact rfl) | exact rfl | (refine relUpon_enter ?_; (go_at_call 16; (with_reducible refine (HTx.out _).mono ?_); rintro e w9 ⟨rfl, hb⟩; exact ⟨⟨_, rfl, rfl⟩, hb⟩)))))
              (simp only [Act.put, List.setIfInBounds_toArray, List.set_cons_zero, List.set_cons_succ])
              (with_reducible refine HK.out _ _ ?_)
              clear HK K))
          refine relNil ?_
          intro r7 n7 hx7
          clear hcH
          (try simp only [List.nil_append, List.cons_append, List.mem_cons, List.not_mem_nil, or_false, forall_eq_or_imp, forall_eq, false_implies, implies_true] at hx7)
          obtain ⟨w7, hb7⟩ := n7
          (try dsimp only)
          obtain ⟨hc7, hf7⟩ := bcell hb7
          have hz7 := hb7.size
          (try simp at hz7)
          have HB7 := Lib.hid (HB1.out.trans (hb7.mono HB1.out.size))
          have HP7 := Lib.hid (HP1.out.below hb7)
          have HS7 := Lib.hid (HS1.out.below hb7)
          have HT7 := Lib.hid (HT1.out.below hb7)
          have HI7 := Lib.hid (HI1.out.mono hb7)
          have hlS := HT7.out.lt
          have hlW := HS7.out.lt
          have HRs := Lib.hid (HT7.out.range 0 [.slice s1.ga s1.C.length s1.gk, .slice s1.ta s1.T.length s1.tk, .slice s1.ia s1.L.length s1.ik, .int .i64 s1.c0, .int .i64 s1.c1, .int .i64 s1.c2, .slice s1.ra s1.R.length s1.rk, .int .i64 s1.un, .int .i64 s1.sh] rfl)
          have HRc := Lib.hid (HS7.out.range 3 [.string what, .string nm, .int .i64 cn] rfl)
          have HCx := Lib.hid (fun V => callc_any ⟨what, nm, cn⟩ V)
          have hci : -9223372036854775808 ≤ cn ∧ cn ≤ 9223372036854775807 := HCi.out
          dsimp only at HCx
          obtain ⟨z, hz⟩ : ∃ z, whyP s1 what nm cn (bX s1 nm cn) = z := ⟨_, rfl⟩
          clear hx7 hb7 hc7 hf7 hz7 HIc HTx HIn y2 y6 HB1 HP1 HS1 HT1 HI1 HO1
          by_cases h0 : z = 0
          · subst h0
            have HAf := Lib.hid (fun V (hV : Below w7.heap.size w7 V) => after_yes (w := V) (HI7.out.mono hV) HK1.out hci.1 hci.2 hz)
            have Hz := Lib.hid hz
            clear hz hci
            go_upto_region 28 with (fail)
            have hcH := held_cell
            refine region_rel_late 9 [7] (by kernel_rfl) (by kernel_rfl) (by kernel_rfl) ?_ ?_
            · exact fun _ _ _ _ _ h => h
            dsimp only [List.take, List.drop]
            repeat
              ((with_reducible refine relStep (fun K hK => ?_))
               (have HK := Lib.hid hK)
               clear hK
               (apply relInl
                · intro r n hf
                  have Hf := Lib.hid hf
                  clear hf
                  (first
                    | ((first | ((with_reducible refine at_rel (ty := 52) ?_); refine rel_load rfl SX 0 rfl [.slice s1.ga s1.C.length s1.gk, .slice s1.ta s1.T.length s1.tk, .slice s1.ia s1.L.length s1.ik, .int .i64 s1.c0, .int .i64 s1.c1, .int .i64 s1.c2, .slice s1.ra s1.R.length s1.rk, .int .i64 s1.un, .int .i64 s1.sh] _ Tryz.underlying52 rfl (by kernel_rfl) (rangeAt_mono HRs.out hlS n.below) rfl) | ((with_reducible refine at_rel (ty := 25) ?_); refine rel_load rfl w.heap.size 3 rfl [.string what, .string nm, .int .i64 cn] _ Tryz.underlying25 rfl (by kernel_rfl) (rangeAt_mono HRc.out hlW n.below) rfl)))
                    | (unfold relAt
                       go_simp
                       (first | (refine relUpon_val ?_ (Below.refl _ _); exact rfl) | exact rfl | (refine relUpon_enter ?_; (go_at_call 18; (with_reducible refine (HCx.out _).mono ?_); rintro e w9 ⟨rfl, hb⟩; exact ⟨⟨_, rfl, rfl⟩, hb⟩)))))
                (simp only [Act.put, List.setIfInBounds_toArray, List.set_cons_zero, List.set_cons_succ])
                (with_reducible refine HK.out _ _ ?_)
                clear HK K))
            (with_reducible refine relStep (fun K hK => ?_))
            (have HK := Lib.hid hK)
            clear hK
            refine relInr (RA w7.heap.size (aft s1 what nm cn)) (RA.stays _ _) (fun r n hf => ?_) ?_
            · have Hf := Lib.hid hf
              clear hf HK K
              unfold relAt
              (skip)
              go_simp
              ((refine relUpon_enter ?_; go_at_call 17; (with_reducible refine (HAf.out _ n.below).mono ?_); rintro e w9 ⟨⟨s', rfl, h1, h2⟩, hb⟩; exact ⟨⟨_, rfl, ⟨s', rfl, h1.less n.below.size, h2⟩⟩, hb⟩))
            (simp only [Act.put, List.setIfInBounds_toArray, List.set_cons_zero, List.set_cons_succ])
            (with_reducible refine HK.out _ _ ?_)
            clear HK K
            (with_reducible refine relStep (fun K hK => ?_))
            (have HK := Lib.hid hK)
            clear hK
            refine relInr (RA w7.heap.size (aft s1 what nm cn)) (RA.stays _ _) (fun r n hf => ?_) ?_
            · have Hf := Lib.hid hf
              clear hf HK K
              unfold relAt
              ((have h1 := given_at Hf.out 0 rfl (by dsimp only; decide +kernel); (try dsimp only at h1)))
              go_simp
              ((exact relUpon_val h1 (Below.refl _ _)))
            (simp only [Act.put, List.setIfInBounds_toArray, List.set_cons_zero, List.set_cons_succ])
            (with_reducible refine HK.out _ _ ?_)
            clear HK K
            (with_reducible refine relStep (fun K hK => ?_))
            (have HK := Lib.hid hK)
            clear hK
            refine relInr (RE w7.heap.size (aft s1 what nm cn)) (RE.stays _ _) (fun r n hf => ?_) ?_
            · have Hf := Lib.hid hf
              clear hf HK K
              unfold relAt
              ((have h1 := given_at Hf.out 1 rfl (by dsimp only; decide +kernel); (try dsimp only at h1); obtain ⟨s', e1, h1, h2⟩ := h1; rw [e1]; have H1 := Lib.hid h1; have H2 := Lib.hid h2; clear h1 h2 e1))
              go_simp
              ((refine relUpon_val ⟨s', rfl, H1.out, H2.out⟩ (Below.refl _ _)))
            (simp only [Act.put, List.setIfInBounds_toArray, List.set_cons_zero, List.set_cons_succ])
            (with_reducible refine HK.out _ _ ?_)
            clear HK K
            (with_reducible refine relStep (fun K hK => ?_))
            (have HK := Lib.hid hK)
            clear hK
            refine relInr (RO) (RO.stays) (fun r n hf => ?_) ?_
            · have Hf := Lib.hid hf
              clear hf HK K
              unfold relAt
              ((have h1 := given_at Hf.out 1 rfl (by dsimp only; decide +kernel); (try dsimp only at h1); obtain ⟨s', e1, -, -⟩ := h1; rw [e1]; clear e1))
              go_simp
              ((exact relUpon_val rfl (Below.refl _ _)))
            (simp only [Act.put, List.setIfInBounds_toArray, List.set_cons_zero, List.set_cons_succ])
            (with_reducible refine HK.out _ _ ?_)
            clear HK K
            (with_reducible refine relStep (fun K hK => ?_))
            (have HK := Lib.hid hK)
            clear hK
            refine relInr (NewS w7.heap.size) (NewS.stays _) (fun r n hf => ?_) ?_
            · have Hf := Lib.hid hf
              clear hf HK K
              unfold relAt
              (skip)
              go_simp
              ((refine relUpon_val ?_ ?_; exact NewS.mk n; exact (Below.refl _ _).alloc (Nat.le_refl _) _))
            (simp only [Act.put, List.setIfInBounds_toArray, List.set_cons_zero, List.set_cons_succ])
            (with_reducible refine HK.out _ _ ?_)
            clear HK K
            refine relNil ?_
            intro r9 n9 hx9
            clear hcH
            (try simp only [List.nil_append, List.cons_append, List.mem_cons, List.not_mem_nil, or_false, forall_eq_or_imp, forall_eq, false_implies, implies_true] at hx9)
            obtain ⟨w9, hb9⟩ := n9
            (try dsimp only)
            obtain ⟨hc9, hf9⟩ := bcell hb9
            have hz9 := hb9.size
            (try simp at hz9)
            obtain ⟨-, -, ⟨s', e8, ho8, ha8⟩, e0, Xn, e9, hXn, hBn⟩ := hx9
            have e9 : r9 8 = _ := e9
            have e8 : r9 6 = _ := e8
            replace e0 : r9 7 = .int .i64 0 := e0
            dsimp only at hBn ho8 ha8
            rw [e9, e8, e0]
            have HN9 := Lib.hid hBn
            have HO9 := Lib.hid ho8
            have HB9 := Lib.hid hb9
            have HA9 := Lib.hid ha8
            have hXl := hBn.lt
            clear e9 e8 e0 hBn hc9 hf9 hb9 hz9 ho8 ha8 HAf HRc HRs
            go_upto_region 31 with ((with_reducible refine at_store (ty := 52) ?_); refine wpList_store_mid rfl 52 (.tmp 10) (.tmp 149) rfl Xn 0 _ rfl rfl (HN9.out.there 0 9 (Nat.le_of_ble_eq_true rfl)) (by kernel_rfl) (by rw [← Array.all_toList]; rfl) ?_; obtain ⟨W5, hW5⟩ : ∃ W5, W5 = w9.setCells Xn 0 [.slice s'.ga s'.C.length s'.gk, .slice s'.ta s'.T.length s'.tk, .slice s'.ia s'.L.length s'.ik, .int .i64 s'.c0, .int .i64 s'.c1, .int .i64 s'.c2, .slice s'.ra s'.R.length s'.rk, .int .i64 s'.un, .int .i64 s'.sh] := ⟨_, rfl⟩; (show wpList _ _ _ _ _ (w9.setCells Xn 0 [.slice s'.ga s'.C.length s'.gk, .slice s'.ta s'.T.length s'.tk, .slice s'.ia s'.L.length s'.ik, .int .i64 s'.c0, .int .i64 s'.c1, .int .i64 s'.c2, .slice s'.ra s'.R.length s'.rk, .int .i64 s'.un, .int .i64 s'.sh])); rw [← hW5]; have HO5 := Lib.hid (show Only [Xn] w9 W5 from by rw [hW5]; exact Only.setCells (.inl (by simp)) (Only.refl _ _) _ _); have HY5 := Lib.hid (show Blk W5 Xn 52 [.slice s'.ga s'.C.length s'.gk, .slice s'.ta s'.T.length s'.tk, .slice s'.ia s'.L.length s'.ik, .int .i64 s'.c0, .int .i64 s'.c1, .int .i64 s'.c2, .slice s'.ra s'.R.length s'.rk, .int .i64 s'.un, .int .i64 s'.sh] from by rw [hW5]; exact HN9.out.setCells 0 _); have HB5 := Lib.hid (show Below w7.heap.size w7 W5 from HO5.out.below HB9.out HB9.out.size (by simpa using hXn)); clear hW5)
            have HOn := Lib.hid (HO9.out.apart HN9.out HO5.out)
            have HTs := Lib.hid HA9.out.t
            have hTN : s1.T.length = N := by rw [HK1.out.lt, nrm_len HA1.out.c, ← HN.out]; rfl
            have hj : 0 < s1.T.length := by rcases why_zero Hz.out with ⟨j, g, t, Y⟩ | ⟨k, x, j, g, t, Y⟩ <;> exact Nat.lt_of_le_of_lt (Nat.zero_le _) (lt_at Y.ht)
            have HlT := Lib.hid (show s'.T.length = N by
              have h9 := ((aft_ok HK1.out Hz.out).alike HA9.out).lt
              rw [h9, nrm_len HA9.out.c, (aft_same s1 what nm cn).1, ← HK1.out.lt, hTN])
            obtain ⟨zt, hzt, hzt1, hzt2⟩ := own_blk HOn.out.t (by rw [HlT.out]; omega)
            have Hzt := Lib.hid hzt
            have HPn := Lib.hid (HP7.out.add HB5.out (F' := [Xn, zt]) (fun y hy => by
              rcases List.mem_cons.1 hy with e | e
              · rw [e]; exact ⟨hXn, HY5.out.lt⟩
              · rw [List.mem_singleton.1 e]; exact ⟨hzt1, hzt2⟩))
            have HSw := Lib.hid (HS7.out.below HB5.out)
            have hlW := HSw.out.lt
            have s3 := HSw.out.cell 3
            have s4 := HSw.out.cell 4
            have s5 := HSw.out.cell 5
            dsimp only [List.getElem?_cons_zero, List.getElem?_cons_succ] at s3 s4 s5
            have hci : -9223372036854775808 ≤ cn ∧ cn ≤ 9223372036854775807 := HCi.out
            have HYx := HY5
            have HOx := HOn
            clear hTN hj hzt hzt1 hzt2 HS7 HT7 HI7 HB7 HN9 HO9 HB9 hXl HO5 HCx HY5 HOn hlS
            rcases why_zero Hz.out with ⟨j, g, t, Y⟩ | ⟨k9, x9, j, g, t, Y⟩
            · exact absurd Y.kind Hw.out
            · skip
              have k1 : (what.toList == [117, 112]) = false := plit_no (by rcases Y.kind with e | e <;> rw [e] <;> decide)
              have k2 : (what.toList == [114, 97, 105, 115, 101]) = false := plit_no (by rcases Y.kind with e | e <;> rw [e] <;> decide)
              have k3 : (what.toList == [102, 105, 120]) = false := plit_no (by rcases Y.kind with e | e <;> rw [e] <;> decide)
              have HIn := Lib.hid (pv_insts V0 c 32 cs _ W5 HPn.out (by omega))
              have hL6 := HPn.out.l6 (by omega)
              rw [HnL.out] at hL6
              have HY := Lib.hid Y
              clear Y s5
              go_wp2_with (go_at_call 15; (with_reducible refine HIn.out.mono ?_); rintro e w6 ⟨⟨v, rfl, hv⟩, hb⟩; obtain ⟨ix, kx, rfl, -, hr⟩ := OwnL.isL irow_len (by decide) hv; have HIx := Lib.hid hr; have HB6 := Lib.hid hb; rw [HnL.out]; clear hv hr hb)
              go_loopw [14] (fun i wr => ∃ k : Nat, k ≤ nL ∧ i = .int .i64 k ∧ (∀ (q : Nat) (y : Ins) (j : Nat) (g : Gp), q < k → cs.L[q]? = some y → y.nm = nm → y.st = 2 → fndK cs.G y.gp = some j → l[j]? = some g → ¬ cs.tgt y.gp ≤ g.mn) ∧ Below w6.heap.size w6 wr) (fun i _ => nL - (intOf i).toNat)
              case atStart => exact ⟨0, Nat.zero_le _, rfl, fun q y j g h => absurd h (Nat.not_lt_zero _), Below.refl _ _⟩
              case round =>
                obtain ⟨k, hk, rfl, hno, hbq⟩ := hrel
                have Hno := Lib.hid hno
                have HBq := Lib.hid (HB6.out.trans (hbq.mono HB6.out.size))
                have HB6q := Lib.hid hbq
                have HSq := Lib.hid (HSw.out.below HBq.out)
                have HPq := Lib.hid (HPn.out.below HBq.out)
                have HBk := Lib.hid (HBr.out.trans (HPq.out.bl.mono HBr.out.size))
                have hlSq := HSq.out.lt
                clear s3 s4 hno hbq
                have s0 := HSq.out.cell 0
                have s4 := HSq.out.cell 4
                dsimp only [List.getElem?_cons_zero, List.getElem?_cons_succ] at s0 s4
                by_cases hlt : k < nL
                · obtain ⟨y, hy⟩ := mem_at (l := cs.L) (k := k) (by rw [HnL.out]; exact hlt)
                  obtain ⟨⟨j8, hj8⟩, -⟩ := HPq.out.ok.ib y (List.mem_of_getElem? hy)
                  obtain ⟨g8, hg8⟩ : ∃ g, l[j8]? = some g := by
                    obtain ⟨g0, hg0, -⟩ := fndK_lt hj8
                    rw [HGc.out, List.getElem?_map] at hg0
                    cases h : l[j8]? with
                    | none => rw [h] at hg0; cases hg0
                    | some g => exact ⟨g, rfl⟩
                  obtain ⟨bi, oi, rfl, hbi, hci⟩ := HIx.out (by rw [HnL.out]; omega)
                  obtain ⟨d0, d1, d2, -⟩ := irow_cells (hci k y hy)
                  have d0 := (HB6q.out.cell (p := ⟨bi, oi + k * 5, none⟩) hbi).trans d0
                  have d1 := (HB6q.out.cell (p := ⟨bi, oi + k * 5 + 1, none⟩) hbi).trans d1
                  have d2 := (HB6q.out.cell (p := ⟨bi, oi + k * 5 + 2, none⟩) hbi).trans d2
                  have hbir : bi < wr.heap.size := Nat.lt_of_lt_of_le hbi HB6q.out.size
                  have HNo := Lib.hid (fun (h : ¬ (y.nm = nm ∧ y.st = 2 ∧ cs.tgt y.gp ≤ g8.mn)) => show ∀ (q : Nat) (y : Ins) (j : Nat) (g : Gp), q < k + 1 → cs.L[q]? = some y → y.nm = nm → y.st = 2 → fndK cs.G y.gp = some j → l[j]? = some g → ¬ cs.tgt y.gp ≤ g.mn from fun q u j g hq hu h1 h2 h3 h4 => by
                    by_cases e : q = k
                    · subst e
                      rw [hy] at hu
                      obtain rfl := Option.some.inj hu
                      rw [hj8] at h3
                      obtain rfl := Option.some.inj h3
                      rw [hg8] at h4
                      obtain rfl := Option.some.inj h4
                      exact fun h5 => h ⟨h1, h2, h5⟩
                    · exact Hno.out q u j g (by omega) hu h1 h2 h3 h4)
                  obtain ⟨bg, og, hga, hbg, hcg⟩ := HGi.out (Nat.lt_of_le_of_lt (Nat.zero_le _) (lt_at hg8))
                  obtain ⟨-, g1, -⟩ := grow_cells (hcg j8 g8 hg8)
                  have g1 := (HBk.out.cell (p := ⟨bg, og + j8 * 15 + 1, none⟩) hbg).trans g1
                  have hbgr : bg < wr.heap.size := Nat.lt_of_lt_of_le hbg HBk.out.size
                  have hj8N : j8 < N := by rw [← HN.out]; exact lt_at hg8
                  have HFd := Lib.hid (fun V (hV : Below w.heap.size w V) => reffind_any ga l ka y.gp V (HGi.out.mono hV) HGl.out)
                  rw [findA_some (by rw [← HGc.out]; exact hj8), HN.out, hga] at HFd
                  have HTt := Lib.hid (fun V (hV : Below wr.heap.size wr V) => pv_tgt V0 c 32 cs _ V (HPq.out.below hV) y.gp)
                  obtain ⟨tz, htz⟩ : ∃ v, cs.tgt y.gp = v := ⟨_, rfl⟩
                  obtain ⟨mn, hmn⟩ : ∃ v, g8.mn = v := ⟨_, rfl⟩
                  obtain ⟨ynm, hynm⟩ : ∃ v, y.nm = v := ⟨_, rfl⟩
                  obtain ⟨ygp, hygp⟩ : ∃ v, y.gp = v := ⟨_, rfl⟩
                  obtain ⟨yst, hyst⟩ : ∃ v, y.st = v := ⟨_, rfl⟩
                  rw [htz] at HTt HNo
                  rw [hmn] at g1 HNo
                  rw [hynm] at d0 HNo
                  rw [hygp] at d1 HTt HFd
                  rw [hyst] at d2 HNo
                  rw [hga] at s0
                  clear hy hj8 hg8 hci hcg hga htz hmn hynm hygp hyst
                  by_cases e1 : ynm = nm
                  · have q1 : (ynm.toList == nm.toList) = true := by rw [e1]; simp
                    by_cases e2 : yst = 2
                    · have q2 : (yst == 2) = true := by rw [e2]; rfl
                      by_cases e3 : tz ≤ mn
                      · have q3 : decide (tz ≤ mn) = true := decide_eq_true e3
                        clear e1 e2 e3 HNo
                        (try clear HT)
                        (try clear HGi)
                        (try clear HMi)
                        (try clear HGn)
                        (try clear HOi)
                        (try clear HOp)
                        (try clear HCi)
                        (try clear HDb)
                        (try clear HGl)
                        (try clear HOl)
                        (try clear Hlg)
                        (try clear Hrg)
                        (try clear HGr)
                        (try clear HSr)
                        (try clear HGc)
                        (try clear HNc)
                        (try clear HA1)
                        (try clear HK1)
                        (try clear Hz)
                        (try clear HTs)
                        (try clear Hzt)
                        (try clear HPn)
                        (try clear HSw)
                        (try clear HYx)
                        (try clear HOx)
                        (try clear HY)
                        (try clear HIn)
                        (try clear HIx)
                        (try clear HB6)
                        (try clear Hno)
                        (try clear HSq)
                        go_upto_region 37 with (fail)
                        have hcH := held_cell
                        refine region_rel (by kernel_rfl) (by kernel_rfl) ?_
                        (try dsimp only [List.append])
                        repeat
                          ((with_reducible refine relStep (fun K hK => ?_))
                           (have HK := Lib.hid hK)
                           clear hK
                           (apply relInl
                            · intro r n hf
                              have Hf := Lib.hid hf
                              clear hf
                              (first
                                | (fail)
                                | (unfold relAt
                                   go_simp
                                   (first | (refine relUpon_val ?_ (Below.refl _ _); exact rfl) | exact rfl | (refine relUpon_enter ?_; (first | (go_at_call 19; (with_reducible refine (HTt.out _ n.below).mono ?_); rintro e w9 ⟨rfl, hb⟩; exact ⟨⟨_, rfl, rfl⟩, hb⟩) | (go_at_call 20; (with_reducible refine (HFd.out _ (HBk.out.trans (n.below.mono HBk.out.size))).mono ?_); rintro e w9 ⟨rfl, hb⟩; exact ⟨⟨_, rfl, rfl⟩, hb⟩))))))
                            (simp only [Act.put, List.setIfInBounds_toArray, List.set_cons_zero, List.set_cons_succ])
                            (with_reducible refine HK.out _ _ ?_)
                            clear HK K))
                        refine relNil ?_
                        intro r5 n5 hx5
                        clear hcH
                        (try simp only [List.nil_append, List.cons_append, List.mem_cons, List.not_mem_nil, or_false, forall_eq_or_imp, forall_eq, false_implies, implies_true] at hx5)
                        obtain ⟨w5, hb5⟩ := n5
                        (try dsimp only)
                        obtain ⟨hc5, hf5⟩ := bcell hb5
                        have hz5 := hb5.size
                        (try simp at hz5)
                        have HBe := Lib.hid (HBk.out.trans (hb5.mono HBk.out.size))
                        go_wp2_with (go_at_call 6; (with_reducible refine (known_any _).mono ?_); rintro e w8 ⟨rfl, hb⟩; have HB8 := Lib.hid (HBe.out.trans (hb.mono HBe.out.size)); clear hb)
                        refine bodyPost_ret (v := .bool true) (by simp [results, Tryz.results3, go_sem]) rfl ⟨rfl, HB8.out⟩
                      · have q3 : decide (tz ≤ mn) = false := decide_eq_false e3
                        have HNx := Lib.hid (HNo.out fun h => e3 h.2.2)
                        clear e1 e2 e3 HNo
                        (try clear HT)
                        (try clear HGi)
                        (try clear HMi)
                        (try clear HGn)
                        (try clear HOi)
                        (try clear HOp)
                        (try clear HCi)
                        (try clear HDb)
                        (try clear HGl)
                        (try clear HOl)
                        (try clear Hlg)
                        (try clear Hrg)
                        (try clear HGr)
                        (try clear HSr)
                        (try clear HGc)
                        (try clear HNc)
                        (try clear HA1)
                        (try clear HK1)
                        (try clear Hz)
                        (try clear HTs)
                        (try clear Hzt)
                        (try clear HPn)
                        (try clear HSw)
                        (try clear HYx)
                        (try clear HOx)
                        (try clear HY)
                        (try clear HIn)
                        (try clear HIx)
                        (try clear HB6)
                        (try clear Hno)
                        (try clear HSq)
                        go_upto_region 37 with (fail)
                        have hcH := held_cell
                        refine region_rel (by kernel_rfl) (by kernel_rfl) ?_
                        (try dsimp only [List.append])
                        repeat
                          ((with_reducible refine relStep (fun K hK => ?_))
                           (have HK := Lib.hid hK)
                           clear hK
                           (apply relInl
                            · intro r n hf
                              have Hf := Lib.hid hf
                              clear hf
                              (first
                                | (fail)
                                | (unfold relAt
                                   go_simp
                                   (first | (refine relUpon_val ?_ (Below.refl _ _); exact rfl) | exact rfl | (refine relUpon_enter ?_; (first | (go_at_call 19; (with_reducible refine (HTt.out _ n.below).mono ?_); rintro e w9 ⟨rfl, hb⟩; exact ⟨⟨_, rfl, rfl⟩, hb⟩) | (go_at_call 20; (with_reducible refine (HFd.out _ (HBk.out.trans (n.below.mono HBk.out.size))).mono ?_); rintro e w9 ⟨rfl, hb⟩; exact ⟨⟨_, rfl, rfl⟩, hb⟩))))))
                            (simp only [Act.put, List.setIfInBounds_toArray, List.set_cons_zero, List.set_cons_succ])
                            (with_reducible refine HK.out _ _ ?_)
                            clear HK K))
                        refine relNil ?_
                        intro r5 n5 hx5
                        clear hcH
                        (try simp only [List.nil_append, List.cons_append, List.mem_cons, List.not_mem_nil, or_false, forall_eq_or_imp, forall_eq, false_implies, implies_true] at hx5)
                        obtain ⟨w5, hb5⟩ := n5
                        (try dsimp only)
                        obtain ⟨hc5, hf5⟩ := bcell hb5
                        have hz5 := hb5.size
                        (try simp at hz5)
                        go_wp2
                        go_roundw
                        case rel => exact ⟨k + 1, by omega, by go_num, HNx.out, HB6q.out.trans (hb5.mono HB6q.out.size)⟩
                        case measure => simp [intOf]; omega
                    · have q2 : (yst == 2) = false := by simpa using e2
                      have HNx := Lib.hid (HNo.out fun h => e2 h.2.1)
                      clear e1 e2 HNo
                      (try clear HT)
                      (try clear HGi)
                      (try clear HMi)
                      (try clear HGn)
                      (try clear HOi)
                      (try clear HOp)
                      (try clear HCi)
                      (try clear HDb)
                      (try clear HGl)
                      (try clear HOl)
                      (try clear Hlg)
                      (try clear Hrg)
                      (try clear HGr)
                      (try clear HSr)
                      (try clear HGc)
                      (try clear HNc)
                      (try clear HA1)
                      (try clear HK1)
                      (try clear Hz)
                      (try clear HTs)
                      (try clear Hzt)
                      (try clear HPn)
                      (try clear HSw)
                      (try clear HYx)
                      (try clear HOx)
                      (try clear HY)
                      (try clear HIn)
                      (try clear HIx)
                      (try clear HB6)
                      (try clear Hno)
                      (try clear HSq)
                      go_upto_region 37 with (fail)
                      have hcH := held_cell
                      refine region_rel (by kernel_rfl) (by kernel_rfl) ?_
                      (try dsimp only [List.append])
                      repeat
                        ((with_reducible refine relStep (fun K hK => ?_))
                         (have HK := Lib.hid hK)
                         clear hK
                         (apply relInl
                          · intro r n hf
                            have Hf := Lib.hid hf
                            clear hf
                            (first
                              | (fail)
                              | (unfold relAt
                                 go_simp
                                 (first | (refine relUpon_val ?_ (Below.refl _ _); exact rfl) | exact rfl | (refine relUpon_enter ?_; (first | (go_at_call 19; (with_reducible refine (HTt.out _ n.below).mono ?_); rintro e w9 ⟨rfl, hb⟩; exact ⟨⟨_, rfl, rfl⟩, hb⟩) | (go_at_call 20; (with_reducible refine (HFd.out _ (HBk.out.trans (n.below.mono HBk.out.size))).mono ?_); rintro e w9 ⟨rfl, hb⟩; exact ⟨⟨_, rfl, rfl⟩, hb⟩))))))
                          (simp only [Act.put, List.setIfInBounds_toArray, List.set_cons_zero, List.set_cons_succ])
                          (with_reducible refine HK.out _ _ ?_)
                          clear HK K))
                      refine relNil ?_
                      intro r5 n5 hx5
                      clear hcH
                      (try simp only [List.nil_append, List.cons_append, List.mem_cons, List.not_mem_nil, or_false, forall_eq_or_imp, forall_eq, false_implies, implies_true] at hx5)
                      obtain ⟨w5, hb5⟩ := n5
                      (try dsimp only)
                      obtain ⟨hc5, hf5⟩ := bcell hb5
                      have hz5 := hb5.size
                      (try simp at hz5)
                      go_wp2
                      go_roundw
                      case rel => exact ⟨k + 1, by omega, by go_num, HNx.out, HB6q.out.trans (hb5.mono HB6q.out.size)⟩
                      case measure => simp [intOf]; omega
                  · have q1 : (ynm.toList == nm.toList) = false := by rw [strB_list]; exact decide_eq_false e1
                    have HNx := Lib.hid (HNo.out fun h => e1 h.1)
                    clear e1 HNo
                    (try clear HT)
                    (try clear HGi)
                    (try clear HMi)
                    (try clear HGn)
                    (try clear HOi)
                    (try clear HOp)
                    (try clear HCi)
                    (try clear HDb)
                    (try clear HGl)
                    (try clear HOl)
                    (try clear Hlg)
                    (try clear Hrg)
                    (try clear HGr)
                    (try clear HSr)
                    (try clear HGc)
                    (try clear HNc)
                    (try clear HA1)
                    (try clear HK1)
                    (try clear Hz)
                    (try clear HTs)
                    (try clear Hzt)
                    (try clear HPn)
                    (try clear HSw)
                    (try clear HYx)
                    (try clear HOx)
                    (try clear HY)
                    (try clear HIn)
                    (try clear HIx)
                    (try clear HB6)
                    (try clear Hno)
                    (try clear HSq)
                    go_upto_region 37 with (fail)
                    have hcH := held_cell
                    refine region_rel (by kernel_rfl) (by kernel_rfl) ?_
                    (try dsimp only [List.append])
                    repeat
                      ((with_reducible refine relStep (fun K hK => ?_))
                       (have HK := Lib.hid hK)
                       clear hK
                       (apply relInl
                        · intro r n hf
                          have Hf := Lib.hid hf
                          clear hf
                          (first
                            | (fail)
                            | (unfold relAt
                               go_simp
                               (first | (refine relUpon_val ?_ (Below.refl _ _); exact rfl) | exact rfl | (refine relUpon_enter ?_; (first | (go_at_call 19; (with_reducible refine (HTt.out _ n.below).mono ?_); rintro e w9 ⟨rfl, hb⟩; exact ⟨⟨_, rfl, rfl⟩, hb⟩) | (go_at_call 20; (with_reducible refine (HFd.out _ (HBk.out.trans (n.below.mono HBk.out.size))).mono ?_); rintro e w9 ⟨rfl, hb⟩; exact ⟨⟨_, rfl, rfl⟩, hb⟩))))))
                        (simp only [Act.put, List.setIfInBounds_toArray, List.set_cons_zero, List.set_cons_succ])
                        (with_reducible refine HK.out _ _ ?_)
                        clear HK K))
                    refine relNil ?_
                    intro r5 n5 hx5
                    clear hcH
                    (try simp only [List.nil_append, List.cons_append, List.mem_cons, List.not_mem_nil, or_false, forall_eq_or_imp, forall_eq, false_implies, implies_true] at hx5)
                    obtain ⟨w5, hb5⟩ := n5
                    (try dsimp only)
                    obtain ⟨hc5, hf5⟩ := bcell hb5
                    have hz5 := hb5.size
                    (try simp at hz5)
                    go_wp2
                    go_roundw
                    case rel => exact ⟨k + 1, by omega, by go_num, HNx.out, HB6q.out.trans (hb5.mono HB6q.out.size)⟩
                    case measure => simp [intOf]; omega
                · obtain rfl : nL = k := by omega
                  have hd : ¬ (x9.st = 2 ∧ t ≤ g.mn) := fun h => by
                    obtain ⟨p, hg1, hp1, ht1⟩ := at_state HA1.out HGc.out HY.out.hg HY.out.ht
                    have hL1 : s1.L = cs.L := HA1.out.l
                    have hx9 : cs.L[k9]? = some x9 := by rw [← hL1]; exact HY.out.hx
                    have hj9 : fndK cs.G x9.gp = some j := by rw [← HA1.out.g1 HGc.out]; exact HY.out.hj
                    have hnm : x9.nm = nm := by
                      obtain ⟨u, hu1, hu2⟩ := fndI_lt HY.out.hk
                      rw [HY.out.hx] at hu1
                      obtain rfl := Option.some.inj hu1
                      exact hu2
                    have hlj : ∃ g', l[j]? = some g' ∧ g'.mn = g.mn := by
                      rw [HGc.out, List.getElem?_map] at hg1
                      cases h9 : l[j]? with
                      | none => rw [h9] at hg1; cases hg1
                      | some g' =>
                        rw [h9] at hg1
                        have := Option.some.inj hg1
                        unfold gkOf at this
                        injection this with _ e2 _
                        exact ⟨g', rfl, e2⟩
                    obtain ⟨g', hg', hmn'⟩ := hlj
                    have htg : cs.tgt x9.gp = t := by
                      unfold CS.tgt
                      rw [hj9]
                      dsimp only
                      rw [hp1]
                      exact ht1
                    refine Hno.out k9 x9 j g' (by have := lt_at hx9; rw [HnL.out] at this; exact this) hx9 hnm h.1 hj9 hg' ?_
                    rw [htg, hmn']
                    exact h.2
                  have Y := HY.out
                  have HYx := Lib.hid (HYx.out.below HBq.out)
                  have HOx := Lib.hid (HOx.out.mono HBq.out)
                  obtain ⟨r1, r2⟩ := taken_del HPq.out.ok HA1.out HGc.out Y hd
                  have HIz := Lib.hid (pv_del V0 c 32 cs _ wr HPq.out (by omega) nm)
                  have hkp := kp_del cs nm
                  rw [r1] at HIz
                  obtain ⟨cs2, hcs2⟩ : ∃ s, (cs.del nm).1 = s := ⟨_, rfl⟩
                  rw [hcs2] at HIz r2 hkp
                  have HT2 := Lib.hid (r2.trans HTs.out.symm)
                  have HG2 := Lib.hid (hkp.1.trans HGc.out)
                  clear r1 r2 hkp hcs2 Y
                  go_upto_region 47 with (go_at_call 9; (with_reducible refine HIz.out.mono ?_); rintro e w10 ⟨rfl, hP, hK⟩; have HPz := Lib.hid hP; have HKz := Lib.hid hK; clear hP hK)
                  have hN9 : s'.T.length = N := HlT.out
                  have HBz := Lib.hid (HBr.out.trans (HPz.out.bl.mono HBr.out.size))
                  have HSz := Lib.hid (HSr.out.below HPz.out.bl)
                  have hYz := HYx.out.same (HKz.out.2 Xn (by simp))
                  rw [hN9] at hYz
                  have HYz := Lib.hid hYz
                  have hOz : OwnL pcs 1 w7.heap.size 3 s'.T (.slice s'.ta s'.T.length s'.tk) w10 := HKz.out.own HOx.out.t (fun y hy => by
                    rw [Hzt.out] at hy
                    obtain rfl := Option.some.inj hy
                    simp)
                  obtain ⟨ta9, tk9, e9, -, hrow⟩ := OwnL.isL pcs_len (by decide) hOz
                  injection e9 with e9 e10 e11
                  rw [← e9] at hrow
                  have HTz := Lib.hid hrow
                  have hTg := fun (k : Nat) (g : Gp) (hg : l[k]? = some g) => tgt_at HPz.out.ok HG2.out hg
                  rw [HT2.out] at hTg
                  have HTg := Lib.hid hTg
                  have HTc := Lib.hid (fun (key : ByteArray) V (hV : Below w10.heap.size w10 V) => pv_tgt V0 c 33 cs2 _ V (HPz.out.below hV) key)
                  clear hYz hOz e9 e10 e11 hrow hTg hN9 s4 HIz
                  (try clear s3)
                  (try clear s5)
                  go_wp2
                  go_loopw [15] (fun i wr => ∃ k : Nat, k ≤ N ∧ i = .int .i64 k ∧ Below w10.heap.size w10 wr) (fun i _ => N - (intOf i).toNat)
                  case atStart => exact ⟨0, Nat.zero_le _, rfl, Below.refl _ _⟩
                  case round =>
                    obtain ⟨k, hk, rfl, hbq⟩ := hrel
                    have HBq := Lib.hid hbq
                    have HSq := Lib.hid (HSz.out.below hbq)
                    have HYq := Lib.hid (HYz.out.below hbq)
                    have HBk := Lib.hid (HBz.out.trans (hbq.mono HBz.out.size))
                    have hlSq := HSq.out.lt
                    have hlYq := HYq.out.lt
                    have s0 := HSq.out.cell 0
                    have x1 := HYq.out.cell 1
                    dsimp only [List.getElem?_cons_zero, List.getElem?_cons_succ] at s0 x1
                    clear hbq
                    by_cases hlt : k < N
                    · obtain ⟨g, hg⟩ := mem_at (l := l) (k := k) (by rw [HN.out]; exact hlt)
                      obtain ⟨bg, og, hga, hbg, hcg⟩ := HGi.out (by rw [HN.out]; omega)
                      obtain ⟨bt, ot, hta, hbt, hct⟩ := HTz.out (by rw [HlT.out]; omega)
                      have htk := HTg.out k g hg
                      have t0 := int_cell (hct k _ htk)
                      rw [Nat.mul_one] at t0
                      obtain ⟨g0, -⟩ := grow_cells (hcg k g hg)
                      have g0 := (HBk.out.cell (p := ⟨bg, og + k * 15, none⟩) hbg).trans g0
                      have t0 := (HBq.out.cell (p := ⟨bt, ot + k, none⟩) hbt).trans t0
                      have hbgr : bg < wr.heap.size := Nat.lt_of_lt_of_le hbg HBk.out.size
                      have hbtr : bt < wr.heap.size := Nat.lt_of_lt_of_le hbt HBq.out.size
                      have HTk := Lib.hid (HTc.out g.nm)
                      obtain ⟨tz, htz⟩ : ∃ v, cs2.tgt g.nm = v := ⟨_, rfl⟩
                      rw [htz] at HTk t0
                      obtain ⟨gn, hgn⟩ : ∃ v, g.nm = v := ⟨_, rfl⟩
                      rw [hgn] at HTk g0
                      have k7 : decide (N ≤ k) = false := decide_eq_false (by omega)
                      have k7i : decide ((N : Int) ≤ (k : Int)) = false := decide_eq_false (by omega)
                      rw [hta] at x1
                      rw [hga] at s0
                      clear hcg hct hg htk htz hgn hta hga
                      go_upto_region 50 with (fail)
                      have hcH := held_cell
                      refine region_rel (by kernel_rfl) (by kernel_rfl) ?_
                      repeat
                        ((with_reducible refine relStep (fun K hK => ?_))
                         (have HK := Lib.hid hK)
                         clear hK
                         (apply relInl
                          · intro r n hf
                            have Hf := Lib.hid hf
                            clear hf
                            (first
                              | (fail)
                              | (unfold relAt
                                 go_simp
                                 (first | (refine relUpon_val ?_ (Below.refl _ _); exact rfl) | exact rfl | (refine relUpon_enter ?_; (go_at_call 19; (with_reducible refine (HTk.out _ (HBq.out.trans (n.below.mono HBq.out.size))).mono ?_); rintro e w9 ⟨rfl, hb⟩; exact ⟨⟨_, rfl, rfl⟩, hb⟩)))))
                          (simp only [Act.put, List.setIfInBounds_toArray, List.set_cons_zero, List.set_cons_succ])
                          (with_reducible refine HK.out _ _ ?_)
                          clear HK K))
                      refine relNil ?_
                      intro r5 n5 hx5
                      clear hcH
                      (try simp only [List.nil_append, List.cons_append, List.mem_cons, List.not_mem_nil, or_false, forall_eq_or_imp, forall_eq, false_implies, implies_true] at hx5)
                      obtain ⟨w5, hb5⟩ := n5
                      (try dsimp only)
                      obtain ⟨hc5, hf5⟩ := bcell hb5
                      have hz5 := hb5.size
                      (try simp at hz5)
                      go_wp2
                      go_roundw
                      case rel => exact ⟨k + 1, by omega, by go_num, HBq.out.trans (hb5.mono HBq.out.size)⟩
                      case measure => simp [intOf]; omega
                    · obtain rfl : N = k := by omega
                      go_wp2_with (go_at_call 6; (with_reducible refine (known_any _).mono ?_); rintro e w8 ⟨rfl, hb⟩; have HB8 := Lib.hid (HBk.out.trans (hb.mono HBk.out.size)); clear hb)
                      refine bodyPost_ret (v := .bool true) (by simp [results, Tryz.results3, go_sem]) rfl ⟨rfl, HB8.out⟩
          · have HAf := Lib.hid (fun V (hV : Below w7.heap.size w7 V) => after_no (w := V) (HI7.out.mono hV) HK1.out hci.1 hci.2 hz h0)
            have kz : (z != 0) = true := by simpa using h0
            clear hz hci h0
            go_upto_region 28 with (fail)
            have hcH := held_cell
            refine region_rel_late 9 [7] (by kernel_rfl) (by kernel_rfl) (by kernel_rfl) ?_ ?_
            · exact fun _ _ _ _ _ h => h
            dsimp only [List.take, List.drop]
            repeat
              ((with_reducible refine relStep (fun K hK => ?_))
               (have HK := Lib.hid hK)
               clear hK
               (apply relInl
                · intro r n hf
                  have Hf := Lib.hid hf
                  clear hf
                  (first
                    | ((first | ((with_reducible refine at_rel (ty := 52) ?_); refine rel_load rfl SX 0 rfl [.slice s1.ga s1.C.length s1.gk, .slice s1.ta s1.T.length s1.tk, .slice s1.ia s1.L.length s1.ik, .int .i64 s1.c0, .int .i64 s1.c1, .int .i64 s1.c2, .slice s1.ra s1.R.length s1.rk, .int .i64 s1.un, .int .i64 s1.sh] _ Tryz.underlying52 rfl (by kernel_rfl) (rangeAt_mono HRs.out hlS n.below) rfl) | ((with_reducible refine at_rel (ty := 25) ?_); refine rel_load rfl w.heap.size 3 rfl [.string what, .string nm, .int .i64 cn] _ Tryz.underlying25 rfl (by kernel_rfl) (rangeAt_mono HRc.out hlW n.below) rfl)))
                    | (unfold relAt
                       go_simp
                       (first | (refine relUpon_val ?_ (Below.refl _ _); exact rfl) | exact rfl | (refine relUpon_enter ?_; (first | (go_at_call 18; (with_reducible refine (HCx.out _).mono ?_); rintro e w9 ⟨rfl, hb⟩; exact ⟨⟨_, rfl, rfl⟩, hb⟩) | (go_at_call 17; (with_reducible refine (HAf.out _ n.below).mono ?_); rintro e w9 ⟨rfl, hb⟩; exact ⟨⟨_, rfl, rfl⟩, hb⟩))))))
                (simp only [Act.put, List.setIfInBounds_toArray, List.set_cons_zero, List.set_cons_succ])
                (with_reducible refine HK.out _ _ ?_)
                clear HK K))
            (with_reducible refine relStep (fun K hK => ?_))
            (have HK := Lib.hid hK)
            clear hK
            refine relInr (NewS w7.heap.size) (NewS.stays _) (fun r n hf => ?_) ?_
            · have Hf := Lib.hid hf
              clear hf HK K
              unfold relAt
              (skip)
              go_simp
              ((refine relUpon_val ?_ ?_; exact NewS.mk n; exact (Below.refl _ _).alloc (Nat.le_refl _) _))
            (simp only [Act.put, List.setIfInBounds_toArray, List.set_cons_zero, List.set_cons_succ])
            (with_reducible refine HK.out _ _ ?_)
            clear HK K
            refine relNil ?_
            intro r9 n9 hx9
            clear hcH
            (try simp only [List.nil_append, List.cons_append, List.mem_cons, List.not_mem_nil, or_false, forall_eq_or_imp, forall_eq, false_implies, implies_true] at hx9)
            obtain ⟨w9, hb9⟩ := n9
            (try dsimp only)
            obtain ⟨hc9, hf9⟩ := bcell hb9
            have hz9 := hb9.size
            (try simp at hz9)
            obtain ⟨Xn, e9, hXn, hBn⟩ := hx9
            have e9 : r9 8 = _ := e9
            dsimp only at hBn
            rw [e9]
            have HN9 := Lib.hid hBn
            have HB9 := Lib.hid hb9
            have hXl := hBn.lt
            clear e9 hBn hc9 hf9 hb9 hz9
            go_upto_region 30 with ((with_reducible refine at_store (ty := 52) ?_); refine wpList_store_mid rfl 52 (.tmp 10) (.tmp 149) rfl Xn 0 _ rfl rfl (HN9.out.there 0 9 (Nat.le_of_ble_eq_true rfl)) (by kernel_rfl) (by rw [← Array.all_toList]; rfl) ?_; obtain ⟨W5, hW5⟩ : ∃ W5, W5 = w9.setCells Xn 0 [.slice none 0 0, .slice none 0 0, .slice none 0 0, .int .i64 0, .int .i64 0, .int .i64 0, .slice none 0 0, .int .i64 0, .int .i64 0] := ⟨_, rfl⟩; (show wpList _ _ _ _ _ (w9.setCells Xn 0 [.slice none 0 0, .slice none 0 0, .slice none 0 0, .int .i64 0, .int .i64 0, .int .i64 0, .slice none 0 0, .int .i64 0, .int .i64 0])); rw [← hW5]; have HO5 := Lib.hid (show Only [Xn] w9 W5 from by rw [hW5]; exact Only.setCells (.inl (by simp)) (Only.refl _ _) _ _); have HY5 := Lib.hid (show Blk W5 Xn 52 [.slice none 0 0, .slice none 0 0, .slice none 0 0, .int .i64 0, .int .i64 0, .int .i64 0, .slice none 0 0, .int .i64 0, .int .i64 0] from by rw [hW5]; exact HN9.out.setCells 0 _); have HB5 := Lib.hid (show Below w7.heap.size w7 W5 from HO5.out.below HB9.out HB9.out.size (by simpa using hXn)); clear hW5)
            have HBz := Lib.hid (HB7.out.trans (HB5.out.mono HB7.out.size))
            have x1 := HY5.out.cell 1
            have hxl := HY5.out.lt
            dsimp only [List.getElem?_cons_zero, List.getElem?_cons_succ] at x1
            go_wp2_with (go_at_call 6; (with_reducible refine (known_any _).mono ?_); rintro e w8 ⟨rfl, hb⟩; have HB8 := Lib.hid (HBz.out.trans (hb.mono HBz.out.size)); clear hb)
            refine bodyPost_ret (v := .bool true) (by simp [results, Tryz.results3, go_sem]) rfl ⟨rfl, HB8.out⟩
end permitTaken
end Go.Proofs.YtmkdfcggjlhcpaaGreatDoor
