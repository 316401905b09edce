/-
  CloudSettles: behind as many ticks as an instance takes, and one, without a call, nothing is on its way.
-/
import Derived.Test.YtcfdejlbchdciaaDoorClD
import Derived.Test.YtcfdejlbchdciaaDoorClQ
namespace Go.Proofs.YtcfdejlbchdciaaDoor
open Go.ChangeShapes Go.WideShapes Go.ChangeAt Go.RowKit
set_option linter.unusedVariables false
set_option linter.unusedSimpArgs false
namespace cloudSettles
theorem in_of_own {B n k : Nat} {L : List Ins} {v : Value} {a : Option Addr} {w : World} (h : OwnL irow 5 B 35 L v w) (hv : v = .slice a n k) : InsL w a L := by
  obtain ⟨a', k', e, _, hr⟩ := OwnL.isL irow_len (by decide) h
  rw [hv] at e
  injection e with e1 e2 e3
  rw [e1]
  exact hr

set_option maxRecDepth 100000 in
set_option maxHeartbeats 8000000 in
theorem walk (a b : Option Addr) (ka kb : Nat) (l : List Gp) (xs : List Opn) (q : Int) (hq0 : 0 ≤ q) (hq1 : q ≤ 255) (w : World) (hT : Tab10 w) (hF : GpL w a l) (hm : l.length ≤ maxLen) (hI : ∀ g ∈ l, MacIn w g.like) (hO : OpL w b xs) (hx : xs.length ≤ maxLen) (hxI : ∀ x ∈ xs, OpIn w x) :
    Calls Tryd.prog 4 #[.slice a l.length ka, .int .u8 q, .slice b xs.length kb] w fun e w' => e = .returned (.bool true) ∧ Below w.heap.size w w' := by
  have HK := Lib.hid (fun V (hV : Below w.heap.size w V) => known_any V (hT.mono hV))
  by_cases h : lightGs l = true ∧ rightGs l = true
  · have hok := rightGs_ok h.2
    have HM := Lib.hid (lmade_yes a l ka q hq0 hq1 w hF hm hI h.1 h.2 hT)
    have HC := Lib.hid (CS.Cb.new (dl := 1 + q % 20) hok (by omega))
    obtain ⟨s0, hs0⟩ : ∃ s0, CS.new (l.map gkOf) (1 + q % 20) = s0 := ⟨_, rfl⟩
    have hdl : s0.dl = 1 + q % 20 := by rw [← hs0]; rfl
    have HDL := Lib.hid hdl
    have hw : IntKind.i64.wrap q = q := cwrap_in (by omega) (by omega)
    obtain ⟨n, hn⟩ : ∃ n, xs.length = n := ⟨_, rfl⟩
    have HN := Lib.hid hn
    have HO := Lib.hid hO
    have HXI := Lib.hid hxI
    have HT := Lib.hid hT
    rw [hs0] at HC
    rw [hn] at hx ⊢
    unfold maxLen at hx
    obtain ⟨n1, hn1⟩ : ∃ n1, l.length = n1 := ⟨_, rfl⟩
    rw [hn1] at HM ⊢
    have Hs0 := Lib.hid hs0
    clear h hF hm hI hT hok hs0 hdl hO hxI hn hn1
    go_enter Tryd.func4, Tryd.ntmps4
    go_wp2_with (go_at_call 6; (with_reducible refine HM.out.mono ?_); rintro e w1 ⟨c, V, rfl, hbV, hP⟩; rw [Hs0.out] at hP; have HBV := Lib.hid hbV; have HP1 := Lib.hid hP; clear hbV hP)
    clear HM
    go_loopw [8] (fun i wr => ∃ (k : Nat) (s : CS), k ≤ n ∧ k ≤ 40 ∧ i = .int .i64 k ∧ Prov V c s (k + 1) [] wr ∧ s.Cb ∧ s.dl = s0.dl) (fun i _ => n - (intOf i).toNat)
    case atStart => exact ⟨0, s0, Nat.zero_le _, Nat.zero_le _, rfl, HP1.out, HC.out, rfl⟩
    case round =>
      clear HP1 HC
      obtain ⟨k, s, hk, hk4, rfl, hP, hC, hD⟩ := hrel
      have HP := Lib.hid hP
      have HC := Lib.hid hC
      have HD := Lib.hid hD
      have HBw := Lib.hid (HBV.out.trans (hP.bl.mono HBV.out.size))
      clear hP hC hD
      by_cases hlt : k < n ∧ k < 40
      · obtain ⟨hl1, hl2⟩ := hlt
        obtain ⟨x, hx9⟩ := mem_at (l := xs) (k := k) (by rw [HN.out]; exact hl1)
        obtain ⟨bx, ox, rfl, hbx, hcx⟩ := HO.out (by rw [HN.out]; omega)
        obtain ⟨d0, d1, d2, d3, d4⟩ := oprow_cells (w := wr) (x := x) (b := bx) (o := ox + k * 5) fun r hr => by rw [HBw.out.cell (p := ⟨bx, ox + k * 5 + r, none⟩) hbx]; exact hcx k x hx9 r hr
        have HA := Lib.hid (ask_any V c (k + 1) s [] x wr HP.out (by omega) (HT.out.mono HBV.out) (HXI.out x (List.mem_of_getElem? hx9)))
        clear hx9 hcx hbx
        go_wp2_with (go_at_call 8; (with_reducible refine HA.out.mono ?_); rintro e w2 ⟨rfl, hP, hK⟩; have HP2 := Lib.hid hP; clear hP hK)
        go_roundw
        case rel => exact ⟨k + 1, _, by omega, by omega, by go_num, HP2.out, (HC.out.ask _ _ _ _ _).1, ((HC.out.ask _ _ _ _ _).2).trans HD.out⟩
        case measure => simp [intOf]; omega
      · have HP := Lib.hid (HP.out.up (show k + 1 ≤ 41 by omega))
        have hor : (k < n ∧ ¬ k < 40) ∨ ¬ k < n := by omega
        clear hlt
        have hD5 : s.dl = 1 + q % 20 := HD.out.trans HDL.out
        have HD5 := Lib.hid hD5
        clear hD5 HD hk hk4 HBw
        obtain ⟨w5, h5⟩ : ∃ w5, w5 = wr := ⟨_, rfl⟩
        subst h5
        rcases hor with ⟨hl1, hl2⟩ | hl1
        all_goals
          go_wp2
          go_loopw [9] (fun i wr => ∃ t : Nat, (t : Int) ≤ 2 + q % 20 ∧ i = .int .i64 t ∧ Prov V c (s.ticks t) (41 + t) [] wr) (fun i _ => 22 - (intOf i).toNat)
          case atStart => exact ⟨0, by omega, rfl, HP.out⟩
          case round =>
            obtain ⟨t, ht, rfl, hPt⟩ := hrel
            have HPt := Lib.hid hPt
            clear hPt
            by_cases hlt : (t : Int) < 2 + q % 20
            · have HTk := Lib.hid (pv_tick V c (41 + t) (s.ticks t) [] wr HPt.out (by omega))
              go_wp2_with (go_at_call 13; (with_reducible refine HTk.out.mono ?_); rintro e w6 ⟨rfl, hP, hK⟩; have HP6 := Lib.hid hP; clear hP hK)
              go_roundw
              case rel => exact ⟨t + 1, by omega, by go_num, HP6.out⟩
              case measure => simp [intOf]; omega
            · have hset := ticks_settled HP.out.ok HC.out (t := t) (by rw [HD5.out]; omega)
              have HSet := Lib.hid hset
              have HIn := Lib.hid (pv_insts V c (41 + t) (s.ticks t) [] wr HPt.out (by omega))
              obtain ⟨s2, hs2⟩ : ∃ s2, s.ticks t = s2 := ⟨_, rfl⟩
              rw [hs2] at HSet HIn HPt
              have hm2 : 41 + t ≤ 62 := by omega
              obtain ⟨m2, hm3⟩ : ∃ m2, 41 + t = m2 := ⟨_, rfl⟩
              rw [hm3] at HPt hm2
              clear hset hs2 hm3
              go_wp2_with (go_at_call 9; (with_reducible refine HIn.out.mono ?_); rintro e w7 ⟨⟨v7, rfl, hv⟩, hb7⟩; have HV7 := Lib.hid hv; have HB7 := Lib.hid hb7; clear hv hb7)
              obtain ⟨sp, kp, hv7, -⟩ := own_rows irow_len HV7.out (by decide)
              obtain ⟨n7, hn7⟩ : ∃ n7, s2.L.length = n7 := ⟨_, rfl⟩
              have HN7 := Lib.hid hn7
              have HP7 := Lib.hid (HPt.out.add HB7.out (F' := v7.ownBlock.toList) (fun z hz => own_lt HV7.out (by simpa using hz)))
              have HW7 := Lib.hid ((HPt.out.below HB7.out).bl)
              have HL7 := Lib.hid (in_of_own HV7.out hv7)
              have hn8 : n7 ≤ 1000000 := by rw [← hn7]; exact HPt.out.l6 (by omega)
              have Hv7 := Lib.hid hv7
              have hTS : s2.tick.L = s2.L := tick_same fun x hx => (HSet.out x hx).1
              have HTS := Lib.hid hTS
              rw [hv7, hn7]
              clear hn7 hTS hv7
              go_loop [11] (fun i => ∃ k : Nat, k ≤ n7 ∧ i = .int .i64 k) (fun i => n7 - (intOf i).toNat)
              case atStart => exact ⟨0, Nat.zero_le _, rfl⟩
              case round =>
                obtain ⟨k, hk, rfl⟩ := hrel
                by_cases hl7 : k < n7
                · obtain ⟨x, hx9⟩ := mem_at (l := s2.L) (k := k) (by rw [HN7.out]; exact hl7)
                  obtain ⟨bz, oz, rfl, hbz, hcz⟩ := HL7.out (by rw [HN7.out]; omega)
                  obtain ⟨d0, d1, d2, d3, d4⟩ := irow_cells (hcz k x hx9)
                  obtain ⟨e1, e2⟩ := HSet.out x (List.mem_of_getElem? hx9)
                  rw [e2] at d3
                  clear hcz hx9 e2
                  rcases e1 with e1 | e1
                  all_goals
                    rw [e1] at d2
                    clear e1
                    go_wp2
                    go_round
                    case rel => exact ⟨k + 1, by omega, by go_num⟩
                    case measure => simp [intOf]; omega
                · have HCa := Lib.hid (pv_calls V c m2 s2 _ w7 HP7.out)
                  have HTk := Lib.hid (pv_tick V c m2 s2 _ w7 HP7.out (by omega))
                  go_wp2_with (first
                    | (go_at_call 14; (with_reducible refine HCa.out.mono ?_); rintro e wk ⟨rfl, hwk⟩; subst wk)
                    | (go_at_call 13; (with_reducible refine HTk.out.mono ?_); rintro e w8 ⟨rfl, hP8, hK8⟩; have HP8 := Lib.hid hP8; have HV8 := Lib.hid (hK8.own HV7.out (fun z hz => by rw [hz]; simp)); clear hP8 hK8))
                  have HIn2 := Lib.hid (pv_insts V c (m2 + 1) s2.tick _ w8 HP8.out (by omega))
                  rw [HTS.out] at HIn2
                  go_wp2_with (go_at_call 9; (with_reducible refine HIn2.out.mono ?_); rintro e w9 ⟨⟨v9, rfl, hv⟩, hb9⟩; have HV9 := Lib.hid hv; have HB9 := Lib.hid hb9; clear hv hb9)
                  obtain ⟨sp9, kp9, hv9, -⟩ := own_rows irow_len HV9.out (by decide)
                  have HL9 := Lib.hid (in_of_own HV9.out hv9)
                  have HL9b := Lib.hid ((in_of_own HV8.out Hv7.out).mono HB9.out)
                  have HP9 := Lib.hid (HP8.out.below HB9.out)
                  rw [hv9, HN7.out]
                  clear hv9
                  have HSm := Lib.hid (insts_same sp9 sp kp9 kp n7 s2.L w9 HL9.out HL9b.out HN7.out hn8)
                  have hct : s2.tick.ca = s2.ca := rfl
                  have HCa9 := Lib.hid (fun w' (hb : Below w9.heap.size w9 w') => show Calls Tryd.prog 14 #[.pointer (some ⟨c, 0, none⟩)] w' (fun e w'' => e = .returned (.int .i64 s2.ca) ∧ w'' = w') from pv_calls V c (m2 + 1) s2.tick _ w' (HP9.out.below hb))
                  have HBe := Lib.hid (fun w' (hb : Below w9.heap.size w9 w') => show Below w.heap.size w w' from HBV.out.trans ((HP9.out.below hb).bl.mono HBV.out.size))
                  clear hct
                  go_wp2_with (first
                    | (go_at_call 15; (with_reducible refine HSm.out.mono ?_); rintro e w10 ⟨rfl, hb10⟩; have HB10 := Lib.hid hb10; clear hb10)
                    | (go_at_call 14; (with_reducible refine (HCa9.out _ HB10.out).mono ?_); rintro e wk ⟨rfl, hwk⟩; subst wk)
                    | (go_at_call 7; (with_reducible refine (HK.out _ (HBe.out _ HB10.out)).mono ?_); rintro e w11 ⟨rfl, hb11⟩; have HB11 := Lib.hid hb11; clear hb11))
                  go_ret
                  exact ⟨rfl, (HBe.out _ HB10.out).trans (HB11.out.mono (HBe.out _ HB10.out).size)⟩
  · have HM := Lib.hid (lmade_no a l ka q w hF hm hI h)
    obtain ⟨n1, hn1⟩ : ∃ n1, l.length = n1 := ⟨_, rfl⟩
    obtain ⟨n, hn⟩ : ∃ n, xs.length = n := ⟨_, rfl⟩
    rw [hn1] at HM ⊢
    rw [hn]
    clear hT hF hm hI hO hx hxI h hn1 hn
    go_enter Tryd.func4, Tryd.ntmps4
    go_wp2_with (first
      | (go_at_call 6; (with_reducible refine HM.out.mono ?_); rintro e w1 ⟨rfl, hb1⟩; have HB1 := Lib.hid hb1; clear hb1)
      | (go_at_call 7; (with_reducible refine (HK.out _ HB1.out).mono ?_); rintro e w2 ⟨rfl, hb2⟩; have HB2 := Lib.hid (HB1.out.trans (hb2.mono HB1.out.size)); clear hb2))
    go_ret
    exact ⟨rfl, HB2.out⟩

set_option maxRecDepth 100000 in
theorem lifted (os : Os) (started : os.Started) (H : Type) (enc : TypeId × Value → H) :
    ReturnsInHanded {} Tryd.checked os 4 .any (fun w args => (Rows.cloudSettlesSpec.pre enc Tryd.prog Tryd.f4 Rows.cloudSettlesRow.domain false w args ∧ laidMetH Tryd.prog Rows.cloudSettlesRow.laid w) ∧ sizedMet enc Tryd.prog Tryd.f4 (OpenSpec.ofChange Rows.cloudSettlesSpec) false w args)
      (Rows.cloudSettlesSpec.post enc Tryd.prog Tryd.f4 false true false false) := by
  refine returnsInHanded_of_change_and (C := Tryd.checked) (X := fun w _ => laidMetH Tryd.prog Rows.cloudSettlesRow.laid w) (fun _ _ _ hh h => h.of_heap hh) Tryd.own started (by kernel_rfl) Tryd.func4
    (ChangeSpec.witness_at (enc := enc) (C := Tryd.checked) (os := os) (X := fun w _ => laidMetH Tryd.prog Rows.cloudSettlesRow.laid w) false (laidWorld os) #[.slice none 0 0, .int .u8 0, .slice none 0 0] 8 rfl (by kernel_rfl) (by kernel_rfl) (by kernel_rfl) (by kernel_rfl) (by kernel_rfl) (laidWorld_met os _)) ?_
  intro W base args ds gs before hval hW _ _ hL _
  have hW' := hW
  obtain ⟨p, q, hA, hV, rfl, hfz, hnd⟩ := hW
  rw [Tryd.params4] at hA hval
  obtain ⟨v0, v1, v2, d0, d1, d2, p0, p1, p2, rfl, rfl, rfl, h0, h1, h2⟩ := trodAll_three hA
  obtain ⟨a, l, ka, rfl, _, hF, hl, _, hI⟩ := open_grps (hval 0 22 v0 rfl rfl) h0
  obtain ⟨q, rfl, _, _, wn⟩ := open_int Tryd.underlying5 (hval 1 5 v1 rfl rfl) h1
  obtain ⟨b, xs, kb, rfl, _, hO, hx, _, hxI⟩ := open_ops (hval 2 23 v2 rfl rfl) h2
  have hq : 0 ≤ q ∧ q ≤ 255 := by simpa [Lit.wf, IntKind.min, IntKind.max, IntKind.signed, IntKind.bits] using wn
  refine (walk a b ka kb l xs q hq.1 hq.2 W (tab_of hL) hF hl hI hO hx hxI).mono fun e W' ⟨he, hb⟩ => ?_
  exact ⟨_, he, law_post Tryd.laidOut hW' rfl (by kernel_rfl) (by kernel_rfl) Tryd.underlying4 rfl rfl rfl hb⟩

theorem over : Rows.CloudSettlesSaid :=
  OpenClaim.holds_of_wide 4 Tryd.f4 rfl rfl rfl rfl rfl rfl rfl ⟨rfl, rfl, rfl, rfl, rfl⟩ rfl rfl rfl rfl rfl (by kernel_rfl) Tryd.func4 (by kernel_rfl)
    (of_decide_eq_true (by kernel_rfl)) (by unfold Func.isWrapper; first | (rw [if_pos (by decide +kernel)]; kernel_rfl) | (rw [if_neg (by decide +kernel)]; exact ⟨rfl, rfl⟩))
    (fun os started H enc _ => lifted os started H enc)

/-- The statement: the card. -/
theorem proved : Rows.CloudSettlesCardSaid :=
  Claim7.holds_tied_plain_at .later [] [.data, .data, .data] true Rows.cloudSettlesCard.stood.harness Rows.cloudSettlesCard.stood.looks
    over (fun _ h => by cases h) (by kernel_rfl) (fun _ h => by cases h) cloudSettles_row_tie rfl ⟨rfl, rfl⟩ (by kernel_rfl) rfl
    (fun f fn hf hfn => by
      obtain rfl : f = 4 := Option.some.inj ((show Tryd.prog.funcNamed Rows.cloudSettlesRow.func = some 4 by kernel_rfl).symm.trans hf) |>.symm
      obtain rfl : fn = Tryd.f4 := (Option.some.inj (Tryd.func4.symm.trans hfn)).symm
      exact ⟨by kernel_rfl, fun j t ht => by
        rw [Tryd.params4] at ht
        rcases j with _ | _ | _ | j
        · obtain rfl : t = 22 := by simpa using ht.symm
          exact (show Tryd.prog.wantsStandIn 22 = false by kernel_rfl)
        · obtain rfl : t = 5 := by simpa using ht.symm
          exact (show Tryd.prog.wantsStandIn 5 = false by kernel_rfl)
        · obtain rfl : t = 23 := by simpa using ht.symm
          exact (show Tryd.prog.wantsStandIn 23 = false by kernel_rfl)
        · simp at ht⟩)
    (by kernel_rfl)
end cloudSettles
end Go.Proofs.YtcfdejlbchdciaaDoor
