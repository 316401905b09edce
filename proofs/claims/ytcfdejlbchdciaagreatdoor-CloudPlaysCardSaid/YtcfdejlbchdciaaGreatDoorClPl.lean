/-
  CloudPlays: whatever is asked of a provider of any groups, breaks, fails and passes, in any order: answers, targets and instances are as the document says.
-/
import Derived.Test.YtcfdejlbchdciaaGreatDoorClDo
import Derived.Test.YtcfdejlbchdciaaGreatDoorClAl
namespace Go.Proofs.YtcfdejlbchdciaaGreatDoor
open Go.ChangeShapes Go.WideShapes Go.ChangeAt Go.RowKit
set_option linter.unusedVariables false
set_option linter.unusedSimpArgs false
theorem RT.less {w1 w2 w : World} {c : Nat} {ga : Option Addr} {gka : Nat} {Gr : List Gp} {s : CS} {tv lav bv lr : Value} (h : RT w2 w c ga gka Gr s tv lav bv lr) (hb : Below w1.heap.size w1 w2) (hg : GpL w1 ga Gr) : RT w1 w c ga gka Gr s tv lav bv lr :=
  ⟨h.row, hg, OwnL.mono h.to hb.size, OwnL.mono h.la hb.size, OwnL.mono h.br hb.size, OwnL.mono h.lo hb.size, h.ne, h.gk, Nat.le_trans hb.size h.hb, hb.trans (h.bl.mono hb.size)⟩
theorem light_gl {l : List Gp} (h : lightGs l = true) : GL l := fun g hg => by
  have h1 := ((lightGs_iff l).1 h).2 g hg
  have h2 := h1.2
  unfold lightM at h2
  simp only [Bool.and_eq_true] at h2
  have h3 := ((lightL_iff _).1 h2.1.2).1
  have h4 := h2.2
  unfold lightB at h4
  simp only [Bool.and_eq_true, decide_eq_true_eq] at h4
  constructor
  · omega
  · omega
theorem own_cell {w : World} {base g cap n K : Nat} {e : TypeId} {xs : List Value} (h : w.ownsRow base e K (.slice (some ⟨g, 0, none⟩) n cap) n xs) (j : Nat) (hj : j < n * K) : ∃ u, w.cell? ⟨g, j, none⟩ = some u := by
  have h1 := World.ownsRow.cellAt h j hj
  rw [List.getElem?_eq_getElem (by rw [h.1]; exact hj)] at h1
  exact ⟨_, h1⟩
namespace cloudPlays

set_option maxRecDepth 100000 in
set_option maxHeartbeats 8000000 in
theorem walk_dark (a b : Option Addr) (ka kb : Nat) (l : List Gp) (xs : List Opn) (d : Int) (w : World) (hT : Tab10 w) (hF : GpL w a l) (hm : l.length ≤ maxLen) (hI : ∀ g ∈ l, MacIn w g.like) (h : lightGs l = false) :
    Calls Tryz.prog 3 #[.slice a l.length ka, .int .i64 d, .slice b xs.length kb] w fun e w' => e = .returned (.bool true) ∧ Below w.heap.size w w' := by
  have HK := Lib.hid (fun V (hV : Below w.heap.size w V) => known_any V (hT.mono hV))
  have HL := Lib.hid (lightgs_any a l ka w hF hm hI)
  rw [h] at HL
  obtain ⟨n1, hn1⟩ : ∃ n1, l.length = n1 := ⟨_, rfl⟩
  obtain ⟨n, hn⟩ : ∃ n, xs.length = n := ⟨_, rfl⟩
  rw [hn1] at HL ⊢
  rw [hn]
  clear hT hF hI h hn1 hn
  go_enter Tryz.func3, Tryz.ntmps3
  go_wp2_with (first
    | (go_at_call 4; (with_reducible refine HL.out.mono ?_); rintro e w1 ⟨rfl, hb1⟩; have HB1 := Lib.hid hb1; clear hb1)
    | (go_at_call 5; (with_reducible refine (HK.out _ (HB1.out)).mono ?_); rintro e w11 ⟨rfl, hb11⟩; have HB11 := Lib.hid ((HB1.out).trans (hb11.mono (HB1.out).size)); clear hb11))
  go_ret
  exact ⟨rfl, HB11.out⟩

set_option maxRecDepth 100000 in
set_option maxHeartbeats 8000000 in
theorem walk_no (a b : Option Addr) (ka kb : Nat) (l : List Gp) (xs : List Opn) (d : Int) (w : World) (hT : Tab10 w) (hF : GpL w a l) (hm : l.length ≤ maxLen) (hI : ∀ g ∈ l, MacIn w g.like) (hl : lightGs l = true) (hr : rightGs l = false) :
    Calls Tryz.prog 3 #[.slice a l.length ka, .int .i64 d, .slice b xs.length kb] w fun e w' => e = .returned (.bool true) ∧ Below w.heap.size w w' := by
  have HK := Lib.hid (fun V (hV : Below w.heap.size w V) => known_any V (hT.mono hV))
  have HL := Lib.hid (lightgs_any a l ka w hF hm hI)
  have HN1 := Lib.hid (fun V (hV : Below w.heap.size w V) => cnew_no a l ka d V (hF.mono hV) (fun g hg => (hI g hg).mono hV) hl hr)
  have HN2 := Lib.hid (fun V (hV : Below w.heap.size w V) => rnew_no a l ka d V (hF.mono hV) (fun g hg => (hI g hg).mono hV) hl hr)
  rw [hl] at HL
  obtain ⟨n1, hn1⟩ : ∃ n1, l.length = n1 := ⟨_, rfl⟩
  obtain ⟨n, hn⟩ : ∃ n, xs.length = n := ⟨_, rfl⟩
  rw [hn1] at HL HN1 HN2 ⊢
  rw [hn]
  clear hT hF hI hn1 hn
  go_enter Tryz.func3, Tryz.ntmps3
  go_wp2_with (first
    | (go_at_call 4; (with_reducible refine HL.out.mono ?_); rintro e w1 ⟨rfl, hb1⟩; have HB1 := Lib.hid hb1; clear hb1)
    | (go_at_call 6; (with_reducible refine (HN1.out _ HB1.out).mono ?_); rintro e w2 ⟨rfl, hb2⟩; have HB2 := Lib.hid (HB1.out.trans (hb2.mono HB1.out.size)); clear hb2)
    | (go_at_call 7; (with_reducible refine (HN2.out _ HB2.out).mono ?_); rintro e w3 ⟨⟨X, rfl⟩, hb3⟩; have HB3 := Lib.hid (HB2.out.trans (hb3.mono HB2.out.size)); clear hb3))
  refine wp_loop_rounds 1 ?_
  rw [rounds_succ]
  by_cases h0 : 0 < n
  · have k0 : decide ((0 : Int) < (n : Int)) = true := decide_eq_true (by omega)
    go_wp2_with (go_at_call 5; (with_reducible refine (HK.out _ (HB3.out)).mono ?_); rintro e w11 ⟨rfl, hb11⟩; have HB11 := Lib.hid ((HB3.out).trans (hb11.mono (HB3.out).size)); clear hb11)
    go_ret
    exact ⟨rfl, HB11.out⟩
  · obtain rfl : n = 0 := by omega
    go_wp2_with (go_at_call 5; (with_reducible refine (HK.out _ (HB3.out)).mono ?_); rintro e w11 ⟨rfl, hb11⟩; have HB11 := Lib.hid ((HB3.out).trans (hb11.mono (HB3.out).size)); clear hb11)
    go_ret
    exact ⟨rfl, HB11.out⟩

set_option maxRecDepth 100000 in
set_option maxHeartbeats 8000000 in
theorem walk_bad (a b : Option Addr) (ka kb : Nat) (l : List Gp) (xs : List Opn) (d : Int) (w : World) (hT : Tab10 w) (hF : GpL w a l) (hm : l.length ≤ maxLen) (hI : ∀ g ∈ l, MacIn w g.like) (hl : lightGs l = true) (hr : rightGs l = true) (hd : ¬ (1 ≤ d ∧ d ≤ 1000)) :
    Calls Tryz.prog 3 #[.slice a l.length ka, .int .i64 d, .slice b xs.length kb] w fun e w' => e = .returned (.bool true) ∧ Below w.heap.size w w' := by
  have HK := Lib.hid (fun V (hV : Below w.heap.size w V) => known_any V (hT.mono hV))
  have HL := Lib.hid (lightgs_any a l ka w hF hm hI)
  have HN1 := Lib.hid (fun V (hV : Below w.heap.size w V) => cnew_bad a l ka d V (hF.mono hV) (fun g hg => (hI g hg).mono hV) hl hr hd)
  have HN2 := Lib.hid (fun V (hV : Below w.heap.size w V) => rnew_bad a l ka d V (hF.mono hV) (fun g hg => (hI g hg).mono hV) hl hr hd)
  rw [hl] at HL
  obtain ⟨n1, hn1⟩ : ∃ n1, l.length = n1 := ⟨_, rfl⟩
  obtain ⟨n, hn⟩ : ∃ n, xs.length = n := ⟨_, rfl⟩
  rw [hn1] at HL HN1 HN2 ⊢
  rw [hn]
  clear hT hF hI hn1 hn
  go_enter Tryz.func3, Tryz.ntmps3
  go_wp2_with (first
    | (go_at_call 4; (with_reducible refine HL.out.mono ?_); rintro e w1 ⟨rfl, hb1⟩; have HB1 := Lib.hid hb1; clear hb1)
    | (go_at_call 6; (with_reducible refine (HN1.out _ HB1.out).mono ?_); rintro e w2 ⟨rfl, hb2⟩; have HB2 := Lib.hid (HB1.out.trans (hb2.mono HB1.out.size)); clear hb2)
    | (go_at_call 7; (with_reducible refine (HN2.out _ HB2.out).mono ?_); rintro e w3 ⟨⟨X, rfl⟩, hb3⟩; have HB3 := Lib.hid (HB2.out.trans (hb3.mono HB2.out.size)); clear hb3))
  refine wp_loop_rounds 1 ?_
  rw [rounds_succ]
  by_cases h0 : 0 < n
  · have k0 : decide ((0 : Int) < (n : Int)) = true := decide_eq_true (by omega)
    go_wp2_with (go_at_call 5; (with_reducible refine (HK.out _ (HB3.out)).mono ?_); rintro e w11 ⟨rfl, hb11⟩; have HB11 := Lib.hid ((HB3.out).trans (hb11.mono (HB3.out).size)); clear hb11)
    go_ret
    exact ⟨rfl, HB11.out⟩
  · obtain rfl : n = 0 := by omega
    go_wp2_with (go_at_call 5; (with_reducible refine (HK.out _ (HB3.out)).mono ?_); rintro e w11 ⟨rfl, hb11⟩; have HB11 := Lib.hid ((HB3.out).trans (hb11.mono (HB3.out).size)); clear hb11)
    go_ret
    exact ⟨rfl, HB11.out⟩

set_option maxRecDepth 100000 in
set_option maxHeartbeats 16000000 in
theorem walk_yes (a b : Option Addr) (ka kb : Nat) (l : List Gp) (xs : List Opn) (d : Int) (w : World) (hT : Tab10 w) (hF : GpL w a l) (hm : l.length ≤ maxLen) (hI : ∀ g ∈ l, MacIn w g.like) (hO : OpL w b xs) (hx : xs.length ≤ maxLen) (hxI : ∀ x ∈ xs, OpIn w x) (hl : lightGs l = true) (hr : rightGs l = true) (hd : 1 ≤ d ∧ d ≤ 1000) :
    Calls Tryz.prog 3 #[.slice a l.length ka, .int .i64 d, .slice b xs.length kb] w fun e w' => e = .returned (.bool true) ∧ Below w.heap.size w w' := by
  have HK := Lib.hid (fun V (hV : Below w.heap.size w V) => known_any V (hT.mono hV))
  have HL := Lib.hid (lightgs_any a l ka w hF hm hI)
  have HN1 := Lib.hid (fun V (hV : Below w.heap.size w V) => cnew_prov a l ka d V (hF.mono hV) (fun g hg => (hI g hg).mono hV) hl hr hd (hT.mono hV) (light_gl hl))
  have HN2 := Lib.hid (fun V (hV : Below w.heap.size w V) => rnew_yes a l ka d V (hF.mono hV) (fun g hg => (hI g hg).mono hV) hl hr hd)
  have HNe := Lib.hid (right_noemp hr)
  have HGl := Lib.hid (fun V (hV : Below w.heap.size w V) => show GpL V a l from hF.mono hV)
  have HT := Lib.hid hT
  have HO := Lib.hid hO
  have HXI := Lib.hid hxI
  rw [hl] at HL
  obtain ⟨n, hn⟩ : ∃ n, xs.length = n := ⟨_, rfl⟩
  have HN := Lib.hid hn
  obtain ⟨n1, hn1⟩ : ∃ n1, l.length = n1 := ⟨_, rfl⟩
  rw [hn1] at HL HN1 HN2 ⊢
  rw [hn] at hx ⊢
  unfold maxLen at hx
  clear hT hF hI hO hxI hl hr hn hn1 hd
  go_enter Tryz.func3, Tryz.ntmps3
  go_wp2_with (first
    | (go_at_call 4; (with_reducible refine HL.out.mono ?_); rintro e w1 ⟨rfl, hb1⟩; have HB1 := Lib.hid hb1; clear hb1)
    | (go_at_call 6; (with_reducible refine (HN1.out _ HB1.out).mono ?_); rintro e w2 ⟨p0, rfl, hP⟩; have HP2 := Lib.hid hP; have HB2 := Lib.hid (HB1.out.trans (hP.bl.mono HB1.out.size)); clear hP)
    | (go_at_call 7; (with_reducible refine (HN2.out _ HB2.out).mono ?_); rintro e w3 ⟨⟨c, tv, lav, bv, lr, rfl, hR⟩, hb3⟩; have HR3 := Lib.hid hR; have HB3 := Lib.hid hb3; clear hR hb3))
  have HPP := Lib.hid (show P2 w1 p0 c a ka l (CS.new (l.map gkOf) d) (CS.new (l.map gkOf) d) 1 1 [] w3 from
    ⟨⟨tv, lav, bv, lr, HR3.out.less HP2.out.bl (HGl.out _ HB1.out), HP2.out.add HB3.out (fun z hz => HR3.out.blocks z hz), fun z hz => by cases hz⟩, HP2.out.ok⟩)
  have HT1 := Lib.hid (HT.out.mono HB1.out)
  obtain ⟨s0, hs0⟩ : ∃ s0, CS.new (l.map gkOf) d = s0 := ⟨_, rfl⟩
  rw [hs0] at HPP
  clear HN1 HN2 HL hs0 HR3 HP2 HB3 HB2 HGl
  go_loopw [7, 11] (fun cv i wr => ∃ (k p : Nat) (s : CS), k ≤ n ∧ k ≤ 40 ∧ cv = .pointer (some ⟨p, 0, none⟩) ∧ i = .int .i64 k ∧ P2 w1 p c a ka l s s (k + 1) (k + 1) [] wr) (fun _ i _ => n - (intOf i).toNat)
  case atStart => exact ⟨0, p0, s0, Nat.zero_le _, Nat.zero_le _, rfl, rfl, HPP.out⟩
  case round =>
    clear HPP
    obtain ⟨kk, p, s, hk, hk4, rfl, rfl, hP⟩ := hrel
    have HP := Lib.hid hP
    have HBw := Lib.hid (HB1.out.trans (hP.bl.mono HB1.out.size))
    have hbz := HBw.out.size
    clear hP
    by_cases hlt : kk < n
    · by_cases hl4 : kk < 40
      · obtain ⟨x, hx9⟩ := mem_at (l := xs) (k := kk) (by rw [HN.out]; exact hlt)
        obtain ⟨bx, ox, rfl, hbx, hcx⟩ := HO.out (by rw [HN.out]; omega)
        obtain ⟨d0, d1, d2, d3, d4⟩ := oprow_cells (w := wr) (x := x) (b := bx) (o := ox + kk * 5) fun r hr => by rw [HBw.out.cell (p := ⟨bx, ox + kk * 5 + r, none⟩) hbx]; exact hcx kk x hx9 r hr
        have HD := Lib.hid (does_any w1 p c (kk + 1) a ka l s x wr HP.out (by omega) HT1.out (HXI.out x (List.mem_of_getElem? hx9)))
        clear hx9 hcx
        go_wp2_with (go_at_call 8; (with_reducible refine HD.out.mono ?_); rintro e w4 ⟨p4, s4, rfl, hP⟩; have HP4 := Lib.hid hP; clear hP)
        have HAl := Lib.hid (alike_any w1 p4 c (kk + 1 + 1) a ka l s4 [] w4 HP4.out (by omega) HNe.out)
        go_wp2_with (first
          | (go_at_call 9; (with_reducible refine HAl.out.mono ?_); rintro e w5 ⟨rfl, hb5⟩; have HP5 := Lib.hid (HP4.out.below hb5); clear hb5)
          | (go_at_call 10; (obtain ⟨F9, hP9⟩ := HP5.out.prov); (with_reducible refine (pv_insts w1 p4 (kk + 1 + 1) s4 F9 w5 hP9 (by omega)).mono ?_); rintro e w6 ⟨⟨v6, rfl, hv⟩, hb6⟩; have HV6 := Lib.hid hv; have HP6 := Lib.hid (HP5.out.below hb6); have HB6 := Lib.hid hb6; obtain ⟨sl, kl, rfl, _⟩ := own_rows irow_len hv (by decide); clear hv hb6 hP9))
        obtain ⟨ln, hln⟩ : ∃ ln, s4.L.length = ln := ⟨_, rfl⟩
        have HO6 := Lib.hid (show w6.ownsRow w5.heap.size 41 5 (.slice sl ln kl) ln (s4.L.flatMap irow) by rw [← hln]; exact HV6.out)
        have HGW := Lib.hid (show ∀ q, (Value.slice sl ln kl).ownBlock = some q → w5.heap.size ≤ q ∧ q < w6.heap.size from fun q hq => own_lt HO6.out hq)
        have hl6 : ln ≤ 1000000 := by rw [← hln]; exact HP5.out.l6 (by omega)
        rw [hln]
        clear hln HV6
        go_loopw [15] (fun i wr => ∃ k : Nat, k ≤ ln ∧ i = .int .i64 k ∧ (∃ us, wr.ownsRow w5.heap.size 41 5 (Value.slice sl ln kl) ln us) ∧ w6.grownBy wr ((Value.slice sl ln kl)).ownBlock) (fun i _ => ln - (intOf i).toNat)
        case atStart => exact ⟨0, Nat.zero_le _, rfl, ⟨_, HO6.out⟩, World.grownBy.refl w6 _⟩
        case round =>
          obtain ⟨k, hk, rfl, ⟨us, hus⟩, hgb⟩ := hrel
          have Hus := Lib.hid hus
          have Hgb := Lib.hid hgb
          clear hus hgb
          by_cases hlt2 : k < ln
          · skip
            obtain ⟨g, cap9, e9, hg9, hgl⟩ := World.ownsRow.form Hus.out (by omega)
            simp only [Value.slice.injEq, true_and] at e9
            obtain ⟨e8, e9⟩ := e9
            subst e8
            subst e9
            have hst := World.ownsRow.stored Hus.out (k * 5 + 0) (.string ⟨#[115, 112, 111, 105, 108, 116]⟩)
            obtain ⟨uc, hcell⟩ := own_cell Hus.out (k * 5 + 0) (by omega)
            have hfz := World.ownsRow.frozenAt Hus.out (k * 5 + 0)
            have Hst := Lib.hid hst
            clear hst
            rw [Nat.add_zero] at hcell hfz
            go_wp2
            go_roundw
            case rel => exact ⟨k + 1, by omega, by go_num, ⟨_, Hst.out.1⟩, Hgb.out.trans Hst.out.2⟩
            case measure => simp [intOf]; omega
          · have HB7 := Lib.hid (show Below w5.heap.size w6 wr from Below.grown (Below.refl _ _) Hgb.out HB6.out.size fun q hq => (HGW.out q hq).1)
            have HP7 := Lib.hid (HP5.out.below (HB6.out.trans HB7.out))
            clear Hus Hgb
            go_wp2
            go_roundw
            case rel => exact ⟨kk + 1, p4, s4, by omega, by omega, rfl, by go_num, HP7.out⟩
            case measure => simp [intOf]; omega
      · obtain rfl : kk = 40 := by omega
        go_wp2_with (go_at_call 5; (with_reducible refine (HK.out _ (HBw.out)).mono ?_); rintro e w11 ⟨rfl, hb11⟩; have HB11 := Lib.hid ((HBw.out).trans (hb11.mono (HBw.out).size)); clear hb11)
        go_ret
        exact ⟨rfl, HB11.out⟩
    · obtain rfl : kk = n := by omega
      go_wp2_with (go_at_call 5; (with_reducible refine (HK.out _ (HBw.out)).mono ?_); rintro e w11 ⟨rfl, hb11⟩; have HB11 := Lib.hid ((HBw.out).trans (hb11.mono (HBw.out).size)); clear hb11)
      go_ret
      exact ⟨rfl, HB11.out⟩

theorem walk (a b : Option Addr) (ka kb : Nat) (l : List Gp) (xs : List Opn) (d : Int) (w : World) (hT : Tab10 w) (hF : GpL w a l) (hm : l.length ≤ maxLen) (hI : ∀ g ∈ l, MacIn w g.like) (hO : OpL w b xs) (hx : xs.length ≤ maxLen) (hxI : ∀ x ∈ xs, OpIn w x) :
    Calls Tryz.prog 3 #[.slice a l.length ka, .int .i64 d, .slice b xs.length kb] w fun e w' => e = .returned (.bool true) ∧ Below w.heap.size w w' := by
  cases hl : lightGs l
  · exact walk_dark a b ka kb l xs d w hT hF hm hI hl
  · cases hr : rightGs l
    · exact walk_no a b ka kb l xs d w hT hF hm hI hl hr
    · by_cases hd : 1 ≤ d ∧ d ≤ 1000
      · exact walk_yes a b ka kb l xs d w hT hF hm hI hO hx hxI hl hr hd
      · exact walk_bad a b ka kb l xs d w hT hF hm hI hl hr hd

set_option maxRecDepth 100000 in
theorem lifted (os : Os) (started : os.Started) (H : Type) (enc : TypeId × Value → H) :
    ReturnsInHanded {} Tryz.checked os 3 .any (fun w args => (Rows.cloudPlaysSpec.pre enc Tryz.prog Tryz.f3 Rows.cloudPlaysRow.domain false w args ∧ laidMetH Tryz.prog Rows.cloudPlaysRow.laid w) ∧ sizedMet enc Tryz.prog Tryz.f3 (OpenSpec.ofChange Rows.cloudPlaysSpec) false w args)
      (Rows.cloudPlaysSpec.post enc Tryz.prog Tryz.f3 false true false false) := by
  refine returnsInHanded_of_change_and (C := Tryz.checked) (X := fun w _ => laidMetH Tryz.prog Rows.cloudPlaysRow.laid w) (fun _ _ _ hh h => h.of_heap hh) Tryz.own started (by kernel_rfl) Tryz.func3
    (ChangeSpec.witness_at (enc := enc) (C := Tryz.checked) (os := os) (X := fun w _ => laidMetH Tryz.prog Rows.cloudPlaysRow.laid w) false (laidWorld os) #[.slice none 0 0, .int .i64 0, .slice none 0 0] 8 rfl (by kernel_rfl) (by kernel_rfl) (by kernel_rfl) (by kernel_rfl) (by kernel_rfl) (laidWorld_met os _)) ?_
  intro W base args ds gs before hval hW _ _ hL _
  have hW' := hW
  obtain ⟨p, q, hA, hV, rfl, hfz, hnd⟩ := hW
  rw [Tryz.params3] at hA hval
  obtain ⟨v0, v1, v2, d0, d1, d2, p0, p1, p2, rfl, rfl, rfl, h0, h1, h2⟩ := trodAll_three hA
  obtain ⟨a, l, ka, rfl, _, hF, hl, _, hI⟩ := open_grps (hval 0 22 v0 rfl rfl) h0
  obtain ⟨d, rfl, _, _, wd⟩ := open_int Tryz.underlying3 (hval 1 3 v1 rfl rfl) h1
  obtain ⟨b, xs, kb, rfl, _, hO, hx, _, hxI⟩ := open_ops (hval 2 23 v2 rfl rfl) h2
  refine (walk a b ka kb l xs d W (tab_of hL) hF hl hI hO hx hxI).mono fun e W' ⟨he, hb⟩ => ?_
  exact ⟨_, he, law_post Tryz.laidOut hW' rfl (by kernel_rfl) (by kernel_rfl) Tryz.underlying4 rfl rfl rfl hb⟩

theorem over : Rows.CloudPlaysSaid :=
  OpenClaim.holds_of_wide 3 Tryz.f3 rfl rfl rfl rfl rfl rfl rfl ⟨rfl, rfl, rfl, rfl, rfl⟩ rfl rfl rfl rfl rfl (by kernel_rfl) Tryz.func3 (by kernel_rfl)
    (of_decide_eq_true (by kernel_rfl)) (by unfold Func.isWrapper; first | (rw [if_pos (by decide +kernel)]; kernel_rfl) | (rw [if_neg (by decide +kernel)]; exact ⟨rfl, rfl⟩))
    (fun os started H enc _ => lifted os started H enc)

/-- The statement: the card. -/
theorem proved : Rows.CloudPlaysCardSaid :=
  Claim7.holds_tied_plain_at .later [] [.data, .data, .data] true Rows.cloudPlaysCard.stood.harness Rows.cloudPlaysCard.stood.looks
    over (fun _ h => by cases h) (by kernel_rfl) (fun _ h => by cases h) cloudPlays_row_tie rfl ⟨rfl, rfl⟩ (by kernel_rfl) rfl
    (fun f fn hf hfn => by
      obtain rfl : f = 3 := Option.some.inj ((show Tryz.prog.funcNamed Rows.cloudPlaysRow.func = some 3 by kernel_rfl).symm.trans hf) |>.symm
      obtain rfl : fn = Tryz.f3 := (Option.some.inj (Tryz.func3.symm.trans hfn)).symm
      exact ⟨by kernel_rfl, fun j t ht => by
        rw [Tryz.params3] at ht
        rcases j with _ | _ | _ | j
        · obtain rfl : t = 22 := by simpa using ht.symm
          exact (show Tryz.prog.wantsStandIn 22 = false by kernel_rfl)
        · obtain rfl : t = 3 := by simpa using ht.symm
          exact (show Tryz.prog.wantsStandIn 3 = false by kernel_rfl)
        · obtain rfl : t = 23 := by simpa using ht.symm
          exact (show Tryz.prog.wantsStandIn 23 = false by kernel_rfl)
        · simp at ht⟩)
    (by kernel_rfl)
end cloudPlays
end Go.Proofs.YtcfdejlbchdciaaGreatDoor
