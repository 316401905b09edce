/-
  Pods: the contracts of triremeref07.in, RightPod.
-/
import Derived.Test.YtdfadbpepmkicaaGreatNEx
namespace Go.Proofs.YtdfadbpepmkicaaGreat
open Go.RowKit
set_option linter.unusedVariables false
set_option linter.unusedSimpArgs false
theorem rin_any (n lo hi : Int) (w : World) :
    Calls Tryz.prog 40 #[.int .i64 n, .int .i64 lo, .int .i64 hi] w fun e w' => e = .returned (.bool (inB n lo hi)) ∧ w' = w := by
  unfold inB
  by_cases h1 : lo ≤ n
  · by_cases h2 : n ≤ hi
    · rw [decide_eq_true ⟨h1, h2⟩]
      go_enter Tryz.func40, Tryz.ntmps40
      go_wp2
      go_ret
      exact ⟨by first | rfl | (simp; omega), rfl⟩
    · rw [decide_eq_false (fun h => h2 h.2)]
      go_enter Tryz.func40, Tryz.ntmps40
      go_wp2
      go_ret
      exact ⟨by first | rfl | (simp; omega), rfl⟩
  · have h1' : n < lo := by omega
    rw [decide_eq_false (fun h => h1 h.1)]
    go_enter Tryz.func40, Tryz.ntmps40
    go_wp2
    go_ret
    exact ⟨by first | rfl | (simp; omega), rfl⟩
theorem rin_b (n lo hi : Int) (w : World) :
    Calls Tryz.prog 40 #[.int .i64 n, .int .i64 lo, .int .i64 hi] w fun e w' => e = .returned (.bool (inB n lo hi)) ∧ Below w.heap.size w w' :=
  (rin_any n lo hi w).mono fun e w' h => ⟨h.1, by rw [h.2]; exact Below.refl _ _⟩
theorem six (a b c d e : Bool) : a = false ∨ (a = true ∧ b = false) ∨ (a = true ∧ b = true ∧ c = false) ∨ (a = true ∧ b = true ∧ c = true ∧ d = false) ∨ (a = true ∧ b = true ∧ c = true ∧ d = true ∧ e = false) ∨ (a = true ∧ b = true ∧ c = true ∧ d = true ∧ e = true) := by
  cases a <;> cases b <;> cases c <;> cases d <;> cases e <;> simp
set_option maxRecDepth 100000 in
set_option maxHeartbeats 16000000 in
theorem refrightp_any (p : Pd) (w : World) (hA : PodAt w p) (hL : lightP p = true) :
    Calls Tryz.prog 17 #[.agg (prow p).toArray] w fun e w' => e = .returned (.bool (rightP p)) ∧ Below w.heap.size w w' := by
  have hLt := lightP_iff hL
  obtain ⟨nm, n0, n1, n2, n3, n4, la, lk, L, sa, sk, S, ta, tk, T, ba, bk, B, pa, pk, P, aa, ak, A, wd, da, dk, D, sw, rk, ow, dm, pn, lc⟩ := p
  have hv : rightP ⟨nm, n0, n1, n2, n3, n4, la, lk, L, sa, sk, S, ta, tk, T, ba, bk, B, pa, pk, P, aa, ak, A, wd, da, dk, D, sw, rk, ow, dm, pn, lc⟩ = (wordB nm && weB ow && rtB n0 n1 n2 n3 n4 && decide (n3 = 1) && labsB L && labsB S && labsB A && labsB D && trmsB T && rightO B && prtsB P && (!wd || decide (0 < A.length)) && skewB D.length sw && inB rk 0 1000) := rfl
  show Calls Tryz.prog 17 #[.agg #[.string nm, .int .i64 n0, .int .i64 n1, .int .i64 n2, .int .i64 n3, .int .i64 n4, .slice la L.length lk, .slice sa S.length sk, .slice ta T.length tk, .slice ba B.length bk, .slice pa P.length pk, .slice aa A.length ak, .bool wd, .slice da D.length dk, .int .i64 sw, .int .i64 rk, .string ow, .bool dm, .bool pn, .bool lc]] w _
  rw [hv]
  obtain ⟨W, hW⟩ : ∃ W, W = w.alloc (.cells #[.string nm, .int .i64 n0, .int .i64 n1, .int .i64 n2, .int .i64 n3, .int .i64 n4, .slice la L.length lk, .slice sa S.length sk, .slice ta T.length tk, .slice ba B.length bk, .slice pa P.length pk, .slice aa A.length ak, .bool wd, .slice da D.length dk, .int .i64 sw, .int .i64 rk, .string ow, .bool dm, .bool pn, .bool lc] 40) := ⟨_, rfl⟩
  have HW := Lib.hid (show Below w.heap.size w W by rw [hW]; exact (Below.refl _ w).alloc (Nat.le_refl _) _)
  have HA := Lib.hid (hA.mono HW.out)
  have hX : Box w.heap.size [.string nm, .int .i64 n0, .int .i64 n1, .int .i64 n2, .int .i64 n3, .int .i64 n4, .slice la L.length lk, .slice sa S.length sk, .slice ta T.length tk, .slice ba B.length bk, .slice pa P.length pk, .slice aa A.length ak, .bool wd, .slice da D.length dk, .int .i64 sw, .int .i64 rk, .string ow, .bool dm, .bool pn, .bool lc] W := by rw [hW]; exact Box.new w [.string nm, .int .i64 n0, .int .i64 n1, .int .i64 n2, .int .i64 n3, .int .i64 n4, .slice la L.length lk, .slice sa S.length sk, .slice ta T.length tk, .slice ba B.length bk, .slice pa P.length pk, .slice aa A.length ak, .bool wd, .slice da D.length dk, .int .i64 sw, .int .i64 rk, .string ow, .bool dm, .bool pn, .bool lc] 40
  obtain ⟨m0, hm0⟩ : ∃ b, wordB nm = b := ⟨_, rfl⟩
  obtain ⟨m1, hm1⟩ : ∃ b, weB ow = b := ⟨_, rfl⟩
  obtain ⟨m2, hm2⟩ : ∃ b, rtB n0 n1 n2 n3 n4 = b := ⟨_, rfl⟩
  obtain ⟨m3, hm3⟩ : ∃ b, labsB L = b := ⟨_, rfl⟩
  obtain ⟨m4, hm4⟩ : ∃ b, labsB S = b := ⟨_, rfl⟩
  obtain ⟨m5, hm5⟩ : ∃ b, labsB A = b := ⟨_, rfl⟩
  obtain ⟨m6, hm6⟩ : ∃ b, labsB D = b := ⟨_, rfl⟩
  obtain ⟨m8, hm8⟩ : ∃ b, rightO B = b := ⟨_, rfl⟩
  obtain ⟨mb, hmb⟩ : ∃ b, inB rk 0 1000 = b := ⟨_, rfl⟩
  obtain ⟨tn, htn⟩ : ∃ n, T.length = n := ⟨_, rfl⟩
  obtain ⟨pq, hpq⟩ : ∃ n, P.length = n := ⟨_, rfl⟩
  obtain ⟨an, han⟩ : ∃ n, A.length = n := ⟨_, rfl⟩
  obtain ⟨dn, hdn⟩ : ∃ n, D.length = n := ⟨_, rfl⟩
  have ht30 : tn ≤ 30 := by rw [← htn]; exact hLt.tl
  have hp30 : pq ≤ 30 := by rw [← hpq]; exact hLt.pl
  have H0 := Lib.hid (fun V => refword_any nm (by have : nm.size ≤ 300 := hLt.nm; omega) V)
  have H1 := Lib.hid (fun V => maybe7_any ow (by have : ow.size ≤ 300 := hLt.ow; omega) V)
  have H2 := Lib.hid (fun V => refright_any n0 n1 n2 n3 n4 V)
  have H3 := Lib.hid (fun V (h : LabL V la L) => refright_l la lk L V h (lab_sz hLt.l0) hA.ll)
  have H4 := Lib.hid (fun V (h : LabL V sa S) => refright_l sa sk S V h (lab_sz hLt.l1) hA.sl)
  have H5 := Lib.hid (fun V (h : LabL V aa A) => refright_l aa ak A V h (lab_sz hLt.l2) hA.al)
  have H6 := Lib.hid (fun V (h : LabL V da D) => refright_l da dk D V h (lab_sz hLt.l3) hA.dl)
  have H8 := Lib.hid (fun V (h : TolsAt V ba B) => refrightbears_any ba bk B V h (ber_sz hLt.bl).2 (ber_sz hLt.bl).1)
  have Hb := Lib.hid (fun V => rin_b rk 0 1000 V)
  have HT := Lib.hid (fun (t : Lb.Trm) (ht : t ∈ T) (V : World) (hV : Below w.heap.size w V) => Lb.refrightterm_any t V ((hA.trmA t ht).mono hV) (by have := (Lb.lightTm_ok (hLt.tt t ht)).2.1; omega) (by have := (Lb.lightTm_ok (hLt.tt t ht)).1; omega) (fun v hv => by have := (Lb.lightTm_ok (hLt.tt t ht)).2.2 v hv; omega))
  rw [hm0] at H0
  rw [hm1] at H1
  rw [hm2] at H2
  rw [hm3] at H3
  rw [hm4] at H4
  rw [hm5, han] at H5
  rw [hm6, hdn] at H6
  rw [hm8] at H8
  rw [hmb] at Hb
  rw [hm0, hm1, hm2, hm3, hm4, hm5, hm6, hm8, hmb, htn, hpq, han, hdn]
  rw [htn, hpq, han, hdn] at hX hW
  have HX := Lib.hid hX
  obtain ⟨R, hR⟩ : ∃ R, (m0 && m1 && m2 && decide (n3 = 1) && m3 && m4 && m5 && m6 && trmsB T && m8 && prtsB P && (!wd || decide (0 < an)) && skewB dn sw && mb) = R := ⟨_, rfl⟩
  rw [hR]
  have HR := Lib.hid hR
  have HTn := Lib.hid htn
  have HPn := Lib.hid hpq
  clear hv hA hX hm0 hm1 hm2 hm3 hm4 hm5 hm6 hm8 hmb hR hL hLt htn hpq han hdn
  have HNo := Lib.hid (show ¬ (m0 = true ∧ m1 = true ∧ m2 = true ∧ n3 = 1 ∧ m3 = true ∧ m4 = true ∧ m5 = true ∧ m6 = true ∧ trmsB T = true ∧ m8 = true ∧ prtsB P = true ∧ (!wd || decide (0 < an)) = true ∧ skewB dn sw = true ∧ mb = true) → R = false from fun hn => by
    rw [← HR.out, Bool.eq_false_iff]
    intro hh
    simp only [Bool.and_eq_true, decide_eq_true_eq] at hh
    obtain ⟨⟨⟨⟨⟨⟨⟨⟨⟨⟨⟨⟨⟨b0, b1⟩, b2⟩, b3⟩, b4⟩, b5⟩, b6⟩, b7⟩, b8⟩, b9⟩, ba⟩, bb⟩, bc⟩, bd⟩ := hh
    exact hn ⟨b0, b1, b2, b3, b4, b5, b6, b7, b8, b9, ba, bb, bc, bd⟩)
  have HGo := Lib.hid (show m0 = true → m1 = true → m2 = true → n3 = 1 → mb = true → trmsB T = true → prtsB P = true → m3 = true → m4 = true → m5 = true → m6 = true → m8 = true → (!wd || decide (0 < an)) = true → skewB dn sw = true → R = true from fun h0 h1 h2 h3 hb h7 h9 h4 h5 h6 h6' h8 ha hs => by
    rw [← HR.out, h0, h1, h2, decide_eq_true h3, h4, h5, h6, h6', h7, h8, h9, ha, hs, hb]
    rfl)
  clear HR
  cases m0 with
  | false =>
    skip
    (obtain rfl : R = false := HNo.out (by
       rintro ⟨a0, a1, a2, aq, a3, a4, a5, a6, a7, a8, a9, aa1, ab, ac⟩
       contradiction))
    go_enter Tryz.func17, Tryz.ntmps17
    go_upto_region 1 with (fail)
    rw [← hW]
    clear hW
    have hx := HX.out.cell
    have hlt := HX.out.lt
    go_wp2_with (first
      | (go_at_call 37; (with_reducible refine (H0.out _).mono ?_); rintro e w1 ⟨rfl, hb⟩; have HX1 := Lib.hid (HX.out.mono hb); have hx1 := HX1.out.cell; have hlt1 := HX1.out.lt; have HA1 := Lib.hid (HA.out.mono hb); have HW1 := Lib.hid (HW.out.trans (hb.mono HW.out.size)); clear hb)
      | (go_at_call 38; (with_reducible refine (H2.out _).mono ?_); rintro e w2 ⟨rfl, hb⟩; have HX2 := Lib.hid (HX1.out.mono hb); have hx2 := HX2.out.cell; have hlt2 := HX2.out.lt; have HA2 := Lib.hid (HA1.out.mono hb); have HW2 := Lib.hid (HW1.out.trans (hb.mono HW1.out.size)); clear hb)
      | (go_at_call 39; (with_reducible refine (H1.out _).mono ?_); rintro e w3 ⟨rfl, hb⟩; have HX3 := Lib.hid (HX2.out.mono hb); have hx3 := HX3.out.cell; have hlt3 := HX3.out.lt; have HA3 := Lib.hid (HA2.out.mono hb); have HW3 := Lib.hid (HW2.out.trans (hb.mono HW2.out.size)); clear hb)
      | (go_at_call 40; (with_reducible refine (Hb.out _).mono ?_); rintro e w4 ⟨rfl, hb⟩; have HX4 := Lib.hid (HX3.out.mono hb); have hx4 := HX4.out.cell; have hlt4 := HX4.out.lt; have HA4 := Lib.hid (HA3.out.mono hb); have HW4 := Lib.hid (HW3.out.trans (hb.mono HW3.out.size)); clear hb))
    go_ret
    exact ⟨rfl, by (first | exact HW12.out | exact HW11.out | exact HW10.out | exact HW9.out | exact HW8.out | exact HW7.out | exact HW6.out | exact HW5.out | exact HW4.out | exact HW3.out | exact HW2.out | exact HW1.out | exact HW.out)⟩
  | true =>
    cases m2 with
    | false =>
      skip
      (obtain rfl : R = false := HNo.out (by
         rintro ⟨a0, a1, a2, aq, a3, a4, a5, a6, a7, a8, a9, aa1, ab, ac⟩
         contradiction))
      go_enter Tryz.func17, Tryz.ntmps17
      go_upto_region 1 with (fail)
      rw [← hW]
      clear hW
      have hx := HX.out.cell
      have hlt := HX.out.lt
      go_wp2_with (first
        | (go_at_call 37; (with_reducible refine (H0.out _).mono ?_); rintro e w1 ⟨rfl, hb⟩; have HX1 := Lib.hid (HX.out.mono hb); have hx1 := HX1.out.cell; have hlt1 := HX1.out.lt; have HA1 := Lib.hid (HA.out.mono hb); have HW1 := Lib.hid (HW.out.trans (hb.mono HW.out.size)); clear hb)
        | (go_at_call 38; (with_reducible refine (H2.out _).mono ?_); rintro e w2 ⟨rfl, hb⟩; have HX2 := Lib.hid (HX1.out.mono hb); have hx2 := HX2.out.cell; have hlt2 := HX2.out.lt; have HA2 := Lib.hid (HA1.out.mono hb); have HW2 := Lib.hid (HW1.out.trans (hb.mono HW1.out.size)); clear hb)
        | (go_at_call 39; (with_reducible refine (H1.out _).mono ?_); rintro e w3 ⟨rfl, hb⟩; have HX3 := Lib.hid (HX2.out.mono hb); have hx3 := HX3.out.cell; have hlt3 := HX3.out.lt; have HA3 := Lib.hid (HA2.out.mono hb); have HW3 := Lib.hid (HW2.out.trans (hb.mono HW2.out.size)); clear hb)
        | (go_at_call 40; (with_reducible refine (Hb.out _).mono ?_); rintro e w4 ⟨rfl, hb⟩; have HX4 := Lib.hid (HX3.out.mono hb); have hx4 := HX4.out.cell; have hlt4 := HX4.out.lt; have HA4 := Lib.hid (HA3.out.mono hb); have HW4 := Lib.hid (HW3.out.trans (hb.mono HW3.out.size)); clear hb))
      go_ret
      exact ⟨rfl, by (first | exact HW12.out | exact HW11.out | exact HW10.out | exact HW9.out | exact HW8.out | exact HW7.out | exact HW6.out | exact HW5.out | exact HW4.out | exact HW3.out | exact HW2.out | exact HW1.out | exact HW.out)⟩
    | true =>
      by_cases hn3 : n3 = 1
      · subst hn3
        cases m1 with
        | false =>
          skip
          (obtain rfl : R = false := HNo.out (by
             rintro ⟨a0, a1, a2, aq, a3, a4, a5, a6, a7, a8, a9, aa1, ab, ac⟩
             contradiction))
          go_enter Tryz.func17, Tryz.ntmps17
          go_upto_region 1 with (fail)
          rw [← hW]
          clear hW
          have hx := HX.out.cell
          have hlt := HX.out.lt
          go_wp2_with (first
            | (go_at_call 37; (with_reducible refine (H0.out _).mono ?_); rintro e w1 ⟨rfl, hb⟩; have HX1 := Lib.hid (HX.out.mono hb); have hx1 := HX1.out.cell; have hlt1 := HX1.out.lt; have HA1 := Lib.hid (HA.out.mono hb); have HW1 := Lib.hid (HW.out.trans (hb.mono HW.out.size)); clear hb)
            | (go_at_call 38; (with_reducible refine (H2.out _).mono ?_); rintro e w2 ⟨rfl, hb⟩; have HX2 := Lib.hid (HX1.out.mono hb); have hx2 := HX2.out.cell; have hlt2 := HX2.out.lt; have HA2 := Lib.hid (HA1.out.mono hb); have HW2 := Lib.hid (HW1.out.trans (hb.mono HW1.out.size)); clear hb)
            | (go_at_call 39; (with_reducible refine (H1.out _).mono ?_); rintro e w3 ⟨rfl, hb⟩; have HX3 := Lib.hid (HX2.out.mono hb); have hx3 := HX3.out.cell; have hlt3 := HX3.out.lt; have HA3 := Lib.hid (HA2.out.mono hb); have HW3 := Lib.hid (HW2.out.trans (hb.mono HW2.out.size)); clear hb)
            | (go_at_call 40; (with_reducible refine (Hb.out _).mono ?_); rintro e w4 ⟨rfl, hb⟩; have HX4 := Lib.hid (HX3.out.mono hb); have hx4 := HX4.out.cell; have hlt4 := HX4.out.lt; have HA4 := Lib.hid (HA3.out.mono hb); have HW4 := Lib.hid (HW3.out.trans (hb.mono HW3.out.size)); clear hb))
          go_ret
          exact ⟨rfl, by (first | exact HW12.out | exact HW11.out | exact HW10.out | exact HW9.out | exact HW8.out | exact HW7.out | exact HW6.out | exact HW5.out | exact HW4.out | exact HW3.out | exact HW2.out | exact HW1.out | exact HW.out)⟩
        | true =>
          cases mb with
          | false =>
            skip
            (obtain rfl : R = false := HNo.out (by
               rintro ⟨a0, a1, a2, aq, a3, a4, a5, a6, a7, a8, a9, aa1, ab, ac⟩
               contradiction))
            go_enter Tryz.func17, Tryz.ntmps17
            go_upto_region 1 with (fail)
            rw [← hW]
            clear hW
            have hx := HX.out.cell
            have hlt := HX.out.lt
            go_wp2_with (first
              | (go_at_call 37; (with_reducible refine (H0.out _).mono ?_); rintro e w1 ⟨rfl, hb⟩; have HX1 := Lib.hid (HX.out.mono hb); have hx1 := HX1.out.cell; have hlt1 := HX1.out.lt; have HA1 := Lib.hid (HA.out.mono hb); have HW1 := Lib.hid (HW.out.trans (hb.mono HW.out.size)); clear hb)
              | (go_at_call 38; (with_reducible refine (H2.out _).mono ?_); rintro e w2 ⟨rfl, hb⟩; have HX2 := Lib.hid (HX1.out.mono hb); have hx2 := HX2.out.cell; have hlt2 := HX2.out.lt; have HA2 := Lib.hid (HA1.out.mono hb); have HW2 := Lib.hid (HW1.out.trans (hb.mono HW1.out.size)); clear hb)
              | (go_at_call 39; (with_reducible refine (H1.out _).mono ?_); rintro e w3 ⟨rfl, hb⟩; have HX3 := Lib.hid (HX2.out.mono hb); have hx3 := HX3.out.cell; have hlt3 := HX3.out.lt; have HA3 := Lib.hid (HA2.out.mono hb); have HW3 := Lib.hid (HW2.out.trans (hb.mono HW2.out.size)); clear hb)
              | (go_at_call 40; (with_reducible refine (Hb.out _).mono ?_); rintro e w4 ⟨rfl, hb⟩; have HX4 := Lib.hid (HX3.out.mono hb); have hx4 := HX4.out.cell; have hlt4 := HX4.out.lt; have HA4 := Lib.hid (HA3.out.mono hb); have HW4 := Lib.hid (HW3.out.trans (hb.mono HW3.out.size)); clear hb))
            go_ret
            exact ⟨rfl, by (first | exact HW12.out | exact HW11.out | exact HW10.out | exact HW9.out | exact HW8.out | exact HW7.out | exact HW6.out | exact HW5.out | exact HW4.out | exact HW3.out | exact HW2.out | exact HW1.out | exact HW.out)⟩
          | true =>
            by_cases ht16 : tn ≤ 16
            · have k1 : decide ((16 : Int) < (tn : Int)) = false := decide_eq_false (by omega)
              by_cases hp16 : pq ≤ 16
              · have k2 : decide ((16 : Int) < (pq : Int)) = false := decide_eq_false (by omega)
                have HGa := Lib.hid (HGo.out rfl rfl rfl rfl rfl)
                clear HGo
                have HTb := Lib.hid (show T.all Lb.rtrm = false → R = false from fun h => HNo.out (by
                  rintro ⟨a0, a1, a2, aq, a3, a4, a5, a6, a7, a8, a9, aa1, ab, ac⟩
                  unfold trmsB at a7
                  rw [h] at a7
                  cases a7))
                have HTg := Lib.hid (show T.all Lb.rtrm = true → trmsB T = true from fun h => by
                  unfold trmsB
                  rw [h, HTn.out, decide_eq_true ht16]
                  rfl)
                have HPb := Lib.hid (show prtsTo 0 P = false → R = false from fun h => HNo.out (by
                  rintro ⟨a0, a1, a2, aq, a3, a4, a5, a6, a7, a8, a9, aa1, ab, ac⟩
                  unfold prtsB at a9
                  rw [h] at a9
                  cases a9))
                have HPg := Lib.hid (show prtsTo 0 P = true → prtsB P = true from fun h => by
                  unfold prtsB
                  rw [h, HPn.out, decide_eq_true hp16]
                  rfl)
                go_enter Tryz.func17, Tryz.ntmps17
                go_upto_region 1 with (fail)
                rw [← hW]
                clear hW
                have hx := HX.out.cell
                have hlt := HX.out.lt
                go_wp2_with (first
                  | (go_at_call 37; (with_reducible refine (H0.out _).mono ?_); rintro e w1 ⟨rfl, hb⟩; have HX1 := Lib.hid (HX.out.mono hb); have hx1 := HX1.out.cell; have hlt1 := HX1.out.lt; have HA1 := Lib.hid (HA.out.mono hb); have HW1 := Lib.hid (HW.out.trans (hb.mono HW.out.size)); clear hb)
                  | (go_at_call 38; (with_reducible refine (H2.out _).mono ?_); rintro e w2 ⟨rfl, hb⟩; have HX2 := Lib.hid (HX1.out.mono hb); have hx2 := HX2.out.cell; have hlt2 := HX2.out.lt; have HA2 := Lib.hid (HA1.out.mono hb); have HW2 := Lib.hid (HW1.out.trans (hb.mono HW1.out.size)); clear hb)
                  | (go_at_call 39; (with_reducible refine (H1.out _).mono ?_); rintro e w3 ⟨rfl, hb⟩; have HX3 := Lib.hid (HX2.out.mono hb); have hx3 := HX3.out.cell; have hlt3 := HX3.out.lt; have HA3 := Lib.hid (HA2.out.mono hb); have HW3 := Lib.hid (HW2.out.trans (hb.mono HW2.out.size)); clear hb)
                  | (go_at_call 40; (with_reducible refine (Hb.out _).mono ?_); rintro e w4 ⟨rfl, hb⟩; have HX4 := Lib.hid (HX3.out.mono hb); have hx4 := HX4.out.cell; have hlt4 := HX4.out.lt; have HA4 := Lib.hid (HA3.out.mono hb); have HW4 := Lib.hid (HW3.out.trans (hb.mono HW3.out.size)); clear hb))
                have HTL := Lib.hid HA4.out.trms
                have hz4 := HW4.out.size
                clear hx hx1 hx2 hx3 hx4 hlt hlt1 hlt2 hlt3 hlt4 HX HX1 HX2 HX3 HA HA1 HA2 HA3 HW HW1 HW2 HW3 H0 H1 H2 Hb k1 k2 ht16 hp16
                go_loopw [3] (fun vi wr => ∃ k : Nat, k ≤ tn ∧ vi = .int .i64 k ∧ (T.take k).all Lb.rtrm = true ∧ Below w4.heap.size w4 wr) (fun vi _ => tn - (intOf vi).toNat)
                case atStart => exact ⟨0, Nat.zero_le _, rfl, rfl, Below.refl _ _⟩
                case round =>
                  obtain ⟨k, hk, rfl, hE, hB⟩ := hrel
                  have HE := Lib.hid hE
                  have HB := Lib.hid hB
                  have hbz := hB.size
                  have HXr := Lib.hid (HX4.out.mono hB)
                  have hxr := HXr.out.cell
                  have hltr := HXr.out.lt
                  have HB9 := Lib.hid (HW4.out.trans (hB.mono hz4))
                  by_cases hlt : k < tn
                  · obtain ⟨t, ht⟩ := mem_at (l := T) (k := k) (by rw [HTn.out]; exact hlt)
                    obtain ⟨b, o, rfl, hb, hc⟩ := (HTL.out.mono hB) (by rw [HTn.out]; omega)
                    have c0 : wr.cell? ⟨b, o + k * 3, none⟩ = some (.string t.key) := hc k t ht 0 (by decide)
                    have c1 : wr.cell? ⟨b, o + k * 3 + 1, none⟩ = some (.int .i64 t.op) := hc k t ht 1 (by decide)
                    have c2 : wr.cell? ⟨b, o + k * 3 + 2, none⟩ = some (.slice t.va t.vals.length t.vk) := hc k t ht 2 (by decide)
                    have Ht := Lib.hid ht
                    have HTt := Lib.hid (HT.out t (List.mem_of_getElem? ht))
                    obtain ⟨z, hz⟩ : ∃ z, Lb.rtrm t = z := ⟨_, rfl⟩
                    have HZ := Lib.hid hz
                    rw [hz] at HTt
                    clear hE hB hc ht hz
                    cases z with
                    | false =>
                      obtain rfl : R = false := HTb.out (all_bad (P := Lb.rtrm) Ht.out HZ.out)
                      go_wp2_with (go_at_call 41; (with_reducible refine (HTt.out _ HB9.out).mono ?_); rintro e w6 ⟨rfl, hb6⟩; have HB6 := Lib.hid (HB9.out.trans (hb6.mono HB9.out.size)); clear hb6)
                      go_ret
                      exact ⟨rfl, HB6.out⟩
                    | true =>
                      have HE2 := Lib.hid (all_take1 (P := Lb.rtrm) Ht.out HZ.out HE.out)
                      go_wp2_with (go_at_call 41; (with_reducible refine (HTt.out _ HB9.out).mono ?_); rintro e w6 ⟨rfl, hb6⟩; have HB6 := Lib.hid (HB.out.trans (hb6.mono hbz)); clear hb6)
                      go_roundw
                      case rel => exact ⟨k + 1, by omega, by go_num, HE2.out, HB6.out⟩
                      case measure => simp [intOf]; omega
                  · obtain rfl : k = tn := by omega
                    have HGb := Lib.hid (HGa.out (HTg.out (all_done (P := Lb.rtrm) HTn.out HE.out)))
                    have HAr := Lib.hid (HA4.out.mono hB)
                    have HPL := Lib.hid HAr.out.prts
                    clear HE hE hB HT HTL HTb HTg HTn
                    go_wp2
                    go_loopw [4] (fun vi wq => ∃ (q : Nat) (last : Int), q ≤ pq ∧ vi = .int .i64 q ∧ (q = 0 ∧ last = 0 ∨ ∃ j, q = j + 1 ∧ P[j]? = some last ∧ 1 ≤ last) ∧ prtsTo 0 P = prtsTo last (P.drop q) ∧ Below wr.heap.size wr wq) (fun vi _ => pq - (intOf vi).toNat)
                    case atStart => exact ⟨0, 0, Nat.zero_le _, rfl, .inl ⟨rfl, rfl⟩, rfl, Below.refl _ _⟩
                    case round =>
                      obtain ⟨q, last, hq, rfl, hlast, hE, hB⟩ := hrel
                      have HE := Lib.hid hE
                      have HC := Lib.hid hB
                      have hcz := hB.size
                      have HX5 := Lib.hid (HXr.out.mono hB)
                      have HA5 := Lib.hid (HAr.out.mono hB)
                      have HW5 := Lib.hid (HB9.out.trans (hB.mono HB9.out.size))
                      have hx5 := HX5.out.cell
                      have hlt5 := HX5.out.lt
                      clear hxr hltr
                      by_cases hlt : q < pq
                      · obtain ⟨x, hxx⟩ := mem_at (l := P) (k := q) (by rw [HPn.out]; exact hlt)
                        obtain ⟨b, o, rfl, hb, hc⟩ := (HPL.out.mono hB) (by rw [HPn.out]; omega)
                        have c0 := hc q x hxx 0 (by decide)
                        dsimp only [pcs, List.getElem?_cons_zero] at c0
                        rw [Nat.mul_one, Nat.add_zero] at c0
                        have HNx := Lib.hid (HE.out.trans (prtsTo_at (last := last) hxx))
                        have hHi := fun V => rin_b x 1 65535 V
                        have h0l : 0 ≤ last := by rcases hlast with ⟨-, h⟩ | ⟨-, -, -, h⟩ <;> omega
                        have HPx := Lib.hid (show (x ≤ last ∨ 65535 < x) → R = false from fun h => HPb.out (by
                          rw [HNx.out]
                          rcases h with h | h
                          · rw [decide_eq_true h]; rfl
                          · rw [decide_eq_true h, Bool.or_true]; rfl))
                        have HPy := Lib.hid (show last < x → x ≤ 65535 → prtsTo 0 P = prtsTo x (P.drop (q + 1)) from fun h1 h2 => by
                          rw [HNx.out, decide_eq_false (by omega), decide_eq_false (by omega)]; rfl)
                        have HXx := Lib.hid hxx
                        clear hE hB HE HNx
                        by_cases hin : 1 ≤ x ∧ x ≤ 65535
                        · rw [show inB x 1 65535 = true from decide_eq_true hin] at hHi
                          have HHi := Lib.hid hHi
                          clear hHi
                          rcases hlast with ⟨rfl, rfl⟩ | ⟨j, rfl, hj, h1⟩
                          · have HP2 := Lib.hid (HPy.out (by omega) hin.2)
                            rw [Nat.add_zero] at c0
                            clear hc hxx
                            go_wp2
                            have hcH := held_cell
                            refine region_rel (by kernel_rfl) (by kernel_rfl) ?_
                            repeat
                              ((with_reducible refine relStep (fun K hK => ?_))
                               (have HK := Lib.hid hK)
                               clear hK
                               (apply relInl
                                · intro r n hf
                                  have Hf := Lib.hid hf
                                  clear hf
                                  (first
                                    | (fail)
                                    | (unfold relAt
                                       go_simp
                                       (first | (refine relUpon_val ?_ (Below.refl _ _); exact rfl) | exact rfl | (refine relUpon_enter ?_; (go_at_call 40; (with_reducible refine (HHi.out _).mono ?_); rintro e w9 ⟨rfl, hb⟩; exact ⟨⟨_, rfl, rfl⟩, hb⟩)))))
                                (simp only [Act.put, List.setIfInBounds_toArray, List.set_cons_zero, List.set_cons_succ])
                                (with_reducible refine HK.out _ _ ?_)
                                clear HK K))
                            refine relNil ?_
                            intro r9 n9 hx9
                            clear hcH
                            (try simp only [List.nil_append, List.cons_append, List.mem_cons, List.not_mem_nil, or_false, forall_eq_or_imp, forall_eq, false_implies, implies_true] at hx9)
                            obtain ⟨w9, hb9⟩ := n9
                            (try dsimp only)
                            obtain ⟨hc9, hf9⟩ := bcell hb9
                            have hz9 := hb9.size
                            (try simp at hz9)
                            have HC9 := Lib.hid (HC.out.trans (hb9.mono hcz))
                            clear hb9 hc9 hf9 hz9
                            go_wp2
                            go_roundw
                            case rel => exact ⟨1, x, by omega, by go_num, .inr ⟨0, rfl, HXx.out, hin.1⟩, HP2.out, HC9.out⟩
                            case measure => simp [intOf]; omega
                          · have d0 := hc j last hj 0 (by decide)
                            dsimp only [pcs, List.getElem?_cons_zero] at d0
                            rw [Nat.mul_one, Nat.add_zero] at d0
                            have hjn : j < pq := by omega
                            have f1 := wrap_in (x := (j : Int)) (by omega) (by omega)
                            have f2 := wrap_in (x := (j : Int) + 1 - 1) (by omega) (by omega)
                            have f3 : (j : Int) + 1 - 1 = (j : Int) := by omega
                            by_cases hle : x ≤ last
                            · have g1 : decide (x ≤ last) = true := decide_eq_true hle
                              obtain rfl := HPx.out (.inl hle)
                              clear hc hxx hle hj
                              go_wp2
                              have hcH := held_cell
                              refine region_rel (by kernel_rfl) (by kernel_rfl) ?_
                              repeat
                                ((with_reducible refine relStep (fun K hK => ?_))
                                 (have HK := Lib.hid hK)
                                 clear hK
                                 (apply relInl
                                  · intro r n hf
                                    have Hf := Lib.hid hf
                                    clear hf
                                    (first
                                      | (fail)
                                      | (unfold relAt
                                         go_simp
                                         (first | (refine relUpon_val ?_ (Below.refl _ _); exact rfl) | exact rfl | (refine relUpon_enter ?_; (go_at_call 40; (with_reducible refine (HHi.out _).mono ?_); rintro e w9 ⟨rfl, hb⟩; exact ⟨⟨_, rfl, rfl⟩, hb⟩)))))
                                  (simp only [Act.put, List.setIfInBounds_toArray, List.set_cons_zero, List.set_cons_succ])
                                  (with_reducible refine HK.out _ _ ?_)
                                  clear HK K))
                              refine relNil ?_
                              intro r9 n9 hx9
                              clear hcH
                              (try simp only [List.nil_append, List.cons_append, List.mem_cons, List.not_mem_nil, or_false, forall_eq_or_imp, forall_eq, false_implies, implies_true] at hx9)
                              obtain ⟨w9, hb9⟩ := n9
                              (try dsimp only)
                              obtain ⟨hc9, hf9⟩ := bcell hb9
                              have hz9 := hb9.size
                              (try simp at hz9)
                              have HW9 := Lib.hid (HW5.out.trans (hb9.mono HW5.out.size))
                              clear hb9 hc9 hf9 hz9
                              go_wp2
                              go_ret
                              exact ⟨rfl, HW9.out⟩
                            · have g1 : decide (x ≤ last) = false := decide_eq_false hle
                              have HP2 := Lib.hid (HPy.out (by omega) hin.2)
                              clear hc hxx hle hj
                              go_wp2
                              have hcH := held_cell
                              refine region_rel (by kernel_rfl) (by kernel_rfl) ?_
                              repeat
                                ((with_reducible refine relStep (fun K hK => ?_))
                                 (have HK := Lib.hid hK)
                                 clear hK
                                 (apply relInl
                                  · intro r n hf
                                    have Hf := Lib.hid hf
                                    clear hf
                                    (first
                                      | (fail)
                                      | (unfold relAt
                                         go_simp
                                         (first | (refine relUpon_val ?_ (Below.refl _ _); exact rfl) | exact rfl | (refine relUpon_enter ?_; (go_at_call 40; (with_reducible refine (HHi.out _).mono ?_); rintro e w9 ⟨rfl, hb⟩; exact ⟨⟨_, rfl, rfl⟩, hb⟩)))))
                                  (simp only [Act.put, List.setIfInBounds_toArray, List.set_cons_zero, List.set_cons_succ])
                                  (with_reducible refine HK.out _ _ ?_)
                                  clear HK K))
                              refine relNil ?_
                              intro r9 n9 hx9
                              clear hcH
                              (try simp only [List.nil_append, List.cons_append, List.mem_cons, List.not_mem_nil, or_false, forall_eq_or_imp, forall_eq, false_implies, implies_true] at hx9)
                              obtain ⟨w9, hb9⟩ := n9
                              (try dsimp only)
                              obtain ⟨hc9, hf9⟩ := bcell hb9
                              have hz9 := hb9.size
                              (try simp at hz9)
                              have HC9 := Lib.hid (HC.out.trans (hb9.mono hcz))
                              clear hb9 hc9 hf9 hz9
                              go_wp2
                              go_roundw
                              case rel => exact ⟨j + 1 + 1, x, by omega, by go_num, .inr ⟨j + 1, rfl, HXx.out, hin.1⟩, HP2.out, HC9.out⟩
                              case measure => simp [intOf]; omega
                        · rw [show inB x 1 65535 = false from decide_eq_false hin] at hHi
                          have HHi := Lib.hid hHi
                          obtain rfl := HPx.out (by omega)
                          clear hHi hc hxx hlast
                          go_wp2
                          have hcH := held_cell
                          refine region_rel (by kernel_rfl) (by kernel_rfl) ?_
                          repeat
                            ((with_reducible refine relStep (fun K hK => ?_))
                             (have HK := Lib.hid hK)
                             clear hK
                             (apply relInl
                              · intro r n hf
                                have Hf := Lib.hid hf
                                clear hf
                                (first
                                  | (fail)
                                  | (unfold relAt
                                     go_simp
                                     (first | (refine relUpon_val ?_ (Below.refl _ _); exact rfl) | exact rfl | (refine relUpon_enter ?_; (go_at_call 40; (with_reducible refine (HHi.out _).mono ?_); rintro e w9 ⟨rfl, hb⟩; exact ⟨⟨_, rfl, rfl⟩, hb⟩)))))
                              (simp only [Act.put, List.setIfInBounds_toArray, List.set_cons_zero, List.set_cons_succ])
                              (with_reducible refine HK.out _ _ ?_)
                              clear HK K))
                          refine relNil ?_
                          intro r9 n9 hx9
                          clear hcH
                          (try simp only [List.nil_append, List.cons_append, List.mem_cons, List.not_mem_nil, or_false, forall_eq_or_imp, forall_eq, false_implies, implies_true] at hx9)
                          obtain ⟨w9, hb9⟩ := n9
                          (try dsimp only)
                          obtain ⟨hc9, hf9⟩ := bcell hb9
                          have hz9 := hb9.size
                          (try simp at hz9)
                          have HW9 := Lib.hid (HW5.out.trans (hb9.mono HW5.out.size))
                          clear hb9 hc9 hf9 hz9
                          go_wp2
                          go_ret
                          exact ⟨rfl, HW9.out⟩
                      · obtain rfl : q = pq := by omega
                        have HYes := Lib.hid (HGb.out (HPg.out (by rw [HE.out, List.drop_of_length_le (by rw [HPn.out]; exact Nat.le_refl _)]; rfl)))
                        clear HE hE hB hlast HPL HPb HPg HPn HB hbz HXr HAr HB9 HX4 HA4 HW4 HGa HGb hz4
                        cases wd with
                        | false =>
                          skip
                          by_cases hd0 : dn = 0
                          · subst hd0
                            by_cases hs0 : sw = 0
                            · subst hs0
                              have Hs := Lib.hid (fun V => rin_any 0 1 100 V)
                              rcases six m3 m4 m5 m6 m8 with rfl | ⟨rfl, rfl⟩ | ⟨rfl, rfl, rfl⟩ | ⟨rfl, rfl, rfl, rfl⟩ | ⟨rfl, rfl, rfl, rfl, rfl⟩ | ⟨rfl, rfl, rfl, rfl, rfl⟩
                              · skip
                                (obtain rfl : R = false := HNo.out (by
                                   rintro ⟨a0, a1, a2, aq, a3, a4, a5, a6, a7, a8, a9, aa1, ab, ac⟩
                                   (cases a3)))
                                clear HYes
                                go_wp2_with (first
                                  | (go_at_call 40; (with_reducible refine (Hs.out _).mono ?_); rintro e w9 ⟨rfl, rfl⟩)
                                  | (go_at_call 42; (with_reducible refine (H3.out _ HA5.out.labs).mono ?_); rintro e w6 ⟨rfl, hb⟩; have HX6 := Lib.hid (HX5.out.mono hb); have hx6 := HX6.out.cell; have hlt6 := HX6.out.lt; have HA6 := Lib.hid (HA5.out.mono hb); have HW6 := Lib.hid (HW5.out.trans (hb.mono HW5.out.size)); clear hb)
                                  | (go_at_call 42; (with_reducible refine (H4.out _ HA6.out.sels).mono ?_); rintro e w7 ⟨rfl, hb⟩; have HX7 := Lib.hid (HX6.out.mono hb); have hx7 := HX7.out.cell; have hlt7 := HX7.out.lt; have HA7 := Lib.hid (HA6.out.mono hb); have HW7 := Lib.hid (HW6.out.trans (hb.mono HW6.out.size)); clear hb)
                                  | (go_at_call 42; (with_reducible refine (H5.out _ HA7.out.aprs).mono ?_); rintro e w8 ⟨rfl, hb⟩; have HX8 := Lib.hid (HX7.out.mono hb); have hx8 := HX8.out.cell; have hlt8 := HX8.out.lt; have HA8 := Lib.hid (HA7.out.mono hb); have HW8 := Lib.hid (HW7.out.trans (hb.mono HW7.out.size)); clear hb)
                                  | (go_at_call 42; (with_reducible refine (H6.out _ HA8.out.spds).mono ?_); rintro e w9 ⟨rfl, hb⟩; have HX9 := Lib.hid (HX8.out.mono hb); have hx9 := HX9.out.cell; have hlt9 := HX9.out.lt; have HA9 := Lib.hid (HA8.out.mono hb); have HW9 := Lib.hid (HW8.out.trans (hb.mono HW8.out.size)); clear hb)
                                  | (go_at_call 43; (with_reducible refine (H8.out _ HA9.out.bers).mono ?_); rintro e w10 ⟨rfl, hb⟩; have HX10 := Lib.hid (HX9.out.mono hb); have hx10 := HX10.out.cell; have hlt10 := HX10.out.lt; have HA10 := Lib.hid (HA9.out.mono hb); have HW10 := Lib.hid (HW9.out.trans (hb.mono HW9.out.size)); clear hb))
                                go_ret
                                exact ⟨rfl, by (first | exact HW12.out | exact HW11.out | exact HW10.out | exact HW9.out | exact HW8.out | exact HW7.out | exact HW6.out | exact HW5.out | exact HW4.out | exact HW3.out | exact HW2.out | exact HW1.out | exact HW.out)⟩
                              · skip
                                (obtain rfl : R = false := HNo.out (by
                                   rintro ⟨a0, a1, a2, aq, a3, a4, a5, a6, a7, a8, a9, aa1, ab, ac⟩
                                   (cases a4)))
                                clear HYes
                                go_wp2_with (first
                                  | (go_at_call 40; (with_reducible refine (Hs.out _).mono ?_); rintro e w9 ⟨rfl, rfl⟩)
                                  | (go_at_call 42; (with_reducible refine (H3.out _ HA5.out.labs).mono ?_); rintro e w6 ⟨rfl, hb⟩; have HX6 := Lib.hid (HX5.out.mono hb); have hx6 := HX6.out.cell; have hlt6 := HX6.out.lt; have HA6 := Lib.hid (HA5.out.mono hb); have HW6 := Lib.hid (HW5.out.trans (hb.mono HW5.out.size)); clear hb)
                                  | (go_at_call 42; (with_reducible refine (H4.out _ HA6.out.sels).mono ?_); rintro e w7 ⟨rfl, hb⟩; have HX7 := Lib.hid (HX6.out.mono hb); have hx7 := HX7.out.cell; have hlt7 := HX7.out.lt; have HA7 := Lib.hid (HA6.out.mono hb); have HW7 := Lib.hid (HW6.out.trans (hb.mono HW6.out.size)); clear hb)
                                  | (go_at_call 42; (with_reducible refine (H5.out _ HA7.out.aprs).mono ?_); rintro e w8 ⟨rfl, hb⟩; have HX8 := Lib.hid (HX7.out.mono hb); have hx8 := HX8.out.cell; have hlt8 := HX8.out.lt; have HA8 := Lib.hid (HA7.out.mono hb); have HW8 := Lib.hid (HW7.out.trans (hb.mono HW7.out.size)); clear hb)
                                  | (go_at_call 42; (with_reducible refine (H6.out _ HA8.out.spds).mono ?_); rintro e w9 ⟨rfl, hb⟩; have HX9 := Lib.hid (HX8.out.mono hb); have hx9 := HX9.out.cell; have hlt9 := HX9.out.lt; have HA9 := Lib.hid (HA8.out.mono hb); have HW9 := Lib.hid (HW8.out.trans (hb.mono HW8.out.size)); clear hb)
                                  | (go_at_call 43; (with_reducible refine (H8.out _ HA9.out.bers).mono ?_); rintro e w10 ⟨rfl, hb⟩; have HX10 := Lib.hid (HX9.out.mono hb); have hx10 := HX10.out.cell; have hlt10 := HX10.out.lt; have HA10 := Lib.hid (HA9.out.mono hb); have HW10 := Lib.hid (HW9.out.trans (hb.mono HW9.out.size)); clear hb))
                                go_ret
                                exact ⟨rfl, by (first | exact HW12.out | exact HW11.out | exact HW10.out | exact HW9.out | exact HW8.out | exact HW7.out | exact HW6.out | exact HW5.out | exact HW4.out | exact HW3.out | exact HW2.out | exact HW1.out | exact HW.out)⟩
                              · skip
                                (obtain rfl : R = false := HNo.out (by
                                   rintro ⟨a0, a1, a2, aq, a3, a4, a5, a6, a7, a8, a9, aa1, ab, ac⟩
                                   (cases a5)))
                                clear HYes
                                go_wp2_with (first
                                  | (go_at_call 40; (with_reducible refine (Hs.out _).mono ?_); rintro e w9 ⟨rfl, rfl⟩)
                                  | (go_at_call 42; (with_reducible refine (H3.out _ HA5.out.labs).mono ?_); rintro e w6 ⟨rfl, hb⟩; have HX6 := Lib.hid (HX5.out.mono hb); have hx6 := HX6.out.cell; have hlt6 := HX6.out.lt; have HA6 := Lib.hid (HA5.out.mono hb); have HW6 := Lib.hid (HW5.out.trans (hb.mono HW5.out.size)); clear hb)
                                  | (go_at_call 42; (with_reducible refine (H4.out _ HA6.out.sels).mono ?_); rintro e w7 ⟨rfl, hb⟩; have HX7 := Lib.hid (HX6.out.mono hb); have hx7 := HX7.out.cell; have hlt7 := HX7.out.lt; have HA7 := Lib.hid (HA6.out.mono hb); have HW7 := Lib.hid (HW6.out.trans (hb.mono HW6.out.size)); clear hb)
                                  | (go_at_call 42; (with_reducible refine (H5.out _ HA7.out.aprs).mono ?_); rintro e w8 ⟨rfl, hb⟩; have HX8 := Lib.hid (HX7.out.mono hb); have hx8 := HX8.out.cell; have hlt8 := HX8.out.lt; have HA8 := Lib.hid (HA7.out.mono hb); have HW8 := Lib.hid (HW7.out.trans (hb.mono HW7.out.size)); clear hb)
                                  | (go_at_call 42; (with_reducible refine (H6.out _ HA8.out.spds).mono ?_); rintro e w9 ⟨rfl, hb⟩; have HX9 := Lib.hid (HX8.out.mono hb); have hx9 := HX9.out.cell; have hlt9 := HX9.out.lt; have HA9 := Lib.hid (HA8.out.mono hb); have HW9 := Lib.hid (HW8.out.trans (hb.mono HW8.out.size)); clear hb)
                                  | (go_at_call 43; (with_reducible refine (H8.out _ HA9.out.bers).mono ?_); rintro e w10 ⟨rfl, hb⟩; have HX10 := Lib.hid (HX9.out.mono hb); have hx10 := HX10.out.cell; have hlt10 := HX10.out.lt; have HA10 := Lib.hid (HA9.out.mono hb); have HW10 := Lib.hid (HW9.out.trans (hb.mono HW9.out.size)); clear hb))
                                go_ret
                                exact ⟨rfl, by (first | exact HW12.out | exact HW11.out | exact HW10.out | exact HW9.out | exact HW8.out | exact HW7.out | exact HW6.out | exact HW5.out | exact HW4.out | exact HW3.out | exact HW2.out | exact HW1.out | exact HW.out)⟩
                              · skip
                                (obtain rfl : R = false := HNo.out (by
                                   rintro ⟨a0, a1, a2, aq, a3, a4, a5, a6, a7, a8, a9, aa1, ab, ac⟩
                                   (cases a6)))
                                clear HYes
                                go_wp2_with (first
                                  | (go_at_call 40; (with_reducible refine (Hs.out _).mono ?_); rintro e w9 ⟨rfl, rfl⟩)
                                  | (go_at_call 42; (with_reducible refine (H3.out _ HA5.out.labs).mono ?_); rintro e w6 ⟨rfl, hb⟩; have HX6 := Lib.hid (HX5.out.mono hb); have hx6 := HX6.out.cell; have hlt6 := HX6.out.lt; have HA6 := Lib.hid (HA5.out.mono hb); have HW6 := Lib.hid (HW5.out.trans (hb.mono HW5.out.size)); clear hb)
                                  | (go_at_call 42; (with_reducible refine (H4.out _ HA6.out.sels).mono ?_); rintro e w7 ⟨rfl, hb⟩; have HX7 := Lib.hid (HX6.out.mono hb); have hx7 := HX7.out.cell; have hlt7 := HX7.out.lt; have HA7 := Lib.hid (HA6.out.mono hb); have HW7 := Lib.hid (HW6.out.trans (hb.mono HW6.out.size)); clear hb)
                                  | (go_at_call 42; (with_reducible refine (H5.out _ HA7.out.aprs).mono ?_); rintro e w8 ⟨rfl, hb⟩; have HX8 := Lib.hid (HX7.out.mono hb); have hx8 := HX8.out.cell; have hlt8 := HX8.out.lt; have HA8 := Lib.hid (HA7.out.mono hb); have HW8 := Lib.hid (HW7.out.trans (hb.mono HW7.out.size)); clear hb)
                                  | (go_at_call 42; (with_reducible refine (H6.out _ HA8.out.spds).mono ?_); rintro e w9 ⟨rfl, hb⟩; have HX9 := Lib.hid (HX8.out.mono hb); have hx9 := HX9.out.cell; have hlt9 := HX9.out.lt; have HA9 := Lib.hid (HA8.out.mono hb); have HW9 := Lib.hid (HW8.out.trans (hb.mono HW8.out.size)); clear hb)
                                  | (go_at_call 43; (with_reducible refine (H8.out _ HA9.out.bers).mono ?_); rintro e w10 ⟨rfl, hb⟩; have HX10 := Lib.hid (HX9.out.mono hb); have hx10 := HX10.out.cell; have hlt10 := HX10.out.lt; have HA10 := Lib.hid (HA9.out.mono hb); have HW10 := Lib.hid (HW9.out.trans (hb.mono HW9.out.size)); clear hb))
                                go_ret
                                exact ⟨rfl, by (first | exact HW12.out | exact HW11.out | exact HW10.out | exact HW9.out | exact HW8.out | exact HW7.out | exact HW6.out | exact HW5.out | exact HW4.out | exact HW3.out | exact HW2.out | exact HW1.out | exact HW.out)⟩
                              · skip
                                (obtain rfl : R = false := HNo.out (by
                                   rintro ⟨a0, a1, a2, aq, a3, a4, a5, a6, a7, a8, a9, aa1, ab, ac⟩
                                   (cases a8)))
                                clear HYes
                                go_wp2_with (first
                                  | (go_at_call 40; (with_reducible refine (Hs.out _).mono ?_); rintro e w9 ⟨rfl, rfl⟩)
                                  | (go_at_call 42; (with_reducible refine (H3.out _ HA5.out.labs).mono ?_); rintro e w6 ⟨rfl, hb⟩; have HX6 := Lib.hid (HX5.out.mono hb); have hx6 := HX6.out.cell; have hlt6 := HX6.out.lt; have HA6 := Lib.hid (HA5.out.mono hb); have HW6 := Lib.hid (HW5.out.trans (hb.mono HW5.out.size)); clear hb)
                                  | (go_at_call 42; (with_reducible refine (H4.out _ HA6.out.sels).mono ?_); rintro e w7 ⟨rfl, hb⟩; have HX7 := Lib.hid (HX6.out.mono hb); have hx7 := HX7.out.cell; have hlt7 := HX7.out.lt; have HA7 := Lib.hid (HA6.out.mono hb); have HW7 := Lib.hid (HW6.out.trans (hb.mono HW6.out.size)); clear hb)
                                  | (go_at_call 42; (with_reducible refine (H5.out _ HA7.out.aprs).mono ?_); rintro e w8 ⟨rfl, hb⟩; have HX8 := Lib.hid (HX7.out.mono hb); have hx8 := HX8.out.cell; have hlt8 := HX8.out.lt; have HA8 := Lib.hid (HA7.out.mono hb); have HW8 := Lib.hid (HW7.out.trans (hb.mono HW7.out.size)); clear hb)
                                  | (go_at_call 42; (with_reducible refine (H6.out _ HA8.out.spds).mono ?_); rintro e w9 ⟨rfl, hb⟩; have HX9 := Lib.hid (HX8.out.mono hb); have hx9 := HX9.out.cell; have hlt9 := HX9.out.lt; have HA9 := Lib.hid (HA8.out.mono hb); have HW9 := Lib.hid (HW8.out.trans (hb.mono HW8.out.size)); clear hb)
                                  | (go_at_call 43; (with_reducible refine (H8.out _ HA9.out.bers).mono ?_); rintro e w10 ⟨rfl, hb⟩; have HX10 := Lib.hid (HX9.out.mono hb); have hx10 := HX10.out.cell; have hlt10 := HX10.out.lt; have HA10 := Lib.hid (HA9.out.mono hb); have HW10 := Lib.hid (HW9.out.trans (hb.mono HW9.out.size)); clear hb))
                                go_ret
                                exact ⟨rfl, by (first | exact HW12.out | exact HW11.out | exact HW10.out | exact HW9.out | exact HW8.out | exact HW7.out | exact HW6.out | exact HW5.out | exact HW4.out | exact HW3.out | exact HW2.out | exact HW1.out | exact HW.out)⟩
                              · obtain rfl : R = true := HYes.out rfl rfl rfl rfl rfl rfl rfl
                                clear HYes
                                go_wp2_with (first
                                  | (go_at_call 40; (with_reducible refine (Hs.out _).mono ?_); rintro e w9 ⟨rfl, rfl⟩)
                                  | (go_at_call 42; (with_reducible refine (H3.out _ HA5.out.labs).mono ?_); rintro e w6 ⟨rfl, hb⟩; have HX6 := Lib.hid (HX5.out.mono hb); have hx6 := HX6.out.cell; have hlt6 := HX6.out.lt; have HA6 := Lib.hid (HA5.out.mono hb); have HW6 := Lib.hid (HW5.out.trans (hb.mono HW5.out.size)); clear hb)
                                  | (go_at_call 42; (with_reducible refine (H4.out _ HA6.out.sels).mono ?_); rintro e w7 ⟨rfl, hb⟩; have HX7 := Lib.hid (HX6.out.mono hb); have hx7 := HX7.out.cell; have hlt7 := HX7.out.lt; have HA7 := Lib.hid (HA6.out.mono hb); have HW7 := Lib.hid (HW6.out.trans (hb.mono HW6.out.size)); clear hb)
                                  | (go_at_call 42; (with_reducible refine (H5.out _ HA7.out.aprs).mono ?_); rintro e w8 ⟨rfl, hb⟩; have HX8 := Lib.hid (HX7.out.mono hb); have hx8 := HX8.out.cell; have hlt8 := HX8.out.lt; have HA8 := Lib.hid (HA7.out.mono hb); have HW8 := Lib.hid (HW7.out.trans (hb.mono HW7.out.size)); clear hb)
                                  | (go_at_call 42; (with_reducible refine (H6.out _ HA8.out.spds).mono ?_); rintro e w9 ⟨rfl, hb⟩; have HX9 := Lib.hid (HX8.out.mono hb); have hx9 := HX9.out.cell; have hlt9 := HX9.out.lt; have HA9 := Lib.hid (HA8.out.mono hb); have HW9 := Lib.hid (HW8.out.trans (hb.mono HW8.out.size)); clear hb)
                                  | (go_at_call 43; (with_reducible refine (H8.out _ HA9.out.bers).mono ?_); rintro e w10 ⟨rfl, hb⟩; have HX10 := Lib.hid (HX9.out.mono hb); have hx10 := HX10.out.cell; have hlt10 := HX10.out.lt; have HA10 := Lib.hid (HA9.out.mono hb); have HW10 := Lib.hid (HW9.out.trans (hb.mono HW9.out.size)); clear hb))
                                go_ret
                                exact ⟨rfl, by (first | exact HW12.out | exact HW11.out | exact HW10.out | exact HW9.out | exact HW8.out | exact HW7.out | exact HW6.out | exact HW5.out | exact HW4.out | exact HW3.out | exact HW2.out | exact HW1.out | exact HW.out)⟩
                            · have e2 : (sw == 0) = false := by simpa using hs0
                              (obtain rfl : R = false := HNo.out (by
                                 rintro ⟨a0, a1, a2, aq, a3, a4, a5, a6, a7, a8, a9, aa1, ab, ac⟩
                                 (unfold skewB at ab; rw [if_pos rfl, decide_eq_false hs0] at ab; cases ab)))
                              clear HYes
                              go_wp2
                              go_ret
                              exact ⟨rfl, HW5.out⟩
                          · have e3 : ((dn : Int) == 0) = false := by rw [beq_eq_false_iff_ne]; omega
                            have e4 : decide ((0 : Int) < (dn : Int)) = true := decide_eq_true (by omega)
                            have hHs := fun V => rin_any sw 1 100 V
                            cases hz : inB sw 1 100 with
                            | false =>
                              rw [hz] at hHs
                              have Hs := Lib.hid hHs
                              (obtain rfl : R = false := HNo.out (by
                                 rintro ⟨a0, a1, a2, aq, a3, a4, a5, a6, a7, a8, a9, aa1, ab, ac⟩
                                 (unfold skewB at ab; rw [if_neg hd0, hz] at ab; cases ab)))
                              clear HYes hHs hz
                              go_wp2_with (go_at_call 40; (with_reducible refine (Hs.out _).mono ?_); rintro e w9 ⟨rfl, rfl⟩)
                              go_ret
                              exact ⟨rfl, HW5.out⟩
                            | true =>
                              rw [hz] at hHs
                              have Hs := Lib.hid hHs
                              have HZ := Lib.hid hz
                              clear hHs hz
                              rcases six m3 m4 m5 m6 m8 with rfl | ⟨rfl, rfl⟩ | ⟨rfl, rfl, rfl⟩ | ⟨rfl, rfl, rfl, rfl⟩ | ⟨rfl, rfl, rfl, rfl, rfl⟩ | ⟨rfl, rfl, rfl, rfl, rfl⟩
                              · skip
                                (obtain rfl : R = false := HNo.out (by
                                   rintro ⟨a0, a1, a2, aq, a3, a4, a5, a6, a7, a8, a9, aa1, ab, ac⟩
                                   (cases a3)))
                                clear HYes
                                go_wp2_with (first
                                  | (go_at_call 40; (with_reducible refine (Hs.out _).mono ?_); rintro e w9 ⟨rfl, rfl⟩)
                                  | (go_at_call 42; (with_reducible refine (H3.out _ HA5.out.labs).mono ?_); rintro e w6 ⟨rfl, hb⟩; have HX6 := Lib.hid (HX5.out.mono hb); have hx6 := HX6.out.cell; have hlt6 := HX6.out.lt; have HA6 := Lib.hid (HA5.out.mono hb); have HW6 := Lib.hid (HW5.out.trans (hb.mono HW5.out.size)); clear hb)
                                  | (go_at_call 42; (with_reducible refine (H4.out _ HA6.out.sels).mono ?_); rintro e w7 ⟨rfl, hb⟩; have HX7 := Lib.hid (HX6.out.mono hb); have hx7 := HX7.out.cell; have hlt7 := HX7.out.lt; have HA7 := Lib.hid (HA6.out.mono hb); have HW7 := Lib.hid (HW6.out.trans (hb.mono HW6.out.size)); clear hb)
                                  | (go_at_call 42; (with_reducible refine (H5.out _ HA7.out.aprs).mono ?_); rintro e w8 ⟨rfl, hb⟩; have HX8 := Lib.hid (HX7.out.mono hb); have hx8 := HX8.out.cell; have hlt8 := HX8.out.lt; have HA8 := Lib.hid (HA7.out.mono hb); have HW8 := Lib.hid (HW7.out.trans (hb.mono HW7.out.size)); clear hb)
                                  | (go_at_call 42; (with_reducible refine (H6.out _ HA8.out.spds).mono ?_); rintro e w9 ⟨rfl, hb⟩; have HX9 := Lib.hid (HX8.out.mono hb); have hx9 := HX9.out.cell; have hlt9 := HX9.out.lt; have HA9 := Lib.hid (HA8.out.mono hb); have HW9 := Lib.hid (HW8.out.trans (hb.mono HW8.out.size)); clear hb)
                                  | (go_at_call 43; (with_reducible refine (H8.out _ HA9.out.bers).mono ?_); rintro e w10 ⟨rfl, hb⟩; have HX10 := Lib.hid (HX9.out.mono hb); have hx10 := HX10.out.cell; have hlt10 := HX10.out.lt; have HA10 := Lib.hid (HA9.out.mono hb); have HW10 := Lib.hid (HW9.out.trans (hb.mono HW9.out.size)); clear hb))
                                go_ret
                                exact ⟨rfl, by (first | exact HW12.out | exact HW11.out | exact HW10.out | exact HW9.out | exact HW8.out | exact HW7.out | exact HW6.out | exact HW5.out | exact HW4.out | exact HW3.out | exact HW2.out | exact HW1.out | exact HW.out)⟩
                              · skip
                                (obtain rfl : R = false := HNo.out (by
                                   rintro ⟨a0, a1, a2, aq, a3, a4, a5, a6, a7, a8, a9, aa1, ab, ac⟩
                                   (cases a4)))
                                clear HYes
                                go_wp2_with (first
                                  | (go_at_call 40; (with_reducible refine (Hs.out _).mono ?_); rintro e w9 ⟨rfl, rfl⟩)
                                  | (go_at_call 42; (with_reducible refine (H3.out _ HA5.out.labs).mono ?_); rintro e w6 ⟨rfl, hb⟩; have HX6 := Lib.hid (HX5.out.mono hb); have hx6 := HX6.out.cell; have hlt6 := HX6.out.lt; have HA6 := Lib.hid (HA5.out.mono hb); have HW6 := Lib.hid (HW5.out.trans (hb.mono HW5.out.size)); clear hb)
                                  | (go_at_call 42; (with_reducible refine (H4.out _ HA6.out.sels).mono ?_); rintro e w7 ⟨rfl, hb⟩; have HX7 := Lib.hid (HX6.out.mono hb); have hx7 := HX7.out.cell; have hlt7 := HX7.out.lt; have HA7 := Lib.hid (HA6.out.mono hb); have HW7 := Lib.hid (HW6.out.trans (hb.mono HW6.out.size)); clear hb)
                                  | (go_at_call 42; (with_reducible refine (H5.out _ HA7.out.aprs).mono ?_); rintro e w8 ⟨rfl, hb⟩; have HX8 := Lib.hid (HX7.out.mono hb); have hx8 := HX8.out.cell; have hlt8 := HX8.out.lt; have HA8 := Lib.hid (HA7.out.mono hb); have HW8 := Lib.hid (HW7.out.trans (hb.mono HW7.out.size)); clear hb)
                                  | (go_at_call 42; (with_reducible refine (H6.out _ HA8.out.spds).mono ?_); rintro e w9 ⟨rfl, hb⟩; have HX9 := Lib.hid (HX8.out.mono hb); have hx9 := HX9.out.cell; have hlt9 := HX9.out.lt; have HA9 := Lib.hid (HA8.out.mono hb); have HW9 := Lib.hid (HW8.out.trans (hb.mono HW8.out.size)); clear hb)
                                  | (go_at_call 43; (with_reducible refine (H8.out _ HA9.out.bers).mono ?_); rintro e w10 ⟨rfl, hb⟩; have HX10 := Lib.hid (HX9.out.mono hb); have hx10 := HX10.out.cell; have hlt10 := HX10.out.lt; have HA10 := Lib.hid (HA9.out.mono hb); have HW10 := Lib.hid (HW9.out.trans (hb.mono HW9.out.size)); clear hb))
                                go_ret
                                exact ⟨rfl, by (first | exact HW12.out | exact HW11.out | exact HW10.out | exact HW9.out | exact HW8.out | exact HW7.out | exact HW6.out | exact HW5.out | exact HW4.out | exact HW3.out | exact HW2.out | exact HW1.out | exact HW.out)⟩
                              · skip
                                (obtain rfl : R = false := HNo.out (by
                                   rintro ⟨a0, a1, a2, aq, a3, a4, a5, a6, a7, a8, a9, aa1, ab, ac⟩
                                   (cases a5)))
                                clear HYes
                                go_wp2_with (first
                                  | (go_at_call 40; (with_reducible refine (Hs.out _).mono ?_); rintro e w9 ⟨rfl, rfl⟩)
                                  | (go_at_call 42; (with_reducible refine (H3.out _ HA5.out.labs).mono ?_); rintro e w6 ⟨rfl, hb⟩; have HX6 := Lib.hid (HX5.out.mono hb); have hx6 := HX6.out.cell; have hlt6 := HX6.out.lt; have HA6 := Lib.hid (HA5.out.mono hb); have HW6 := Lib.hid (HW5.out.trans (hb.mono HW5.out.size)); clear hb)
                                  | (go_at_call 42; (with_reducible refine (H4.out _ HA6.out.sels).mono ?_); rintro e w7 ⟨rfl, hb⟩; have HX7 := Lib.hid (HX6.out.mono hb); have hx7 := HX7.out.cell; have hlt7 := HX7.out.lt; have HA7 := Lib.hid (HA6.out.mono hb); have HW7 := Lib.hid (HW6.out.trans (hb.mono HW6.out.size)); clear hb)
                                  | (go_at_call 42; (with_reducible refine (H5.out _ HA7.out.aprs).mono ?_); rintro e w8 ⟨rfl, hb⟩; have HX8 := Lib.hid (HX7.out.mono hb); have hx8 := HX8.out.cell; have hlt8 := HX8.out.lt; have HA8 := Lib.hid (HA7.out.mono hb); have HW8 := Lib.hid (HW7.out.trans (hb.mono HW7.out.size)); clear hb)
                                  | (go_at_call 42; (with_reducible refine (H6.out _ HA8.out.spds).mono ?_); rintro e w9 ⟨rfl, hb⟩; have HX9 := Lib.hid (HX8.out.mono hb); have hx9 := HX9.out.cell; have hlt9 := HX9.out.lt; have HA9 := Lib.hid (HA8.out.mono hb); have HW9 := Lib.hid (HW8.out.trans (hb.mono HW8.out.size)); clear hb)
                                  | (go_at_call 43; (with_reducible refine (H8.out _ HA9.out.bers).mono ?_); rintro e w10 ⟨rfl, hb⟩; have HX10 := Lib.hid (HX9.out.mono hb); have hx10 := HX10.out.cell; have hlt10 := HX10.out.lt; have HA10 := Lib.hid (HA9.out.mono hb); have HW10 := Lib.hid (HW9.out.trans (hb.mono HW9.out.size)); clear hb))
                                go_ret
                                exact ⟨rfl, by (first | exact HW12.out | exact HW11.out | exact HW10.out | exact HW9.out | exact HW8.out | exact HW7.out | exact HW6.out | exact HW5.out | exact HW4.out | exact HW3.out | exact HW2.out | exact HW1.out | exact HW.out)⟩
                              · skip
                                (obtain rfl : R = false := HNo.out (by
                                   rintro ⟨a0, a1, a2, aq, a3, a4, a5, a6, a7, a8, a9, aa1, ab, ac⟩
                                   (cases a6)))
                                clear HYes
                                go_wp2_with (first
                                  | (go_at_call 40; (with_reducible refine (Hs.out _).mono ?_); rintro e w9 ⟨rfl, rfl⟩)
                                  | (go_at_call 42; (with_reducible refine (H3.out _ HA5.out.labs).mono ?_); rintro e w6 ⟨rfl, hb⟩; have HX6 := Lib.hid (HX5.out.mono hb); have hx6 := HX6.out.cell; have hlt6 := HX6.out.lt; have HA6 := Lib.hid (HA5.out.mono hb); have HW6 := Lib.hid (HW5.out.trans (hb.mono HW5.out.size)); clear hb)
                                  | (go_at_call 42; (with_reducible refine (H4.out _ HA6.out.sels).mono ?_); rintro e w7 ⟨rfl, hb⟩; have HX7 := Lib.hid (HX6.out.mono hb); have hx7 := HX7.out.cell; have hlt7 := HX7.out.lt; have HA7 := Lib.hid (HA6.out.mono hb); have HW7 := Lib.hid (HW6.out.trans (hb.mono HW6.out.size)); clear hb)
                                  | (go_at_call 42; (with_reducible refine (H5.out _ HA7.out.aprs).mono ?_); rintro e w8 ⟨rfl, hb⟩; have HX8 := Lib.hid (HX7.out.mono hb); have hx8 := HX8.out.cell; have hlt8 := HX8.out.lt; have HA8 := Lib.hid (HA7.out.mono hb); have HW8 := Lib.hid (HW7.out.trans (hb.mono HW7.out.size)); clear hb)
                                  | (go_at_call 42; (with_reducible refine (H6.out _ HA8.out.spds).mono ?_); rintro e w9 ⟨rfl, hb⟩; have HX9 := Lib.hid (HX8.out.mono hb); have hx9 := HX9.out.cell; have hlt9 := HX9.out.lt; have HA9 := Lib.hid (HA8.out.mono hb); have HW9 := Lib.hid (HW8.out.trans (hb.mono HW8.out.size)); clear hb)
                                  | (go_at_call 43; (with_reducible refine (H8.out _ HA9.out.bers).mono ?_); rintro e w10 ⟨rfl, hb⟩; have HX10 := Lib.hid (HX9.out.mono hb); have hx10 := HX10.out.cell; have hlt10 := HX10.out.lt; have HA10 := Lib.hid (HA9.out.mono hb); have HW10 := Lib.hid (HW9.out.trans (hb.mono HW9.out.size)); clear hb))
                                go_ret
                                exact ⟨rfl, by (first | exact HW12.out | exact HW11.out | exact HW10.out | exact HW9.out | exact HW8.out | exact HW7.out | exact HW6.out | exact HW5.out | exact HW4.out | exact HW3.out | exact HW2.out | exact HW1.out | exact HW.out)⟩
                              · skip
                                (obtain rfl : R = false := HNo.out (by
                                   rintro ⟨a0, a1, a2, aq, a3, a4, a5, a6, a7, a8, a9, aa1, ab, ac⟩
                                   (cases a8)))
                                clear HYes
                                go_wp2_with (first
                                  | (go_at_call 40; (with_reducible refine (Hs.out _).mono ?_); rintro e w9 ⟨rfl, rfl⟩)
                                  | (go_at_call 42; (with_reducible refine (H3.out _ HA5.out.labs).mono ?_); rintro e w6 ⟨rfl, hb⟩; have HX6 := Lib.hid (HX5.out.mono hb); have hx6 := HX6.out.cell; have hlt6 := HX6.out.lt; have HA6 := Lib.hid (HA5.out.mono hb); have HW6 := Lib.hid (HW5.out.trans (hb.mono HW5.out.size)); clear hb)
                                  | (go_at_call 42; (with_reducible refine (H4.out _ HA6.out.sels).mono ?_); rintro e w7 ⟨rfl, hb⟩; have HX7 := Lib.hid (HX6.out.mono hb); have hx7 := HX7.out.cell; have hlt7 := HX7.out.lt; have HA7 := Lib.hid (HA6.out.mono hb); have HW7 := Lib.hid (HW6.out.trans (hb.mono HW6.out.size)); clear hb)
                                  | (go_at_call 42; (with_reducible refine (H5.out _ HA7.out.aprs).mono ?_); rintro e w8 ⟨rfl, hb⟩; have HX8 := Lib.hid (HX7.out.mono hb); have hx8 := HX8.out.cell; have hlt8 := HX8.out.lt; have HA8 := Lib.hid (HA7.out.mono hb); have HW8 := Lib.hid (HW7.out.trans (hb.mono HW7.out.size)); clear hb)
                                  | (go_at_call 42; (with_reducible refine (H6.out _ HA8.out.spds).mono ?_); rintro e w9 ⟨rfl, hb⟩; have HX9 := Lib.hid (HX8.out.mono hb); have hx9 := HX9.out.cell; have hlt9 := HX9.out.lt; have HA9 := Lib.hid (HA8.out.mono hb); have HW9 := Lib.hid (HW8.out.trans (hb.mono HW8.out.size)); clear hb)
                                  | (go_at_call 43; (with_reducible refine (H8.out _ HA9.out.bers).mono ?_); rintro e w10 ⟨rfl, hb⟩; have HX10 := Lib.hid (HX9.out.mono hb); have hx10 := HX10.out.cell; have hlt10 := HX10.out.lt; have HA10 := Lib.hid (HA9.out.mono hb); have HW10 := Lib.hid (HW9.out.trans (hb.mono HW9.out.size)); clear hb))
                                go_ret
                                exact ⟨rfl, by (first | exact HW12.out | exact HW11.out | exact HW10.out | exact HW9.out | exact HW8.out | exact HW7.out | exact HW6.out | exact HW5.out | exact HW4.out | exact HW3.out | exact HW2.out | exact HW1.out | exact HW.out)⟩
                              · obtain rfl : R = true := HYes.out rfl rfl rfl rfl rfl rfl (by unfold skewB; rw [if_neg hd0]; exact HZ.out)
                                clear HYes
                                go_wp2_with (first
                                  | (go_at_call 40; (with_reducible refine (Hs.out _).mono ?_); rintro e w9 ⟨rfl, rfl⟩)
                                  | (go_at_call 42; (with_reducible refine (H3.out _ HA5.out.labs).mono ?_); rintro e w6 ⟨rfl, hb⟩; have HX6 := Lib.hid (HX5.out.mono hb); have hx6 := HX6.out.cell; have hlt6 := HX6.out.lt; have HA6 := Lib.hid (HA5.out.mono hb); have HW6 := Lib.hid (HW5.out.trans (hb.mono HW5.out.size)); clear hb)
                                  | (go_at_call 42; (with_reducible refine (H4.out _ HA6.out.sels).mono ?_); rintro e w7 ⟨rfl, hb⟩; have HX7 := Lib.hid (HX6.out.mono hb); have hx7 := HX7.out.cell; have hlt7 := HX7.out.lt; have HA7 := Lib.hid (HA6.out.mono hb); have HW7 := Lib.hid (HW6.out.trans (hb.mono HW6.out.size)); clear hb)
                                  | (go_at_call 42; (with_reducible refine (H5.out _ HA7.out.aprs).mono ?_); rintro e w8 ⟨rfl, hb⟩; have HX8 := Lib.hid (HX7.out.mono hb); have hx8 := HX8.out.cell; have hlt8 := HX8.out.lt; have HA8 := Lib.hid (HA7.out.mono hb); have HW8 := Lib.hid (HW7.out.trans (hb.mono HW7.out.size)); clear hb)
                                  | (go_at_call 42; (with_reducible refine (H6.out _ HA8.out.spds).mono ?_); rintro e w9 ⟨rfl, hb⟩; have HX9 := Lib.hid (HX8.out.mono hb); have hx9 := HX9.out.cell; have hlt9 := HX9.out.lt; have HA9 := Lib.hid (HA8.out.mono hb); have HW9 := Lib.hid (HW8.out.trans (hb.mono HW8.out.size)); clear hb)
                                  | (go_at_call 43; (with_reducible refine (H8.out _ HA9.out.bers).mono ?_); rintro e w10 ⟨rfl, hb⟩; have HX10 := Lib.hid (HX9.out.mono hb); have hx10 := HX10.out.cell; have hlt10 := HX10.out.lt; have HA10 := Lib.hid (HA9.out.mono hb); have HW10 := Lib.hid (HW9.out.trans (hb.mono HW9.out.size)); clear hb))
                                go_ret
                                exact ⟨rfl, by (first | exact HW12.out | exact HW11.out | exact HW10.out | exact HW9.out | exact HW8.out | exact HW7.out | exact HW6.out | exact HW5.out | exact HW4.out | exact HW3.out | exact HW2.out | exact HW1.out | exact HW.out)⟩
                        | true =>
                          by_cases ha0 : an = 0
                          · subst ha0
                            (obtain rfl : R = false := HNo.out (by
                               rintro ⟨a0, a1, a2, aq, a3, a4, a5, a6, a7, a8, a9, aa1, ab, ac⟩
                               (cases aa1)))
                            clear HYes
                            go_wp2
                            go_ret
                            exact ⟨rfl, HW5.out⟩
                          · have e1 : ((an : Int) == 0) = false := by rw [beq_eq_false_iff_ne]; omega
                            by_cases hd0 : dn = 0
                            · subst hd0
                              by_cases hs0 : sw = 0
                              · subst hs0
                                have Hs := Lib.hid (fun V => rin_any 0 1 100 V)
                                rcases six m3 m4 m5 m6 m8 with rfl | ⟨rfl, rfl⟩ | ⟨rfl, rfl, rfl⟩ | ⟨rfl, rfl, rfl, rfl⟩ | ⟨rfl, rfl, rfl, rfl, rfl⟩ | ⟨rfl, rfl, rfl, rfl, rfl⟩
                                · skip
                                  (obtain rfl : R = false := HNo.out (by
                                     rintro ⟨a0, a1, a2, aq, a3, a4, a5, a6, a7, a8, a9, aa1, ab, ac⟩
                                     (cases a3)))
                                  clear HYes
                                  go_wp2_with (first
                                    | (go_at_call 40; (with_reducible refine (Hs.out _).mono ?_); rintro e w9 ⟨rfl, rfl⟩)
                                    | (go_at_call 42; (with_reducible refine (H3.out _ HA5.out.labs).mono ?_); rintro e w6 ⟨rfl, hb⟩; have HX6 := Lib.hid (HX5.out.mono hb); have hx6 := HX6.out.cell; have hlt6 := HX6.out.lt; have HA6 := Lib.hid (HA5.out.mono hb); have HW6 := Lib.hid (HW5.out.trans (hb.mono HW5.out.size)); clear hb)
                                    | (go_at_call 42; (with_reducible refine (H4.out _ HA6.out.sels).mono ?_); rintro e w7 ⟨rfl, hb⟩; have HX7 := Lib.hid (HX6.out.mono hb); have hx7 := HX7.out.cell; have hlt7 := HX7.out.lt; have HA7 := Lib.hid (HA6.out.mono hb); have HW7 := Lib.hid (HW6.out.trans (hb.mono HW6.out.size)); clear hb)
                                    | (go_at_call 42; (with_reducible refine (H5.out _ HA7.out.aprs).mono ?_); rintro e w8 ⟨rfl, hb⟩; have HX8 := Lib.hid (HX7.out.mono hb); have hx8 := HX8.out.cell; have hlt8 := HX8.out.lt; have HA8 := Lib.hid (HA7.out.mono hb); have HW8 := Lib.hid (HW7.out.trans (hb.mono HW7.out.size)); clear hb)
                                    | (go_at_call 42; (with_reducible refine (H6.out _ HA8.out.spds).mono ?_); rintro e w9 ⟨rfl, hb⟩; have HX9 := Lib.hid (HX8.out.mono hb); have hx9 := HX9.out.cell; have hlt9 := HX9.out.lt; have HA9 := Lib.hid (HA8.out.mono hb); have HW9 := Lib.hid (HW8.out.trans (hb.mono HW8.out.size)); clear hb)
                                    | (go_at_call 43; (with_reducible refine (H8.out _ HA9.out.bers).mono ?_); rintro e w10 ⟨rfl, hb⟩; have HX10 := Lib.hid (HX9.out.mono hb); have hx10 := HX10.out.cell; have hlt10 := HX10.out.lt; have HA10 := Lib.hid (HA9.out.mono hb); have HW10 := Lib.hid (HW9.out.trans (hb.mono HW9.out.size)); clear hb))
                                  go_ret
                                  exact ⟨rfl, by (first | exact HW12.out | exact HW11.out | exact HW10.out | exact HW9.out | exact HW8.out | exact HW7.out | exact HW6.out | exact HW5.out | exact HW4.out | exact HW3.out | exact HW2.out | exact HW1.out | exact HW.out)⟩
                                · skip
                                  (obtain rfl : R = false := HNo.out (by
                                     rintro ⟨a0, a1, a2, aq, a3, a4, a5, a6, a7, a8, a9, aa1, ab, ac⟩
                                     (cases a4)))
                                  clear HYes
                                  go_wp2_with (first
                                    | (go_at_call 40; (with_reducible refine (Hs.out _).mono ?_); rintro e w9 ⟨rfl, rfl⟩)
                                    | (go_at_call 42; (with_reducible refine (H3.out _ HA5.out.labs).mono ?_); rintro e w6 ⟨rfl, hb⟩; have HX6 := Lib.hid (HX5.out.mono hb); have hx6 := HX6.out.cell; have hlt6 := HX6.out.lt; have HA6 := Lib.hid (HA5.out.mono hb); have HW6 := Lib.hid (HW5.out.trans (hb.mono HW5.out.size)); clear hb)
                                    | (go_at_call 42; (with_reducible refine (H4.out _ HA6.out.sels).mono ?_); rintro e w7 ⟨rfl, hb⟩; have HX7 := Lib.hid (HX6.out.mono hb); have hx7 := HX7.out.cell; have hlt7 := HX7.out.lt; have HA7 := Lib.hid (HA6.out.mono hb); have HW7 := Lib.hid (HW6.out.trans (hb.mono HW6.out.size)); clear hb)
                                    | (go_at_call 42; (with_reducible refine (H5.out _ HA7.out.aprs).mono ?_); rintro e w8 ⟨rfl, hb⟩; have HX8 := Lib.hid (HX7.out.mono hb); have hx8 := HX8.out.cell; have hlt8 := HX8.out.lt; have HA8 := Lib.hid (HA7.out.mono hb); have HW8 := Lib.hid (HW7.out.trans (hb.mono HW7.out.size)); clear hb)
                                    | (go_at_call 42; (with_reducible refine (H6.out _ HA8.out.spds).mono ?_); rintro e w9 ⟨rfl, hb⟩; have HX9 := Lib.hid (HX8.out.mono hb); have hx9 := HX9.out.cell; have hlt9 := HX9.out.lt; have HA9 := Lib.hid (HA8.out.mono hb); have HW9 := Lib.hid (HW8.out.trans (hb.mono HW8.out.size)); clear hb)
                                    | (go_at_call 43; (with_reducible refine (H8.out _ HA9.out.bers).mono ?_); rintro e w10 ⟨rfl, hb⟩; have HX10 := Lib.hid (HX9.out.mono hb); have hx10 := HX10.out.cell; have hlt10 := HX10.out.lt; have HA10 := Lib.hid (HA9.out.mono hb); have HW10 := Lib.hid (HW9.out.trans (hb.mono HW9.out.size)); clear hb))
                                  go_ret
                                  exact ⟨rfl, by (first | exact HW12.out | exact HW11.out | exact HW10.out | exact HW9.out | exact HW8.out | exact HW7.out | exact HW6.out | exact HW5.out | exact HW4.out | exact HW3.out | exact HW2.out | exact HW1.out | exact HW.out)⟩
                                · skip
                                  (obtain rfl : R = false := HNo.out (by
                                     rintro ⟨a0, a1, a2, aq, a3, a4, a5, a6, a7, a8, a9, aa1, ab, ac⟩
                                     (cases a5)))
                                  clear HYes
                                  go_wp2_with (first
                                    | (go_at_call 40; (with_reducible refine (Hs.out _).mono ?_); rintro e w9 ⟨rfl, rfl⟩)
                                    | (go_at_call 42; (with_reducible refine (H3.out _ HA5.out.labs).mono ?_); rintro e w6 ⟨rfl, hb⟩; have HX6 := Lib.hid (HX5.out.mono hb); have hx6 := HX6.out.cell; have hlt6 := HX6.out.lt; have HA6 := Lib.hid (HA5.out.mono hb); have HW6 := Lib.hid (HW5.out.trans (hb.mono HW5.out.size)); clear hb)
                                    | (go_at_call 42; (with_reducible refine (H4.out _ HA6.out.sels).mono ?_); rintro e w7 ⟨rfl, hb⟩; have HX7 := Lib.hid (HX6.out.mono hb); have hx7 := HX7.out.cell; have hlt7 := HX7.out.lt; have HA7 := Lib.hid (HA6.out.mono hb); have HW7 := Lib.hid (HW6.out.trans (hb.mono HW6.out.size)); clear hb)
                                    | (go_at_call 42; (with_reducible refine (H5.out _ HA7.out.aprs).mono ?_); rintro e w8 ⟨rfl, hb⟩; have HX8 := Lib.hid (HX7.out.mono hb); have hx8 := HX8.out.cell; have hlt8 := HX8.out.lt; have HA8 := Lib.hid (HA7.out.mono hb); have HW8 := Lib.hid (HW7.out.trans (hb.mono HW7.out.size)); clear hb)
                                    | (go_at_call 42; (with_reducible refine (H6.out _ HA8.out.spds).mono ?_); rintro e w9 ⟨rfl, hb⟩; have HX9 := Lib.hid (HX8.out.mono hb); have hx9 := HX9.out.cell; have hlt9 := HX9.out.lt; have HA9 := Lib.hid (HA8.out.mono hb); have HW9 := Lib.hid (HW8.out.trans (hb.mono HW8.out.size)); clear hb)
                                    | (go_at_call 43; (with_reducible refine (H8.out _ HA9.out.bers).mono ?_); rintro e w10 ⟨rfl, hb⟩; have HX10 := Lib.hid (HX9.out.mono hb); have hx10 := HX10.out.cell; have hlt10 := HX10.out.lt; have HA10 := Lib.hid (HA9.out.mono hb); have HW10 := Lib.hid (HW9.out.trans (hb.mono HW9.out.size)); clear hb))
                                  go_ret
                                  exact ⟨rfl, by (first | exact HW12.out | exact HW11.out | exact HW10.out | exact HW9.out | exact HW8.out | exact HW7.out | exact HW6.out | exact HW5.out | exact HW4.out | exact HW3.out | exact HW2.out | exact HW1.out | exact HW.out)⟩
                                · skip
                                  (obtain rfl : R = false := HNo.out (by
                                     rintro ⟨a0, a1, a2, aq, a3, a4, a5, a6, a7, a8, a9, aa1, ab, ac⟩
                                     (cases a6)))
                                  clear HYes
                                  go_wp2_with (first
                                    | (go_at_call 40; (with_reducible refine (Hs.out _).mono ?_); rintro e w9 ⟨rfl, rfl⟩)
                                    | (go_at_call 42; (with_reducible refine (H3.out _ HA5.out.labs).mono ?_); rintro e w6 ⟨rfl, hb⟩; have HX6 := Lib.hid (HX5.out.mono hb); have hx6 := HX6.out.cell; have hlt6 := HX6.out.lt; have HA6 := Lib.hid (HA5.out.mono hb); have HW6 := Lib.hid (HW5.out.trans (hb.mono HW5.out.size)); clear hb)
                                    | (go_at_call 42; (with_reducible refine (H4.out _ HA6.out.sels).mono ?_); rintro e w7 ⟨rfl, hb⟩; have HX7 := Lib.hid (HX6.out.mono hb); have hx7 := HX7.out.cell; have hlt7 := HX7.out.lt; have HA7 := Lib.hid (HA6.out.mono hb); have HW7 := Lib.hid (HW6.out.trans (hb.mono HW6.out.size)); clear hb)
                                    | (go_at_call 42; (with_reducible refine (H5.out _ HA7.out.aprs).mono ?_); rintro e w8 ⟨rfl, hb⟩; have HX8 := Lib.hid (HX7.out.mono hb); have hx8 := HX8.out.cell; have hlt8 := HX8.out.lt; have HA8 := Lib.hid (HA7.out.mono hb); have HW8 := Lib.hid (HW7.out.trans (hb.mono HW7.out.size)); clear hb)
                                    | (go_at_call 42; (with_reducible refine (H6.out _ HA8.out.spds).mono ?_); rintro e w9 ⟨rfl, hb⟩; have HX9 := Lib.hid (HX8.out.mono hb); have hx9 := HX9.out.cell; have hlt9 := HX9.out.lt; have HA9 := Lib.hid (HA8.out.mono hb); have HW9 := Lib.hid (HW8.out.trans (hb.mono HW8.out.size)); clear hb)
                                    | (go_at_call 43; (with_reducible refine (H8.out _ HA9.out.bers).mono ?_); rintro e w10 ⟨rfl, hb⟩; have HX10 := Lib.hid (HX9.out.mono hb); have hx10 := HX10.out.cell; have hlt10 := HX10.out.lt; have HA10 := Lib.hid (HA9.out.mono hb); have HW10 := Lib.hid (HW9.out.trans (hb.mono HW9.out.size)); clear hb))
                                  go_ret
                                  exact ⟨rfl, by (first | exact HW12.out | exact HW11.out | exact HW10.out | exact HW9.out | exact HW8.out | exact HW7.out | exact HW6.out | exact HW5.out | exact HW4.out | exact HW3.out | exact HW2.out | exact HW1.out | exact HW.out)⟩
                                · skip
                                  (obtain rfl : R = false := HNo.out (by
                                     rintro ⟨a0, a1, a2, aq, a3, a4, a5, a6, a7, a8, a9, aa1, ab, ac⟩
                                     (cases a8)))
                                  clear HYes
                                  go_wp2_with (first
                                    | (go_at_call 40; (with_reducible refine (Hs.out _).mono ?_); rintro e w9 ⟨rfl, rfl⟩)
                                    | (go_at_call 42; (with_reducible refine (H3.out _ HA5.out.labs).mono ?_); rintro e w6 ⟨rfl, hb⟩; have HX6 := Lib.hid (HX5.out.mono hb); have hx6 := HX6.out.cell; have hlt6 := HX6.out.lt; have HA6 := Lib.hid (HA5.out.mono hb); have HW6 := Lib.hid (HW5.out.trans (hb.mono HW5.out.size)); clear hb)
                                    | (go_at_call 42; (with_reducible refine (H4.out _ HA6.out.sels).mono ?_); rintro e w7 ⟨rfl, hb⟩; have HX7 := Lib.hid (HX6.out.mono hb); have hx7 := HX7.out.cell; have hlt7 := HX7.out.lt; have HA7 := Lib.hid (HA6.out.mono hb); have HW7 := Lib.hid (HW6.out.trans (hb.mono HW6.out.size)); clear hb)
                                    | (go_at_call 42; (with_reducible refine (H5.out _ HA7.out.aprs).mono ?_); rintro e w8 ⟨rfl, hb⟩; have HX8 := Lib.hid (HX7.out.mono hb); have hx8 := HX8.out.cell; have hlt8 := HX8.out.lt; have HA8 := Lib.hid (HA7.out.mono hb); have HW8 := Lib.hid (HW7.out.trans (hb.mono HW7.out.size)); clear hb)
                                    | (go_at_call 42; (with_reducible refine (H6.out _ HA8.out.spds).mono ?_); rintro e w9 ⟨rfl, hb⟩; have HX9 := Lib.hid (HX8.out.mono hb); have hx9 := HX9.out.cell; have hlt9 := HX9.out.lt; have HA9 := Lib.hid (HA8.out.mono hb); have HW9 := Lib.hid (HW8.out.trans (hb.mono HW8.out.size)); clear hb)
                                    | (go_at_call 43; (with_reducible refine (H8.out _ HA9.out.bers).mono ?_); rintro e w10 ⟨rfl, hb⟩; have HX10 := Lib.hid (HX9.out.mono hb); have hx10 := HX10.out.cell; have hlt10 := HX10.out.lt; have HA10 := Lib.hid (HA9.out.mono hb); have HW10 := Lib.hid (HW9.out.trans (hb.mono HW9.out.size)); clear hb))
                                  go_ret
                                  exact ⟨rfl, by (first | exact HW12.out | exact HW11.out | exact HW10.out | exact HW9.out | exact HW8.out | exact HW7.out | exact HW6.out | exact HW5.out | exact HW4.out | exact HW3.out | exact HW2.out | exact HW1.out | exact HW.out)⟩
                                · obtain rfl : R = true := HYes.out rfl rfl rfl rfl rfl (by simp; omega) rfl
                                  clear HYes
                                  go_wp2_with (first
                                    | (go_at_call 40; (with_reducible refine (Hs.out _).mono ?_); rintro e w9 ⟨rfl, rfl⟩)
                                    | (go_at_call 42; (with_reducible refine (H3.out _ HA5.out.labs).mono ?_); rintro e w6 ⟨rfl, hb⟩; have HX6 := Lib.hid (HX5.out.mono hb); have hx6 := HX6.out.cell; have hlt6 := HX6.out.lt; have HA6 := Lib.hid (HA5.out.mono hb); have HW6 := Lib.hid (HW5.out.trans (hb.mono HW5.out.size)); clear hb)
                                    | (go_at_call 42; (with_reducible refine (H4.out _ HA6.out.sels).mono ?_); rintro e w7 ⟨rfl, hb⟩; have HX7 := Lib.hid (HX6.out.mono hb); have hx7 := HX7.out.cell; have hlt7 := HX7.out.lt; have HA7 := Lib.hid (HA6.out.mono hb); have HW7 := Lib.hid (HW6.out.trans (hb.mono HW6.out.size)); clear hb)
                                    | (go_at_call 42; (with_reducible refine (H5.out _ HA7.out.aprs).mono ?_); rintro e w8 ⟨rfl, hb⟩; have HX8 := Lib.hid (HX7.out.mono hb); have hx8 := HX8.out.cell; have hlt8 := HX8.out.lt; have HA8 := Lib.hid (HA7.out.mono hb); have HW8 := Lib.hid (HW7.out.trans (hb.mono HW7.out.size)); clear hb)
                                    | (go_at_call 42; (with_reducible refine (H6.out _ HA8.out.spds).mono ?_); rintro e w9 ⟨rfl, hb⟩; have HX9 := Lib.hid (HX8.out.mono hb); have hx9 := HX9.out.cell; have hlt9 := HX9.out.lt; have HA9 := Lib.hid (HA8.out.mono hb); have HW9 := Lib.hid (HW8.out.trans (hb.mono HW8.out.size)); clear hb)
                                    | (go_at_call 43; (with_reducible refine (H8.out _ HA9.out.bers).mono ?_); rintro e w10 ⟨rfl, hb⟩; have HX10 := Lib.hid (HX9.out.mono hb); have hx10 := HX10.out.cell; have hlt10 := HX10.out.lt; have HA10 := Lib.hid (HA9.out.mono hb); have HW10 := Lib.hid (HW9.out.trans (hb.mono HW9.out.size)); clear hb))
                                  go_ret
                                  exact ⟨rfl, by (first | exact HW12.out | exact HW11.out | exact HW10.out | exact HW9.out | exact HW8.out | exact HW7.out | exact HW6.out | exact HW5.out | exact HW4.out | exact HW3.out | exact HW2.out | exact HW1.out | exact HW.out)⟩
                              · have e2 : (sw == 0) = false := by simpa using hs0
                                (obtain rfl : R = false := HNo.out (by
                                   rintro ⟨a0, a1, a2, aq, a3, a4, a5, a6, a7, a8, a9, aa1, ab, ac⟩
                                   (unfold skewB at ab; rw [if_pos rfl, decide_eq_false hs0] at ab; cases ab)))
                                clear HYes
                                go_wp2
                                go_ret
                                exact ⟨rfl, HW5.out⟩
                            · have e3 : ((dn : Int) == 0) = false := by rw [beq_eq_false_iff_ne]; omega
                              have e4 : decide ((0 : Int) < (dn : Int)) = true := decide_eq_true (by omega)
                              have hHs := fun V => rin_any sw 1 100 V
                              cases hz : inB sw 1 100 with
                              | false =>
                                rw [hz] at hHs
                                have Hs := Lib.hid hHs
                                (obtain rfl : R = false := HNo.out (by
                                   rintro ⟨a0, a1, a2, aq, a3, a4, a5, a6, a7, a8, a9, aa1, ab, ac⟩
                                   (unfold skewB at ab; rw [if_neg hd0, hz] at ab; cases ab)))
                                clear HYes hHs hz
                                go_wp2_with (go_at_call 40; (with_reducible refine (Hs.out _).mono ?_); rintro e w9 ⟨rfl, rfl⟩)
                                go_ret
                                exact ⟨rfl, HW5.out⟩
                              | true =>
                                rw [hz] at hHs
                                have Hs := Lib.hid hHs
                                have HZ := Lib.hid hz
                                clear hHs hz
                                rcases six m3 m4 m5 m6 m8 with rfl | ⟨rfl, rfl⟩ | ⟨rfl, rfl, rfl⟩ | ⟨rfl, rfl, rfl, rfl⟩ | ⟨rfl, rfl, rfl, rfl, rfl⟩ | ⟨rfl, rfl, rfl, rfl, rfl⟩
                                · skip
                                  (obtain rfl : R = false := HNo.out (by
                                     rintro ⟨a0, a1, a2, aq, a3, a4, a5, a6, a7, a8, a9, aa1, ab, ac⟩
                                     (cases a3)))
                                  clear HYes
                                  go_wp2_with (first
                                    | (go_at_call 40; (with_reducible refine (Hs.out _).mono ?_); rintro e w9 ⟨rfl, rfl⟩)
                                    | (go_at_call 42; (with_reducible refine (H3.out _ HA5.out.labs).mono ?_); rintro e w6 ⟨rfl, hb⟩; have HX6 := Lib.hid (HX5.out.mono hb); have hx6 := HX6.out.cell; have hlt6 := HX6.out.lt; have HA6 := Lib.hid (HA5.out.mono hb); have HW6 := Lib.hid (HW5.out.trans (hb.mono HW5.out.size)); clear hb)
                                    | (go_at_call 42; (with_reducible refine (H4.out _ HA6.out.sels).mono ?_); rintro e w7 ⟨rfl, hb⟩; have HX7 := Lib.hid (HX6.out.mono hb); have hx7 := HX7.out.cell; have hlt7 := HX7.out.lt; have HA7 := Lib.hid (HA6.out.mono hb); have HW7 := Lib.hid (HW6.out.trans (hb.mono HW6.out.size)); clear hb)
                                    | (go_at_call 42; (with_reducible refine (H5.out _ HA7.out.aprs).mono ?_); rintro e w8 ⟨rfl, hb⟩; have HX8 := Lib.hid (HX7.out.mono hb); have hx8 := HX8.out.cell; have hlt8 := HX8.out.lt; have HA8 := Lib.hid (HA7.out.mono hb); have HW8 := Lib.hid (HW7.out.trans (hb.mono HW7.out.size)); clear hb)
                                    | (go_at_call 42; (with_reducible refine (H6.out _ HA8.out.spds).mono ?_); rintro e w9 ⟨rfl, hb⟩; have HX9 := Lib.hid (HX8.out.mono hb); have hx9 := HX9.out.cell; have hlt9 := HX9.out.lt; have HA9 := Lib.hid (HA8.out.mono hb); have HW9 := Lib.hid (HW8.out.trans (hb.mono HW8.out.size)); clear hb)
                                    | (go_at_call 43; (with_reducible refine (H8.out _ HA9.out.bers).mono ?_); rintro e w10 ⟨rfl, hb⟩; have HX10 := Lib.hid (HX9.out.mono hb); have hx10 := HX10.out.cell; have hlt10 := HX10.out.lt; have HA10 := Lib.hid (HA9.out.mono hb); have HW10 := Lib.hid (HW9.out.trans (hb.mono HW9.out.size)); clear hb))
                                  go_ret
                                  exact ⟨rfl, by (first | exact HW12.out | exact HW11.out | exact HW10.out | exact HW9.out | exact HW8.out | exact HW7.out | exact HW6.out | exact HW5.out | exact HW4.out | exact HW3.out | exact HW2.out | exact HW1.out | exact HW.out)⟩
                                · skip
                                  (obtain rfl : R = false := HNo.out (by
                                     rintro ⟨a0, a1, a2, aq, a3, a4, a5, a6, a7, a8, a9, aa1, ab, ac⟩
                                     (cases a4)))
                                  clear HYes
                                  go_wp2_with (first
                                    | (go_at_call 40; (with_reducible refine (Hs.out _).mono ?_); rintro e w9 ⟨rfl, rfl⟩)
                                    | (go_at_call 42; (with_reducible refine (H3.out _ HA5.out.labs).mono ?_); rintro e w6 ⟨rfl, hb⟩; have HX6 := Lib.hid (HX5.out.mono hb); have hx6 := HX6.out.cell; have hlt6 := HX6.out.lt; have HA6 := Lib.hid (HA5.out.mono hb); have HW6 := Lib.hid (HW5.out.trans (hb.mono HW5.out.size)); clear hb)
                                    | (go_at_call 42; (with_reducible refine (H4.out _ HA6.out.sels).mono ?_); rintro e w7 ⟨rfl, hb⟩; have HX7 := Lib.hid (HX6.out.mono hb); have hx7 := HX7.out.cell; have hlt7 := HX7.out.lt; have HA7 := Lib.hid (HA6.out.mono hb); have HW7 := Lib.hid (HW6.out.trans (hb.mono HW6.out.size)); clear hb)
                                    | (go_at_call 42; (with_reducible refine (H5.out _ HA7.out.aprs).mono ?_); rintro e w8 ⟨rfl, hb⟩; have HX8 := Lib.hid (HX7.out.mono hb); have hx8 := HX8.out.cell; have hlt8 := HX8.out.lt; have HA8 := Lib.hid (HA7.out.mono hb); have HW8 := Lib.hid (HW7.out.trans (hb.mono HW7.out.size)); clear hb)
                                    | (go_at_call 42; (with_reducible refine (H6.out _ HA8.out.spds).mono ?_); rintro e w9 ⟨rfl, hb⟩; have HX9 := Lib.hid (HX8.out.mono hb); have hx9 := HX9.out.cell; have hlt9 := HX9.out.lt; have HA9 := Lib.hid (HA8.out.mono hb); have HW9 := Lib.hid (HW8.out.trans (hb.mono HW8.out.size)); clear hb)
                                    | (go_at_call 43; (with_reducible refine (H8.out _ HA9.out.bers).mono ?_); rintro e w10 ⟨rfl, hb⟩; have HX10 := Lib.hid (HX9.out.mono hb); have hx10 := HX10.out.cell; have hlt10 := HX10.out.lt; have HA10 := Lib.hid (HA9.out.mono hb); have HW10 := Lib.hid (HW9.out.trans (hb.mono HW9.out.size)); clear hb))
                                  go_ret
                                  exact ⟨rfl, by (first | exact HW12.out | exact HW11.out | exact HW10.out | exact HW9.out | exact HW8.out | exact HW7.out | exact HW6.out | exact HW5.out | exact HW4.out | exact HW3.out | exact HW2.out | exact HW1.out | exact HW.out)⟩
                                · skip
                                  (obtain rfl : R = false := HNo.out (by
                                     rintro ⟨a0, a1, a2, aq, a3, a4, a5, a6, a7, a8, a9, aa1, ab, ac⟩
                                     (cases a5)))
                                  clear HYes
                                  go_wp2_with (first
                                    | (go_at_call 40; (with_reducible refine (Hs.out _).mono ?_); rintro e w9 ⟨rfl, rfl⟩)
                                    | (go_at_call 42; (with_reducible refine (H3.out _ HA5.out.labs).mono ?_); rintro e w6 ⟨rfl, hb⟩; have HX6 := Lib.hid (HX5.out.mono hb); have hx6 := HX6.out.cell; have hlt6 := HX6.out.lt; have HA6 := Lib.hid (HA5.out.mono hb); have HW6 := Lib.hid (HW5.out.trans (hb.mono HW5.out.size)); clear hb)
                                    | (go_at_call 42; (with_reducible refine (H4.out _ HA6.out.sels).mono ?_); rintro e w7 ⟨rfl, hb⟩; have HX7 := Lib.hid (HX6.out.mono hb); have hx7 := HX7.out.cell; have hlt7 := HX7.out.lt; have HA7 := Lib.hid (HA6.out.mono hb); have HW7 := Lib.hid (HW6.out.trans (hb.mono HW6.out.size)); clear hb)
                                    | (go_at_call 42; (with_reducible refine (H5.out _ HA7.out.aprs).mono ?_); rintro e w8 ⟨rfl, hb⟩; have HX8 := Lib.hid (HX7.out.mono hb); have hx8 := HX8.out.cell; have hlt8 := HX8.out.lt; have HA8 := Lib.hid (HA7.out.mono hb); have HW8 := Lib.hid (HW7.out.trans (hb.mono HW7.out.size)); clear hb)
                                    | (go_at_call 42; (with_reducible refine (H6.out _ HA8.out.spds).mono ?_); rintro e w9 ⟨rfl, hb⟩; have HX9 := Lib.hid (HX8.out.mono hb); have hx9 := HX9.out.cell; have hlt9 := HX9.out.lt; have HA9 := Lib.hid (HA8.out.mono hb); have HW9 := Lib.hid (HW8.out.trans (hb.mono HW8.out.size)); clear hb)
                                    | (go_at_call 43; (with_reducible refine (H8.out _ HA9.out.bers).mono ?_); rintro e w10 ⟨rfl, hb⟩; have HX10 := Lib.hid (HX9.out.mono hb); have hx10 := HX10.out.cell; have hlt10 := HX10.out.lt; have HA10 := Lib.hid (HA9.out.mono hb); have HW10 := Lib.hid (HW9.out.trans (hb.mono HW9.out.size)); clear hb))
                                  go_ret
                                  exact ⟨rfl, by (first | exact HW12.out | exact HW11.out | exact HW10.out | exact HW9.out | exact HW8.out | exact HW7.out | exact HW6.out | exact HW5.out | exact HW4.out | exact HW3.out | exact HW2.out | exact HW1.out | exact HW.out)⟩
                                · skip
                                  (obtain rfl : R = false := HNo.out (by
                                     rintro ⟨a0, a1, a2, aq, a3, a4, a5, a6, a7, a8, a9, aa1, ab, ac⟩
                                     (cases a6)))
                                  clear HYes
                                  go_wp2_with (first
                                    | (go_at_call 40; (with_reducible refine (Hs.out _).mono ?_); rintro e w9 ⟨rfl, rfl⟩)
                                    | (go_at_call 42; (with_reducible refine (H3.out _ HA5.out.labs).mono ?_); rintro e w6 ⟨rfl, hb⟩; have HX6 := Lib.hid (HX5.out.mono hb); have hx6 := HX6.out.cell; have hlt6 := HX6.out.lt; have HA6 := Lib.hid (HA5.out.mono hb); have HW6 := Lib.hid (HW5.out.trans (hb.mono HW5.out.size)); clear hb)
                                    | (go_at_call 42; (with_reducible refine (H4.out _ HA6.out.sels).mono ?_); rintro e w7 ⟨rfl, hb⟩; have HX7 := Lib.hid (HX6.out.mono hb); have hx7 := HX7.out.cell; have hlt7 := HX7.out.lt; have HA7 := Lib.hid (HA6.out.mono hb); have HW7 := Lib.hid (HW6.out.trans (hb.mono HW6.out.size)); clear hb)
                                    | (go_at_call 42; (with_reducible refine (H5.out _ HA7.out.aprs).mono ?_); rintro e w8 ⟨rfl, hb⟩; have HX8 := Lib.hid (HX7.out.mono hb); have hx8 := HX8.out.cell; have hlt8 := HX8.out.lt; have HA8 := Lib.hid (HA7.out.mono hb); have HW8 := Lib.hid (HW7.out.trans (hb.mono HW7.out.size)); clear hb)
                                    | (go_at_call 42; (with_reducible refine (H6.out _ HA8.out.spds).mono ?_); rintro e w9 ⟨rfl, hb⟩; have HX9 := Lib.hid (HX8.out.mono hb); have hx9 := HX9.out.cell; have hlt9 := HX9.out.lt; have HA9 := Lib.hid (HA8.out.mono hb); have HW9 := Lib.hid (HW8.out.trans (hb.mono HW8.out.size)); clear hb)
                                    | (go_at_call 43; (with_reducible refine (H8.out _ HA9.out.bers).mono ?_); rintro e w10 ⟨rfl, hb⟩; have HX10 := Lib.hid (HX9.out.mono hb); have hx10 := HX10.out.cell; have hlt10 := HX10.out.lt; have HA10 := Lib.hid (HA9.out.mono hb); have HW10 := Lib.hid (HW9.out.trans (hb.mono HW9.out.size)); clear hb))
                                  go_ret
                                  exact ⟨rfl, by (first | exact HW12.out | exact HW11.out | exact HW10.out | exact HW9.out | exact HW8.out | exact HW7.out | exact HW6.out | exact HW5.out | exact HW4.out | exact HW3.out | exact HW2.out | exact HW1.out | exact HW.out)⟩
                                · skip
                                  (obtain rfl : R = false := HNo.out (by
                                     rintro ⟨a0, a1, a2, aq, a3, a4, a5, a6, a7, a8, a9, aa1, ab, ac⟩
                                     (cases a8)))
                                  clear HYes
                                  go_wp2_with (first
                                    | (go_at_call 40; (with_reducible refine (Hs.out _).mono ?_); rintro e w9 ⟨rfl, rfl⟩)
                                    | (go_at_call 42; (with_reducible refine (H3.out _ HA5.out.labs).mono ?_); rintro e w6 ⟨rfl, hb⟩; have HX6 := Lib.hid (HX5.out.mono hb); have hx6 := HX6.out.cell; have hlt6 := HX6.out.lt; have HA6 := Lib.hid (HA5.out.mono hb); have HW6 := Lib.hid (HW5.out.trans (hb.mono HW5.out.size)); clear hb)
                                    | (go_at_call 42; (with_reducible refine (H4.out _ HA6.out.sels).mono ?_); rintro e w7 ⟨rfl, hb⟩; have HX7 := Lib.hid (HX6.out.mono hb); have hx7 := HX7.out.cell; have hlt7 := HX7.out.lt; have HA7 := Lib.hid (HA6.out.mono hb); have HW7 := Lib.hid (HW6.out.trans (hb.mono HW6.out.size)); clear hb)
                                    | (go_at_call 42; (with_reducible refine (H5.out _ HA7.out.aprs).mono ?_); rintro e w8 ⟨rfl, hb⟩; have HX8 := Lib.hid (HX7.out.mono hb); have hx8 := HX8.out.cell; have hlt8 := HX8.out.lt; have HA8 := Lib.hid (HA7.out.mono hb); have HW8 := Lib.hid (HW7.out.trans (hb.mono HW7.out.size)); clear hb)
                                    | (go_at_call 42; (with_reducible refine (H6.out _ HA8.out.spds).mono ?_); rintro e w9 ⟨rfl, hb⟩; have HX9 := Lib.hid (HX8.out.mono hb); have hx9 := HX9.out.cell; have hlt9 := HX9.out.lt; have HA9 := Lib.hid (HA8.out.mono hb); have HW9 := Lib.hid (HW8.out.trans (hb.mono HW8.out.size)); clear hb)
                                    | (go_at_call 43; (with_reducible refine (H8.out _ HA9.out.bers).mono ?_); rintro e w10 ⟨rfl, hb⟩; have HX10 := Lib.hid (HX9.out.mono hb); have hx10 := HX10.out.cell; have hlt10 := HX10.out.lt; have HA10 := Lib.hid (HA9.out.mono hb); have HW10 := Lib.hid (HW9.out.trans (hb.mono HW9.out.size)); clear hb))
                                  go_ret
                                  exact ⟨rfl, by (first | exact HW12.out | exact HW11.out | exact HW10.out | exact HW9.out | exact HW8.out | exact HW7.out | exact HW6.out | exact HW5.out | exact HW4.out | exact HW3.out | exact HW2.out | exact HW1.out | exact HW.out)⟩
                                · obtain rfl : R = true := HYes.out rfl rfl rfl rfl rfl (by simp; omega) (by unfold skewB; rw [if_neg hd0]; exact HZ.out)
                                  clear HYes
                                  go_wp2_with (first
                                    | (go_at_call 40; (with_reducible refine (Hs.out _).mono ?_); rintro e w9 ⟨rfl, rfl⟩)
                                    | (go_at_call 42; (with_reducible refine (H3.out _ HA5.out.labs).mono ?_); rintro e w6 ⟨rfl, hb⟩; have HX6 := Lib.hid (HX5.out.mono hb); have hx6 := HX6.out.cell; have hlt6 := HX6.out.lt; have HA6 := Lib.hid (HA5.out.mono hb); have HW6 := Lib.hid (HW5.out.trans (hb.mono HW5.out.size)); clear hb)
                                    | (go_at_call 42; (with_reducible refine (H4.out _ HA6.out.sels).mono ?_); rintro e w7 ⟨rfl, hb⟩; have HX7 := Lib.hid (HX6.out.mono hb); have hx7 := HX7.out.cell; have hlt7 := HX7.out.lt; have HA7 := Lib.hid (HA6.out.mono hb); have HW7 := Lib.hid (HW6.out.trans (hb.mono HW6.out.size)); clear hb)
                                    | (go_at_call 42; (with_reducible refine (H5.out _ HA7.out.aprs).mono ?_); rintro e w8 ⟨rfl, hb⟩; have HX8 := Lib.hid (HX7.out.mono hb); have hx8 := HX8.out.cell; have hlt8 := HX8.out.lt; have HA8 := Lib.hid (HA7.out.mono hb); have HW8 := Lib.hid (HW7.out.trans (hb.mono HW7.out.size)); clear hb)
                                    | (go_at_call 42; (with_reducible refine (H6.out _ HA8.out.spds).mono ?_); rintro e w9 ⟨rfl, hb⟩; have HX9 := Lib.hid (HX8.out.mono hb); have hx9 := HX9.out.cell; have hlt9 := HX9.out.lt; have HA9 := Lib.hid (HA8.out.mono hb); have HW9 := Lib.hid (HW8.out.trans (hb.mono HW8.out.size)); clear hb)
                                    | (go_at_call 43; (with_reducible refine (H8.out _ HA9.out.bers).mono ?_); rintro e w10 ⟨rfl, hb⟩; have HX10 := Lib.hid (HX9.out.mono hb); have hx10 := HX10.out.cell; have hlt10 := HX10.out.lt; have HA10 := Lib.hid (HA9.out.mono hb); have HW10 := Lib.hid (HW9.out.trans (hb.mono HW9.out.size)); clear hb))
                                  go_ret
                                  exact ⟨rfl, by (first | exact HW12.out | exact HW11.out | exact HW10.out | exact HW9.out | exact HW8.out | exact HW7.out | exact HW6.out | exact HW5.out | exact HW4.out | exact HW3.out | exact HW2.out | exact HW1.out | exact HW.out)⟩
              · have k2 : decide ((16 : Int) < (pq : Int)) = true := decide_eq_true (by omega)
                (obtain rfl : R = false := HNo.out (by
                   rintro ⟨a0, a1, a2, aq, a3, a4, a5, a6, a7, a8, a9, aa1, ab, ac⟩
                   (unfold prtsB at a9; rw [HPn.out, decide_eq_false hp16, Bool.and_false] at a9; cases a9)))
                go_enter Tryz.func17, Tryz.ntmps17
                go_upto_region 1 with (fail)
                rw [← hW]
                clear hW
                have hx := HX.out.cell
                have hlt := HX.out.lt
                go_wp2_with (first
                  | (go_at_call 37; (with_reducible refine (H0.out _).mono ?_); rintro e w1 ⟨rfl, hb⟩; have HX1 := Lib.hid (HX.out.mono hb); have hx1 := HX1.out.cell; have hlt1 := HX1.out.lt; have HA1 := Lib.hid (HA.out.mono hb); have HW1 := Lib.hid (HW.out.trans (hb.mono HW.out.size)); clear hb)
                  | (go_at_call 38; (with_reducible refine (H2.out _).mono ?_); rintro e w2 ⟨rfl, hb⟩; have HX2 := Lib.hid (HX1.out.mono hb); have hx2 := HX2.out.cell; have hlt2 := HX2.out.lt; have HA2 := Lib.hid (HA1.out.mono hb); have HW2 := Lib.hid (HW1.out.trans (hb.mono HW1.out.size)); clear hb)
                  | (go_at_call 39; (with_reducible refine (H1.out _).mono ?_); rintro e w3 ⟨rfl, hb⟩; have HX3 := Lib.hid (HX2.out.mono hb); have hx3 := HX3.out.cell; have hlt3 := HX3.out.lt; have HA3 := Lib.hid (HA2.out.mono hb); have HW3 := Lib.hid (HW2.out.trans (hb.mono HW2.out.size)); clear hb)
                  | (go_at_call 40; (with_reducible refine (Hb.out _).mono ?_); rintro e w4 ⟨rfl, hb⟩; have HX4 := Lib.hid (HX3.out.mono hb); have hx4 := HX4.out.cell; have hlt4 := HX4.out.lt; have HA4 := Lib.hid (HA3.out.mono hb); have HW4 := Lib.hid (HW3.out.trans (hb.mono HW3.out.size)); clear hb))
                go_ret
                exact ⟨rfl, by (first | exact HW12.out | exact HW11.out | exact HW10.out | exact HW9.out | exact HW8.out | exact HW7.out | exact HW6.out | exact HW5.out | exact HW4.out | exact HW3.out | exact HW2.out | exact HW1.out | exact HW.out)⟩
            · have k1 : decide ((16 : Int) < (tn : Int)) = true := decide_eq_true (by omega)
              (obtain rfl : R = false := HNo.out (by
                 rintro ⟨a0, a1, a2, aq, a3, a4, a5, a6, a7, a8, a9, aa1, ab, ac⟩
                 (unfold trmsB at a7; rw [HTn.out, decide_eq_false ht16, Bool.and_false] at a7; cases a7)))
              go_enter Tryz.func17, Tryz.ntmps17
              go_upto_region 1 with (fail)
              rw [← hW]
              clear hW
              have hx := HX.out.cell
              have hlt := HX.out.lt
              go_wp2_with (first
                | (go_at_call 37; (with_reducible refine (H0.out _).mono ?_); rintro e w1 ⟨rfl, hb⟩; have HX1 := Lib.hid (HX.out.mono hb); have hx1 := HX1.out.cell; have hlt1 := HX1.out.lt; have HA1 := Lib.hid (HA.out.mono hb); have HW1 := Lib.hid (HW.out.trans (hb.mono HW.out.size)); clear hb)
                | (go_at_call 38; (with_reducible refine (H2.out _).mono ?_); rintro e w2 ⟨rfl, hb⟩; have HX2 := Lib.hid (HX1.out.mono hb); have hx2 := HX2.out.cell; have hlt2 := HX2.out.lt; have HA2 := Lib.hid (HA1.out.mono hb); have HW2 := Lib.hid (HW1.out.trans (hb.mono HW1.out.size)); clear hb)
                | (go_at_call 39; (with_reducible refine (H1.out _).mono ?_); rintro e w3 ⟨rfl, hb⟩; have HX3 := Lib.hid (HX2.out.mono hb); have hx3 := HX3.out.cell; have hlt3 := HX3.out.lt; have HA3 := Lib.hid (HA2.out.mono hb); have HW3 := Lib.hid (HW2.out.trans (hb.mono HW2.out.size)); clear hb)
                | (go_at_call 40; (with_reducible refine (Hb.out _).mono ?_); rintro e w4 ⟨rfl, hb⟩; have HX4 := Lib.hid (HX3.out.mono hb); have hx4 := HX4.out.cell; have hlt4 := HX4.out.lt; have HA4 := Lib.hid (HA3.out.mono hb); have HW4 := Lib.hid (HW3.out.trans (hb.mono HW3.out.size)); clear hb))
              go_ret
              exact ⟨rfl, by (first | exact HW12.out | exact HW11.out | exact HW10.out | exact HW9.out | exact HW8.out | exact HW7.out | exact HW6.out | exact HW5.out | exact HW4.out | exact HW3.out | exact HW2.out | exact HW1.out | exact HW.out)⟩
      · have q3 : (n3 == 1) = false := by simpa using hn3
        (obtain rfl : R = false := HNo.out (by
           rintro ⟨a0, a1, a2, aq, a3, a4, a5, a6, a7, a8, a9, aa1, ab, ac⟩
           contradiction))
        go_enter Tryz.func17, Tryz.ntmps17
        go_upto_region 1 with (fail)
        rw [← hW]
        clear hW
        have hx := HX.out.cell
        have hlt := HX.out.lt
        go_wp2_with (first
          | (go_at_call 37; (with_reducible refine (H0.out _).mono ?_); rintro e w1 ⟨rfl, hb⟩; have HX1 := Lib.hid (HX.out.mono hb); have hx1 := HX1.out.cell; have hlt1 := HX1.out.lt; have HA1 := Lib.hid (HA.out.mono hb); have HW1 := Lib.hid (HW.out.trans (hb.mono HW.out.size)); clear hb)
          | (go_at_call 38; (with_reducible refine (H2.out _).mono ?_); rintro e w2 ⟨rfl, hb⟩; have HX2 := Lib.hid (HX1.out.mono hb); have hx2 := HX2.out.cell; have hlt2 := HX2.out.lt; have HA2 := Lib.hid (HA1.out.mono hb); have HW2 := Lib.hid (HW1.out.trans (hb.mono HW1.out.size)); clear hb)
          | (go_at_call 39; (with_reducible refine (H1.out _).mono ?_); rintro e w3 ⟨rfl, hb⟩; have HX3 := Lib.hid (HX2.out.mono hb); have hx3 := HX3.out.cell; have hlt3 := HX3.out.lt; have HA3 := Lib.hid (HA2.out.mono hb); have HW3 := Lib.hid (HW2.out.trans (hb.mono HW2.out.size)); clear hb)
          | (go_at_call 40; (with_reducible refine (Hb.out _).mono ?_); rintro e w4 ⟨rfl, hb⟩; have HX4 := Lib.hid (HX3.out.mono hb); have hx4 := HX4.out.cell; have hlt4 := HX4.out.lt; have HA4 := Lib.hid (HA3.out.mono hb); have HW4 := Lib.hid (HW3.out.trans (hb.mono HW3.out.size)); clear hb))
        go_ret
        exact ⟨rfl, by (first | exact HW12.out | exact HW11.out | exact HW10.out | exact HW9.out | exact HW8.out | exact HW7.out | exact HW6.out | exact HW5.out | exact HW4.out | exact HW3.out | exact HW2.out | exact HW1.out | exact HW.out)⟩
end Go.Proofs.YtdfadbpepmkicaaGreat
