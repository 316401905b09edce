/-
  Pods: the contract of spec.RightPod.
-/
import Derived.Test.YthbpnfpalcgfeaaPd3
import Derived.BigQuiet
namespace Go.Proofs.Ythbpnfpalcgfeaa
open Go.RowKit
set_option linter.unusedVariables false
set_option linter.unusedSimpArgs false

set_option maxRecDepth 100000 in
set_option maxHeartbeats 8000000 in
theorem srightp_any (p : Pd) (w : World) (hA : PodAt w p) (hL : lightP p = true) :
    Calls Try.prog 81 #[.agg (prow p).toArray] w fun e w' => e = .returned (.bool (rightP p)) ∧ Below w.heap.size w w' := by
  have hLt := lightP_iff hL
  obtain ⟨nm, n0, n1, n2, n3, n4, la, lk, L, sa, sk, S, ta, tk, T, ba, bk, B, pa, pk, P, aa, ak, A, wd, da, dk, D, sw, rk, ow, dm, pn, lc⟩ := p
  obtain ⟨W, hW⟩ : ∃ W, w.alloc (.cells #[.string nm, .int .i64 n0, .int .i64 n1, .int .i64 n2, .int .i64 n3, .int .i64 n4, .slice la L.length lk, .slice sa S.length sk, .slice ta T.length tk, .slice ba B.length bk, .slice pa P.length pk, .slice aa A.length ak, .bool wd, .slice da D.length dk, .int .i64 sw, .int .i64 rk, .string ow, .bool dm, .bool pn, .bool lc] 47) = W := ⟨_, rfl⟩
  have HW := Lib.hid (show Below w.heap.size w W by rw [← hW]; exact (Below.refl _ w).alloc (Nat.le_refl _) _)
  have HA := Lib.hid (hA.mono HW.out)
  have HX := Lib.hid (show Box w.heap.size [.string nm, .int .i64 n0, .int .i64 n1, .int .i64 n2, .int .i64 n3, .int .i64 n4, .slice la L.length lk, .slice sa S.length sk, .slice ta T.length tk, .slice ba B.length bk, .slice pa P.length pk, .slice aa A.length ak, .bool wd, .slice da D.length dk, .int .i64 sw, .int .i64 rk, .string ow, .bool dm, .bool pn, .bool lc] W by rw [← hW]; exact Box.new w [.string nm, .int .i64 n0, .int .i64 n1, .int .i64 n2, .int .i64 n3, .int .i64 n4, .slice la L.length lk, .slice sa S.length sk, .slice ta T.length tk, .slice ba B.length bk, .slice pa P.length pk, .slice aa A.length ak, .bool wd, .slice da D.length dk, .int .i64 sw, .int .i64 rk, .string ow, .bool dm, .bool pn, .bool lc] 47)
  have hv : rightP ⟨nm, n0, n1, n2, n3, n4, la, lk, L, sa, sk, S, ta, tk, T, ba, bk, B, pa, pk, P, aa, ak, A, wd, da, dk, D, sw, rk, ow, dm, pn, lc⟩ = (wordB nm && weB ow && rtB n0 n1 n2 n3 n4 && decide (n3 = 1) && labsB L && labsB S && labsB A && labsB D && trmsB T && rightO B && prtsB P && (!wd || decide (0 < A.length)) && skewB D.length sw && inB rk 0 1000) := rfl
  show Calls Try.prog 81 #[.agg #[.string nm, .int .i64 n0, .int .i64 n1, .int .i64 n2, .int .i64 n3, .int .i64 n4, .slice la L.length lk, .slice sa S.length sk, .slice ta T.length tk, .slice ba B.length bk, .slice pa P.length pk, .slice aa A.length ak, .bool wd, .slice da D.length dk, .int .i64 sw, .int .i64 rk, .string ow, .bool dm, .bool pn, .bool lc]] w _
  rw [hv]
  obtain ⟨m0, hm0⟩ : ∃ b, wordB nm = b := ⟨_, rfl⟩
  obtain ⟨m1, hm1⟩ : ∃ b, weB ow = b := ⟨_, rfl⟩
  obtain ⟨m2, hm2⟩ : ∃ b, rtB n0 n1 n2 n3 n4 = b := ⟨_, rfl⟩
  obtain ⟨m3, hm3⟩ : ∃ b, labsB L = b := ⟨_, rfl⟩
  obtain ⟨m4, hm4⟩ : ∃ b, labsB S = b := ⟨_, rfl⟩
  obtain ⟨m5, hm5⟩ : ∃ b, labsB A = b := ⟨_, rfl⟩
  obtain ⟨m6, hm6⟩ : ∃ b, labsB D = b := ⟨_, rfl⟩
  obtain ⟨m7, hm7⟩ : ∃ b, trmsB T = b := ⟨_, rfl⟩
  obtain ⟨m8, hm8⟩ : ∃ b, rightO B = b := ⟨_, rfl⟩
  obtain ⟨m9, hm9⟩ : ∃ b, prtsB P = b := ⟨_, rfl⟩
  obtain ⟨ma, hma⟩ : ∃ b, skewB D.length sw = b := ⟨_, rfl⟩
  obtain ⟨mb, hmb⟩ : ∃ b, inB rk 0 1000 = b := ⟨_, rfl⟩
  have H0 := Lib.hid (fun V => word_any nm V)
  have H1 := Lib.hid (fun V => swordorempty_any ow V)
  have H2 := Lib.hid (fun V => resright_any n0 n1 n2 n3 n4 V)
  have H3 := Lib.hid (fun V (h : LabL V la L) => lright_any la lk L V h hA.ll fun x hx => (lab_sz hLt.l0 x hx).1)
  have H4 := Lib.hid (fun V (h : LabL V sa S) => lright_any sa sk S V h hA.sl fun x hx => (lab_sz hLt.l1 x hx).1)
  have H5 := Lib.hid (fun V (h : LabL V aa A) => lright_any aa ak A V h hA.al fun x hx => (lab_sz hLt.l2 x hx).1)
  have H6 := Lib.hid (fun V (h : LabL V da D) => lright_any da dk D V h hA.dl fun x hx => (lab_sz hLt.l3 x hx).1)
  have H7 := Lib.hid (fun V (h : Lb.TrmL V ta T) (hq : ∀ t ∈ T, Lb.TrmAt V t) => rterms_any ta tk T V h hq hLt.tt (by have : T.length ≤ 30 := hLt.tl; omega))
  have H8 := Lib.hid (fun V (h : TolsAt V ba B) => rightbears_any ba bk B V h (ber_sz hLt.bl).1)
  have H9 := Lib.hid (fun V (h : PrtL V pa P) => rports_any pa pk P V h (by have : P.length ≤ 30 := hLt.pl; omega))
  have Ha := Lib.hid (show ∀ (n3 : Int) (V : World), Calls Try.prog 111 #[.agg #[.string nm, .int .i64 n0, .int .i64 n1, .int .i64 n2, .int .i64 n3, .int .i64 n4, .slice la L.length lk, .slice sa S.length sk, .slice ta T.length tk, .slice ba B.length bk, .slice pa P.length pk, .slice aa A.length ak, .bool wd, .slice da D.length dk, .int .i64 sw, .int .i64 rk, .string ow, .bool dm, .bool pn, .bool lc]] V fun e w' => e = .returned (.bool (skewB D.length sw)) ∧ Below V.heap.size V w' from fun n3 V => rskew_any ⟨nm, n0, n1, n2, n3, n4, la, lk, L, sa, sk, S, ta, tk, T, ba, bk, B, pa, pk, P, aa, ak, A, wd, da, dk, D, sw, rk, ow, dm, pn, lc⟩ V)
  have Hb := Lib.hid (fun V => within_any rk 0 1000 V)
  rw [hm0] at H0
  rw [hm1] at H1
  rw [hm2] at H2
  rw [hm3] at H3
  rw [hm4] at H4
  rw [hm5] at H5
  rw [hm6] at H6
  rw [hm7] at H7
  rw [hm8] at H8
  rw [hm9] at H9
  rw [hma] at Ha
  rw [hmb] at Hb
  rw [hm0, hm1, hm2, hm3, hm4, hm5, hm6, hm7, hm8, hm9, hma, hmb]
  obtain ⟨R, hR⟩ : ∃ R, (m0 && m1 && m2 && decide (n3 = 1) && m3 && m4 && m5 && m6 && m7 && m8 && m9 && (!wd || decide (0 < A.length)) && ma && mb) = R := ⟨_, rfl⟩
  rw [hR]
  have HR := Lib.hid hR
  clear hv hA hm0 hm1 hm2 hm3 hm4 hm5 hm6 hm7 hm8 hm9 hma hmb hR hL hLt
  have hx := HX.out.cell
  have hlt := HX.out.lt
  have HNo := Lib.hid (show ¬ (m0 = true ∧ m1 = true ∧ m2 = true ∧ n3 = 1 ∧ m3 = true ∧ m4 = true ∧ m5 = true ∧ m6 = true ∧ m7 = true ∧ m8 = true ∧ m9 = true ∧ (!wd || decide (0 < A.length)) = true ∧ ma = true ∧ mb = true) → R = false from fun hn => by
    rw [← HR.out, Bool.eq_false_iff]
    intro hh
    simp only [Bool.and_eq_true, decide_eq_true_eq] at hh
    obtain ⟨⟨⟨⟨⟨⟨⟨⟨⟨⟨⟨⟨⟨b0, b1⟩, b2⟩, b3⟩, b4⟩, b5⟩, b6⟩, b7⟩, b8⟩, b9⟩, ba⟩, bb⟩, bc⟩, bd⟩ := hh
    exact hn ⟨b0, b1, b2, b3, b4, b5, b6, b7, b8, b9, ba, bb, bc, bd⟩)
  have HYes := Lib.hid (show m0 = true → m1 = true → m2 = true → n3 = 1 → m3 = true → m4 = true → m5 = true → m6 = true → m7 = true → m8 = true → m9 = true → (!wd || decide (0 < A.length)) = true → ma = true → R = mb from fun h0 h1 h2 h3 h4 h5 h6 h7 h8 h9 ha hb hc => by
    rw [← HR.out, h0, h1, h2, decide_eq_true h3, h4, h5, h6, h7, h8, h9, ha, hb, hc]
    rfl)
  clear HR
  cases wd with
  | false =>
    skip
    go_enter Try.func81, Try.ntmps81
    go_step
    dsimp only [List.append]
    go_wp2_with (first
      | (go_at_call 107; (with_reducible refine (H0.out _).mono ?_); rintro e w1 ⟨rfl, hb⟩; have HX1 := Lib.hid (HX.out.mono hb); have hx1 := HX1.out.cell; have hlt1 := HX1.out.lt; have HA1 := Lib.hid (HA.out.mono hb); have HW1 := Lib.hid (HW.out.trans (hb.mono HW.out.size)); clear hb)
      | (go_at_call 104; (with_reducible refine (H1.out _).mono ?_); rintro e w2 ⟨rfl, hb⟩; have HX2 := Lib.hid (HX1.out.mono hb); have hx2 := HX2.out.cell; have hlt2 := HX2.out.lt; have HA2 := Lib.hid (HA1.out.mono hb); have HW2 := Lib.hid (HW1.out.trans (hb.mono HW1.out.size)); clear hb)
      | (go_at_call 52; (with_reducible refine (H2.out _).mono ?_); rintro e w3 ⟨rfl, hb⟩; have HX3 := Lib.hid (HX2.out.mono hb); have hx3 := HX3.out.cell; have hlt3 := HX3.out.lt; have HA3 := Lib.hid (HA2.out.mono hb); have HW3 := Lib.hid (HW2.out.trans (hb.mono HW2.out.size)); clear hb)
      | (go_at_call 105; (with_reducible refine (H3.out _ HA3.out.labs).mono ?_); rintro e w4 ⟨rfl, hb⟩; have HX4 := Lib.hid (HX3.out.mono hb); have hx4 := HX4.out.cell; have hlt4 := HX4.out.lt; have HA4 := Lib.hid (HA3.out.mono hb); have HW4 := Lib.hid (HW3.out.trans (hb.mono HW3.out.size)); clear hb)
      | (go_at_call 105; (with_reducible refine (H4.out _ HA4.out.sels).mono ?_); rintro e w5 ⟨rfl, hb⟩; have HX5 := Lib.hid (HX4.out.mono hb); have hx5 := HX5.out.cell; have hlt5 := HX5.out.lt; have HA5 := Lib.hid (HA4.out.mono hb); have HW5 := Lib.hid (HW4.out.trans (hb.mono HW4.out.size)); clear hb)
      | (go_at_call 105; (with_reducible refine (H5.out _ HA5.out.aprs).mono ?_); rintro e w6 ⟨rfl, hb⟩; have HX6 := Lib.hid (HX5.out.mono hb); have hx6 := HX6.out.cell; have hlt6 := HX6.out.lt; have HA6 := Lib.hid (HA5.out.mono hb); have HW6 := Lib.hid (HW5.out.trans (hb.mono HW5.out.size)); clear hb)
      | (go_at_call 105; (with_reducible refine (H6.out _ HA6.out.spds).mono ?_); rintro e w7 ⟨rfl, hb⟩; have HX7 := Lib.hid (HX6.out.mono hb); have hx7 := HX7.out.cell; have hlt7 := HX7.out.lt; have HA7 := Lib.hid (HA6.out.mono hb); have HW7 := Lib.hid (HW6.out.trans (hb.mono HW6.out.size)); clear hb)
      | (go_at_call 108; (with_reducible refine (H7.out _ HA7.out.trms HA7.out.trmA).mono ?_); rintro e w8 ⟨rfl, hb⟩; have HX8 := Lib.hid (HX7.out.mono hb); have hx8 := HX8.out.cell; have hlt8 := HX8.out.lt; have HA8 := Lib.hid (HA7.out.mono hb); have HW8 := Lib.hid (HW7.out.trans (hb.mono HW7.out.size)); clear hb)
      | (go_at_call 109; (with_reducible refine (H8.out _ HA8.out.bers).mono ?_); rintro e w9 ⟨rfl, hb⟩; have HX9 := Lib.hid (HX8.out.mono hb); have hx9 := HX9.out.cell; have hlt9 := HX9.out.lt; have HA9 := Lib.hid (HA8.out.mono hb); have HW9 := Lib.hid (HW8.out.trans (hb.mono HW8.out.size)); clear hb)
      | (go_at_call 110; (with_reducible refine (H9.out _ HA9.out.prts).mono ?_); rintro e w10 ⟨rfl, hb⟩; have HX10 := Lib.hid (HX9.out.mono hb); have hx10 := HX10.out.cell; have hlt10 := HX10.out.lt; have HA10 := Lib.hid (HA9.out.mono hb); have HW10 := Lib.hid (HW9.out.trans (hb.mono HW9.out.size)); clear hb)
      | ((with_reducible refine at_load (ty := 47) ?_); refine load_cells rfl 47 (.tmp 1) rfl w.heap.size 0 rfl _ _ Try.underlying47 rfl (by kernel_rfl) HX10.out.range ?_)
      | (go_at_call 111; (with_reducible refine (Ha.out _ _).mono ?_); rintro e w11 ⟨rfl, hb⟩; have HX11 := Lib.hid (HX10.out.mono hb); have hx11 := HX11.out.cell; have hlt11 := HX11.out.lt; have HA11 := Lib.hid (HA10.out.mono hb); have HW11 := Lib.hid (HW10.out.trans (hb.mono HW10.out.size)); clear hb)
      | (go_at_call 112; (with_reducible refine (Hb.out _).mono ?_); rintro e w12 ⟨rfl, hb⟩; have HX12 := Lib.hid (HX11.out.mono hb); have hx12 := HX12.out.cell; have hlt12 := HX12.out.lt; have HA12 := Lib.hid (HA11.out.mono hb); have HW12 := Lib.hid (HW11.out.trans (hb.mono HW11.out.size)); clear hb))
    all_goals
      first
        | (obtain rfl : R = false := HNo.out (by
             rintro ⟨a0, a1, a2, an, a3, a4, a5, a6, a7, a8, a9, aa1, ab, ac⟩
             clear hx HNo HYes
             first
               | contradiction
               | omega
               | (simp at aa1; omega))
           go_ret
           exact ⟨rfl, by (first | exact HW12.out | exact HW11.out | exact HW10.out | exact HW9.out | exact HW8.out | exact HW7.out | exact HW6.out | exact HW5.out | exact HW4.out | exact HW3.out | exact HW2.out | exact HW1.out | exact HW.out)⟩
           done)
        | (obtain rfl : R = mb := HYes.out (by assumption) (by assumption) (by assumption) (by assumption) (by assumption) (by assumption) (by assumption) (by assumption) (by assumption) (by assumption) (by assumption) (by first | rfl | (simp; done) | (simp; omega)) (by assumption)
           go_ret
           exact ⟨rfl, by (first | exact HW12.out | exact HW11.out | exact HW10.out | exact HW9.out | exact HW8.out | exact HW7.out | exact HW6.out | exact HW5.out | exact HW4.out | exact HW3.out | exact HW2.out | exact HW1.out | exact HW.out)⟩
           done)
  | true =>
    by_cases hA0 : 0 < A.length
    · have k1 : decide ((0 : Int) < (A.length : Int)) = true := decide_eq_true (by omega)
      go_enter Try.func81, Try.ntmps81
      go_step
      dsimp only [List.append]
      go_wp2_with (first
        | (go_at_call 107; (with_reducible refine (H0.out _).mono ?_); rintro e w1 ⟨rfl, hb⟩; have HX1 := Lib.hid (HX.out.mono hb); have hx1 := HX1.out.cell; have hlt1 := HX1.out.lt; have HA1 := Lib.hid (HA.out.mono hb); have HW1 := Lib.hid (HW.out.trans (hb.mono HW.out.size)); clear hb)
        | (go_at_call 104; (with_reducible refine (H1.out _).mono ?_); rintro e w2 ⟨rfl, hb⟩; have HX2 := Lib.hid (HX1.out.mono hb); have hx2 := HX2.out.cell; have hlt2 := HX2.out.lt; have HA2 := Lib.hid (HA1.out.mono hb); have HW2 := Lib.hid (HW1.out.trans (hb.mono HW1.out.size)); clear hb)
        | (go_at_call 52; (with_reducible refine (H2.out _).mono ?_); rintro e w3 ⟨rfl, hb⟩; have HX3 := Lib.hid (HX2.out.mono hb); have hx3 := HX3.out.cell; have hlt3 := HX3.out.lt; have HA3 := Lib.hid (HA2.out.mono hb); have HW3 := Lib.hid (HW2.out.trans (hb.mono HW2.out.size)); clear hb)
        | (go_at_call 105; (with_reducible refine (H3.out _ HA3.out.labs).mono ?_); rintro e w4 ⟨rfl, hb⟩; have HX4 := Lib.hid (HX3.out.mono hb); have hx4 := HX4.out.cell; have hlt4 := HX4.out.lt; have HA4 := Lib.hid (HA3.out.mono hb); have HW4 := Lib.hid (HW3.out.trans (hb.mono HW3.out.size)); clear hb)
        | (go_at_call 105; (with_reducible refine (H4.out _ HA4.out.sels).mono ?_); rintro e w5 ⟨rfl, hb⟩; have HX5 := Lib.hid (HX4.out.mono hb); have hx5 := HX5.out.cell; have hlt5 := HX5.out.lt; have HA5 := Lib.hid (HA4.out.mono hb); have HW5 := Lib.hid (HW4.out.trans (hb.mono HW4.out.size)); clear hb)
        | (go_at_call 105; (with_reducible refine (H5.out _ HA5.out.aprs).mono ?_); rintro e w6 ⟨rfl, hb⟩; have HX6 := Lib.hid (HX5.out.mono hb); have hx6 := HX6.out.cell; have hlt6 := HX6.out.lt; have HA6 := Lib.hid (HA5.out.mono hb); have HW6 := Lib.hid (HW5.out.trans (hb.mono HW5.out.size)); clear hb)
        | (go_at_call 105; (with_reducible refine (H6.out _ HA6.out.spds).mono ?_); rintro e w7 ⟨rfl, hb⟩; have HX7 := Lib.hid (HX6.out.mono hb); have hx7 := HX7.out.cell; have hlt7 := HX7.out.lt; have HA7 := Lib.hid (HA6.out.mono hb); have HW7 := Lib.hid (HW6.out.trans (hb.mono HW6.out.size)); clear hb)
        | (go_at_call 108; (with_reducible refine (H7.out _ HA7.out.trms HA7.out.trmA).mono ?_); rintro e w8 ⟨rfl, hb⟩; have HX8 := Lib.hid (HX7.out.mono hb); have hx8 := HX8.out.cell; have hlt8 := HX8.out.lt; have HA8 := Lib.hid (HA7.out.mono hb); have HW8 := Lib.hid (HW7.out.trans (hb.mono HW7.out.size)); clear hb)
        | (go_at_call 109; (with_reducible refine (H8.out _ HA8.out.bers).mono ?_); rintro e w9 ⟨rfl, hb⟩; have HX9 := Lib.hid (HX8.out.mono hb); have hx9 := HX9.out.cell; have hlt9 := HX9.out.lt; have HA9 := Lib.hid (HA8.out.mono hb); have HW9 := Lib.hid (HW8.out.trans (hb.mono HW8.out.size)); clear hb)
        | (go_at_call 110; (with_reducible refine (H9.out _ HA9.out.prts).mono ?_); rintro e w10 ⟨rfl, hb⟩; have HX10 := Lib.hid (HX9.out.mono hb); have hx10 := HX10.out.cell; have hlt10 := HX10.out.lt; have HA10 := Lib.hid (HA9.out.mono hb); have HW10 := Lib.hid (HW9.out.trans (hb.mono HW9.out.size)); clear hb)
        | ((with_reducible refine at_load (ty := 47) ?_); refine load_cells rfl 47 (.tmp 1) rfl w.heap.size 0 rfl _ _ Try.underlying47 rfl (by kernel_rfl) HX10.out.range ?_)
        | (go_at_call 111; (with_reducible refine (Ha.out _ _).mono ?_); rintro e w11 ⟨rfl, hb⟩; have HX11 := Lib.hid (HX10.out.mono hb); have hx11 := HX11.out.cell; have hlt11 := HX11.out.lt; have HA11 := Lib.hid (HA10.out.mono hb); have HW11 := Lib.hid (HW10.out.trans (hb.mono HW10.out.size)); clear hb)
        | (go_at_call 112; (with_reducible refine (Hb.out _).mono ?_); rintro e w12 ⟨rfl, hb⟩; have HX12 := Lib.hid (HX11.out.mono hb); have hx12 := HX12.out.cell; have hlt12 := HX12.out.lt; have HA12 := Lib.hid (HA11.out.mono hb); have HW12 := Lib.hid (HW11.out.trans (hb.mono HW11.out.size)); clear hb))
      all_goals
        first
          | (obtain rfl : R = false := HNo.out (by
               rintro ⟨a0, a1, a2, an, a3, a4, a5, a6, a7, a8, a9, aa1, ab, ac⟩
               clear hx HNo HYes
               first
                 | contradiction
                 | omega
                 | (simp at aa1; omega))
             go_ret
             exact ⟨rfl, by (first | exact HW12.out | exact HW11.out | exact HW10.out | exact HW9.out | exact HW8.out | exact HW7.out | exact HW6.out | exact HW5.out | exact HW4.out | exact HW3.out | exact HW2.out | exact HW1.out | exact HW.out)⟩
             done)
          | (obtain rfl : R = mb := HYes.out (by assumption) (by assumption) (by assumption) (by assumption) (by assumption) (by assumption) (by assumption) (by assumption) (by assumption) (by assumption) (by assumption) (by first | rfl | (simp; done) | (simp; omega)) (by assumption)
             go_ret
             exact ⟨rfl, by (first | exact HW12.out | exact HW11.out | exact HW10.out | exact HW9.out | exact HW8.out | exact HW7.out | exact HW6.out | exact HW5.out | exact HW4.out | exact HW3.out | exact HW2.out | exact HW1.out | exact HW.out)⟩
             done)
    · have k1 : decide ((0 : Int) < (A.length : Int)) = false := decide_eq_false (by omega)
      go_enter Try.func81, Try.ntmps81
      go_step
      dsimp only [List.append]
      go_wp2_with (first
        | (go_at_call 107; (with_reducible refine (H0.out _).mono ?_); rintro e w1 ⟨rfl, hb⟩; have HX1 := Lib.hid (HX.out.mono hb); have hx1 := HX1.out.cell; have hlt1 := HX1.out.lt; have HA1 := Lib.hid (HA.out.mono hb); have HW1 := Lib.hid (HW.out.trans (hb.mono HW.out.size)); clear hb)
        | (go_at_call 104; (with_reducible refine (H1.out _).mono ?_); rintro e w2 ⟨rfl, hb⟩; have HX2 := Lib.hid (HX1.out.mono hb); have hx2 := HX2.out.cell; have hlt2 := HX2.out.lt; have HA2 := Lib.hid (HA1.out.mono hb); have HW2 := Lib.hid (HW1.out.trans (hb.mono HW1.out.size)); clear hb)
        | (go_at_call 52; (with_reducible refine (H2.out _).mono ?_); rintro e w3 ⟨rfl, hb⟩; have HX3 := Lib.hid (HX2.out.mono hb); have hx3 := HX3.out.cell; have hlt3 := HX3.out.lt; have HA3 := Lib.hid (HA2.out.mono hb); have HW3 := Lib.hid (HW2.out.trans (hb.mono HW2.out.size)); clear hb)
        | (go_at_call 105; (with_reducible refine (H3.out _ HA3.out.labs).mono ?_); rintro e w4 ⟨rfl, hb⟩; have HX4 := Lib.hid (HX3.out.mono hb); have hx4 := HX4.out.cell; have hlt4 := HX4.out.lt; have HA4 := Lib.hid (HA3.out.mono hb); have HW4 := Lib.hid (HW3.out.trans (hb.mono HW3.out.size)); clear hb)
        | (go_at_call 105; (with_reducible refine (H4.out _ HA4.out.sels).mono ?_); rintro e w5 ⟨rfl, hb⟩; have HX5 := Lib.hid (HX4.out.mono hb); have hx5 := HX5.out.cell; have hlt5 := HX5.out.lt; have HA5 := Lib.hid (HA4.out.mono hb); have HW5 := Lib.hid (HW4.out.trans (hb.mono HW4.out.size)); clear hb)
        | (go_at_call 105; (with_reducible refine (H5.out _ HA5.out.aprs).mono ?_); rintro e w6 ⟨rfl, hb⟩; have HX6 := Lib.hid (HX5.out.mono hb); have hx6 := HX6.out.cell; have hlt6 := HX6.out.lt; have HA6 := Lib.hid (HA5.out.mono hb); have HW6 := Lib.hid (HW5.out.trans (hb.mono HW5.out.size)); clear hb)
        | (go_at_call 105; (with_reducible refine (H6.out _ HA6.out.spds).mono ?_); rintro e w7 ⟨rfl, hb⟩; have HX7 := Lib.hid (HX6.out.mono hb); have hx7 := HX7.out.cell; have hlt7 := HX7.out.lt; have HA7 := Lib.hid (HA6.out.mono hb); have HW7 := Lib.hid (HW6.out.trans (hb.mono HW6.out.size)); clear hb)
        | (go_at_call 108; (with_reducible refine (H7.out _ HA7.out.trms HA7.out.trmA).mono ?_); rintro e w8 ⟨rfl, hb⟩; have HX8 := Lib.hid (HX7.out.mono hb); have hx8 := HX8.out.cell; have hlt8 := HX8.out.lt; have HA8 := Lib.hid (HA7.out.mono hb); have HW8 := Lib.hid (HW7.out.trans (hb.mono HW7.out.size)); clear hb)
        | (go_at_call 109; (with_reducible refine (H8.out _ HA8.out.bers).mono ?_); rintro e w9 ⟨rfl, hb⟩; have HX9 := Lib.hid (HX8.out.mono hb); have hx9 := HX9.out.cell; have hlt9 := HX9.out.lt; have HA9 := Lib.hid (HA8.out.mono hb); have HW9 := Lib.hid (HW8.out.trans (hb.mono HW8.out.size)); clear hb)
        | (go_at_call 110; (with_reducible refine (H9.out _ HA9.out.prts).mono ?_); rintro e w10 ⟨rfl, hb⟩; have HX10 := Lib.hid (HX9.out.mono hb); have hx10 := HX10.out.cell; have hlt10 := HX10.out.lt; have HA10 := Lib.hid (HA9.out.mono hb); have HW10 := Lib.hid (HW9.out.trans (hb.mono HW9.out.size)); clear hb)
        | ((with_reducible refine at_load (ty := 47) ?_); refine load_cells rfl 47 (.tmp 1) rfl w.heap.size 0 rfl _ _ Try.underlying47 rfl (by kernel_rfl) HX10.out.range ?_)
        | (go_at_call 111; (with_reducible refine (Ha.out _ _).mono ?_); rintro e w11 ⟨rfl, hb⟩; have HX11 := Lib.hid (HX10.out.mono hb); have hx11 := HX11.out.cell; have hlt11 := HX11.out.lt; have HA11 := Lib.hid (HA10.out.mono hb); have HW11 := Lib.hid (HW10.out.trans (hb.mono HW10.out.size)); clear hb)
        | (go_at_call 112; (with_reducible refine (Hb.out _).mono ?_); rintro e w12 ⟨rfl, hb⟩; have HX12 := Lib.hid (HX11.out.mono hb); have hx12 := HX12.out.cell; have hlt12 := HX12.out.lt; have HA12 := Lib.hid (HA11.out.mono hb); have HW12 := Lib.hid (HW11.out.trans (hb.mono HW11.out.size)); clear hb))
      all_goals
        first
          | (obtain rfl : R = false := HNo.out (by
               rintro ⟨a0, a1, a2, an, a3, a4, a5, a6, a7, a8, a9, aa1, ab, ac⟩
               clear hx HNo HYes
               first
                 | contradiction
                 | omega
                 | (simp at aa1; omega))
             go_ret
             exact ⟨rfl, by (first | exact HW12.out | exact HW11.out | exact HW10.out | exact HW9.out | exact HW8.out | exact HW7.out | exact HW6.out | exact HW5.out | exact HW4.out | exact HW3.out | exact HW2.out | exact HW1.out | exact HW.out)⟩
             done)
          | (obtain rfl : R = mb := HYes.out (by assumption) (by assumption) (by assumption) (by assumption) (by assumption) (by assumption) (by assumption) (by assumption) (by assumption) (by assumption) (by assumption) (by first | rfl | (simp; done) | (simp; omega)) (by assumption)
             go_ret
             exact ⟨rfl, by (first | exact HW12.out | exact HW11.out | exact HW10.out | exact HW9.out | exact HW8.out | exact HW7.out | exact HW6.out | exact HW5.out | exact HW4.out | exact HW3.out | exact HW2.out | exact HW1.out | exact HW.out)⟩
             done)
end Go.Proofs.Ythbpnfpalcgfeaa
