/-
  LedgerGrows: sums and peaks never fall; a peak is no less than a mean.
-/
import Derived.Test.YtaipiflbigpniaaLdTT
import Derived.Test.YtaipiflbigpniaaLdG0
import Derived.Test.YtaipiflbigpniaaLdFp
import Derived.Test.YtaipiflbigpniaaLdO2
import Derived.Test.YtaipiflbigpniaaFrame
namespace Go.Proofs.Ytaipiflbigpniaa
open Go.ChangeShapes Go.WideShapes Go.ChangeAt Go.RowKit
set_option linter.unusedVariables false
set_option linter.unusedSimpArgs false
namespace ledgerGrows

theorem lit_all {xs : List Sl} (h : litS xs = true) : xs.length ≤ 30 ∧ ∀ x ∈ xs, x.L.length ≤ 60 ∧ ∀ y ∈ x.L, y.gp.size ≤ maxLen := by
  unfold litS at h
  rw [Bool.and_eq_true, decide_eq_true_eq, List.all_eq_true] at h
  refine ⟨h.1, fun x hx => ?_⟩
  have h5 := h.2 x hx
  unfold litR at h5
  rw [Bool.and_eq_true, decide_eq_true_eq, List.all_eq_true] at h5
  refine ⟨h5.1, fun y hy => ?_⟩
  have h6 := h5.2 y hy
  unfold litI at h6
  rw [Bool.and_eq_true, decide_eq_true_eq, decide_eq_true_eq] at h6
  unfold maxLen
  omega
theorem lt_no {p r : Nat} (h : geB p r = true) : (FloatKind.f64.format.order p r == some .lt) = false := by
  unfold geB at h
  cases e : FloatKind.f64.format.order p r with
  | none => rw [e] at h; cases h
  | some c => cases c <;> rw [e] at h <;> first | (cases h; done) | rfl

set_option maxRecDepth 100000 in
set_option maxHeartbeats 16000000 in
theorem walk (a : Option Addr) (l : List Gp) (ka : Nat) (c : Option Addr) (xs : List Sl) (kc : Nat) (w : World) (hF : GpL w a l) (hl : l.length ≤ maxLen) (hI : ∀ g ∈ l, MacIn w g.like) (hS : SlL w c xs) (hX : ∀ x ∈ xs, InsL w x.c x.L ∧ x.L.length ≤ maxLen) (hm : xs.length ≤ maxLen) :
    Calls Try.prog 4 #[.slice a l.length ka, .slice c xs.length kc] w fun e w' => e = .returned (.bool true) ∧ Below w.heap.size w w' := by
  have HX := Lib.hid (Below.refl w.heap.size w)
  have HK := Lib.hid (fun V (hV : Below w.heap.size w V) => known_any V)
  have HL := Lib.hid (fun V (hV : Below w.heap.size w V) => lightgs_any a l ka V (hF.mono hV) hl (fun g hg => (hI g hg).mono hV))
  cases h1 : lightGs l
  · rw [h1] at HL
    clear hF hI hS hX h1
    go_enter Try.func4, Try.ntmps4
    go_wp2_with (first
      | (go_at_call 7; ((with_reducible refine (HL.out _ HX.out).mono ?_); rintro e w1 ⟨rfl, hb1⟩; have HX1 := Lib.hid ((HX).out.trans (Below.mono hb1 (HX).out.size))))
      | (go_at_call 9; ((with_reducible refine (HK.out _ HX1.out).mono ?_); rintro e w2 ⟨rfl, hb2⟩; have HX2 := Lib.hid ((HX1).out.trans (Below.mono hb2 (HX1).out.size)))))
    go_ret
    exact ⟨rfl, HX2.out⟩
  · rw [h1] at HL
    have HR := Lib.hid (fun V (hV : Below w.heap.size w V) => refrightgs_any a l ka V (hF.mono hV) (fun g hg => (hI g hg).mono hV) h1)
    cases h2 : rightGs l
    · rw [h2] at HR
      clear hF hI hS hX
      go_enter Try.func4, Try.ntmps4
      go_wp2_with (first
        | (go_at_call 7; ((with_reducible refine (HL.out _ HX.out).mono ?_); rintro e w1 ⟨rfl, hb1⟩; have HX1 := Lib.hid ((HX).out.trans (Below.mono hb1 (HX).out.size))))
        | (go_at_call 24; ((with_reducible refine (HR.out _ HX1.out).mono ?_); rintro e w2 ⟨rfl, hb2⟩; have HX2 := Lib.hid ((HX1).out.trans (Below.mono hb2 (HX1).out.size))))
        | (go_at_call 9; ((with_reducible refine (HK.out _ HX2.out).mono ?_); rintro e w3 ⟨rfl, hb3⟩; have HX3 := Lib.hid ((HX2).out.trans (Below.mono hb3 (HX2).out.size)))))
      go_ret
      exact ⟨rfl, HX3.out⟩
    · rw [h2] at HR
      have HLL := Lib.hid (fun V (hV : Below w.heap.size w V) => llight_any c kc xs V (hS.mono hV) (fun y hy => ⟨(hX y hy).1.mono hV, (hX y hy).2⟩) hm)
      cases h3 : litS xs
      · rw [h3] at HLL
        clear hF hI hS hX
        go_enter Try.func4, Try.ntmps4
        go_wp2_with (first
          | (go_at_call 7; ((with_reducible refine (HL.out _ HX.out).mono ?_); rintro e w1 ⟨rfl, hb1⟩; have HX1 := Lib.hid ((HX).out.trans (Below.mono hb1 (HX).out.size))))
          | (go_at_call 24; ((with_reducible refine (HR.out _ HX1.out).mono ?_); rintro e w2 ⟨rfl, hb2⟩; have HX2 := Lib.hid ((HX1).out.trans (Below.mono hb2 (HX1).out.size))))
          | (go_at_call 8; (with_reducible refine (HLL.out _ HX2.out).mono ?_); rintro e w3 ⟨rfl, rfl⟩)
          | (go_at_call 9; ((with_reducible refine (HK.out _ HX2.out).mono ?_); rintro e w4 ⟨rfl, hb4⟩; have HX4 := Lib.hid ((HX2).out.trans (Below.mono hb4 (HX2).out.size)))))
        go_ret
        exact ⟨rfl, HX4.out⟩
      · rw [h3] at HLL
        obtain ⟨hl20, hlg⟩ := (lightGs_iff l).1 h1
        obtain ⟨hx30, hx60⟩ := lit_all h3
        have hGI : GI l (l.map acN) 0 := GI.start (fun g hg => by have := hlg g hg; omega) (pr_of_right h2)
        have HGI := Lib.hid hGI
        have HN := Lib.hid (fun V (hV : Below w.heap.size w V) => lnew_yes a l ka V (hF.mono hV) (fun g hg => (hI g hg).mono hV) h1 h2 (by omega))
        have HFg := Lib.hid hF
        have HS := Lib.hid hS
        have HXs := Lib.hid hX
        have H60 := Lib.hid hx60
        obtain ⟨n, hn⟩ : ∃ n, xs.length = n := ⟨_, rfl⟩
        have Hn := Lib.hid hn
        obtain ⟨gn, hgn⟩ : ∃ n, l.length = n := ⟨_, rfl⟩
        have Hgn := Lib.hid hgn
        rw [hgn] at hl20 hl HL HR HN ⊢
        rw [hn] at hx30 hm HLL ⊢
        clear hF hI hS hX h3 hx60 hn hgn hGI hlg
        go_enter Try.func4, Try.ntmps4
        go_wp2_with (first
          | (go_at_call 7; ((with_reducible refine (HL.out _ HX.out).mono ?_); rintro e w1 ⟨rfl, hb1⟩; have HX1 := Lib.hid ((HX).out.trans (Below.mono hb1 (HX).out.size))))
          | (go_at_call 24; ((with_reducible refine (HR.out _ HX1.out).mono ?_); rintro e w2 ⟨rfl, hb2⟩; have HX2 := Lib.hid ((HX1).out.trans (Below.mono hb2 (HX1).out.size))))
          | (go_at_call 8; (with_reducible refine (HLL.out _ HX2.out).mono ?_); rintro e w3 ⟨rfl, rfl⟩)
          | (go_at_call 10; (with_reducible refine (HN.out _ HX2.out).mono ?_); rintro e w4 ⟨b, v, rfl, hT4, hb4⟩; have HT4 := Lib.hid (show TT w w4 b (l.map acN) v 0 from ⟨⟨hT4.row, own_base3 hT4.own HX2.out.size, hT4.ne, Nat.le_trans HX2.out.size hT4.hb⟩, HX2.out.trans (hb4.mono HX2.out.size)⟩); clear hT4 hb4))
        clear HN HX1 HX2 HL HR HLL
        go_loopw [7] (fun i wr => ∃ (k : Nat) (A : List Ac), k ≤ n ∧ i = .int .i64 k ∧ GI l A k ∧ TT w wr b A v k) (fun i _ => n - (intOf i).toNat)
        case atStart => exact ⟨0, _, Nat.zero_le _, rfl, HGI.out, HT4.out⟩
        case round =>
          obtain ⟨k, A, hk, rfl, hG, hT⟩ := hrel
          have HG := Lib.hid hG
          have HT := Lib.hid hT
          clear hG hT HGI HT4
          by_cases hlt : k < n
          · obtain ⟨x, hx⟩ := mem_at (l := xs) (k := k) (by rw [Hn.out]; exact hlt)
            have hxm := List.mem_of_getElem? hx
            obtain ⟨hx60, hxg⟩ := H60.out x hxm
            obtain ⟨sb, so, rfl, hsb, hsc⟩ := HS.out (by rw [Hn.out]; omega)
            have s0 : w.cell? ⟨sb, so + k, none⟩ = some (.slice x.c x.L.length x.k) := by have h := hsc k x hx 0 (by decide); rw [Nat.mul_one, Nat.add_zero] at h; exact h
            have HS0 := Lib.hid (fun V (hV : Below w.heap.size w V) => show V.cell? ⟨sb, so + k, none⟩ = some (.slice x.c x.L.length x.k) from by rw [hV.cell (p := ⟨sb, _, none⟩) hsb]; exact s0)
            have hAl : A.length = gn := by rw [HG.out.len, Hgn.out]
            have HAl := Lib.hid hAl
            have HAd := Lib.hid (fun V (h : TT w V b A v k) => h.add x.c x.k x.L (HXs.out x hxm).1 hx60 hxg (by rw [hAl]; exact hl20) (by omega) (by omega) (fun y hy => (HG.out.num (by omega) hy).2))
            have HCp := Lib.hid (HT.out.copy (by rw [hAl]; exact hl20))
            have HG2 := Lib.hid (HG.out.add hx60)
            obtain ⟨xl, hxl⟩ : ∃ xl, x.L.length = xl := ⟨_, rfl⟩
            have Hxl := Lib.hid hxl
            rw [hxl] at hx60 HS0 HAd
            obtain ⟨xc, hxc⟩ : ∃ xc, x.c = xc := ⟨_, rfl⟩
            obtain ⟨xk, hxk⟩ : ∃ xk, x.k = xk := ⟨_, rfl⟩
            rw [hxc, hxk] at HS0 HAd
            clear hx hxm hsc s0 hAl hxl hxc hxk hxg
            have zs := HS0.out _ HT.out.bl
            have zl : sb < wr.heap.size := Nat.lt_of_lt_of_le hsb HT.out.bl.size
            go_wp2_with (go_at_call 14; (with_reducible refine HCp.out.mono ?_); rintro e w6 ⟨b2, v2, rfl, hC6⟩; have HC6 := Lib.hid hC6; have zs6 := HS0.out _ hC6.t1.bl; have zl6 : sb < w6.heap.size := Nat.lt_of_lt_of_le hsb hC6.t1.bl.size; clear hC6)
            obtain ⟨A', hA'⟩ : ∃ A', A' = A.map (addA x.L) := ⟨_, rfl⟩
            have HA' := Lib.hid hA'
            rw [← hA'] at HAd HG2
            clear hA' HCp zs
            go_wp2_with (go_at_call 12; (with_reducible refine (HAd.out _ HC6.out.t1).mono ?_); rintro e w7 ⟨rfl, hT7, hO7⟩; have HC7 := Lib.hid (HC6.out.only hT7 hO7); clear hT7 hO7)
            go_loopw [9] (fun vj wr => ∃ j : Nat, j ≤ gn ∧ vj = .int .i64 j ∧ TC w wr b A' v ((k : Int) + 1) b2 A v2 k) (fun vj _ => gn - (intOf vj).toNat)
            case atStart => exact ⟨0, Nat.zero_le _, rfl, HC7.out⟩
            case round =>
              clear HC7 HC6 HAd zs6 zl6 zl
              obtain ⟨j, hj, rfl, hC⟩ := hrel
              have HC := Lib.hid hC
              have zs := HS0.out _ hC.t1.bl
              have zl : sb < wr.heap.size := Nat.lt_of_lt_of_le hsb hC.t1.bl.size
              clear hC
              have hlA : A.length ≤ 1000 := by rw [HAl.out]; omega
              have hlA' : A'.length ≤ 1000 := by rw [HA'.out, List.length_map]; exact hlA
              have hoA : ∀ y ∈ A, okA y := fun y hy => (HG.out.num (by omega) hy).1
              have hoA' : ∀ y ∈ A', okA y := fun y hy => (HG2.out.num (by omega) hy).1
              by_cases hlt2 : j < gn
              · obtain ⟨g0, hg0⟩ := mem_at (l := l) (k := j) (by rw [Hgn.out]; exact hlt2)
                obtain ⟨gb, off, e1, hgb, hgc⟩ := HFg.out (by rw [Hgn.out]; omega)
                subst e1
                have hgw : gb < wr.heap.size := Nat.lt_of_lt_of_le hgb HC.out.t1.bl.size
                have d0 := (grow_cells (hgc j g0 hg0)).1
                obtain ⟨hcB, hfB⟩ := bcell HC.out.t1.bl
                have d1 : wr.cell? ⟨gb, off + j * 15, none⟩ = some (.string g0.nm) := by rw [hcB _ _ hgb]; exact d0
                obtain ⟨y, hyA, hf1, hf2⟩ := find_map x.L A g0.nm (HG.out.find ⟨g0, List.mem_of_getElem? hg0, rfl⟩)
                rw [← HA'.out] at hf2
                obtain ⟨_, _, _, s, pp, hs, hpp, hp60, hsp⟩ := HG.out.ok y hyA
                have hyA' : addA x.L y ∈ A' := by rw [HA'.out]; exact List.mem_map.2 ⟨y, hyA, rfl⟩
                have hcg := cost_grows (hoA y hyA) (hoA' _ hyA')
                have hcc := cnt_le x.L y.nm
                rw [Hxl.out] at hcc
                have hsu : (addA x.L y).su = ((s + cntI x.L y.nm : Nat) : Int) := by show y.su + (cntI x.L y.nm : Int) = _; rw [hs]; omega
                have hpk : (addA x.L y).pk = ((max pp (cntI x.L y.nm) : Nat) : Int) := by show max y.pk (cntI x.L y.nm : Int) = _; rw [hpp]; omega
                have hmx : s + cntI x.L y.nm ≤ (k + 1) * max pp (cntI x.L y.nm) := by
                  have h6 : k * pp ≤ k * max pp (cntI x.L y.nm) := Nat.mul_le_mul_left _ (Nat.le_max_left _ _)
                  rw [Nat.succ_mul]
                  omega
                obtain ⟨r, hr1, hr2, hr3⟩ := mean_le (s := s + cntI x.L y.nm) (m := k + 1) (p := max pp (cntI x.L y.nm)) (by omega) (by omega) (by omega) hmx
                have j3 := lt_no hr2
                obtain ⟨nm, hnm⟩ : ∃ s, g0.nm = s := ⟨_, rfl⟩
                rw [hnm] at d1 hf1 hf2
                obtain ⟨pa, hpa⟩ : ∃ z : Int, ((max pp (cntI x.L y.nm) : Nat) : Int) = z := ⟨_, rfl⟩
                obtain ⟨pb, hpb⟩ : ∃ z : Int, (pp : Int) = z := ⟨_, rfl⟩
                obtain ⟨za, hza⟩ : ∃ z, costA (addA x.L y) = z := ⟨_, rfl⟩
                obtain ⟨zb, hzb⟩ : ∃ z, costA y = z := ⟨_, rfl⟩
                have F1 := Lib.hid (fun V (h : TC w V b A' v ((k : Int) + 1) b2 A v2 k) => show Calls Try.prog 17 #[.pointer (some ⟨b, 0, none⟩), .string nm] V (fun e w' => e = .returned (.int .i64 pa) ∧ Below V.heap.size V w') from by (have h9 := lpeak_any _ b _ v _ nm V h.t1.t hlA'); rw [hf2, hpk, hpa] at h9; exact h9)
                have F2 := Lib.hid (fun V (h : TC w V b A' v ((k : Int) + 1) b2 A v2 k) => show Calls Try.prog 17 #[.pointer (some ⟨b2, 0, none⟩), .string nm] V (fun e w' => e = .returned (.int .i64 pb) ∧ Below V.heap.size V w') from by (have h9 := lpeak_any _ b2 _ v2 _ nm V h.t2.t hlA); rw [hf1, hpp, hpb] at h9; exact h9)
                have F3 := Lib.hid (fun V (h : TC w V b A' v ((k : Int) + 1) b2 A v2 k) => lmean_any _ b _ v _ nm V h.t1.t hlA' (by omega) r (by rw [hf2, hsu]; exact hr1))
                have F5 := Lib.hid (fun V (h : TC w V b A' v ((k : Int) + 1) b2 A v2 k) => show Calls Try.prog 15 #[.pointer (some ⟨b, 0, none⟩), .string nm] V (fun e w' => e = .returned (.int .i64 za) ∧ Below V.heap.size V w') from by (have h9 := lsum_any _ b _ v _ nm V h.t1.t hlA' hoA'); rw [hf2, hza] at h9; exact h9)
                have F6 := Lib.hid (fun V (h : TC w V b A' v ((k : Int) + 1) b2 A v2 k) => show Calls Try.prog 15 #[.pointer (some ⟨b2, 0, none⟩), .string nm] V (fun e w' => e = .returned (.int .i64 zb) ∧ Below V.heap.size V w') from by (have h9 := lsum_any _ b2 _ v2 _ nm V h.t2.t hlA hoA); rw [hf1, hzb] at h9; exact h9)
                rw [hza, hzb] at hcg
                rw [hpa] at j3
                have j1 : decide (za < zb) = false := decide_eq_false (by omega)
                have j2 : decide (pa < pb) = false := decide_eq_false (by omega)
                have j4 : pa ≤ max pb (xl : Int) := by omega
                clear hgc d0 hcB hfB hg0 hf1 hf2 hpa hpb hza hzb hpk hsu hr1 hr2 hmx hcc hcg hyA hyA' hs hpp hsp hoA hoA' hlA hlA' hnm hr3
                go_wp2
                have hcH := held_cell
                refine region_below (by kernel_rfl) (by kernel_rfl) ?_
                repeat
                  ((with_reducible refine wpQuiet_step (fun K hK => ?_))
                   go_simp
                   first
                     | ((with_reducible refine hK _ ?_); clear hK K)
                     | (apply Exists.intro
                        (with_reducible refine ⟨fun n => ?_, hK _ ?_⟩)
                        (first
                                  | (go_at_call 17; exact held_calls (F1.out _ (HC.out.below n.below)))
                                  | (go_at_call 17; exact held_calls (F2.out _ (HC.out.below n.below)))
                                  | (go_at_call 19; exact held_calls (F3.out _ (HC.out.below n.below)))
                                  | (go_at_call 15; exact held_calls (F5.out _ (HC.out.below n.below)))
                                  | (go_at_call 15; exact held_calls (F6.out _ (HC.out.below n.below))))
                        clear hK K))
                with_reducible refine wpQuiet_nil ?_
                intro w8 hw2
                clear hcH
                obtain ⟨⟨_, hb8⟩, rfl⟩ := hw2
                (try dsimp only)
                obtain ⟨hc8, hf8⟩ := bcell hb8
                have hz8 := hb8.size
                (try simp at hz8)
                have HC8 := Lib.hid (HC.out.below hb8)
                clear F1 F2 F3 F5 F6
                go_wp2
                go_roundw
                case rel => exact ⟨j + 1, by omega, by go_num, HC8.out⟩
                case measure => simp [intOf]; omega
              · obtain ⟨ta, hta⟩ : ∃ z, totA A' A'.length = z := ⟨_, rfl⟩
                obtain ⟨tb, htb⟩ : ∃ z, totA A A.length = z := ⟨_, rfl⟩
                have hlen : A'.length = A.length := by rw [HA'.out, List.length_map]
                have hgr : tb ≤ ta := by
                  have h9 := tot_grows (L := x.L) (A := A) (fun y hy => ⟨hoA y hy, hoA' _ (by rw [HA'.out]; exact List.mem_map.2 ⟨y, hy, rfl⟩)⟩) A.length (Nat.le_refl _)
                  rw [← HA'.out, ← hlen, hta, hlen, htb] at h9
                  exact h9
                have htl := totA_le hoA' A'.length
                rw [hta] at htl
                have F7 := Lib.hid (fun V (h : TC w V b A' v ((k : Int) + 1) b2 A v2 k) => show Calls Try.prog 21 #[.pointer (some ⟨b, 0, none⟩)] V (fun e w' => e = .returned (.int .i64 ta) ∧ Below V.heap.size V w') from by (have h9 := ltotal_any _ b _ v _ V h.t1.t hlA' hoA'); rw [hta] at h9; exact h9)
                have F8 := Lib.hid (fun V (h : TC w V b A' v ((k : Int) + 1) b2 A v2 k) => show Calls Try.prog 21 #[.pointer (some ⟨b2, 0, none⟩)] V (fun e w' => e = .returned (.int .i64 tb) ∧ Below V.heap.size V w') from by (have h9 := ltotal_any _ b2 _ v2 _ V h.t2.t hlA hoA); rw [htb] at h9; exact h9)
                have j1 : decide (ta < tb) = false := decide_eq_false (by omega)
                have j2 : decide ((1125899906842624 : Int) < ta) = false := decide_eq_false (by omega)
                have hj2 : j = gn := by omega
                subst hj2
                clear hta htb hlen hgr htl hoA hoA' hlA hlA'
                go_wp2_with (first
                  | (go_at_call 21; (with_reducible refine (F7.out _ HC.out).mono ?_); rintro e w8 ⟨rfl, hb8⟩; have HC8 := Lib.hid (HC.out.below hb8); clear hb8; clear HC; have HC := HC8; clear HC8)
                  | (go_at_call 21; (with_reducible refine (F8.out _ HC.out).mono ?_); rintro e w8 ⟨rfl, hb8⟩; have HC8 := Lib.hid (HC.out.below hb8); clear hb8; clear HC; have HC := HC8; clear HC8))
                go_roundw
                case rel => exact ⟨k + 1, A', by omega, by go_num, HG2.out, by (have h9 := HC.out.t1); simpa using h9⟩
                case measure => simp [intOf]; omega
          · obtain rfl : k = n := by omega
            go_wp2_with (go_at_call 9; (with_reducible refine (HK.out _ HT.out.bl).mono ?_); rintro e w9 ⟨rfl, hb9⟩)
            go_ret
            exact ⟨rfl, HT.out.bl.trans (hb9.mono HT.out.bl.size)⟩

set_option maxRecDepth 100000 in
theorem lifted (os : Os) (started : os.Started) (H : Type) (enc : TypeId × Value → H) :
    ReturnsInHanded {} Try.checked os 4 .any (Rows.ledgerGrowsSpec.pre6 enc Try.prog Try.f4 Rows.ledgerGrowsRow.domain false) (Rows.ledgerGrowsSpec.post enc Try.prog Try.f4 false true false false) := by
  refine returnsInHanded_of_change (C := Try.checked) Try.own started (by kernel_rfl) Try.func4
    (ChangeSpec.witness6 (enc := enc) (C := Try.checked) false ⟨#[], #[.slice none 0 0, .slice none 0 0], []⟩ 8 (by kernel_rfl) (by kernel_rfl) (by kernel_rfl) (by kernel_rfl)) ?_
  intro W base args ds gs before hval hW _ _
  have hW' := hW
  obtain ⟨p, q, hA, hV, rfl, hfz, hnd⟩ := hW
  rw [Try.params4] at hA hval
  obtain ⟨v0, v1, d0, d1, p0, p1, rfl, rfl, rfl, h0, h1⟩ := trodAll_two hA
  obtain ⟨a, l, ka, rfl, _, hF, hl, _, hI⟩ := open_grps (hval 0 22 v0 rfl rfl) h0
  obtain ⟨c, xs, kc, rfl, hS, hX, hm⟩ := open_sls (hval 1 23 v1 rfl rfl) h1
  refine (walk a l ka c xs kc W hF hl hI hS hX hm).mono fun e W' ⟨he, hb⟩ => ?_
  exact ⟨_, he, law_post Try.laidOut hW' rfl (by kernel_rfl) (by kernel_rfl) Try.underlying4 rfl rfl rfl hb⟩

theorem over : Rows.ledgerGrowsRow.holds Try.pinned (OpenSpec.ofChange Rows.ledgerGrowsSpec) :=
  OpenClaim.holds_of_wide 4 Try.f4 rfl rfl rfl rfl rfl rfl rfl ⟨rfl, rfl, rfl, rfl, rfl⟩ rfl rfl rfl rfl rfl (by kernel_rfl) Try.func4 (by kernel_rfl)
    (of_decide_eq_true (by kernel_rfl)) (by unfold Func.isWrapper; first | (rw [if_pos (by decide +kernel)]; kernel_rfl) | (rw [if_neg (by decide +kernel)]; exact ⟨rfl, rfl⟩))
    (fun os started H enc _ => lifted os started H enc)

/-- The statement. -/
theorem proved : Rows.LedgerGrowsSaid := over
end ledgerGrows
end Go.Proofs.Ytaipiflbigpniaa
