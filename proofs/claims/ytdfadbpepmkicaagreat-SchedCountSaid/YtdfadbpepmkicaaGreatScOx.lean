/-
  Sched: Order of the program.
-/
import Derived.Test.YtdfadbpepmkicaaGreatRows
import Derived.WalkKit
import Derived.WalkSpells
import Derived.WalkLawsBesides
import Derived.BigQuiet
import Derived.Lib.Hide
import Derived.BigRegion
import Derived.Deep.Cut
import Derived.Test.YtdfadbpepmkicaaGreatSortSx
import Derived.Test.YtdfadbpepmkicaaGreatNEx
import Derived.Test.YtdfadbpepmkicaaGreatNHx
import Derived.Test.YtdfadbpepmkicaaGreatFt3x
import Derived.Shelf.Abstract
namespace Go.Proofs.YtdfadbpepmkicaaGreat
open Go.RowKit
set_option linter.unusedVariables false
set_option linter.unusedSimpArgs false
theorem Rot.triv (L : List Int) {s m e : Nat} (h : s = m ∨ e = m) (h1 : s ≤ m) (h2 : m ≤ e) : Rot L L s m e :=
  ⟨Mov.refl _ _ _, fun i i1 i2 => congrArg (at' L) (by omega), fun i i1 i2 => congrArg (at' L) (by omega)⟩
def SymAll (R : Int → Int → Prop) (B g N cap fn : Nat) (caps : Array Value) (ok : Int → Prop) (W : World) (d : Nat) : Prop :=
  ∀ (a m b : Nat) (L : List Int) (V : World), b - a < d → SRow B g N cap ok W L V → a < m → m < b → b ≤ N → Srt R L a m → Srt R L m b → Vs L a m b →
    Calls Tryz.prog 85 #[.slice (some ⟨g, 0, none⟩) N cap, .int .i64 (a : Nat), .int .i64 (m : Nat), .int .i64 (b : Nat), .func (.func fn) #[] caps] V (MergeOf R B g N cap ok W L a b)
set_option maxRecDepth 100000 in
set_option maxHeartbeats 16000000 in
theorem sym_gen {R : Int → Int → Prop} (hR : TOrd R) (cf : Int → Int → Int) (hless : ∀ x y, x < y → (lessC cf y x = true ↔ R y x)) (B g N cap fn : Nat) (caps : Array Value) (ok : Int → Prop) (W : World) (hC : CmpAt g fn caps ok cf W) (a m b : Nat) (L : List Int) (V : World) (hS : SRow B g N cap ok W L V) (ham : a + 1 < m) (hmb : m + 1 < b) (hb : b ≤ N) (hN : N ≤ 1000000)
    (h1 : Srt R L a m) (h2 : Srt R L m b) (hV : Vs L a m b) (hI : SymAll R B g N cap fn caps ok W (b - a)) :
    Calls Tryz.prog 85 #[.slice (some ⟨g, 0, none⟩) N cap, .int .i64 (a : Nat), .int .i64 (m : Nat), .int .i64 (b : Nat), .func (.func fn) #[] caps] V (MergeOf R B g N cap ok W L a b) := by
  have HS := Lib.hid hS
  have HC := Lib.hid hC
  have HRo := Lib.hid hR
  have HLs := Lib.hid hless
  have H1 := Lib.hid h1
  have H2 := Lib.hid h2
  have HV := Lib.hid hV
  have HIh := Lib.hid hI
  have hent := hC.ent
  obtain ⟨d0, hd0⟩ : ∃ d0, d0 + a = m := ⟨m - a, by omega⟩
  have e0 := wrap_sub hd0 (by omega)
  have q01 : ((d0 : Int) == 1) = false := by simp; omega
  have q02 : ((d0 : Int) = 1) = False := by simp; omega
  obtain ⟨d1, hd1⟩ : ∃ d1, d1 + m = b := ⟨b - m, by omega⟩
  have e1 := wrap_sub hd1 (by omega)
  have q11 : ((d1 : Int) == 1) = false := by simp; omega
  have q12 : ((d1 : Int) = 1) = False := by simp; omega
  obtain ⟨mid, hmid⟩ : ∃ mid, mid = (a + b) / 2 := ⟨_, rfl⟩
  obtain ⟨v0, v1, v2⟩ := half_w hmid (by omega)
  obtain ⟨n, hn⟩ : ∃ n, n = mid + m := ⟨_, rfl⟩
  have e2 : IntKind.i64.wrap ((mid : Int) + (m : Int)) = (n : Int) := by rw [IntKind.wrap_i64]; omega
  obtain ⟨p, hp⟩ : ∃ p, p + 1 = n := ⟨n - 1, by omega⟩
  have e3 : IntKind.i64.wrap ((n : Int) - 1) = (p : Int) := by rw [IntKind.wrap_i64]; omega
  have Hmid := Lib.hid hmid
  have Hn := Lib.hid hn
  have Hp := Lib.hid hp
  have ham1 : a < m := by omega
  have hmb1 : m < b := by omega
  by_cases hA : mid < m
  · obtain ⟨s0, hs0⟩ : ∃ s0, s0 + b = n := ⟨n - b, by omega⟩
    have e4 : IntKind.i64.wrap ((n : Int) - (b : Int)) = (s0 : Int) := by rw [IntKind.wrap_i64]; omega
    obtain ⟨r0, hr0⟩ : ∃ r0, r0 = mid := ⟨_, rfl⟩
    have F1 : a ≤ s0 ∧ s0 ≤ r0 ∧ r0 ≤ m ∧ r0 ≤ mid ∧ m + r0 ≤ n ∧ n ≤ b + s0 ∧ (s0 = a ∨ n = b + s0) ∧ (r0 = m ∨ n = m + r0) := by omega
    have HF1 := Lib.hid F1
    have Hr0 := Lib.hid hr0
    clear hS hC hR hless h1 h2 hV hI hd0 hd1 hmid hn hp hs0 F1 hr0
    go_enter Tryz.func85, Tryz.ntmps85
    go_upto_region 33 with (fail)
    have HS0 := Lib.hid HS.out
    go_loopw [20, 21] (fun vs vr wr => ∃ s r : Nat, s0 ≤ s ∧ s ≤ r ∧ r ≤ r0 ∧ vs = .int .i64 s ∧ vr = .int .i64 r ∧ SRow B g N cap ok W L wr ∧ (s = s0 ∨ lessC cf (at' L (n - s)) (at' L (s - 1)) = false) ∧ (r = r0 ∨ lessC cf (at' L (n - 1 - r)) (at' L r) = true)) (fun vs vr _ => (intOf vr).toNat - (intOf vs).toNat)
    case atStart => exact ⟨s0, r0, Nat.le_refl _, HF1.out.2.1, Nat.le_refl _, (by first | rfl | rw [Hs0.out]), (by first | rfl | rw [Hr0.out]), HS.out, .inl rfl, .inl rfl⟩
    case round =>
      clear HS HS0
      obtain ⟨s, r, hs0, hsr, hr0, rfl, rfl, hS, hlo, hhi⟩ := hrel
      have HS := Lib.hid hS
      have HLo := Lib.hid hlo
      have HHi := Lib.hid hhi
      clear hS hlo hhi
      by_cases hlt : s < r
      · obtain ⟨c, hh⟩ : ∃ c, c = (s + r) / 2 := ⟨_, rfl⟩
        have hF := HF1.out
        have hn := Hn.out
        have hp := Hp.out
        have hmid := Hmid.out
        obtain ⟨w0, w1, w2⟩ := half_w hh (by omega)
        have hsc : s ≤ c := by omega
        have hcr : c < r := by omega
        have hcN : c < N := by omega
        obtain ⟨u, hu⟩ : ∃ u, u + c = p := ⟨p - c, by omega⟩
        have huN : u < N := by omega
        have w3 : IntKind.i64.wrap ((p : Int) - (c : Int)) = (u : Int) := by rw [IntKind.wrap_i64]; omega
        have Hu1 := Lib.hid (show n - (c + 1) = u by omega)
        have Hu2 := Lib.hid (show n - 1 - c = u by omega)
        have c0 := HS.out.cell (i := u) huN
        have c1 := HS.out.cell (i := c) hcN
        have okx := HS.out.at_ok (i := u) huN
        have oky := HS.out.at_ok (i := c) hcN
        have HCc := Lib.hid (fun V (hV : Only [g] W V) => HC.out.cmp _ _ V okx oky hV)
        have gl := HS.out.lt
        have HOn := Lib.hid HS.out.on
        have Hlx := Lib.hid (show lessC cf (at' L u) (at' L c) = decide (cf (at' L u) (at' L c) < 0) from rfl)
        obtain ⟨x, hxx⟩ : ∃ x, at' L u = x := ⟨_, rfl⟩
        obtain ⟨y, hyy⟩ : ∃ y, at' L c = y := ⟨_, rfl⟩
        have Hx := Lib.hid hxx
        have Hy := Lib.hid hyy
        rw [hxx] at c0 HCc Hlx
        rw [hyy] at c1 HCc Hlx
        obtain ⟨z, hz⟩ : ∃ c, cf x y = c := ⟨_, rfl⟩
        rw [hz] at HCc Hlx
        clear hh okx oky hxx hyy hz hu hF hn hp hmid
        go_wp2
        obtain ⟨Q, hQ⟩ : ∃ V, V = wr := ⟨_, rfl⟩
        subst hQ
        by_cases hc0 : z < 0
        · have hd0 : decide (z < 0) = true := decide_eq_true hc0
          have hcH := held_cell
          refine region_rel (by kernel_rfl) (by kernel_rfl) ?_
          repeat
            ((with_reducible refine relStep (fun K hK => ?_))
             (have HK := Lib.hid hK)
             clear hK
             (apply relInl
              · intro r n hf
                have Hf := Lib.hid hf
                clear hf
                (first
                  | (fail)
                  | (unfold relAt
                     go_simp
                     (first | (refine relUpon_val ?_ (Below.refl _ _); exact rfl) | exact rfl | (refine relUpon_enter ?_; ((with_reducible refine (HCc.out _ (HOn.out.step (n.below.mono HOn.out.size))).mono ?_); rintro e w9 ⟨rfl, hb⟩; exact ⟨⟨_, rfl, rfl⟩, hb⟩)))))
              (simp only [Act.put, List.setIfInBounds_toArray, List.set_cons_zero, List.set_cons_succ])
              (with_reducible refine HK.out _ _ ?_)
              clear HK K))
          refine relNil ?_
          intro r9 n9 hx9
          clear hcH
          (try simp only [List.nil_append, List.cons_append, List.mem_cons, List.not_mem_nil, or_false, forall_eq_or_imp, forall_eq, false_implies, implies_true] at hx9)
          obtain ⟨w9, hb9⟩ := n9
          (try dsimp only)
          obtain ⟨hc9, hf9⟩ := bcell hb9
          have hz9 := hb9.size
          (try simp at hz9)
          have HS9 := Lib.hid (HS.out.below hb9)
          go_wp2
          go_roundw
          case rel => exact ⟨s, c, hs0, hsc, by omega, rfl, rfl, HS9.out, HLo.out, .inr (by rw [Hu2.out, Hx.out, Hy.out, Hlx.out]; exact hd0)⟩
          case measure => simp [intOf]; omega
        · have hd0 : decide (z < 0) = false := decide_eq_false hc0
          have hcH := held_cell
          refine region_rel (by kernel_rfl) (by kernel_rfl) ?_
          repeat
            ((with_reducible refine relStep (fun K hK => ?_))
             (have HK := Lib.hid hK)
             clear hK
             (apply relInl
              · intro r n hf
                have Hf := Lib.hid hf
                clear hf
                (first
                  | (fail)
                  | (unfold relAt
                     go_simp
                     (first | (refine relUpon_val ?_ (Below.refl _ _); exact rfl) | exact rfl | (refine relUpon_enter ?_; ((with_reducible refine (HCc.out _ (HOn.out.step (n.below.mono HOn.out.size))).mono ?_); rintro e w9 ⟨rfl, hb⟩; exact ⟨⟨_, rfl, rfl⟩, hb⟩)))))
              (simp only [Act.put, List.setIfInBounds_toArray, List.set_cons_zero, List.set_cons_succ])
              (with_reducible refine HK.out _ _ ?_)
              clear HK K))
          refine relNil ?_
          intro r9 n9 hx9
          clear hcH
          (try simp only [List.nil_append, List.cons_append, List.mem_cons, List.not_mem_nil, or_false, forall_eq_or_imp, forall_eq, false_implies, implies_true] at hx9)
          obtain ⟨w9, hb9⟩ := n9
          (try dsimp only)
          obtain ⟨hc9, hf9⟩ := bcell hb9
          have hz9 := hb9.size
          (try simp at hz9)
          have HS9 := Lib.hid (HS.out.below hb9)
          go_wp2
          go_roundw
          case rel => exact ⟨c + 1, r, by omega, by omega, hr0, by go_num, rfl, HS9.out, .inr (by rw [Nat.add_sub_cancel, Hu1.out, Hx.out, Hy.out, Hlx.out]; exact hd0), HHi.out⟩
          case measure => simp [intOf]; omega
      · obtain rfl : s = r := by omega
        have hF := HF1.out
        have hn := Hn.out
        have hmid := Hmid.out
        obtain ⟨e, he⟩ : ∃ e, e + s = n := ⟨n - s, by omega⟩
        have e5 := wrap_sub he (by omega)
        have s1 : s ≤ m := by omega
        have s2 : s ≤ mid := by omega
        have s3 : m ≤ e := by omega
        have s4 : mid ≤ e := by omega
        have s5 : e ≤ b := by omega
        have sa : a ≤ s := by omega
        have hlo' : s = a ∨ e = b ∨ lessC cf (at' L e) (at' L (s - 1)) = false := by
          rcases HLo.out with h | h
          · rcases hF.2.2.2.2.2.2.1 with h9 | h9
            · exact .inl (by omega)
            · exact .inr (.inl (by omega))
          · rw [show n - s = e by omega] at h
            exact .inr (.inr h)
        have hhi' : s = m ∨ e = m ∨ lessC cf (at' L (e - 1)) (at' L s) = true := by
          rcases HHi.out with h | h
          · rcases hF.2.2.2.2.2.2.2 with h9 | h9
            · exact .inl (by omega)
            · exact .inr (.inl (by omega))
          · rw [show n - 1 - s = e - 1 by omega] at h
            exact .inr (.inr h)
        have HPt := Lib.hid (fun L' (hr : Rot L L' s m e) => sym_parts HRo.out HLs.out ham1 hmb1 hmid hn (by omega : e = n - s) H1.out H2.out HV.out sa s1 s2 s3 s4 s5 hlo' hhi' hr)
        have Ham := Lib.hid (show a ≤ mid ∧ mid ≤ b ∧ mid - a < b - a ∧ b - mid < b - a ∧ mid ≤ N by omega)
        clear hF hn hmid he hlo' hhi' HLo HHi
        rcases (by omega : (s < m ∧ m < e) ∨ ¬ s < m ∨ (s < m ∧ ¬ m < e)) with hg | hg | hg
        · have q1 := hg.1
          have q2 := hg.2
          clear hg
          go_upto_region 41 with (go_at_call 115; (with_reducible refine (rot_any B g N cap fn caps ok W s m e L wr HS.out q1 q2 (by omega) hN).mono ?_); rintro e' w5 ⟨rfl, L2, hS2, hR2⟩; have HS2 := Lib.hid hS2; have HQ2 := Lib.hid (HPt.out L2 hR2); clear hS2 hR2)
          rcases (by omega : (a < s ∧ s < mid) ∨ ¬ a < s ∨ (a < s ∧ ¬ s < mid)) with hk | hk | hk
          · have k1 := hk.1
            have k2 := hk.2
            have HCq := Lib.hid (HIh.out a s mid L2 _ Ham.out.2.2.1 HS2.out k1 k2 Ham.out.2.2.2.2 HQ2.out.2.1 HQ2.out.2.2.1 HQ2.out.2.2.2.2.2.1)
            clear hk
            go_upto_region 43 with (go_at_call 85; (with_reducible refine HCq.out.mono ?_); rintro e' w6 ⟨rfl, L3, hS3, hM3, hR3⟩; have HS3 := Lib.hid hS3; have HM3 := Lib.hid hM3; have HR3 := Lib.hid hR3; clear hS3 hM3 hR3)
            have HB3 := Lib.hid (show Srt R L3 mid e ∧ Srt R L3 e b ∧ Vs L3 mid e b from ⟨HM3.out.srt_hi HQ2.out.2.2.2.1, HM3.out.srt_hi2 s4 HQ2.out.2.2.2.2.1, HM3.out.vs_hi HQ2.out.2.2.2.2.2.2.1⟩)
            rcases (by omega : (mid < e ∧ e < b) ∨ ¬ mid < e ∨ (mid < e ∧ ¬ e < b)) with hj | hj | hj
            · have j1 := hj.1
              have j2 := hj.2
              have HCr := Lib.hid (HIh.out mid e b L3 _ Ham.out.2.2.2.1 HS3.out j1 j2 hb HB3.out.1 HB3.out.2.1 HB3.out.2.2)
              clear hj
              go_wp2_with (go_at_call 85; (with_reducible refine HCr.out.mono ?_); rintro e' w7 ⟨rfl, L4, hS4, hM4, hR4⟩; have HS4 := Lib.hid hS4; have HM4 := Lib.hid hM4; have HR4 := Lib.hid hR4; clear hS4 hM4 hR4)
              go_end0
              have h9 := srt_join HQ2.out.2.2.2.2.2.2.2 HM3.out HM4.out HR3.out HR4.out Ham.out.1 Ham.out.2.1
              exact ⟨rfl, L4, HS4.out, HQ2.out.1.trans h9.1, h9.2⟩
            · have j1 := hj
              have HR4 := Lib.hid (show Srt R L3 mid b by have h9 := HB3.out.2.1; rwa [show e = mid by omega] at h9)
              clear hj
              go_wp2
              go_end0
              have h9 := srt_join HQ2.out.2.2.2.2.2.2.2 HM3.out (Mov.refl L3 mid b) HR3.out HR4.out Ham.out.1 Ham.out.2.1
              exact ⟨rfl, L3, HS3.out, HQ2.out.1.trans h9.1, h9.2⟩
            · have j1 := hj.1
              have j2 := hj.2
              have HR4 := Lib.hid (show Srt R L3 mid b by have h9 := HB3.out.1; rwa [show e = b by omega] at h9)
              clear hj
              go_wp2
              go_end0
              have h9 := srt_join HQ2.out.2.2.2.2.2.2.2 HM3.out (Mov.refl L3 mid b) HR3.out HR4.out Ham.out.1 Ham.out.2.1
              exact ⟨rfl, L3, HS3.out, HQ2.out.1.trans h9.1, h9.2⟩
          · have k1 := hk
            have HR3 := Lib.hid (show Srt R L2 a mid by have h9 := HQ2.out.2.2.1; rwa [show s = a by omega] at h9)
            have HM3 := Lib.hid (Mov.refl L2 a mid)
            have HS3 := HS2
            clear hk
            obtain ⟨L3, hL3⟩ : ∃ L3, L3 = L2 := ⟨_, rfl⟩
            have HR3 := Lib.hid (show Srt R L3 a mid by rw [hL3]; exact HR3.out)
            have HM3 := Lib.hid (show Mov L2 L3 a mid by rw [hL3]; exact HM3.out)
            rw [← hL3] at HS3
            clear hL3
            go_upto_region 43 with (fail)
            have HB3 := Lib.hid (show Srt R L3 mid e ∧ Srt R L3 e b ∧ Vs L3 mid e b from ⟨HM3.out.srt_hi HQ2.out.2.2.2.1, HM3.out.srt_hi2 s4 HQ2.out.2.2.2.2.1, HM3.out.vs_hi HQ2.out.2.2.2.2.2.2.1⟩)
            rcases (by omega : (mid < e ∧ e < b) ∨ ¬ mid < e ∨ (mid < e ∧ ¬ e < b)) with hj | hj | hj
            · have j1 := hj.1
              have j2 := hj.2
              have HCr := Lib.hid (HIh.out mid e b L3 _ Ham.out.2.2.2.1 HS3.out j1 j2 hb HB3.out.1 HB3.out.2.1 HB3.out.2.2)
              clear hj
              go_wp2_with (go_at_call 85; (with_reducible refine HCr.out.mono ?_); rintro e' w7 ⟨rfl, L4, hS4, hM4, hR4⟩; have HS4 := Lib.hid hS4; have HM4 := Lib.hid hM4; have HR4 := Lib.hid hR4; clear hS4 hM4 hR4)
              go_end0
              have h9 := srt_join HQ2.out.2.2.2.2.2.2.2 HM3.out HM4.out HR3.out HR4.out Ham.out.1 Ham.out.2.1
              exact ⟨rfl, L4, HS4.out, HQ2.out.1.trans h9.1, h9.2⟩
            · have j1 := hj
              have HR4 := Lib.hid (show Srt R L3 mid b by have h9 := HB3.out.2.1; rwa [show e = mid by omega] at h9)
              clear hj
              go_wp2
              go_end0
              have h9 := srt_join HQ2.out.2.2.2.2.2.2.2 HM3.out (Mov.refl L3 mid b) HR3.out HR4.out Ham.out.1 Ham.out.2.1
              exact ⟨rfl, L3, HS3.out, HQ2.out.1.trans h9.1, h9.2⟩
            · have j1 := hj.1
              have j2 := hj.2
              have HR4 := Lib.hid (show Srt R L3 mid b by have h9 := HB3.out.1; rwa [show e = b by omega] at h9)
              clear hj
              go_wp2
              go_end0
              have h9 := srt_join HQ2.out.2.2.2.2.2.2.2 HM3.out (Mov.refl L3 mid b) HR3.out HR4.out Ham.out.1 Ham.out.2.1
              exact ⟨rfl, L3, HS3.out, HQ2.out.1.trans h9.1, h9.2⟩
          · have k1 := hk.1
            have k2 := hk.2
            have HR3 := Lib.hid (show Srt R L2 a mid by have h9 := HQ2.out.2.1; rwa [show s = mid by omega] at h9)
            have HM3 := Lib.hid (Mov.refl L2 a mid)
            have HS3 := HS2
            clear hk
            obtain ⟨L3, hL3⟩ : ∃ L3, L3 = L2 := ⟨_, rfl⟩
            have HR3 := Lib.hid (show Srt R L3 a mid by rw [hL3]; exact HR3.out)
            have HM3 := Lib.hid (show Mov L2 L3 a mid by rw [hL3]; exact HM3.out)
            rw [← hL3] at HS3
            clear hL3
            go_upto_region 43 with (fail)
            have HB3 := Lib.hid (show Srt R L3 mid e ∧ Srt R L3 e b ∧ Vs L3 mid e b from ⟨HM3.out.srt_hi HQ2.out.2.2.2.1, HM3.out.srt_hi2 s4 HQ2.out.2.2.2.2.1, HM3.out.vs_hi HQ2.out.2.2.2.2.2.2.1⟩)
            rcases (by omega : (mid < e ∧ e < b) ∨ ¬ mid < e ∨ (mid < e ∧ ¬ e < b)) with hj | hj | hj
            · have j1 := hj.1
              have j2 := hj.2
              have HCr := Lib.hid (HIh.out mid e b L3 _ Ham.out.2.2.2.1 HS3.out j1 j2 hb HB3.out.1 HB3.out.2.1 HB3.out.2.2)
              clear hj
              go_wp2_with (go_at_call 85; (with_reducible refine HCr.out.mono ?_); rintro e' w7 ⟨rfl, L4, hS4, hM4, hR4⟩; have HS4 := Lib.hid hS4; have HM4 := Lib.hid hM4; have HR4 := Lib.hid hR4; clear hS4 hM4 hR4)
              go_end0
              have h9 := srt_join HQ2.out.2.2.2.2.2.2.2 HM3.out HM4.out HR3.out HR4.out Ham.out.1 Ham.out.2.1
              exact ⟨rfl, L4, HS4.out, HQ2.out.1.trans h9.1, h9.2⟩
            · have j1 := hj
              have HR4 := Lib.hid (show Srt R L3 mid b by have h9 := HB3.out.2.1; rwa [show e = mid by omega] at h9)
              clear hj
              go_wp2
              go_end0
              have h9 := srt_join HQ2.out.2.2.2.2.2.2.2 HM3.out (Mov.refl L3 mid b) HR3.out HR4.out Ham.out.1 Ham.out.2.1
              exact ⟨rfl, L3, HS3.out, HQ2.out.1.trans h9.1, h9.2⟩
            · have j1 := hj.1
              have j2 := hj.2
              have HR4 := Lib.hid (show Srt R L3 mid b by have h9 := HB3.out.1; rwa [show e = b by omega] at h9)
              clear hj
              go_wp2
              go_end0
              have h9 := srt_join HQ2.out.2.2.2.2.2.2.2 HM3.out (Mov.refl L3 mid b) HR3.out HR4.out Ham.out.1 Ham.out.2.1
              exact ⟨rfl, L3, HS3.out, HQ2.out.1.trans h9.1, h9.2⟩
        · have q1 := hg
          have HS2 := HS
          have HQ2 := Lib.hid (HPt.out L (Rot.triv L (.inl (by omega)) s1 s3))
          clear hg
          obtain ⟨L2, hL2⟩ : ∃ L2, L2 = L := ⟨_, rfl⟩
          rw [← hL2] at HS2
          have HQ2 := Lib.hid (show Mov L L2 a b ∧ Srt R L2 a s ∧ Srt R L2 s mid ∧ Srt R L2 mid e ∧ Srt R L2 e b ∧ Vs L2 a s mid ∧ Vs L2 mid e b ∧ (∀ i j, a ≤ i → i < mid → mid ≤ j → j < b → R (at' L2 i) (at' L2 j)) by rw [hL2]; exact HQ2.out)
          clear hL2
          go_upto_region 41 with (fail)
          rcases (by omega : (a < s ∧ s < mid) ∨ ¬ a < s ∨ (a < s ∧ ¬ s < mid)) with hk | hk | hk
          · have k1 := hk.1
            have k2 := hk.2
            have HCq := Lib.hid (HIh.out a s mid L2 _ Ham.out.2.2.1 HS2.out k1 k2 Ham.out.2.2.2.2 HQ2.out.2.1 HQ2.out.2.2.1 HQ2.out.2.2.2.2.2.1)
            clear hk
            go_upto_region 43 with (go_at_call 85; (with_reducible refine HCq.out.mono ?_); rintro e' w6 ⟨rfl, L3, hS3, hM3, hR3⟩; have HS3 := Lib.hid hS3; have HM3 := Lib.hid hM3; have HR3 := Lib.hid hR3; clear hS3 hM3 hR3)
            have HB3 := Lib.hid (show Srt R L3 mid e ∧ Srt R L3 e b ∧ Vs L3 mid e b from ⟨HM3.out.srt_hi HQ2.out.2.2.2.1, HM3.out.srt_hi2 s4 HQ2.out.2.2.2.2.1, HM3.out.vs_hi HQ2.out.2.2.2.2.2.2.1⟩)
            rcases (by omega : (mid < e ∧ e < b) ∨ ¬ mid < e ∨ (mid < e ∧ ¬ e < b)) with hj | hj | hj
            · have j1 := hj.1
              have j2 := hj.2
              have HCr := Lib.hid (HIh.out mid e b L3 _ Ham.out.2.2.2.1 HS3.out j1 j2 hb HB3.out.1 HB3.out.2.1 HB3.out.2.2)
              clear hj
              go_wp2_with (go_at_call 85; (with_reducible refine HCr.out.mono ?_); rintro e' w7 ⟨rfl, L4, hS4, hM4, hR4⟩; have HS4 := Lib.hid hS4; have HM4 := Lib.hid hM4; have HR4 := Lib.hid hR4; clear hS4 hM4 hR4)
              go_end0
              have h9 := srt_join HQ2.out.2.2.2.2.2.2.2 HM3.out HM4.out HR3.out HR4.out Ham.out.1 Ham.out.2.1
              exact ⟨rfl, L4, HS4.out, HQ2.out.1.trans h9.1, h9.2⟩
            · have j1 := hj
              have HR4 := Lib.hid (show Srt R L3 mid b by have h9 := HB3.out.2.1; rwa [show e = mid by omega] at h9)
              clear hj
              go_wp2
              go_end0
              have h9 := srt_join HQ2.out.2.2.2.2.2.2.2 HM3.out (Mov.refl L3 mid b) HR3.out HR4.out Ham.out.1 Ham.out.2.1
              exact ⟨rfl, L3, HS3.out, HQ2.out.1.trans h9.1, h9.2⟩
            · have j1 := hj.1
              have j2 := hj.2
              have HR4 := Lib.hid (show Srt R L3 mid b by have h9 := HB3.out.1; rwa [show e = b by omega] at h9)
              clear hj
              go_wp2
              go_end0
              have h9 := srt_join HQ2.out.2.2.2.2.2.2.2 HM3.out (Mov.refl L3 mid b) HR3.out HR4.out Ham.out.1 Ham.out.2.1
              exact ⟨rfl, L3, HS3.out, HQ2.out.1.trans h9.1, h9.2⟩
          · have k1 := hk
            have HR3 := Lib.hid (show Srt R L2 a mid by have h9 := HQ2.out.2.2.1; rwa [show s = a by omega] at h9)
            have HM3 := Lib.hid (Mov.refl L2 a mid)
            have HS3 := HS2
            clear hk
            obtain ⟨L3, hL3⟩ : ∃ L3, L3 = L2 := ⟨_, rfl⟩
            have HR3 := Lib.hid (show Srt R L3 a mid by rw [hL3]; exact HR3.out)
            have HM3 := Lib.hid (show Mov L2 L3 a mid by rw [hL3]; exact HM3.out)
            rw [← hL3] at HS3
            clear hL3
            go_upto_region 43 with (fail)
            have HB3 := Lib.hid (show Srt R L3 mid e ∧ Srt R L3 e b ∧ Vs L3 mid e b from ⟨HM3.out.srt_hi HQ2.out.2.2.2.1, HM3.out.srt_hi2 s4 HQ2.out.2.2.2.2.1, HM3.out.vs_hi HQ2.out.2.2.2.2.2.2.1⟩)
            rcases (by omega : (mid < e ∧ e < b) ∨ ¬ mid < e ∨ (mid < e ∧ ¬ e < b)) with hj | hj | hj
            · have j1 := hj.1
              have j2 := hj.2
              have HCr := Lib.hid (HIh.out mid e b L3 _ Ham.out.2.2.2.1 HS3.out j1 j2 hb HB3.out.1 HB3.out.2.1 HB3.out.2.2)
              clear hj
              go_wp2_with (go_at_call 85; (with_reducible refine HCr.out.mono ?_); rintro e' w7 ⟨rfl, L4, hS4, hM4, hR4⟩; have HS4 := Lib.hid hS4; have HM4 := Lib.hid hM4; have HR4 := Lib.hid hR4; clear hS4 hM4 hR4)
              go_end0
              have h9 := srt_join HQ2.out.2.2.2.2.2.2.2 HM3.out HM4.out HR3.out HR4.out Ham.out.1 Ham.out.2.1
              exact ⟨rfl, L4, HS4.out, HQ2.out.1.trans h9.1, h9.2⟩
            · have j1 := hj
              have HR4 := Lib.hid (show Srt R L3 mid b by have h9 := HB3.out.2.1; rwa [show e = mid by omega] at h9)
              clear hj
              go_wp2
              go_end0
              have h9 := srt_join HQ2.out.2.2.2.2.2.2.2 HM3.out (Mov.refl L3 mid b) HR3.out HR4.out Ham.out.1 Ham.out.2.1
              exact ⟨rfl, L3, HS3.out, HQ2.out.1.trans h9.1, h9.2⟩
            · have j1 := hj.1
              have j2 := hj.2
              have HR4 := Lib.hid (show Srt R L3 mid b by have h9 := HB3.out.1; rwa [show e = b by omega] at h9)
              clear hj
              go_wp2
              go_end0
              have h9 := srt_join HQ2.out.2.2.2.2.2.2.2 HM3.out (Mov.refl L3 mid b) HR3.out HR4.out Ham.out.1 Ham.out.2.1
              exact ⟨rfl, L3, HS3.out, HQ2.out.1.trans h9.1, h9.2⟩
          · have k1 := hk.1
            have k2 := hk.2
            have HR3 := Lib.hid (show Srt R L2 a mid by have h9 := HQ2.out.2.1; rwa [show s = mid by omega] at h9)
            have HM3 := Lib.hid (Mov.refl L2 a mid)
            have HS3 := HS2
            clear hk
            obtain ⟨L3, hL3⟩ : ∃ L3, L3 = L2 := ⟨_, rfl⟩
            have HR3 := Lib.hid (show Srt R L3 a mid by rw [hL3]; exact HR3.out)
            have HM3 := Lib.hid (show Mov L2 L3 a mid by rw [hL3]; exact HM3.out)
            rw [← hL3] at HS3
            clear hL3
            go_upto_region 43 with (fail)
            have HB3 := Lib.hid (show Srt R L3 mid e ∧ Srt R L3 e b ∧ Vs L3 mid e b from ⟨HM3.out.srt_hi HQ2.out.2.2.2.1, HM3.out.srt_hi2 s4 HQ2.out.2.2.2.2.1, HM3.out.vs_hi HQ2.out.2.2.2.2.2.2.1⟩)
            rcases (by omega : (mid < e ∧ e < b) ∨ ¬ mid < e ∨ (mid < e ∧ ¬ e < b)) with hj | hj | hj
            · have j1 := hj.1
              have j2 := hj.2
              have HCr := Lib.hid (HIh.out mid e b L3 _ Ham.out.2.2.2.1 HS3.out j1 j2 hb HB3.out.1 HB3.out.2.1 HB3.out.2.2)
              clear hj
              go_wp2_with (go_at_call 85; (with_reducible refine HCr.out.mono ?_); rintro e' w7 ⟨rfl, L4, hS4, hM4, hR4⟩; have HS4 := Lib.hid hS4; have HM4 := Lib.hid hM4; have HR4 := Lib.hid hR4; clear hS4 hM4 hR4)
              go_end0
              have h9 := srt_join HQ2.out.2.2.2.2.2.2.2 HM3.out HM4.out HR3.out HR4.out Ham.out.1 Ham.out.2.1
              exact ⟨rfl, L4, HS4.out, HQ2.out.1.trans h9.1, h9.2⟩
            · have j1 := hj
              have HR4 := Lib.hid (show Srt R L3 mid b by have h9 := HB3.out.2.1; rwa [show e = mid by omega] at h9)
              clear hj
              go_wp2
              go_end0
              have h9 := srt_join HQ2.out.2.2.2.2.2.2.2 HM3.out (Mov.refl L3 mid b) HR3.out HR4.out Ham.out.1 Ham.out.2.1
              exact ⟨rfl, L3, HS3.out, HQ2.out.1.trans h9.1, h9.2⟩
            · have j1 := hj.1
              have j2 := hj.2
              have HR4 := Lib.hid (show Srt R L3 mid b by have h9 := HB3.out.1; rwa [show e = b by omega] at h9)
              clear hj
              go_wp2
              go_end0
              have h9 := srt_join HQ2.out.2.2.2.2.2.2.2 HM3.out (Mov.refl L3 mid b) HR3.out HR4.out Ham.out.1 Ham.out.2.1
              exact ⟨rfl, L3, HS3.out, HQ2.out.1.trans h9.1, h9.2⟩
        · have q1 := hg.1
          have q2 := hg.2
          have HS2 := HS
          have HQ2 := Lib.hid (HPt.out L (Rot.triv L (.inr (by omega)) s1 s3))
          clear hg
          obtain ⟨L2, hL2⟩ : ∃ L2, L2 = L := ⟨_, rfl⟩
          rw [← hL2] at HS2
          have HQ2 := Lib.hid (show Mov L L2 a b ∧ Srt R L2 a s ∧ Srt R L2 s mid ∧ Srt R L2 mid e ∧ Srt R L2 e b ∧ Vs L2 a s mid ∧ Vs L2 mid e b ∧ (∀ i j, a ≤ i → i < mid → mid ≤ j → j < b → R (at' L2 i) (at' L2 j)) by rw [hL2]; exact HQ2.out)
          clear hL2
          go_upto_region 41 with (fail)
          rcases (by omega : (a < s ∧ s < mid) ∨ ¬ a < s ∨ (a < s ∧ ¬ s < mid)) with hk | hk | hk
          · have k1 := hk.1
            have k2 := hk.2
            have HCq := Lib.hid (HIh.out a s mid L2 _ Ham.out.2.2.1 HS2.out k1 k2 Ham.out.2.2.2.2 HQ2.out.2.1 HQ2.out.2.2.1 HQ2.out.2.2.2.2.2.1)
            clear hk
            go_upto_region 43 with (go_at_call 85; (with_reducible refine HCq.out.mono ?_); rintro e' w6 ⟨rfl, L3, hS3, hM3, hR3⟩; have HS3 := Lib.hid hS3; have HM3 := Lib.hid hM3; have HR3 := Lib.hid hR3; clear hS3 hM3 hR3)
            have HB3 := Lib.hid (show Srt R L3 mid e ∧ Srt R L3 e b ∧ Vs L3 mid e b from ⟨HM3.out.srt_hi HQ2.out.2.2.2.1, HM3.out.srt_hi2 s4 HQ2.out.2.2.2.2.1, HM3.out.vs_hi HQ2.out.2.2.2.2.2.2.1⟩)
            rcases (by omega : (mid < e ∧ e < b) ∨ ¬ mid < e ∨ (mid < e ∧ ¬ e < b)) with hj | hj | hj
            · have j1 := hj.1
              have j2 := hj.2
              have HCr := Lib.hid (HIh.out mid e b L3 _ Ham.out.2.2.2.1 HS3.out j1 j2 hb HB3.out.1 HB3.out.2.1 HB3.out.2.2)
              clear hj
              go_wp2_with (go_at_call 85; (with_reducible refine HCr.out.mono ?_); rintro e' w7 ⟨rfl, L4, hS4, hM4, hR4⟩; have HS4 := Lib.hid hS4; have HM4 := Lib.hid hM4; have HR4 := Lib.hid hR4; clear hS4 hM4 hR4)
              go_end0
              have h9 := srt_join HQ2.out.2.2.2.2.2.2.2 HM3.out HM4.out HR3.out HR4.out Ham.out.1 Ham.out.2.1
              exact ⟨rfl, L4, HS4.out, HQ2.out.1.trans h9.1, h9.2⟩
            · have j1 := hj
              have HR4 := Lib.hid (show Srt R L3 mid b by have h9 := HB3.out.2.1; rwa [show e = mid by omega] at h9)
              clear hj
              go_wp2
              go_end0
              have h9 := srt_join HQ2.out.2.2.2.2.2.2.2 HM3.out (Mov.refl L3 mid b) HR3.out HR4.out Ham.out.1 Ham.out.2.1
              exact ⟨rfl, L3, HS3.out, HQ2.out.1.trans h9.1, h9.2⟩
            · have j1 := hj.1
              have j2 := hj.2
              have HR4 := Lib.hid (show Srt R L3 mid b by have h9 := HB3.out.1; rwa [show e = b by omega] at h9)
              clear hj
              go_wp2
              go_end0
              have h9 := srt_join HQ2.out.2.2.2.2.2.2.2 HM3.out (Mov.refl L3 mid b) HR3.out HR4.out Ham.out.1 Ham.out.2.1
              exact ⟨rfl, L3, HS3.out, HQ2.out.1.trans h9.1, h9.2⟩
          · have k1 := hk
            have HR3 := Lib.hid (show Srt R L2 a mid by have h9 := HQ2.out.2.2.1; rwa [show s = a by omega] at h9)
            have HM3 := Lib.hid (Mov.refl L2 a mid)
            have HS3 := HS2
            clear hk
            obtain ⟨L3, hL3⟩ : ∃ L3, L3 = L2 := ⟨_, rfl⟩
            have HR3 := Lib.hid (show Srt R L3 a mid by rw [hL3]; exact HR3.out)
            have HM3 := Lib.hid (show Mov L2 L3 a mid by rw [hL3]; exact HM3.out)
            rw [← hL3] at HS3
            clear hL3
            go_upto_region 43 with (fail)
            have HB3 := Lib.hid (show Srt R L3 mid e ∧ Srt R L3 e b ∧ Vs L3 mid e b from ⟨HM3.out.srt_hi HQ2.out.2.2.2.1, HM3.out.srt_hi2 s4 HQ2.out.2.2.2.2.1, HM3.out.vs_hi HQ2.out.2.2.2.2.2.2.1⟩)
            rcases (by omega : (mid < e ∧ e < b) ∨ ¬ mid < e ∨ (mid < e ∧ ¬ e < b)) with hj | hj | hj
            · have j1 := hj.1
              have j2 := hj.2
              have HCr := Lib.hid (HIh.out mid e b L3 _ Ham.out.2.2.2.1 HS3.out j1 j2 hb HB3.out.1 HB3.out.2.1 HB3.out.2.2)
              clear hj
              go_wp2_with (go_at_call 85; (with_reducible refine HCr.out.mono ?_); rintro e' w7 ⟨rfl, L4, hS4, hM4, hR4⟩; have HS4 := Lib.hid hS4; have HM4 := Lib.hid hM4; have HR4 := Lib.hid hR4; clear hS4 hM4 hR4)
              go_end0
              have h9 := srt_join HQ2.out.2.2.2.2.2.2.2 HM3.out HM4.out HR3.out HR4.out Ham.out.1 Ham.out.2.1
              exact ⟨rfl, L4, HS4.out, HQ2.out.1.trans h9.1, h9.2⟩
            · have j1 := hj
              have HR4 := Lib.hid (show Srt R L3 mid b by have h9 := HB3.out.2.1; rwa [show e = mid by omega] at h9)
              clear hj
              go_wp2
              go_end0
              have h9 := srt_join HQ2.out.2.2.2.2.2.2.2 HM3.out (Mov.refl L3 mid b) HR3.out HR4.out Ham.out.1 Ham.out.2.1
              exact ⟨rfl, L3, HS3.out, HQ2.out.1.trans h9.1, h9.2⟩
            · have j1 := hj.1
              have j2 := hj.2
              have HR4 := Lib.hid (show Srt R L3 mid b by have h9 := HB3.out.1; rwa [show e = b by omega] at h9)
              clear hj
              go_wp2
              go_end0
              have h9 := srt_join HQ2.out.2.2.2.2.2.2.2 HM3.out (Mov.refl L3 mid b) HR3.out HR4.out Ham.out.1 Ham.out.2.1
              exact ⟨rfl, L3, HS3.out, HQ2.out.1.trans h9.1, h9.2⟩
          · have k1 := hk.1
            have k2 := hk.2
            have HR3 := Lib.hid (show Srt R L2 a mid by have h9 := HQ2.out.2.1; rwa [show s = mid by omega] at h9)
            have HM3 := Lib.hid (Mov.refl L2 a mid)
            have HS3 := HS2
            clear hk
            obtain ⟨L3, hL3⟩ : ∃ L3, L3 = L2 := ⟨_, rfl⟩
            have HR3 := Lib.hid (show Srt R L3 a mid by rw [hL3]; exact HR3.out)
            have HM3 := Lib.hid (show Mov L2 L3 a mid by rw [hL3]; exact HM3.out)
            rw [← hL3] at HS3
            clear hL3
            go_upto_region 43 with (fail)
            have HB3 := Lib.hid (show Srt R L3 mid e ∧ Srt R L3 e b ∧ Vs L3 mid e b from ⟨HM3.out.srt_hi HQ2.out.2.2.2.1, HM3.out.srt_hi2 s4 HQ2.out.2.2.2.2.1, HM3.out.vs_hi HQ2.out.2.2.2.2.2.2.1⟩)
            rcases (by omega : (mid < e ∧ e < b) ∨ ¬ mid < e ∨ (mid < e ∧ ¬ e < b)) with hj | hj | hj
            · have j1 := hj.1
              have j2 := hj.2
              have HCr := Lib.hid (HIh.out mid e b L3 _ Ham.out.2.2.2.1 HS3.out j1 j2 hb HB3.out.1 HB3.out.2.1 HB3.out.2.2)
              clear hj
              go_wp2_with (go_at_call 85; (with_reducible refine HCr.out.mono ?_); rintro e' w7 ⟨rfl, L4, hS4, hM4, hR4⟩; have HS4 := Lib.hid hS4; have HM4 := Lib.hid hM4; have HR4 := Lib.hid hR4; clear hS4 hM4 hR4)
              go_end0
              have h9 := srt_join HQ2.out.2.2.2.2.2.2.2 HM3.out HM4.out HR3.out HR4.out Ham.out.1 Ham.out.2.1
              exact ⟨rfl, L4, HS4.out, HQ2.out.1.trans h9.1, h9.2⟩
            · have j1 := hj
              have HR4 := Lib.hid (show Srt R L3 mid b by have h9 := HB3.out.2.1; rwa [show e = mid by omega] at h9)
              clear hj
              go_wp2
              go_end0
              have h9 := srt_join HQ2.out.2.2.2.2.2.2.2 HM3.out (Mov.refl L3 mid b) HR3.out HR4.out Ham.out.1 Ham.out.2.1
              exact ⟨rfl, L3, HS3.out, HQ2.out.1.trans h9.1, h9.2⟩
            · have j1 := hj.1
              have j2 := hj.2
              have HR4 := Lib.hid (show Srt R L3 mid b by have h9 := HB3.out.1; rwa [show e = b by omega] at h9)
              clear hj
              go_wp2
              go_end0
              have h9 := srt_join HQ2.out.2.2.2.2.2.2.2 HM3.out (Mov.refl L3 mid b) HR3.out HR4.out Ham.out.1 Ham.out.2.1
              exact ⟨rfl, L3, HS3.out, HQ2.out.1.trans h9.1, h9.2⟩
  · obtain ⟨s0, hs0⟩ : ∃ s0, s0 = a := ⟨_, rfl⟩
    obtain ⟨r0, hr0⟩ : ∃ r0, r0 = m := ⟨_, rfl⟩
    have F1 : a ≤ s0 ∧ s0 ≤ r0 ∧ r0 ≤ m ∧ r0 ≤ mid ∧ m + r0 ≤ n ∧ n ≤ b + s0 ∧ (s0 = a ∨ n = b + s0) ∧ (r0 = m ∨ n = m + r0) := by omega
    have HF1 := Lib.hid F1
    have Hr0 := Lib.hid hr0
    have Hs0 := Lib.hid hs0
    clear hS hC hR hless h1 h2 hV hI hd0 hd1 hmid hn hp hs0 F1 hr0
    go_enter Tryz.func85, Tryz.ntmps85
    go_upto_region 33 with (fail)
    have HS0 := Lib.hid HS.out
    go_loopw [20, 21] (fun vs vr wr => ∃ s r : Nat, s0 ≤ s ∧ s ≤ r ∧ r ≤ r0 ∧ vs = .int .i64 s ∧ vr = .int .i64 r ∧ SRow B g N cap ok W L wr ∧ (s = s0 ∨ lessC cf (at' L (n - s)) (at' L (s - 1)) = false) ∧ (r = r0 ∨ lessC cf (at' L (n - 1 - r)) (at' L r) = true)) (fun vs vr _ => (intOf vr).toNat - (intOf vs).toNat)
    case atStart => exact ⟨s0, r0, Nat.le_refl _, HF1.out.2.1, Nat.le_refl _, (by first | rfl | rw [Hs0.out]), (by first | rfl | rw [Hr0.out]), HS.out, .inl rfl, .inl rfl⟩
    case round =>
      clear HS HS0
      obtain ⟨s, r, hs0, hsr, hr0, rfl, rfl, hS, hlo, hhi⟩ := hrel
      have HS := Lib.hid hS
      have HLo := Lib.hid hlo
      have HHi := Lib.hid hhi
      clear hS hlo hhi
      by_cases hlt : s < r
      · obtain ⟨c, hh⟩ : ∃ c, c = (s + r) / 2 := ⟨_, rfl⟩
        have hF := HF1.out
        have hn := Hn.out
        have hp := Hp.out
        have hmid := Hmid.out
        obtain ⟨w0, w1, w2⟩ := half_w hh (by omega)
        have hsc : s ≤ c := by omega
        have hcr : c < r := by omega
        have hcN : c < N := by omega
        obtain ⟨u, hu⟩ : ∃ u, u + c = p := ⟨p - c, by omega⟩
        have huN : u < N := by omega
        have w3 : IntKind.i64.wrap ((p : Int) - (c : Int)) = (u : Int) := by rw [IntKind.wrap_i64]; omega
        have Hu1 := Lib.hid (show n - (c + 1) = u by omega)
        have Hu2 := Lib.hid (show n - 1 - c = u by omega)
        have c0 := HS.out.cell (i := u) huN
        have c1 := HS.out.cell (i := c) hcN
        have okx := HS.out.at_ok (i := u) huN
        have oky := HS.out.at_ok (i := c) hcN
        have HCc := Lib.hid (fun V (hV : Only [g] W V) => HC.out.cmp _ _ V okx oky hV)
        have gl := HS.out.lt
        have HOn := Lib.hid HS.out.on
        have Hlx := Lib.hid (show lessC cf (at' L u) (at' L c) = decide (cf (at' L u) (at' L c) < 0) from rfl)
        obtain ⟨x, hxx⟩ : ∃ x, at' L u = x := ⟨_, rfl⟩
        obtain ⟨y, hyy⟩ : ∃ y, at' L c = y := ⟨_, rfl⟩
        have Hx := Lib.hid hxx
        have Hy := Lib.hid hyy
        rw [hxx] at c0 HCc Hlx
        rw [hyy] at c1 HCc Hlx
        obtain ⟨z, hz⟩ : ∃ c, cf x y = c := ⟨_, rfl⟩
        rw [hz] at HCc Hlx
        clear hh okx oky hxx hyy hz hu hF hn hp hmid
        go_wp2
        obtain ⟨Q, hQ⟩ : ∃ V, V = wr := ⟨_, rfl⟩
        subst hQ
        by_cases hc0 : z < 0
        · have hd0 : decide (z < 0) = true := decide_eq_true hc0
          have hcH := held_cell
          refine region_rel (by kernel_rfl) (by kernel_rfl) ?_
          repeat
            ((with_reducible refine relStep (fun K hK => ?_))
             (have HK := Lib.hid hK)
             clear hK
             (apply relInl
              · intro r n hf
                have Hf := Lib.hid hf
                clear hf
                (first
                  | (fail)
                  | (unfold relAt
                     go_simp
                     (first | (refine relUpon_val ?_ (Below.refl _ _); exact rfl) | exact rfl | (refine relUpon_enter ?_; ((with_reducible refine (HCc.out _ (HOn.out.step (n.below.mono HOn.out.size))).mono ?_); rintro e w9 ⟨rfl, hb⟩; exact ⟨⟨_, rfl, rfl⟩, hb⟩)))))
              (simp only [Act.put, List.setIfInBounds_toArray, List.set_cons_zero, List.set_cons_succ])
              (with_reducible refine HK.out _ _ ?_)
              clear HK K))
          refine relNil ?_
          intro r9 n9 hx9
          clear hcH
          (try simp only [List.nil_append, List.cons_append, List.mem_cons, List.not_mem_nil, or_false, forall_eq_or_imp, forall_eq, false_implies, implies_true] at hx9)
          obtain ⟨w9, hb9⟩ := n9
          (try dsimp only)
          obtain ⟨hc9, hf9⟩ := bcell hb9
          have hz9 := hb9.size
          (try simp at hz9)
          have HS9 := Lib.hid (HS.out.below hb9)
          go_wp2
          go_roundw
          case rel => exact ⟨s, c, hs0, hsc, by omega, rfl, rfl, HS9.out, HLo.out, .inr (by rw [Hu2.out, Hx.out, Hy.out, Hlx.out]; exact hd0)⟩
          case measure => simp [intOf]; omega
        · have hd0 : decide (z < 0) = false := decide_eq_false hc0
          have hcH := held_cell
          refine region_rel (by kernel_rfl) (by kernel_rfl) ?_
          repeat
            ((with_reducible refine relStep (fun K hK => ?_))
             (have HK := Lib.hid hK)
             clear hK
             (apply relInl
              · intro r n hf
                have Hf := Lib.hid hf
                clear hf
                (first
                  | (fail)
                  | (unfold relAt
                     go_simp
                     (first | (refine relUpon_val ?_ (Below.refl _ _); exact rfl) | exact rfl | (refine relUpon_enter ?_; ((with_reducible refine (HCc.out _ (HOn.out.step (n.below.mono HOn.out.size))).mono ?_); rintro e w9 ⟨rfl, hb⟩; exact ⟨⟨_, rfl, rfl⟩, hb⟩)))))
              (simp only [Act.put, List.setIfInBounds_toArray, List.set_cons_zero, List.set_cons_succ])
              (with_reducible refine HK.out _ _ ?_)
              clear HK K))
          refine relNil ?_
          intro r9 n9 hx9
          clear hcH
          (try simp only [List.nil_append, List.cons_append, List.mem_cons, List.not_mem_nil, or_false, forall_eq_or_imp, forall_eq, false_implies, implies_true] at hx9)
          obtain ⟨w9, hb9⟩ := n9
          (try dsimp only)
          obtain ⟨hc9, hf9⟩ := bcell hb9
          have hz9 := hb9.size
          (try simp at hz9)
          have HS9 := Lib.hid (HS.out.below hb9)
          go_wp2
          go_roundw
          case rel => exact ⟨c + 1, r, by omega, by omega, hr0, by go_num, rfl, HS9.out, .inr (by rw [Nat.add_sub_cancel, Hu1.out, Hx.out, Hy.out, Hlx.out]; exact hd0), HHi.out⟩
          case measure => simp [intOf]; omega
      · obtain rfl : s = r := by omega
        have hF := HF1.out
        have hn := Hn.out
        have hmid := Hmid.out
        obtain ⟨e, he⟩ : ∃ e, e + s = n := ⟨n - s, by omega⟩
        have e5 := wrap_sub he (by omega)
        have s1 : s ≤ m := by omega
        have s2 : s ≤ mid := by omega
        have s3 : m ≤ e := by omega
        have s4 : mid ≤ e := by omega
        have s5 : e ≤ b := by omega
        have sa : a ≤ s := by omega
        have hlo' : s = a ∨ e = b ∨ lessC cf (at' L e) (at' L (s - 1)) = false := by
          rcases HLo.out with h | h
          · rcases hF.2.2.2.2.2.2.1 with h9 | h9
            · exact .inl (by omega)
            · exact .inr (.inl (by omega))
          · rw [show n - s = e by omega] at h
            exact .inr (.inr h)
        have hhi' : s = m ∨ e = m ∨ lessC cf (at' L (e - 1)) (at' L s) = true := by
          rcases HHi.out with h | h
          · rcases hF.2.2.2.2.2.2.2 with h9 | h9
            · exact .inl (by omega)
            · exact .inr (.inl (by omega))
          · rw [show n - 1 - s = e - 1 by omega] at h
            exact .inr (.inr h)
        have HPt := Lib.hid (fun L' (hr : Rot L L' s m e) => sym_parts HRo.out HLs.out ham1 hmb1 hmid hn (by omega : e = n - s) H1.out H2.out HV.out sa s1 s2 s3 s4 s5 hlo' hhi' hr)
        have Ham := Lib.hid (show a ≤ mid ∧ mid ≤ b ∧ mid - a < b - a ∧ b - mid < b - a ∧ mid ≤ N by omega)
        clear hF hn hmid he hlo' hhi' HLo HHi
        rcases (by omega : (s < m ∧ m < e) ∨ ¬ s < m ∨ (s < m ∧ ¬ m < e)) with hg | hg | hg
        · have q1 := hg.1
          have q2 := hg.2
          clear hg
          go_upto_region 41 with (go_at_call 115; (with_reducible refine (rot_any B g N cap fn caps ok W s m e L wr HS.out q1 q2 (by omega) hN).mono ?_); rintro e' w5 ⟨rfl, L2, hS2, hR2⟩; have HS2 := Lib.hid hS2; have HQ2 := Lib.hid (HPt.out L2 hR2); clear hS2 hR2)
          rcases (by omega : (a < s ∧ s < mid) ∨ ¬ a < s ∨ (a < s ∧ ¬ s < mid)) with hk | hk | hk
          · have k1 := hk.1
            have k2 := hk.2
            have HCq := Lib.hid (HIh.out a s mid L2 _ Ham.out.2.2.1 HS2.out k1 k2 Ham.out.2.2.2.2 HQ2.out.2.1 HQ2.out.2.2.1 HQ2.out.2.2.2.2.2.1)
            clear hk
            go_upto_region 43 with (go_at_call 85; (with_reducible refine HCq.out.mono ?_); rintro e' w6 ⟨rfl, L3, hS3, hM3, hR3⟩; have HS3 := Lib.hid hS3; have HM3 := Lib.hid hM3; have HR3 := Lib.hid hR3; clear hS3 hM3 hR3)
            have HB3 := Lib.hid (show Srt R L3 mid e ∧ Srt R L3 e b ∧ Vs L3 mid e b from ⟨HM3.out.srt_hi HQ2.out.2.2.2.1, HM3.out.srt_hi2 s4 HQ2.out.2.2.2.2.1, HM3.out.vs_hi HQ2.out.2.2.2.2.2.2.1⟩)
            rcases (by omega : (mid < e ∧ e < b) ∨ ¬ mid < e ∨ (mid < e ∧ ¬ e < b)) with hj | hj | hj
            · have j1 := hj.1
              have j2 := hj.2
              have HCr := Lib.hid (HIh.out mid e b L3 _ Ham.out.2.2.2.1 HS3.out j1 j2 hb HB3.out.1 HB3.out.2.1 HB3.out.2.2)
              clear hj
              go_wp2_with (go_at_call 85; (with_reducible refine HCr.out.mono ?_); rintro e' w7 ⟨rfl, L4, hS4, hM4, hR4⟩; have HS4 := Lib.hid hS4; have HM4 := Lib.hid hM4; have HR4 := Lib.hid hR4; clear hS4 hM4 hR4)
              go_end0
              have h9 := srt_join HQ2.out.2.2.2.2.2.2.2 HM3.out HM4.out HR3.out HR4.out Ham.out.1 Ham.out.2.1
              exact ⟨rfl, L4, HS4.out, HQ2.out.1.trans h9.1, h9.2⟩
            · have j1 := hj
              have HR4 := Lib.hid (show Srt R L3 mid b by have h9 := HB3.out.2.1; rwa [show e = mid by omega] at h9)
              clear hj
              go_wp2
              go_end0
              have h9 := srt_join HQ2.out.2.2.2.2.2.2.2 HM3.out (Mov.refl L3 mid b) HR3.out HR4.out Ham.out.1 Ham.out.2.1
              exact ⟨rfl, L3, HS3.out, HQ2.out.1.trans h9.1, h9.2⟩
            · have j1 := hj.1
              have j2 := hj.2
              have HR4 := Lib.hid (show Srt R L3 mid b by have h9 := HB3.out.1; rwa [show e = b by omega] at h9)
              clear hj
              go_wp2
              go_end0
              have h9 := srt_join HQ2.out.2.2.2.2.2.2.2 HM3.out (Mov.refl L3 mid b) HR3.out HR4.out Ham.out.1 Ham.out.2.1
              exact ⟨rfl, L3, HS3.out, HQ2.out.1.trans h9.1, h9.2⟩
          · have k1 := hk
            have HR3 := Lib.hid (show Srt R L2 a mid by have h9 := HQ2.out.2.2.1; rwa [show s = a by omega] at h9)
            have HM3 := Lib.hid (Mov.refl L2 a mid)
            have HS3 := HS2
            clear hk
            obtain ⟨L3, hL3⟩ : ∃ L3, L3 = L2 := ⟨_, rfl⟩
            have HR3 := Lib.hid (show Srt R L3 a mid by rw [hL3]; exact HR3.out)
            have HM3 := Lib.hid (show Mov L2 L3 a mid by rw [hL3]; exact HM3.out)
            rw [← hL3] at HS3
            clear hL3
            go_upto_region 43 with (fail)
            have HB3 := Lib.hid (show Srt R L3 mid e ∧ Srt R L3 e b ∧ Vs L3 mid e b from ⟨HM3.out.srt_hi HQ2.out.2.2.2.1, HM3.out.srt_hi2 s4 HQ2.out.2.2.2.2.1, HM3.out.vs_hi HQ2.out.2.2.2.2.2.2.1⟩)
            rcases (by omega : (mid < e ∧ e < b) ∨ ¬ mid < e ∨ (mid < e ∧ ¬ e < b)) with hj | hj | hj
            · have j1 := hj.1
              have j2 := hj.2
              have HCr := Lib.hid (HIh.out mid e b L3 _ Ham.out.2.2.2.1 HS3.out j1 j2 hb HB3.out.1 HB3.out.2.1 HB3.out.2.2)
              clear hj
              go_wp2_with (go_at_call 85; (with_reducible refine HCr.out.mono ?_); rintro e' w7 ⟨rfl, L4, hS4, hM4, hR4⟩; have HS4 := Lib.hid hS4; have HM4 := Lib.hid hM4; have HR4 := Lib.hid hR4; clear hS4 hM4 hR4)
              go_end0
              have h9 := srt_join HQ2.out.2.2.2.2.2.2.2 HM3.out HM4.out HR3.out HR4.out Ham.out.1 Ham.out.2.1
              exact ⟨rfl, L4, HS4.out, HQ2.out.1.trans h9.1, h9.2⟩
            · have j1 := hj
              have HR4 := Lib.hid (show Srt R L3 mid b by have h9 := HB3.out.2.1; rwa [show e = mid by omega] at h9)
              clear hj
              go_wp2
              go_end0
              have h9 := srt_join HQ2.out.2.2.2.2.2.2.2 HM3.out (Mov.refl L3 mid b) HR3.out HR4.out Ham.out.1 Ham.out.2.1
              exact ⟨rfl, L3, HS3.out, HQ2.out.1.trans h9.1, h9.2⟩
            · have j1 := hj.1
              have j2 := hj.2
              have HR4 := Lib.hid (show Srt R L3 mid b by have h9 := HB3.out.1; rwa [show e = b by omega] at h9)
              clear hj
              go_wp2
              go_end0
              have h9 := srt_join HQ2.out.2.2.2.2.2.2.2 HM3.out (Mov.refl L3 mid b) HR3.out HR4.out Ham.out.1 Ham.out.2.1
              exact ⟨rfl, L3, HS3.out, HQ2.out.1.trans h9.1, h9.2⟩
          · have k1 := hk.1
            have k2 := hk.2
            have HR3 := Lib.hid (show Srt R L2 a mid by have h9 := HQ2.out.2.1; rwa [show s = mid by omega] at h9)
            have HM3 := Lib.hid (Mov.refl L2 a mid)
            have HS3 := HS2
            clear hk
            obtain ⟨L3, hL3⟩ : ∃ L3, L3 = L2 := ⟨_, rfl⟩
            have HR3 := Lib.hid (show Srt R L3 a mid by rw [hL3]; exact HR3.out)
            have HM3 := Lib.hid (show Mov L2 L3 a mid by rw [hL3]; exact HM3.out)
            rw [← hL3] at HS3
            clear hL3
            go_upto_region 43 with (fail)
            have HB3 := Lib.hid (show Srt R L3 mid e ∧ Srt R L3 e b ∧ Vs L3 mid e b from ⟨HM3.out.srt_hi HQ2.out.2.2.2.1, HM3.out.srt_hi2 s4 HQ2.out.2.2.2.2.1, HM3.out.vs_hi HQ2.out.2.2.2.2.2.2.1⟩)
            rcases (by omega : (mid < e ∧ e < b) ∨ ¬ mid < e ∨ (mid < e ∧ ¬ e < b)) with hj | hj | hj
            · have j1 := hj.1
              have j2 := hj.2
              have HCr := Lib.hid (HIh.out mid e b L3 _ Ham.out.2.2.2.1 HS3.out j1 j2 hb HB3.out.1 HB3.out.2.1 HB3.out.2.2)
              clear hj
              go_wp2_with (go_at_call 85; (with_reducible refine HCr.out.mono ?_); rintro e' w7 ⟨rfl, L4, hS4, hM4, hR4⟩; have HS4 := Lib.hid hS4; have HM4 := Lib.hid hM4; have HR4 := Lib.hid hR4; clear hS4 hM4 hR4)
              go_end0
              have h9 := srt_join HQ2.out.2.2.2.2.2.2.2 HM3.out HM4.out HR3.out HR4.out Ham.out.1 Ham.out.2.1
              exact ⟨rfl, L4, HS4.out, HQ2.out.1.trans h9.1, h9.2⟩
            · have j1 := hj
              have HR4 := Lib.hid (show Srt R L3 mid b by have h9 := HB3.out.2.1; rwa [show e = mid by omega] at h9)
              clear hj
              go_wp2
              go_end0
              have h9 := srt_join HQ2.out.2.2.2.2.2.2.2 HM3.out (Mov.refl L3 mid b) HR3.out HR4.out Ham.out.1 Ham.out.2.1
              exact ⟨rfl, L3, HS3.out, HQ2.out.1.trans h9.1, h9.2⟩
            · have j1 := hj.1
              have j2 := hj.2
              have HR4 := Lib.hid (show Srt R L3 mid b by have h9 := HB3.out.1; rwa [show e = b by omega] at h9)
              clear hj
              go_wp2
              go_end0
              have h9 := srt_join HQ2.out.2.2.2.2.2.2.2 HM3.out (Mov.refl L3 mid b) HR3.out HR4.out Ham.out.1 Ham.out.2.1
              exact ⟨rfl, L3, HS3.out, HQ2.out.1.trans h9.1, h9.2⟩
        · have q1 := hg
          have HS2 := HS
          have HQ2 := Lib.hid (HPt.out L (Rot.triv L (.inl (by omega)) s1 s3))
          clear hg
          obtain ⟨L2, hL2⟩ : ∃ L2, L2 = L := ⟨_, rfl⟩
          rw [← hL2] at HS2
          have HQ2 := Lib.hid (show Mov L L2 a b ∧ Srt R L2 a s ∧ Srt R L2 s mid ∧ Srt R L2 mid e ∧ Srt R L2 e b ∧ Vs L2 a s mid ∧ Vs L2 mid e b ∧ (∀ i j, a ≤ i → i < mid → mid ≤ j → j < b → R (at' L2 i) (at' L2 j)) by rw [hL2]; exact HQ2.out)
          clear hL2
          go_upto_region 41 with (fail)
          rcases (by omega : (a < s ∧ s < mid) ∨ ¬ a < s ∨ (a < s ∧ ¬ s < mid)) with hk | hk | hk
          · have k1 := hk.1
            have k2 := hk.2
            have HCq := Lib.hid (HIh.out a s mid L2 _ Ham.out.2.2.1 HS2.out k1 k2 Ham.out.2.2.2.2 HQ2.out.2.1 HQ2.out.2.2.1 HQ2.out.2.2.2.2.2.1)
            clear hk
            go_upto_region 43 with (go_at_call 85; (with_reducible refine HCq.out.mono ?_); rintro e' w6 ⟨rfl, L3, hS3, hM3, hR3⟩; have HS3 := Lib.hid hS3; have HM3 := Lib.hid hM3; have HR3 := Lib.hid hR3; clear hS3 hM3 hR3)
            have HB3 := Lib.hid (show Srt R L3 mid e ∧ Srt R L3 e b ∧ Vs L3 mid e b from ⟨HM3.out.srt_hi HQ2.out.2.2.2.1, HM3.out.srt_hi2 s4 HQ2.out.2.2.2.2.1, HM3.out.vs_hi HQ2.out.2.2.2.2.2.2.1⟩)
            rcases (by omega : (mid < e ∧ e < b) ∨ ¬ mid < e ∨ (mid < e ∧ ¬ e < b)) with hj | hj | hj
            · have j1 := hj.1
              have j2 := hj.2
              have HCr := Lib.hid (HIh.out mid e b L3 _ Ham.out.2.2.2.1 HS3.out j1 j2 hb HB3.out.1 HB3.out.2.1 HB3.out.2.2)
              clear hj
              go_wp2_with (go_at_call 85; (with_reducible refine HCr.out.mono ?_); rintro e' w7 ⟨rfl, L4, hS4, hM4, hR4⟩; have HS4 := Lib.hid hS4; have HM4 := Lib.hid hM4; have HR4 := Lib.hid hR4; clear hS4 hM4 hR4)
              go_end0
              have h9 := srt_join HQ2.out.2.2.2.2.2.2.2 HM3.out HM4.out HR3.out HR4.out Ham.out.1 Ham.out.2.1
              exact ⟨rfl, L4, HS4.out, HQ2.out.1.trans h9.1, h9.2⟩
            · have j1 := hj
              have HR4 := Lib.hid (show Srt R L3 mid b by have h9 := HB3.out.2.1; rwa [show e = mid by omega] at h9)
              clear hj
              go_wp2
              go_end0
              have h9 := srt_join HQ2.out.2.2.2.2.2.2.2 HM3.out (Mov.refl L3 mid b) HR3.out HR4.out Ham.out.1 Ham.out.2.1
              exact ⟨rfl, L3, HS3.out, HQ2.out.1.trans h9.1, h9.2⟩
            · have j1 := hj.1
              have j2 := hj.2
              have HR4 := Lib.hid (show Srt R L3 mid b by have h9 := HB3.out.1; rwa [show e = b by omega] at h9)
              clear hj
              go_wp2
              go_end0
              have h9 := srt_join HQ2.out.2.2.2.2.2.2.2 HM3.out (Mov.refl L3 mid b) HR3.out HR4.out Ham.out.1 Ham.out.2.1
              exact ⟨rfl, L3, HS3.out, HQ2.out.1.trans h9.1, h9.2⟩
          · have k1 := hk
            have HR3 := Lib.hid (show Srt R L2 a mid by have h9 := HQ2.out.2.2.1; rwa [show s = a by omega] at h9)
            have HM3 := Lib.hid (Mov.refl L2 a mid)
            have HS3 := HS2
            clear hk
            obtain ⟨L3, hL3⟩ : ∃ L3, L3 = L2 := ⟨_, rfl⟩
            have HR3 := Lib.hid (show Srt R L3 a mid by rw [hL3]; exact HR3.out)
            have HM3 := Lib.hid (show Mov L2 L3 a mid by rw [hL3]; exact HM3.out)
            rw [← hL3] at HS3
            clear hL3
            go_upto_region 43 with (fail)
            have HB3 := Lib.hid (show Srt R L3 mid e ∧ Srt R L3 e b ∧ Vs L3 mid e b from ⟨HM3.out.srt_hi HQ2.out.2.2.2.1, HM3.out.srt_hi2 s4 HQ2.out.2.2.2.2.1, HM3.out.vs_hi HQ2.out.2.2.2.2.2.2.1⟩)
            rcases (by omega : (mid < e ∧ e < b) ∨ ¬ mid < e ∨ (mid < e ∧ ¬ e < b)) with hj | hj | hj
            · have j1 := hj.1
              have j2 := hj.2
              have HCr := Lib.hid (HIh.out mid e b L3 _ Ham.out.2.2.2.1 HS3.out j1 j2 hb HB3.out.1 HB3.out.2.1 HB3.out.2.2)
              clear hj
              go_wp2_with (go_at_call 85; (with_reducible refine HCr.out.mono ?_); rintro e' w7 ⟨rfl, L4, hS4, hM4, hR4⟩; have HS4 := Lib.hid hS4; have HM4 := Lib.hid hM4; have HR4 := Lib.hid hR4; clear hS4 hM4 hR4)
              go_end0
              have h9 := srt_join HQ2.out.2.2.2.2.2.2.2 HM3.out HM4.out HR3.out HR4.out Ham.out.1 Ham.out.2.1
              exact ⟨rfl, L4, HS4.out, HQ2.out.1.trans h9.1, h9.2⟩
            · have j1 := hj
              have HR4 := Lib.hid (show Srt R L3 mid b by have h9 := HB3.out.2.1; rwa [show e = mid by omega] at h9)
              clear hj
              go_wp2
              go_end0
              have h9 := srt_join HQ2.out.2.2.2.2.2.2.2 HM3.out (Mov.refl L3 mid b) HR3.out HR4.out Ham.out.1 Ham.out.2.1
              exact ⟨rfl, L3, HS3.out, HQ2.out.1.trans h9.1, h9.2⟩
            · have j1 := hj.1
              have j2 := hj.2
              have HR4 := Lib.hid (show Srt R L3 mid b by have h9 := HB3.out.1; rwa [show e = b by omega] at h9)
              clear hj
              go_wp2
              go_end0
              have h9 := srt_join HQ2.out.2.2.2.2.2.2.2 HM3.out (Mov.refl L3 mid b) HR3.out HR4.out Ham.out.1 Ham.out.2.1
              exact ⟨rfl, L3, HS3.out, HQ2.out.1.trans h9.1, h9.2⟩
          · have k1 := hk.1
            have k2 := hk.2
            have HR3 := Lib.hid (show Srt R L2 a mid by have h9 := HQ2.out.2.1; rwa [show s = mid by omega] at h9)
            have HM3 := Lib.hid (Mov.refl L2 a mid)
            have HS3 := HS2
            clear hk
            obtain ⟨L3, hL3⟩ : ∃ L3, L3 = L2 := ⟨_, rfl⟩
            have HR3 := Lib.hid (show Srt R L3 a mid by rw [hL3]; exact HR3.out)
            have HM3 := Lib.hid (show Mov L2 L3 a mid by rw [hL3]; exact HM3.out)
            rw [← hL3] at HS3
            clear hL3
            go_upto_region 43 with (fail)
            have HB3 := Lib.hid (show Srt R L3 mid e ∧ Srt R L3 e b ∧ Vs L3 mid e b from ⟨HM3.out.srt_hi HQ2.out.2.2.2.1, HM3.out.srt_hi2 s4 HQ2.out.2.2.2.2.1, HM3.out.vs_hi HQ2.out.2.2.2.2.2.2.1⟩)
            rcases (by omega : (mid < e ∧ e < b) ∨ ¬ mid < e ∨ (mid < e ∧ ¬ e < b)) with hj | hj | hj
            · have j1 := hj.1
              have j2 := hj.2
              have HCr := Lib.hid (HIh.out mid e b L3 _ Ham.out.2.2.2.1 HS3.out j1 j2 hb HB3.out.1 HB3.out.2.1 HB3.out.2.2)
              clear hj
              go_wp2_with (go_at_call 85; (with_reducible refine HCr.out.mono ?_); rintro e' w7 ⟨rfl, L4, hS4, hM4, hR4⟩; have HS4 := Lib.hid hS4; have HM4 := Lib.hid hM4; have HR4 := Lib.hid hR4; clear hS4 hM4 hR4)
              go_end0
              have h9 := srt_join HQ2.out.2.2.2.2.2.2.2 HM3.out HM4.out HR3.out HR4.out Ham.out.1 Ham.out.2.1
              exact ⟨rfl, L4, HS4.out, HQ2.out.1.trans h9.1, h9.2⟩
            · have j1 := hj
              have HR4 := Lib.hid (show Srt R L3 mid b by have h9 := HB3.out.2.1; rwa [show e = mid by omega] at h9)
              clear hj
              go_wp2
              go_end0
              have h9 := srt_join HQ2.out.2.2.2.2.2.2.2 HM3.out (Mov.refl L3 mid b) HR3.out HR4.out Ham.out.1 Ham.out.2.1
              exact ⟨rfl, L3, HS3.out, HQ2.out.1.trans h9.1, h9.2⟩
            · have j1 := hj.1
              have j2 := hj.2
              have HR4 := Lib.hid (show Srt R L3 mid b by have h9 := HB3.out.1; rwa [show e = b by omega] at h9)
              clear hj
              go_wp2
              go_end0
              have h9 := srt_join HQ2.out.2.2.2.2.2.2.2 HM3.out (Mov.refl L3 mid b) HR3.out HR4.out Ham.out.1 Ham.out.2.1
              exact ⟨rfl, L3, HS3.out, HQ2.out.1.trans h9.1, h9.2⟩
        · have q1 := hg.1
          have q2 := hg.2
          have HS2 := HS
          have HQ2 := Lib.hid (HPt.out L (Rot.triv L (.inr (by omega)) s1 s3))
          clear hg
          obtain ⟨L2, hL2⟩ : ∃ L2, L2 = L := ⟨_, rfl⟩
          rw [← hL2] at HS2
          have HQ2 := Lib.hid (show Mov L L2 a b ∧ Srt R L2 a s ∧ Srt R L2 s mid ∧ Srt R L2 mid e ∧ Srt R L2 e b ∧ Vs L2 a s mid ∧ Vs L2 mid e b ∧ (∀ i j, a ≤ i → i < mid → mid ≤ j → j < b → R (at' L2 i) (at' L2 j)) by rw [hL2]; exact HQ2.out)
          clear hL2
          go_upto_region 41 with (fail)
          rcases (by omega : (a < s ∧ s < mid) ∨ ¬ a < s ∨ (a < s ∧ ¬ s < mid)) with hk | hk | hk
          · have k1 := hk.1
            have k2 := hk.2
            have HCq := Lib.hid (HIh.out a s mid L2 _ Ham.out.2.2.1 HS2.out k1 k2 Ham.out.2.2.2.2 HQ2.out.2.1 HQ2.out.2.2.1 HQ2.out.2.2.2.2.2.1)
            clear hk
            go_upto_region 43 with (go_at_call 85; (with_reducible refine HCq.out.mono ?_); rintro e' w6 ⟨rfl, L3, hS3, hM3, hR3⟩; have HS3 := Lib.hid hS3; have HM3 := Lib.hid hM3; have HR3 := Lib.hid hR3; clear hS3 hM3 hR3)
            have HB3 := Lib.hid (show Srt R L3 mid e ∧ Srt R L3 e b ∧ Vs L3 mid e b from ⟨HM3.out.srt_hi HQ2.out.2.2.2.1, HM3.out.srt_hi2 s4 HQ2.out.2.2.2.2.1, HM3.out.vs_hi HQ2.out.2.2.2.2.2.2.1⟩)
            rcases (by omega : (mid < e ∧ e < b) ∨ ¬ mid < e ∨ (mid < e ∧ ¬ e < b)) with hj | hj | hj
            · have j1 := hj.1
              have j2 := hj.2
              have HCr := Lib.hid (HIh.out mid e b L3 _ Ham.out.2.2.2.1 HS3.out j1 j2 hb HB3.out.1 HB3.out.2.1 HB3.out.2.2)
              clear hj
              go_wp2_with (go_at_call 85; (with_reducible refine HCr.out.mono ?_); rintro e' w7 ⟨rfl, L4, hS4, hM4, hR4⟩; have HS4 := Lib.hid hS4; have HM4 := Lib.hid hM4; have HR4 := Lib.hid hR4; clear hS4 hM4 hR4)
              go_end0
              have h9 := srt_join HQ2.out.2.2.2.2.2.2.2 HM3.out HM4.out HR3.out HR4.out Ham.out.1 Ham.out.2.1
              exact ⟨rfl, L4, HS4.out, HQ2.out.1.trans h9.1, h9.2⟩
            · have j1 := hj
              have HR4 := Lib.hid (show Srt R L3 mid b by have h9 := HB3.out.2.1; rwa [show e = mid by omega] at h9)
              clear hj
              go_wp2
              go_end0
              have h9 := srt_join HQ2.out.2.2.2.2.2.2.2 HM3.out (Mov.refl L3 mid b) HR3.out HR4.out Ham.out.1 Ham.out.2.1
              exact ⟨rfl, L3, HS3.out, HQ2.out.1.trans h9.1, h9.2⟩
            · have j1 := hj.1
              have j2 := hj.2
              have HR4 := Lib.hid (show Srt R L3 mid b by have h9 := HB3.out.1; rwa [show e = b by omega] at h9)
              clear hj
              go_wp2
              go_end0
              have h9 := srt_join HQ2.out.2.2.2.2.2.2.2 HM3.out (Mov.refl L3 mid b) HR3.out HR4.out Ham.out.1 Ham.out.2.1
              exact ⟨rfl, L3, HS3.out, HQ2.out.1.trans h9.1, h9.2⟩
          · have k1 := hk
            have HR3 := Lib.hid (show Srt R L2 a mid by have h9 := HQ2.out.2.2.1; rwa [show s = a by omega] at h9)
            have HM3 := Lib.hid (Mov.refl L2 a mid)
            have HS3 := HS2
            clear hk
            obtain ⟨L3, hL3⟩ : ∃ L3, L3 = L2 := ⟨_, rfl⟩
            have HR3 := Lib.hid (show Srt R L3 a mid by rw [hL3]; exact HR3.out)
            have HM3 := Lib.hid (show Mov L2 L3 a mid by rw [hL3]; exact HM3.out)
            rw [← hL3] at HS3
            clear hL3
            go_upto_region 43 with (fail)
            have HB3 := Lib.hid (show Srt R L3 mid e ∧ Srt R L3 e b ∧ Vs L3 mid e b from ⟨HM3.out.srt_hi HQ2.out.2.2.2.1, HM3.out.srt_hi2 s4 HQ2.out.2.2.2.2.1, HM3.out.vs_hi HQ2.out.2.2.2.2.2.2.1⟩)
            rcases (by omega : (mid < e ∧ e < b) ∨ ¬ mid < e ∨ (mid < e ∧ ¬ e < b)) with hj | hj | hj
            · have j1 := hj.1
              have j2 := hj.2
              have HCr := Lib.hid (HIh.out mid e b L3 _ Ham.out.2.2.2.1 HS3.out j1 j2 hb HB3.out.1 HB3.out.2.1 HB3.out.2.2)
              clear hj
              go_wp2_with (go_at_call 85; (with_reducible refine HCr.out.mono ?_); rintro e' w7 ⟨rfl, L4, hS4, hM4, hR4⟩; have HS4 := Lib.hid hS4; have HM4 := Lib.hid hM4; have HR4 := Lib.hid hR4; clear hS4 hM4 hR4)
              go_end0
              have h9 := srt_join HQ2.out.2.2.2.2.2.2.2 HM3.out HM4.out HR3.out HR4.out Ham.out.1 Ham.out.2.1
              exact ⟨rfl, L4, HS4.out, HQ2.out.1.trans h9.1, h9.2⟩
            · have j1 := hj
              have HR4 := Lib.hid (show Srt R L3 mid b by have h9 := HB3.out.2.1; rwa [show e = mid by omega] at h9)
              clear hj
              go_wp2
              go_end0
              have h9 := srt_join HQ2.out.2.2.2.2.2.2.2 HM3.out (Mov.refl L3 mid b) HR3.out HR4.out Ham.out.1 Ham.out.2.1
              exact ⟨rfl, L3, HS3.out, HQ2.out.1.trans h9.1, h9.2⟩
            · have j1 := hj.1
              have j2 := hj.2
              have HR4 := Lib.hid (show Srt R L3 mid b by have h9 := HB3.out.1; rwa [show e = b by omega] at h9)
              clear hj
              go_wp2
              go_end0
              have h9 := srt_join HQ2.out.2.2.2.2.2.2.2 HM3.out (Mov.refl L3 mid b) HR3.out HR4.out Ham.out.1 Ham.out.2.1
              exact ⟨rfl, L3, HS3.out, HQ2.out.1.trans h9.1, h9.2⟩
          · have k1 := hk.1
            have k2 := hk.2
            have HR3 := Lib.hid (show Srt R L2 a mid by have h9 := HQ2.out.2.1; rwa [show s = mid by omega] at h9)
            have HM3 := Lib.hid (Mov.refl L2 a mid)
            have HS3 := HS2
            clear hk
            obtain ⟨L3, hL3⟩ : ∃ L3, L3 = L2 := ⟨_, rfl⟩
            have HR3 := Lib.hid (show Srt R L3 a mid by rw [hL3]; exact HR3.out)
            have HM3 := Lib.hid (show Mov L2 L3 a mid by rw [hL3]; exact HM3.out)
            rw [← hL3] at HS3
            clear hL3
            go_upto_region 43 with (fail)
            have HB3 := Lib.hid (show Srt R L3 mid e ∧ Srt R L3 e b ∧ Vs L3 mid e b from ⟨HM3.out.srt_hi HQ2.out.2.2.2.1, HM3.out.srt_hi2 s4 HQ2.out.2.2.2.2.1, HM3.out.vs_hi HQ2.out.2.2.2.2.2.2.1⟩)
            rcases (by omega : (mid < e ∧ e < b) ∨ ¬ mid < e ∨ (mid < e ∧ ¬ e < b)) with hj | hj | hj
            · have j1 := hj.1
              have j2 := hj.2
              have HCr := Lib.hid (HIh.out mid e b L3 _ Ham.out.2.2.2.1 HS3.out j1 j2 hb HB3.out.1 HB3.out.2.1 HB3.out.2.2)
              clear hj
              go_wp2_with (go_at_call 85; (with_reducible refine HCr.out.mono ?_); rintro e' w7 ⟨rfl, L4, hS4, hM4, hR4⟩; have HS4 := Lib.hid hS4; have HM4 := Lib.hid hM4; have HR4 := Lib.hid hR4; clear hS4 hM4 hR4)
              go_end0
              have h9 := srt_join HQ2.out.2.2.2.2.2.2.2 HM3.out HM4.out HR3.out HR4.out Ham.out.1 Ham.out.2.1
              exact ⟨rfl, L4, HS4.out, HQ2.out.1.trans h9.1, h9.2⟩
            · have j1 := hj
              have HR4 := Lib.hid (show Srt R L3 mid b by have h9 := HB3.out.2.1; rwa [show e = mid by omega] at h9)
              clear hj
              go_wp2
              go_end0
              have h9 := srt_join HQ2.out.2.2.2.2.2.2.2 HM3.out (Mov.refl L3 mid b) HR3.out HR4.out Ham.out.1 Ham.out.2.1
              exact ⟨rfl, L3, HS3.out, HQ2.out.1.trans h9.1, h9.2⟩
            · have j1 := hj.1
              have j2 := hj.2
              have HR4 := Lib.hid (show Srt R L3 mid b by have h9 := HB3.out.1; rwa [show e = b by omega] at h9)
              clear hj
              go_wp2
              go_end0
              have h9 := srt_join HQ2.out.2.2.2.2.2.2.2 HM3.out (Mov.refl L3 mid b) HR3.out HR4.out Ham.out.1 Ham.out.2.1
              exact ⟨rfl, L3, HS3.out, HQ2.out.1.trans h9.1, h9.2⟩
end Go.Proofs.YtdfadbpepmkicaaGreat
namespace Go.Proofs.YtdfadbpepmkicaaGreat
open Go.RowKit
set_option linter.unusedVariables false
set_option linter.unusedSimpArgs false
theorem Mov.srt_lo2 {R : Int → Int → Prop} {L L' : List Int} {a b b' c : Nat} (h : Mov L L' b c) (hb : b' ≤ b) (hs : Srt R L a b') : Srt R L' a b' := fun i j i1 ij j1 => by
  rw [h.out i (by omega), h.out j (by omega)]
  exact hs i j i1 ij j1
theorem Mov.vs_lo {L L' : List Int} {a m b c : Nat} (h : Mov L L' b c) (hs : Vs L a m b) : Vs L' a m b := fun i j i1 i2 j1 j2 => by
  rw [h.out i (by omega), h.out j (by omega)]
  exact hs i j i1 i2 j1 j2
theorem SymAll.mono {R : Int → Int → Prop} {B g N cap fn : Nat} {caps : Array Value} {ok : Int → Prop} {W : World} {d d' : Nat} (h : SymAll R B g N cap fn caps ok W d) (hd : d' ≤ d) : SymAll R B g N cap fn caps ok W d' :=
  fun a m b L V hb => h a m b L V (by omega)
theorem sym_all {R : Int → Int → Prop} (hR : TOrd R) (cf : Int → Int → Int) (hless : ∀ x y, x < y → (lessC cf y x = true ↔ R y x)) (B g N cap fn : Nat) (caps : Array Value) (ok : Int → Prop) (W : World) (hC : CmpAt g fn caps ok cf W) (hN : N ≤ 1000000) : ∀ d, SymAll R B g N cap fn caps ok W d
  | 0 => fun a m b L V hb => absurd hb (Nat.not_lt_zero _)
  | d + 1 => fun a m b L V hb hS ham hmb hbN h1 h2 hV => by
    by_cases e1 : m = a + 1
    · exact sym_one hR cf hless B g N cap fn caps ok W hC a m b L V hS e1 hmb hbN hN h2 hV
    · by_cases e2 : b = m + 1
      · exact sym_two hR cf hless B g N cap fn caps ok W hC a m b L V hS (by omega) e2 hbN hN h1 hV
      · exact sym_gen hR cf hless B g N cap fn caps ok W hC a m b L V hS (by omega) (by omega) hbN hN h1 h2 hV ((sym_all hR cf hless B g N cap fn caps ok W hC hN d).mono (by omega))
def SortOf (R : Int → Int → Prop) (B g N cap : Nat) (ok : Int → Prop) (W : World) (L : List Int) : Ending → World → Prop :=
  fun e w' => e = .returned (.tuple #[]) ∧ ∃ L', SRow B g N cap ok W L' w' ∧ L'.Perm L ∧ Srt R L' 0 N
set_option maxRecDepth 100000 in
set_option maxHeartbeats 16000000 in
theorem stab_any {R : Int → Int → Prop} (hR : TOrd R) (cf : Int → Int → Int) (hless : ∀ x y, x < y → (lessC cf y x = true ↔ R y x)) (B g N cap fn : Nat) (caps : Array Value) (ok : Int → Prop) (W : World) (hC : CmpAt g fn caps ok cf W) (L : List Int) (V : World) (hS : SRow B g N cap ok W L V) (hN : N ≤ 40)
    (hasc : ∀ i j, i < j → j < N → at' L i < at' L j) :
    Calls Tryz.prog 51 #[.slice (some ⟨g, 0, none⟩) N cap, .int .i64 (N : Nat), .func (.func fn) #[] caps] V (SortOf R B g N cap ok W L) := by
  have HS := Lib.hid hS
  have HIn := Lib.hid (fun a b L V hS hab hb hasc => ins_any hR cf hless B g N cap fn caps ok W hC a b L V hS hab hb (by omega) hasc)
  have HSy := Lib.hid (fun a m b L V hS ham hmb hb h1 h2 hV => sym_all hR cf hless B g N cap fn caps ok W hC (by omega) (b - a + 1) a m b L V (Nat.lt_succ_self _) hS ham hmb hb h1 h2 hV)
  have HA := Lib.hid hasc
  clear hS hC hR hless hasc
  by_cases h20 : N < 20
  · have HC1 := Lib.hid (show Calls Tryz.prog 84 #[.slice (some ⟨g, 0, none⟩) N cap, .int .i64 0, .int .i64 (N : Nat), .func (.func fn) #[] caps] V _ from HIn.out 0 N L V HS.out (Nat.zero_le _) (Nat.le_refl _) (fun i j _ h1 h2 => HA.out i j h1 h2))
    have q1 : ¬ (20 : Int) ≤ (N : Int) := by omega
    have q2 : ¬ (20 : Int) < (N : Int) := by omega
    have q3 : ¬ 20 ≤ N := by omega
    have q4 : ¬ 20 < N := by omega
    go_enter Tryz.func51, Tryz.ntmps51
    go_wp2
    refine wp_loop_rounds 1 ?_
    rw [rounds_succ]
    go_wp2_with (go_at_call 84; (with_reducible refine HC1.out.mono ?_); rintro e w1 ⟨rfl, L1, hS1, hM1, hR1⟩; have HS1 := Lib.hid hS1; have HM1 := Lib.hid hM1; have HR1 := Lib.hid hR1; clear hS1 hM1 hR1)
    refine wp_loop_rounds 1 ?_
    rw [rounds_succ]
    go_wp2
    go_end0
    exact ⟨rfl, L1, HS1.out, HM1.out.pm, HR1.out⟩
  · have HC1 := Lib.hid (show Calls Tryz.prog 84 #[.slice (some ⟨g, 0, none⟩) N cap, .int .i64 0, .int .i64 20, .func (.func fn) #[] caps] V _ from HIn.out 0 20 L V HS.out (Nat.zero_le _) (by omega) (fun i j _ h1 h2 => HA.out i j h1 (by omega)))
    have q1 : (20 : Int) ≤ (N : Int) := by omega
    have q3 : 20 ≤ N := by omega
    by_cases h40 : N < 40
    · have q5 : ¬ (40 : Int) ≤ (N : Int) := by omega
      have q6 : ¬ 40 ≤ N := by omega
      by_cases hgt : 20 < N
      · have q7 : (20 : Int) < (N : Int) := by omega
        have q8 : ¬ (40 : Int) < (N : Int) := by omega
        have q9 : ¬ 40 < N := by omega
        go_enter Tryz.func51, Tryz.ntmps51
        go_wp2
        refine wp_loop_rounds 2 ?_
        rw [rounds_succ]
        go_upto_region 4 with (go_at_call 84; (with_reducible refine HC1.out.mono ?_); rintro e w1 ⟨rfl, L1, hS1, hM1, hR1⟩; have HS1 := Lib.hid hS1; have HM1 := Lib.hid hM1; have HR1 := Lib.hid hR1; clear hS1 hM1 hR1)
        have HC2 := Lib.hid (show Calls Tryz.prog 84 #[.slice (some ⟨g, 0, none⟩) N cap, .int .i64 20, .int .i64 (N : Nat), .func (.func fn) #[] caps] w1 _ from HIn.out 20 N L1 w1 HS1.out q3 (Nat.le_refl _) (fun i j h0 h1 h2 => by rw [HM1.out.out i (.inr h0), HM1.out.out j (.inr (by omega))]; exact HA.out i j h1 h2))
        go_wp2
        rw [rounds_succ]
        go_upto_region 7 with (go_at_call 84; (with_reducible refine HC2.out.mono ?_); rintro e w2 ⟨rfl, L2, hS2, hM2, hR2⟩; have HS2 := Lib.hid hS2; have HM2 := Lib.hid hM2; have HR2 := Lib.hid hR2; clear hS2 hM2 hR2)
        have hV2 : Vs L2 0 20 N := vs_two HA.out HM1.out HM2.out
        have HC3 := Lib.hid (show Calls Tryz.prog 85 #[.slice (some ⟨g, 0, none⟩) N cap, .int .i64 0, .int .i64 20, .int .i64 (N : Nat), .func (.func fn) #[] caps] w2 _ from HSy.out 0 20 N L2 w2 HS2.out (by decide) hgt (Nat.le_refl _) (HM2.out.srt_lo HR1.out) HR2.out hV2)
        clear hV2
        go_wp2
        refine wp_loop_rounds 2 ?_
        rw [rounds_succ]
        go_wp2
        refine wp_loop_rounds 1 ?_
        rw [rounds_succ]
        go_wp2_with (go_at_call 85; (with_reducible refine HC3.out.mono ?_); rintro e w3 ⟨rfl, L3, hS3, hM3, hR3⟩; have HS3 := Lib.hid hS3; have HM3 := Lib.hid hM3; have HR3 := Lib.hid hR3; clear hS3 hM3 hR3)
        rw [rounds_succ]
        go_wp2
        go_end0
        exact ⟨rfl, L3, HS3.out, (HM3.out.pm.trans HM2.out.pm).trans HM1.out.pm, HR3.out⟩
      · have hN20 : N = 20 := by omega
        have q7 : ¬ (20 : Int) < (N : Int) := by omega
        have HN20 := Lib.hid hN20
        clear hN20
        go_enter Tryz.func51, Tryz.ntmps51
        go_wp2
        refine wp_loop_rounds 2 ?_
        rw [rounds_succ]
        go_upto_region 4 with (go_at_call 84; (with_reducible refine HC1.out.mono ?_); rintro e w1 ⟨rfl, L1, hS1, hM1, hR1⟩; have HS1 := Lib.hid hS1; have HM1 := Lib.hid hM1; have HR1 := Lib.hid hR1; clear hS1 hM1 hR1)
        have HC2 := Lib.hid (show Calls Tryz.prog 84 #[.slice (some ⟨g, 0, none⟩) N cap, .int .i64 20, .int .i64 (N : Nat), .func (.func fn) #[] caps] w1 _ from HIn.out 20 N L1 w1 HS1.out q3 (Nat.le_refl _) (fun i j h0 h1 h2 => by rw [HM1.out.out i (.inr h0), HM1.out.out j (.inr (by omega))]; exact HA.out i j h1 h2))
        go_wp2
        rw [rounds_succ]
        go_upto_region 7 with (go_at_call 84; (with_reducible refine HC2.out.mono ?_); rintro e w2 ⟨rfl, L2, hS2, hM2, hR2⟩; have HS2 := Lib.hid hS2; have HM2 := Lib.hid hM2; have HR2 := Lib.hid hR2; clear hS2 hM2 hR2)
        go_wp2
        refine wp_loop_rounds 1 ?_
        rw [rounds_succ]
        go_wp2
        go_end0
        exact ⟨rfl, L2, HS2.out, HM2.out.pm.trans HM1.out.pm, by rw [HN20.out]; exact HM2.out.srt_lo HR1.out⟩
    · have hN40 : N = 40 := by omega
      have HN40 := Lib.hid hN40
      have q5 : (40 : Int) ≤ (N : Int) := by omega
      have q6 : 40 ≤ N := by omega
      have q7 : (20 : Int) < (N : Int) := by omega
      have q8 : ¬ (40 : Int) < (N : Int) := by omega
      have qa : ¬ (60 : Int) ≤ (N : Int) := by omega
      have qb : ¬ (80 : Int) ≤ (N : Int) := by omega
      have qc : ¬ (60 : Int) < (N : Int) := by omega
      have hgt : 20 < N := by omega
      clear hN40
      go_enter Tryz.func51, Tryz.ntmps51
      go_wp2
      refine wp_loop_rounds 3 ?_
      rw [rounds_succ]
      go_upto_region 4 with (go_at_call 84; (with_reducible refine HC1.out.mono ?_); rintro e w1 ⟨rfl, L1, hS1, hM1, hR1⟩; have HS1 := Lib.hid hS1; have HM1 := Lib.hid hM1; have HR1 := Lib.hid hR1; clear hS1 hM1 hR1)
      have HC2 := Lib.hid (show Calls Tryz.prog 84 #[.slice (some ⟨g, 0, none⟩) N cap, .int .i64 20, .int .i64 40, .func (.func fn) #[] caps] w1 _ from HIn.out 20 40 L1 w1 HS1.out (by decide) q6 (fun i j h0 h1 h2 => by rw [HM1.out.out i (.inr h0), HM1.out.out j (.inr (by omega))]; exact HA.out i j h1 (by omega)))
      go_wp2
      rw [rounds_succ]
      go_upto_region 4 with (go_at_call 84; (with_reducible refine HC2.out.mono ?_); rintro e w2 ⟨rfl, L2, hS2, hM2, hR2⟩; have HS2 := Lib.hid hS2; have HM2 := Lib.hid hM2; have HR2 := Lib.hid hR2; clear hS2 hM2 hR2)
      have HC3 := Lib.hid (show Calls Tryz.prog 84 #[.slice (some ⟨g, 0, none⟩) N cap, .int .i64 40, .int .i64 (N : Nat), .func (.func fn) #[] caps] w2 _ from HIn.out 40 N L2 w2 HS2.out q6 (Nat.le_refl _) (fun i j h0 h1 h2 => by have := HN40.out; omega))
      go_wp2
      rw [rounds_succ]
      go_upto_region 7 with (go_at_call 84; (with_reducible refine HC3.out.mono ?_); rintro e w3 ⟨rfl, L3, hS3, hM3, hR3⟩; have HS3 := Lib.hid hS3; have HM3 := Lib.hid hM3; clear hS3 hM3 hR3)
      have hV2 : Vs L2 0 20 40 := vs_two (fun i j h1 h2 => HA.out i j h1 (by have := HN40.out; omega)) HM1.out HM2.out
      have HC4 := Lib.hid (show Calls Tryz.prog 85 #[.slice (some ⟨g, 0, none⟩) N cap, .int .i64 0, .int .i64 20, .int .i64 40, .func (.func fn) #[] caps] w3 _ from HSy.out 0 20 40 L3 w3 HS3.out (by decide) (by decide) q6 (HM3.out.srt_lo2 (by decide) (HM2.out.srt_lo HR1.out)) (HM3.out.srt_lo HR2.out) (HM3.out.vs_lo hV2))
      clear hV2
      go_wp2
      refine wp_loop_rounds 2 ?_
      rw [rounds_succ]
      go_wp2
      refine wp_loop_rounds 2 ?_
      rw [rounds_succ]
      go_wp2_with (go_at_call 85; (with_reducible refine HC4.out.mono ?_); rintro e w4 ⟨rfl, L4, hS4, hM4, hR4⟩; have HS4 := Lib.hid hS4; have HM4 := Lib.hid hM4; have HR4 := Lib.hid hR4; clear hS4 hM4 hR4)
      rw [rounds_succ]
      go_wp2
      rw [rounds_succ]
      go_wp2
      go_end0
      exact ⟨rfl, L4, HS4.out, ((HM4.out.pm.trans HM3.out.pm).trans HM2.out.pm).trans HM1.out.pm, by rw [HN40.out]; exact HR4.out⟩
end Go.Proofs.YtdfadbpepmkicaaGreat
namespace Go.Proofs.YtdfadbpepmkicaaGreat
set_option linter.unusedVariables false
set_option linter.unusedSimpArgs false
def pend (bs : List Bd) (k : Nat) : List Int := ((List.range k).filter fun i => decide (bs[i]?.map Bd.on = some emp)).map Int.ofNat
theorem pend_next (bs : List Bd) (k : Nat) (b : Bd) (h : bs[k]? = some b) : pend bs (k + 1) = pend bs k ++ if b.on = emp then [(k : Int)] else [] := by
  unfold pend
  rw [List.range_succ, List.filter_append, List.map_append]
  congr 1
  by_cases e : b.on = emp
  · simp [h, e]
  · simp [h, e]
theorem pend_lt {bs : List Bd} {k : Nat} {x : Int} (h : x ∈ pend bs k) : ∃ n : Nat, x = (n : Int) ∧ n < k ∧ ∃ b, bs[n]? = some b ∧ b.on = emp := by
  obtain ⟨n, hn, rfl⟩ := List.mem_map.1 h
  have h2 := List.mem_filter.1 hn
  have h3 := of_decide_eq_true h2.2
  cases hb : bs[n]? with
  | none => rw [hb] at h3; cases h3
  | some b =>
    rw [hb] at h3
    exact ⟨n, rfl, List.mem_range.1 h2.1, b, hb, Option.some.inj h3⟩
theorem pend_asc (bs : List Bd) (k : Nat) : (pend bs k).Pairwise (· < ·) := by
  unfold pend
  rw [List.pairwise_map]
  refine List.Pairwise.filter _ (List.Pairwise.imp (fun {a b} h => ?_) List.pairwise_lt_range)
  show (a : Int) < (b : Int)
  omega
theorem pend_len (bs : List Bd) (k : Nat) : (pend bs k).length ≤ k := by
  unfold pend
  rw [List.length_map]
  exact Nat.le_trans (List.length_filter_le _ _) (by simp)
def rkB (bs : List Bd) (x : Int) : Int := (bs[x.toNat]?.map fun b => b.p.rk).getD 0
theorem rkB_at {bs : List Bd} {n : Nat} {b : Bd} (h : bs[n]? = some b) : rkB bs (n : Int) = b.p.rk := by
  unfold rkB
  simp [h]
def ahB (bs : List Bd) (x y : Int) : Prop := rkB bs y < rkB bs x ∨ (rkB bs y = rkB bs x ∧ x < y)
def lessK (bs : List Bd) (x y : Int) : Bool := decide (rkB bs y < rkB bs x)
theorem ahB_ord (bs : List Bd) : TOrd (ahB bs) := ⟨fun {x y z} h k => by unfold ahB at *; omega, fun {x y} h k => by unfold ahB at *; omega, fun {x y} h => by unfold ahB; omega⟩
theorem ahB_less (bs : List Bd) : ∀ x y, x < y → (lessK bs y x = true ↔ ahB bs y x) := fun x y h => by
  unfold lessK ahB
  rw [decide_eq_true_iff]
  omega
def insO (bs : List Bd) (x : Int) : List Int → List Int
  | [] => [x]
  | y :: l => if rkB bs x ≤ rkB bs y then y :: insO bs x l else x :: y :: l
theorem insO_perm (bs : List Bd) (x : Int) : ∀ l, (insO bs x l).Perm (x :: l)
  | [] => List.Perm.refl _
  | y :: l => by
    unfold insO
    split
    · exact ((insO_perm bs x l).cons y).trans (List.Perm.swap _ _ _)
    · exact List.Perm.refl _
theorem insO_sorted (bs : List Bd) (x : Int) : ∀ l, l.Pairwise (ahB bs) → (∀ y ∈ l, y < x) → (insO bs x l).Pairwise (ahB bs)
  | [], _, _ => by unfold insO; simp
  | y :: l, h, hx => by
    have h2 := List.pairwise_cons.1 h
    have hyx := hx y List.mem_cons_self
    unfold insO
    split
    · rename_i hr
      refine List.pairwise_cons.2 ⟨fun z hz => ?_, insO_sorted bs x l h2.2 fun z hz => hx z (List.mem_cons_of_mem _ hz)⟩
      rcases List.mem_cons.1 ((insO_perm bs x l).mem_iff.1 hz) with rfl | hz
      · unfold ahB; omega
      · exact h2.1 z hz
    · rename_i hr
      have hxy : ahB bs x y := by unfold ahB; omega
      refine List.pairwise_cons.2 ⟨fun z hz => ?_, h⟩
      rcases List.mem_cons.1 hz with rfl | hz
      · exact hxy
      · exact (ahB_ord bs).tr hxy (h2.1 z hz)
def ordB (bs : List Bd) (k : Nat) : List Int := (pend bs k).foldl (fun acc x => insO bs x acc) []
theorem fold_ins (bs : List Bd) : ∀ (l acc : List Int), acc.Pairwise (ahB bs) → (∀ y ∈ acc, ∀ x ∈ l, y < x) → l.Pairwise (· < ·) → (l.foldl (fun acc x => insO bs x acc) acc).Pairwise (ahB bs) ∧ (l.foldl (fun acc x => insO bs x acc) acc).Perm (acc ++ l)
  | [], acc, h, _, _ => by simpa using h
  | x :: l, acc, h, hx, hl => by
    have hl2 := List.pairwise_cons.1 hl
    have h3 := fold_ins bs l (insO bs x acc) (insO_sorted bs x acc h fun y hy => hx y hy x List.mem_cons_self) (fun y hy z hz => by
      rcases List.mem_cons.1 ((insO_perm bs x acc).mem_iff.1 hy) with rfl | hy
      · exact hl2.1 z hz
      · exact hx y hy z (List.mem_cons_of_mem _ hz)) hl2.2
    refine ⟨h3.1, h3.2.trans ?_⟩
    exact ((insO_perm bs x acc).append_right l).trans (by rw [List.cons_append]; exact List.perm_middle.symm)
theorem ordB_ok (bs : List Bd) (k : Nat) : (ordB bs k).Pairwise (ahB bs) ∧ (ordB bs k).Perm (pend bs k) := by
  have h := fold_ins bs (pend bs k) [] List.Pairwise.nil (fun y hy => by cases hy) (pend_asc bs k)
  rwa [List.nil_append] at h
end Go.Proofs.YtdfadbpepmkicaaGreat
namespace Go.Proofs.YtdfadbpepmkicaaGreat
open Go.RowKit
set_option linter.unusedVariables false
set_option linter.unusedSimpArgs false
theorem findN_le : ∀ (l : List ByteArray) (x : ByteArray) (i k : Nat), l[i]? = some x → (k : Int) ≤ findN l x k ∧ findN l x k ≤ k + i
  | [], x, i, k, h => by simp at h
  | y :: l, x, 0, k, h => by
    obtain rfl : y = x := by simpa using h
    unfold findN
    rw [if_pos rfl]
    omega
  | y :: l, x, i + 1, k, h => by
    have h9 := findN_le l x i (k + 1) (by simpa using h)
    unfold findN
    split <;> omega
theorem find_once {N : List ByteArray} (h : twiceN N = false) {i : Nat} {x : ByteArray} (hx : N[i]? = some x) : findN N x 0 = i := by
  unfold twiceN at h
  rw [List.any_eq_false] at h
  obtain ⟨hi, hv⟩ := List.getElem?_eq_some_iff.1 hx
  have h1 := h i (List.mem_range.2 hi)
  have h2 : N.getD i emp = x := by rw [List.getD_eq_getElem?_getD, hx]; rfl
  rw [h2] at h1
  have h3 := (findN_le N x i 0 hx).2
  simp only [decide_eq_true_eq] at h1
  omega
end Go.Proofs.YtdfadbpepmkicaaGreat
namespace Go.Proofs.YtdfadbpepmkicaaGreat
open Go.RowKit
set_option linter.unusedVariables false
set_option linter.unusedSimpArgs false
def cmpI (x y : Int) : Int := if x < y then -1 else if y < x then 1 else 0
set_option maxRecDepth 100000 in
set_option maxHeartbeats 2000000 in
theorem nan_any (x : Int) (w : World) : Calls Tryz.prog 52 #[.int .i64 x] w fun e w' => e = .returned (.bool false) ∧ w' = w := by
  go_enter Tryz.func52, Tryz.ntmps52
  go_wp2
  go_ret
  exact ⟨by simp, rfl⟩
set_option maxRecDepth 100000 in
set_option maxHeartbeats 2000000 in
theorem compare_any (x y : Int) (w : World) : Calls Tryz.prog 31 #[.int .i64 x, .int .i64 y] w fun e w' => e = .returned (.int .i64 (cmpI x y)) ∧ w' = w := by
  unfold cmpI
  by_cases h1 : x < y
  · rw [if_pos h1]
    go_enter Tryz.func31, Tryz.ntmps31
    go_wp2_with (go_at_call 52; (with_reducible refine (nan_any _ _).mono ?_); rintro e w1 ⟨rfl, rfl⟩)
    go_ret
    exact ⟨rfl, rfl⟩
  · rw [if_neg h1]
    by_cases h2 : y < x
    · rw [if_pos h2]
      go_enter Tryz.func31, Tryz.ntmps31
      go_wp2_with (go_at_call 52; (with_reducible refine (nan_any _ _).mono ?_); rintro e w1 ⟨rfl, rfl⟩)
      go_ret
      exact ⟨rfl, rfl⟩
    · rw [if_neg h2]
      go_enter Tryz.func31, Tryz.ntmps31
      go_wp2_with (go_at_call 52; (with_reducible refine (nan_any _ _).mono ?_); rintro e w1 ⟨rfl, rfl⟩)
      go_ret
      exact ⟨rfl, rfl⟩
def okB2 (bs : List Bd) (x : Int) : Prop := ∃ n : Nat, x = (n : Int) ∧ n < bs.length
def cfB (bs : List Bd) (x y : Int) : Int := cmpI (rkB bs y) (rkB bs x)
theorem cfB_less (bs : List Bd) : ∀ x y, x < y → (lessC (cfB bs) y x = true ↔ ahB bs y x) := fun x y h => by
  rw [← ahB_less bs x y h]
  unfold lessC cfB cmpI lessK
  rw [decide_eq_true_iff, decide_eq_true_iff]
  split
  · constructor <;> intro _ <;> first | assumption | decide
  · split <;> constructor <;> intro h2 <;> omega
set_option maxRecDepth 100000 in
set_option maxHeartbeats 4000000 in
theorem ordcmp_any (c : Option Addr) (kc bx : Nat) (bs : List Bd) (i j : Nat) (w : World) (hF : BndL w c bs) (hX : Blk w bx 23 [.slice c bs.length kc]) (hi : i < bs.length) (hj : j < bs.length) (hl : bs.length ≤ 1000) :
    Calls Tryz.prog 30 #[.int .i64 (i : Nat), .int .i64 (j : Nat), .pointer (some ⟨bx, 0, none⟩)] w fun e w' => e = .returned (.int .i64 (cfB bs i j)) ∧ Below w.heap.size w w' := by
  obtain ⟨p, hp⟩ := mem_at (l := bs) (k := i) hi
  obtain ⟨r, hr⟩ := mem_at (l := bs) (k := j) hj
  obtain ⟨b, o, rfl, hb, hc⟩ := hF (by omega)
  unfold cfB
  rw [rkB_at hp, rkB_at hr]
  have c0 : w.cell? ⟨b, o + i * 21 + 15, none⟩ = some (.int .i64 p.p.rk) := (hc i p hp 15 (by decide)).trans rfl
  have c1 : w.cell? ⟨b, o + j * 21 + 15, none⟩ = some (.int .i64 r.p.rk) := (hc j r hr 15 (by decide)).trans rfl
  have d0 := hX.cell 0
  have dl := hX.lt
  dsimp only [List.getElem?_cons_zero] at d0
  obtain ⟨N, hN⟩ : ∃ N, bs.length = N := ⟨_, rfl⟩
  rw [hN] at d0 hi hj hl
  obtain ⟨x, hx⟩ : ∃ x, p.p.rk = x := ⟨_, rfl⟩
  obtain ⟨y, hy⟩ : ∃ x, r.p.rk = x := ⟨_, rfl⟩
  rw [hx] at c0
  rw [hy] at c1
  rw [hx, hy]
  clear hF hX hc hN hp hr hx hy
  go_enter Tryz.func30, Tryz.ntmps30
  go_wp2
  have hcH := held_cell
  refine region_rel (by kernel_rfl) (by kernel_rfl) ?_
  repeat
    ((with_reducible refine relStep (fun K hK => ?_))
     (have HK := Lib.hid hK)
     clear hK
     (apply relInl
      · intro r n hf
        have Hf := Lib.hid hf
        clear hf
        (first
          | (fail)
          | (unfold relAt
             go_simp
             (first | (refine relUpon_val ?_ (Below.refl _ _); exact rfl) | exact rfl | (refine relUpon_enter ?_; ((with_reducible refine (compare_any _ _ _).mono ?_); rintro e w9 ⟨rfl, rfl⟩; exact ⟨⟨_, rfl, rfl⟩, Below.refl _ _⟩)))))
      (simp only [Act.put, List.setIfInBounds_toArray, List.set_cons_zero, List.set_cons_succ])
      (with_reducible refine HK.out _ _ ?_)
      clear HK K))
  refine relNil ?_
  intro r9 n9 hx9
  clear hcH
  (try simp only [List.nil_append, List.cons_append, List.mem_cons, List.not_mem_nil, or_false, forall_eq_or_imp, forall_eq, false_implies, implies_true] at hx9)
  obtain ⟨w9, hb9⟩ := n9
  (try dsimp only)
  obtain ⟨hc9, hf9⟩ := bcell hb9
  have hz9 := hb9.size
  (try simp at hz9)
  go_wp2
  go_ret
  exact ⟨rfl, hb9⟩
set_option maxRecDepth 100000 in
set_option maxHeartbeats 4000000 in
theorem stab_nil (fn : Nat) (caps : Array Value) (V : World) :
    Calls Tryz.prog 51 #[.slice none 0 0, .int .i64 0, .func (.func fn) #[] caps] V fun e w' => e = .returned (.tuple #[]) ∧ Below V.heap.size V w' := by
  have HI := Lib.hid (fun V => show Calls Tryz.prog 84 #[.slice none 0 0, .int .i64 0, .int .i64 0, .func (.func fn) #[] caps] V fun e w' => e = .returned (.tuple #[]) ∧ Below V.heap.size V w' by
    go_enter Tryz.func84, Tryz.ntmps84
    go_wp2
    refine wp_loop_rounds 1 ?_
    rw [rounds_succ]
    go_wp2
    go_end0
    exact ⟨rfl, Below.refl _ _⟩)
  go_enter Tryz.func51, Tryz.ntmps51
  go_wp2
  refine wp_loop_rounds 1 ?_
  rw [rounds_succ]
  go_wp2_with (go_at_call 84; (with_reducible refine (HI.out _).mono ?_); rintro e w1 ⟨rfl, hb⟩; have HB := Lib.hid hb; clear hb)
  refine wp_loop_rounds 1 ?_
  rw [rounds_succ]
  go_wp2
  go_end0
  exact ⟨rfl, HB.out⟩
theorem ne_empB {y : ByteArray} (h : ¬ y = emp) : y.toList.isEmpty = false := by
  rw [← Bool.not_eq_true]
  intro hh
  refine h ((str_inj _ _).1 ?_)
  have h3 : y.toList = [] := by simpa using hh
  rw [h3]
  simp [emp]
def icl (x : Int) : List Value := [.int .i64 x]
theorem icl_flat (g : List Int) : g.flatMap icl = g.map (Value.int .i64) := by unfold icl; simp [List.flatMap_singleton', ← List.map_eq_flatMap]
set_option maxRecDepth 100000 in
set_option maxHeartbeats 4000000 in
theorem sortst_nil (fn : Nat) (caps : Array Value) (V : World) :
    Calls Tryz.prog 29 #[.slice none 0 0, .func (.func fn) #[] caps] V fun e w' => e = .returned (.tuple #[]) ∧ Below V.heap.size V w' := by
  go_enter Tryz.func29, Tryz.ntmps29
  go_wp2_with (go_at_call 51; (with_reducible refine (stab_nil fn caps _).mono ?_); rintro e w1 ⟨rfl, hb⟩; have HB := Lib.hid hb; clear hb)
  go_end0
  exact ⟨rfl, HB.out⟩
set_option maxRecDepth 100000 in
set_option maxHeartbeats 4000000 in
theorem sortst_any {R : Int → Int → Prop} (hR : TOrd R) (cf : Int → Int → Int) (hless : ∀ x y, x < y → (lessC cf y x = true ↔ R y x)) (B g N cap fn : Nat) (caps : Array Value) (ok : Int → Prop) (W : World) (hC : CmpAt g fn caps ok cf W) (L : List Int) (V : World) (hS : SRow B g N cap ok W L V) (hN : N ≤ 40)
    (hasc : ∀ i j, i < j → j < N → at' L i < at' L j) :
    Calls Tryz.prog 29 #[.slice (some ⟨g, 0, none⟩) N cap, .func (.func fn) #[] caps] V (SortOf R B g N cap ok W L) := by
  have HSt := Lib.hid (stab_any hR cf hless B g N cap fn caps ok W hC L V hS hN hasc)
  clear hS hC hR hless hasc
  go_enter Tryz.func29, Tryz.ntmps29
  go_wp2_with (go_at_call 51; (with_reducible refine HSt.out.mono ?_); rintro e w1 ⟨rfl, L1, hS1, hp, hs⟩; have HS1 := Lib.hid hS1; have HPp := Lib.hid hp; have HSs := Lib.hid hs; clear hS1 hp hs)
  go_end0
  exact ⟨rfl, L1, HS1.out, HPp.out, HSs.out⟩
set_option maxRecDepth 100000 in
set_option maxHeartbeats 8000000 in
theorem sorder_any (c : Option Addr) (kc : Nat) (bs : List Bd) (w : World) (hF : BndL w c bs) (hl : bs.length ≤ 40) :
    Calls Tryz.prog 12 #[.slice c bs.length kc] w fun e w' => (∃ v, e = .returned v ∧ OwnL icl 1 w.heap.size 3 (ordB bs bs.length) v w') ∧ Below w.heap.size w w' := by
  have HCm := Lib.hid (fun bx i j V (hV : Below w.heap.size w V) hX hi hj => ordcmp_any c kc bx bs i j V (hF.mono hV) hX hi hj (by omega))
  have HP := Lib.hid (fun (k : Nat) (b : Bd) (h : bs[k]? = some b) => pend_next bs k b h)
  obtain ⟨N, hN⟩ : ∃ N, bs.length = N := ⟨_, rfl⟩
  have HNn := Lib.hid hN
  obtain ⟨W, hW⟩ : ∃ W, W = w.alloc (.cells #[.slice c bs.length kc] 23) := ⟨_, rfl⟩
  have HX := Lib.hid (show Blk W w.heap.size 23 [.slice c bs.length kc] by rw [hW]; exact Blk.new w 23 _)
  have HB := Lib.hid (show Below w.heap.size w W by rw [hW]; exact (Below.refl _ _).alloc (Nat.le_refl _) _)
  have HF := Lib.hid hF
  rw [hN] at hW HX hl ⊢
  obtain ⟨i0, hi, hz0, hz1, hz2⟩ := info_parts Tryz.info3
  have Hi := Lib.hid hi
  have Hz0 := Lib.hid hz0
  have Hz1 := Lib.hid hz1
  have Hz2 := Lib.hid hz2
  clear hF hN hi hz0 hz1 hz2
  go_enter Tryz.func12, Tryz.ntmps12
  go_upto_region 1 with (fail)
  rw [← hW]
  clear hW
  have d0 := HX.out.cell 0
  have dl := HX.out.lt
  dsimp only [List.getElem?_cons_zero] at d0
  go_wp2
  clear d0 dl
  have hWz : w.heap.size ≤ W.heap.size := HB.out.size
  have HO0 := Lib.hid (show W.ownsRow W.heap.size 3 1 (.slice none 0 0) (pend bs 0).length ((pend bs 0).map (Value.int .i64)) from World.ownsRow_nil _ _ _ _)
  go_loopw [3, 7] (fun vo vi wr => ∃ k : Nat, k ≤ N ∧ vi = .int .i64 k ∧ wr.ownsRow W.heap.size 3 1 vo (pend bs k).length ((pend bs k).map (Value.int .i64)) ∧ Below W.heap.size W wr) (fun _ vi _ => N - (intOf vi).toNat)
  case atStart => exact ⟨0, Nat.zero_le _, rfl, HO0.out, Below.refl _ _⟩
  case round =>
    clear HO0
    obtain ⟨k, hk, rfl, hO, hB⟩ := hrel
    obtain ⟨ao, ko, rfl⟩ := own_sl hO
    obtain ⟨m, hm⟩ : ∃ m, (pend bs k).length = m := ⟨_, rfl⟩
    have hmk : m ≤ 40 := by rw [← hm]; exact Nat.le_trans (pend_len bs k) (by omega)
    rw [hm] at hO ⊢
    have HX9 := Lib.hid (HX.out.below hB)
    have HB9 := Lib.hid (HB.out.trans (hB.mono hWz))
    have HO := Lib.hid hO
    have HBw := Lib.hid hB
    have hbz := hB.size
    have Hm := Lib.hid hm
    clear hO hB hm
    have d0 := HX9.out.cell 0
    have dl := HX9.out.lt
    dsimp only [List.getElem?_cons_zero] at d0
    by_cases hlt : k < N
    · obtain ⟨p, hp⟩ := mem_at (l := bs) (k := k) (by rw [HNn.out]; exact hlt)
      obtain ⟨b, o, rfl, hb, hc⟩ := (HF.out.mono HB9.out) (by rw [HNn.out]; omega)
      have c0 : wr.cell? ⟨b, o + k * 21 + 20, none⟩ = some (.string p.on) := (hc k p hp 20 (by decide)).trans rfl
      have hnx := HP.out k p hp
      obtain ⟨y, hy⟩ : ∃ y, p.on = y := ⟨_, rfl⟩
      rw [hy] at c0 hnx
      have HNx := Lib.hid hnx
      clear hc hp hnx hy
      by_cases he : y = emp
      · have q1 : y.toList.isEmpty = true := by rw [he]; simp [emp]
        have HNy := Lib.hid (show pend bs (k + 1) = pend bs k ++ [(k : Int)] by rw [HNx.out, if_pos he])
        clear he
        obtain ⟨V, hVw⟩ : ∃ V, V = wr := ⟨_, rfl⟩
        subst hVw
        go_wp2_with (at_builtin; refine wpList_append_src rfl (.tmp 16) (.tmp 18) 30 rfl W.heap.size 3 i0 _ 1 8 Tryz.underlying30 Hi.out Hz0.out Hz1.out Hz2.out rfl (by decide) _ m ((pend bs k).map (Value.int .i64)) rfl (HO.out.alloc _) (some ⟨V.heap.size, 0, none⟩) 1 1 [.int .i64 (k : Nat)] rfl rfl (fun q e => by injection e with e; rw [← e]; exact news_at _ _ _) (fun e => by cases e) (ints_oneCell .i64 [((k : Nat) : Int)]) (by unfold maxLen; omega) (by omega) (le_alloc hbz _) ?_; intro v6 w6 hown6 hgrow6; obtain ⟨a6, k6, rfl⟩ := own_sl hown6; have HB6 := Lib.hid (own_below (HO.out.alloc _) (HBw.out.alloc hbz _) (le_alloc hbz _) hgrow6); have HO6 := Lib.hid hown6; clear hown6 hgrow6)
        go_roundw
        case rel => exact ⟨k + 1, by omega, by go_num, by rw [HNy.out, List.length_append, List.map_append, Hm.out]; exact HO6.out, HB6.out⟩
        case measure => simp [intOf]; omega
      · have q1 := ne_empB he
        have HNy := Lib.hid (show pend bs (k + 1) = pend bs k by rw [HNx.out, if_neg he, List.append_nil])
        clear he
        go_wp2
        go_roundw
        case rel => exact ⟨k + 1, by omega, by go_num, by rw [HNy.out, Hm.out]; exact HO.out, HBw.out⟩
        case measure => simp [intOf]; omega
    · obtain rfl : k = N := by omega
      have hord := ordB_ok bs k
      clear d0 dl
      rcases HO.out.2 with ⟨hv, hm0⟩ | ⟨g, cap, cur, hv, hgb, hg, hmc, hcm, hcs, htk⟩
      · subst hm0
        injection hv with hv1 hv2 hv3
        subst hv1 hv3
        have hP0 : pend bs k = [] := List.eq_nil_of_length_eq_zero Hm.out
        rw [hP0] at hord
        have hO0 : ordB bs k = [] := List.perm_nil.1 hord.2
        have HSn := Lib.hid (fun V => sortst_nil 30 #[.pointer (some ⟨w.heap.size, 0, none⟩)] V)
        have HO0 := Lib.hid hO0
        clear hord hP0 hO0
        go_wp2_with (go_at_call 29; (with_reducible refine (HSn.out _).mono ?_); rintro e w7 ⟨rfl, hb⟩; have HB7 := Lib.hid (HB9.out.trans (hb.mono HB9.out.size)); clear hb)
        go_ret
        exact ⟨⟨_, rfl, by rw [HO0.out]; exact World.ownsRow_nil _ _ _ _⟩, HB7.out⟩
      · injection hv with hv1 hv2 hv3
        subst hv1 hv3
        have HR := Lib.hid (show SRow W.heap.size g m ko (okB2 bs) wr (pend bs k) wr from ⟨HO.out, Only.refl _ _, fun x hx => by
          obtain ⟨n, e, hn, _⟩ := pend_lt hx
          exact ⟨n, e, by rw [HNn.out]; exact hn⟩⟩)
        have hgw : w.heap.size ≤ g := Nat.le_trans hWz hgb
        have hgx : w.heap.size ≠ g := by
          have h9 := HX.out.lt
          omega
        have HCp := Lib.hid (show CmpAt g 30 #[.pointer (some ⟨w.heap.size, 0, none⟩)] (okB2 bs) (cfB bs) wr from ⟨enters_of Tryz.func30 (by kernel_rfl) rfl, fun x y V hx hy hOn => by
          obtain ⟨i, rfl, hi⟩ := hx
          obtain ⟨j, rfl, hj⟩ := hy
          exact HCm.out w.heap.size i j V (hOn.below HB9.out HB9.out.size (fun q hq => by rw [List.mem_singleton] at hq; omega)) (by rw [HNn.out]; exact HX9.out.only hOn (by rw [List.mem_singleton]; exact hgx)) hi hj⟩)
        have HSt := Lib.hid (sortst_any (ahB_ord bs) (cfB bs) (cfB_less bs) W.heap.size g m ko 30 #[.pointer (some ⟨w.heap.size, 0, none⟩)] (okB2 bs) wr HCp.out (pend bs k) wr HR.out hmk (fun i j hij hj => by
          have h9 := List.pairwise_iff_getElem.1 (pend_asc bs k) i j (by rw [Hm.out]; omega) (by rw [Hm.out]; exact hj) hij
          rw [at_lt (by rw [Hm.out]; omega), at_lt (by rw [Hm.out]; exact hj)]
          exact h9))
        have Hord := Lib.hid hord
        have Hgw := Lib.hid hgw
        clear hord hg hmc hcm hcs htk hv2 hgx
        go_wp2_with (go_at_call 29; (with_reducible refine HSt.out.mono ?_); rintro e w7 ⟨rfl, L', hS', hp', hs'⟩; have HS' := Lib.hid hS'; have HPp := Lib.hid hp'; have HSs := Lib.hid hs'; clear hS' hp' hs')
        have hL : L' = ordB bs k := sorted_unique (ahB_ord bs) (HPp.out.trans Hord.out.2.symm) (srt_pair (by rw [HS'.out.len]; exact HSs.out)) Hord.out.1
        have hI := HS'.out.ow
        rw [hL, ← icl_flat] at hI
        have hlen : (ordB bs k).length = m := by rw [← hL]; exact HS'.out.len
        go_ret
        refine ⟨⟨_, rfl, OwnL.mono (base := W.heap.size) (by unfold OwnL; rw [hlen]; exact hI) HB.out.size⟩, HS'.out.on.below HB9.out HB9.out.size (fun q hq => by rw [List.mem_singleton] at hq; have := Hgw.out; omega)⟩
end Go.Proofs.YtdfadbpepmkicaaGreat
