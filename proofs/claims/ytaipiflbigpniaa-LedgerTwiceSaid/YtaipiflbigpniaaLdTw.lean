/-
  LedgerTwice: the same list of instances in every tick.
-/
import Derived.Test.YtaipiflbigpniaaLdT0
import Derived.Test.YtaipiflbigpniaaLd8
import Derived.Test.YtaipiflbigpniaaLd9
import Derived.Test.YtaipiflbigpniaaLdL
import Derived.Test.YtaipiflbigpniaaLdO
import Derived.Test.YtaipiflbigpniaaFrame
namespace Go.Proofs.Ytaipiflbigpniaa
open Go.ChangeShapes Go.WideShapes Go.ChangeAt Go.RowKit
set_option linter.unusedVariables false
set_option linter.unusedSimpArgs false
namespace ledgerTwice

theorem pr_of_right {l : List Gp} (h : rightGs l = true) : ∀ g ∈ l, 0 ≤ g.pr ∧ g.pr ≤ 1125899906842624 := fun g hg => by
  obtain ⟨k, hk⟩ := List.getElem?_of_mem hg
  have hok : okG l k = true := by
    cases e : okG l k with
    | true => rfl
    | false =>
      rw [rightGs_bad (lt_at hk) e] at h
      cases h
  rw [okG_at hk, Bool.and_eq_true, Bool.and_eq_true] at hok
  have h1 := hok.1.1
  unfold rightG inB at h1
  simp only [Bool.and_eq_true, decide_eq_true_eq] at h1
  obtain ⟨h1, _⟩ := h1
  have := h1
  simp only [and_assoc] at this
  omega

theorem own_base3 {w : World} {B B' : Nat} {e : TypeId} {k n : Nat} {v : Value} {xs : List Value} (h : w.ownsRow B e k v n xs) (hB : B' ≤ B) : w.ownsRow B' e k v n xs := by
  refine ⟨h.1, ?_⟩
  rcases h.2 with h | ⟨g, cap, cur, e1, h2, h3⟩
  · exact .inl h
  · exact .inr ⟨g, cap, cur, e1, Nat.le_trans hB h2, h3⟩
/-- The table i ticks on, in a world of the law's. -/
structure TT (w0 w : World) (b : Nat) (A : List Ac) (v : Value) (tk : Int) : Prop where
  t : LT w w0.heap.size b A v tk
  bl : Below w0.heap.size w0 w
theorem TT.below {w0 w w' : World} {b : Nat} {A : List Ac} {v : Value} {tk : Int} (h : TT w0 w b A v tk) (hb : Below w.heap.size w w') : TT w0 w' b A v tk := ⟨h.t.below hb, h.bl.trans (hb.mono h.bl.size)⟩
theorem TT.own {w0 w : World} {b : Nat} {A : List Ac} {v : Value} {tk : Int} (h : TT w0 w b A v tk) : ∀ k ∈ b :: v.ownBlock.toList, w0.heap.size ≤ k ∧ k < w.heap.size := fun k hk => by
  rcases List.mem_cons.1 hk with rfl | hk
  · exact ⟨h.t.hb, h.t.row.lt⟩
  · exact own_lt h.t.own (by simpa using hk)
theorem TT.add {w0 w : World} {b : Nat} {A : List Ac} {v : Value} {tk : Int} (h : TT w0 w b A v tk) (c : Option Addr) (kc : Nat) (L : List Ins) (hC : InsL w0 c L) (hL : L.length ≤ 60) (hg : ∀ y ∈ L, y.gp.size ≤ maxLen) (hA : A.length ≤ 20) (ht0 : 0 ≤ tk) (ht1 : tk ≤ 20) (hn : ∀ x ∈ A, x.nm.size ≤ maxLen ∧ 0 ≤ x.su ∧ x.su ≤ 1000000000 ∧ 0 ≤ x.pk ∧ x.pk ≤ 1000000000) :
    Calls Try.prog 12 #[.pointer (some ⟨b, 0, none⟩), .slice c L.length kc] w fun e w' => e = .returned (.tuple #[]) ∧ TT w0 w' b (A.map (addA L)) v (tk + 1) ∧ Only (b :: v.ownBlock.toList) w w' := by
  refine (add_any w0.heap.size b A v tk c kc L w h.t (hC.mono h.bl) (fun h0 q o e => ?_) (by omega) (by omega) ht0 (by omega) hg hn).mono ?_
  · obtain ⟨q2, o2, e2, hq, _⟩ := hC h0
    rw [e] at e2
    injection e2 with e2
    injection e2 with e2
    have := h.t.hb
    omega
  · rintro e w' ⟨rfl, hT, ho⟩
    exact ⟨rfl, ⟨hT, ho.below h.bl h.bl.size (fun k hk => (h.own k hk).1)⟩, ho⟩
/-- The table and its copy. -/
structure TC (w0 w : World) (b : Nat) (A : List Ac) (v : Value) (tk : Int) (b2 : Nat) (A2 : List Ac) (v2 : Value) (tk2 : Int) : Prop where
  t1 : TT w0 w b A v tk
  t2 : TT w0 w b2 A2 v2 tk2
  ap : ∀ k ∈ b2 :: v2.ownBlock.toList, k ∉ b :: v.ownBlock.toList
theorem TC.below {w0 w w' : World} {b b2 : Nat} {A A2 : List Ac} {v v2 : Value} {tk tk2 : Int} (h : TC w0 w b A v tk b2 A2 v2 tk2) (hb : Below w.heap.size w w') : TC w0 w' b A v tk b2 A2 v2 tk2 := ⟨h.t1.below hb, h.t2.below hb, h.ap⟩
theorem TT.copy {w0 w : World} {b : Nat} {A : List Ac} {v : Value} {tk : Int} (h : TT w0 w b A v tk) (hA : A.length ≤ 20) :
    Calls Try.prog 14 #[.pointer (some ⟨b, 0, none⟩)] w fun e w' => ∃ b2 v2, e = .returned (.pointer (some ⟨b2, 0, none⟩)) ∧ TC w0 w' b A v tk b2 A v2 tk := by
  refine (lcopy_any w0.heap.size b A v tk w h.t (by omega)).mono ?_
  rintro e w' ⟨b2, v2, rfl, hT, hB⟩
  have hz := h.bl.size
  refine ⟨b2, v2, rfl, h.below hB, ⟨⟨hT.row, own_base3 hT.own hz, hT.ne, Nat.le_trans hz hT.hb⟩, h.bl.trans (hB.mono hz)⟩, fun k hk hk2 => ?_⟩
  have h1 := (h.own k hk2).2
  rcases List.mem_cons.1 hk with rfl | hk
  · have := hT.hb
    omega
  · have := (own_lt hT.own (by simpa using hk)).1
    omega
theorem TC.only {w0 w w' : World} {b b2 : Nat} {A A2 A' : List Ac} {v v2 : Value} {tk tk2 tk' : Int} (h : TC w0 w b A v tk b2 A2 v2 tk2) (h1 : TT w0 w' b A' v tk') (ho : Only (b :: v.ownBlock.toList) w w') : TC w0 w' b A' v tk' b2 A2 v2 tk2 :=
  ⟨h1, ⟨h.t2.t.only ho (h.ap b2 List.mem_cons_self) (fun g hg => h.ap g (List.mem_cons_of_mem _ (by simpa using hg))), h1.bl⟩, h.ap⟩
theorem size_acN {l : List Gp} (hl : lightGs l = true) : ∀ x ∈ l.map acN, x.nm.size ≤ maxLen ∧ 0 ≤ x.su ∧ x.su ≤ 1000000000 ∧ 0 ≤ x.pk ∧ x.pk ≤ 1000000000 := fun x hx => by
  obtain ⟨g, hg, rfl⟩ := List.mem_map.1 hx
  have := ((lightGs_iff l).1 hl).2 g hg
  exact ⟨by show g.nm.size ≤ maxLen; unfold maxLen; omega, Int.le_refl 0, (show (0 : Int) ≤ 1000000000 by decide), Int.le_refl 0, (show (0 : Int) ≤ 1000000000 by decide)⟩
theorem size_acI {l : List Gp} (hl : lightGs l = true) (L : List Ins) (hL : L.length ≤ 60) (i : Nat) (hi : i ≤ 20) : ∀ x ∈ l.map (acI L i), x.nm.size ≤ maxLen ∧ 0 ≤ x.su ∧ x.su ≤ 1000000000 ∧ 0 ≤ x.pk ∧ x.pk ≤ 1000000000 := fun x hx => by
  obtain ⟨g, hg, rfl⟩ := List.mem_map.1 hx
  have := ((lightGs_iff l).1 hl).2 g hg
  have hc := cnt_le L g.nm
  have h5 : i * cntI L g.nm ≤ 20 * 60 := Nat.mul_le_mul hi (by omega)
  have h6 : ((i * cntI L g.nm : Nat) : Int) ≤ ((20 * 60 : Nat) : Int) := Int.ofNat_le.2 h5
  rw [Int.natCast_mul] at h6
  refine ⟨by show g.nm.size ≤ maxLen; unfold maxLen; omega, Int.mul_nonneg (Int.natCast_nonneg _) (Int.natCast_nonneg _), ?_, Int.natCast_nonneg _, ?_⟩
  · show (i : Int) * (cntI L g.nm : Int) ≤ _
    omega
  · show (cntI L g.nm : Int) ≤ _
    omega

set_option maxRecDepth 100000 in
set_option maxHeartbeats 8000000 in
theorem walk (a : Option Addr) (l : List Gp) (ka : Nat) (c : Option Addr) (L : List Ins) (kc : Nat) (x : Int) (w : World) (hx0 : 0 ≤ x) (hx1 : x ≤ 255) (hF : GpL w a l) (hl : l.length ≤ maxLen) (hI : ∀ g ∈ l, MacIn w g.like) (hC : InsL w c L) (hm : L.length ≤ maxLen) :
    Calls Try.prog 6 #[.slice a l.length ka, .slice c L.length kc, .int .u8 x] w fun e w' => e = .returned (.bool true) ∧ Below w.heap.size w w' := by
  have HX := Lib.hid (Below.refl w.heap.size w)
  have HK := Lib.hid (fun V (hV : Below w.heap.size w V) => known_any V)
  have HL := Lib.hid (fun V (hV : Below w.heap.size w V) => lightgs_any a l ka V (hF.mono hV) hl (fun g hg => (hI g hg).mono hV))
  cases h1 : lightGs l
  · rw [h1] at HL
    clear hF hI hC h1
    go_enter Try.func6, Try.ntmps6
    go_wp2_with (first
      | (go_at_call 7; ((with_reducible refine (HL.out _ HX.out).mono ?_); rintro e w1 ⟨rfl, hb1⟩; have HX1 := Lib.hid ((HX).out.trans (Below.mono hb1 (HX).out.size))))
      | (go_at_call 9; ((with_reducible refine (HK.out _ HX1.out).mono ?_); rintro e w2 ⟨rfl, hb2⟩; have HX2 := Lib.hid ((HX1).out.trans (Below.mono hb2 (HX1).out.size)))))
    go_ret
    exact ⟨rfl, HX2.out⟩
  · rw [h1] at HL
    have HR := Lib.hid (fun V (hV : Below w.heap.size w V) => refrightgs_any a l ka V (hF.mono hV) (fun g hg => (hI g hg).mono hV) h1)
    cases h2 : rightGs l
    · rw [h2] at HR
      clear hF hI hC
      go_enter Try.func6, Try.ntmps6
      go_wp2_with (first
        | (go_at_call 7; ((with_reducible refine (HL.out _ HX.out).mono ?_); rintro e w1 ⟨rfl, hb1⟩; have HX1 := Lib.hid ((HX).out.trans (Below.mono hb1 (HX).out.size))))
        | (go_at_call 24; ((with_reducible refine (HR.out _ HX1.out).mono ?_); rintro e w2 ⟨rfl, hb2⟩; have HX2 := Lib.hid ((HX1).out.trans (Below.mono hb2 (HX1).out.size))))
        | (go_at_call 9; ((with_reducible refine (HK.out _ HX2.out).mono ?_); rintro e w3 ⟨rfl, hb3⟩; have HX3 := Lib.hid ((HX2).out.trans (Below.mono hb3 (HX2).out.size)))))
      go_ret
      exact ⟨rfl, HX3.out⟩
    · rw [h2] at HR
      have HLL := Lib.hid (fun V (hV : Below w.heap.size w V) => show Calls Try.prog 8 #[.slice (some ⟨V.heap.size, 0, none⟩) 1 1] (V.alloc (.cells #[.slice c L.length kc] 35)) (fun e w' => e = .returned (.bool (litS [⟨c, kc, L⟩])) ∧ w' = V.alloc (.cells #[.slice c L.length kc] 35)) from (llight_any (some ⟨V.heap.size, 0, none⟩) 1 [⟨c, kc, L⟩] (V.alloc (.cells #[.slice c L.length kc] 35)) (RowsAt.new slr_len V [⟨c, kc, L⟩] 35) (fun y hy => by
        obtain rfl : y = ⟨c, kc, L⟩ := by simpa using hy
        exact ⟨(hC.mono hV).mono ((Below.refl _ V).alloc (Nat.le_refl _) _), hm⟩) (by unfold maxLen; simp)))
      cases h3 : litS [⟨c, kc, L⟩]
      · rw [h3] at HLL
        clear hF hI hC
        go_enter Try.func6, Try.ntmps6
        go_wp2_with (first
          | (go_at_call 7; ((with_reducible refine (HL.out _ HX.out).mono ?_); rintro e w1 ⟨rfl, hb1⟩; have HX1 := Lib.hid ((HX).out.trans (Below.mono hb1 (HX).out.size))))
          | (go_at_call 24; ((with_reducible refine (HR.out _ HX1.out).mono ?_); rintro e w2 ⟨rfl, hb2⟩; have HX2 := Lib.hid ((HX1).out.trans (Below.mono hb2 (HX1).out.size))))
          | (go_at_call 8; refine (HLL.out _ HX2.out).mono ?_; rintro e w3 ⟨rfl, rfl⟩; have HX3 := Lib.hid (HX2.out.alloc HX2.out.size (.cells #[.slice c L.length kc] 35)))
          | (go_at_call 9; ((with_reducible refine (HK.out _ HX3.out).mono ?_); rintro e w4 ⟨rfl, hb4⟩; have HX4 := Lib.hid ((HX3).out.trans (Below.mono hb4 (HX3).out.size)))))
        go_ret
        exact ⟨rfl, HX4.out⟩
      · rw [h3] at HLL
        obtain ⟨hl20, hlg⟩ := (lightGs_iff l).1 h1
        have h4 : L.length ≤ 60 ∧ ∀ y ∈ L, y.gp.size ≤ maxLen := by
          have h5 : litR ⟨c, kc, L⟩ = true := by
            unfold litS at h3
            simpa using h3
          unfold litR at h5
          rw [Bool.and_eq_true, decide_eq_true_eq, List.all_eq_true] at h5
          refine ⟨h5.1, fun y hy => ?_⟩
          have h6 := h5.2 y hy
          unfold litI at h6
          rw [Bool.and_eq_true, decide_eq_true_eq, decide_eq_true_eq] at h6
          unfold maxLen
          omega
        obtain ⟨hL60, hLg⟩ := h4
        have HN := Lib.hid (fun V (hV : Below w.heap.size w V) => lnew_yes a l ka V (hF.mono hV) (fun g hg => (hI g hg).mono hV) h1 h2 (by omega))
        have HA1 := Lib.hid (fun V b v (h : TT w V b (l.map acN) v 0) => h.add c kc L hC hL60 hLg (by rw [List.length_map]; exact hl20) (by decide) (by decide) (size_acN h1))
        have HA2 := Lib.hid (fun V b v (i : Nat) (hi : i ≤ 20) (h : TT w V b (l.map (acI L i)) v i) => h.add c kc L hC hL60 hLg (by rw [List.length_map]; exact hl20) (by omega) (by omega) (size_acI h1 L hL60 i hi))
        obtain ⟨M, hM, hM1, hM20⟩ : ∃ M : Nat, 1 + x % 20 = (M : Int) ∧ 1 ≤ M ∧ M ≤ 20 := by
          exact ⟨(1 + x % 20).toNat, by omega, by omega, by omega⟩
        have hwM : IntKind.i64.wrap (M : Int) = (M : Int) := lwrap_in (by omega) (by omega)
        have htm : x.tmod 20 = x % 20 := Int.tmod_eq_emod_of_nonneg hx0
        have hwx : IntKind.i64.wrap x = x := lwrap_in (by omega) (by omega)
        have HF := Lib.hid hF
        clear hF hI hC h3 hm
        go_enter Try.func6, Try.ntmps6
        go_wp2_with (first
          | (go_at_call 7; ((with_reducible refine (HL.out _ HX.out).mono ?_); rintro e w1 ⟨rfl, hb1⟩; have HX1 := Lib.hid ((HX).out.trans (Below.mono hb1 (HX).out.size))))
          | (go_at_call 24; ((with_reducible refine (HR.out _ HX1.out).mono ?_); rintro e w2 ⟨rfl, hb2⟩; have HX2 := Lib.hid ((HX1).out.trans (Below.mono hb2 (HX1).out.size))))
          | (go_at_call 8; refine (HLL.out _ HX2.out).mono ?_; rintro e w3 ⟨rfl, rfl⟩; have HX3 := Lib.hid (HX2.out.alloc HX2.out.size (.cells #[.slice c L.length kc] 35)))
          | (go_at_call 10; (with_reducible refine (HN.out _ HX3.out).mono ?_); rintro e w4 ⟨b, v, rfl, hT4, hb4⟩; have HT4 := Lib.hid (show TT w w4 b (l.map acN) v 0 from ⟨⟨hT4.row, own_base3 hT4.own HX3.out.size, hT4.ne, Nat.le_trans HX3.out.size hT4.hb⟩, HX3.out.trans (hb4.mono HX3.out.size)⟩); clear hT4 hb4)
          | (go_at_call 12; (with_reducible refine (HA1.out _ b v HT4.out).mono ?_); rintro e w5 ⟨rfl, hT5, _⟩; have HT5 := Lib.hid (show TT w w5 b (l.map (acI L 1)) v 1 by rw [acI_first] at hT5; exact hT5); clear hT5)
          | (go_at_call 14; (with_reducible refine (HT5.out.copy (by rw [List.length_map]; exact hl20)).mono ?_); rintro e w6 ⟨b2, v2, rfl, hC6⟩; have HC6 := Lib.hid hC6; clear hC6))
        clear HN HA1 HT4 HX1 HX2 HX3 HL HR HLL
        go_loopw [11] (fun i wr => ∃ k : Nat, 1 ≤ k ∧ k ≤ M ∧ i = .int .i64 k ∧ TC w wr b (l.map (acI L k)) v k b2 (l.map (acI L 1)) v2 1) (fun i _ => 21 - (intOf i).toNat)
        case atStart => exact ⟨1, by omega, by omega, rfl, HC6.out⟩
        case round =>
          obtain ⟨k, hk1, hk2, rfl, hC7⟩ := hrel
          have HC7 := Lib.hid hC7
          clear hC7
          by_cases hlt : k < M
          · go_wp2_with (go_at_call 12; (with_reducible refine (HA2.out _ b v k (by omega) HC7.out.t1).mono ?_); rintro e w8 ⟨rfl, hT8, hO8⟩; have HC8 := Lib.hid (HC7.out.only (show TT w w8 b (l.map (acI L (k + 1))) v ((k + 1 : Nat) : Int) by rw [acI_next] at hT8; exact hT8) hO8); clear hT8 hO8)
            go_roundw
            case rel => exact ⟨k + 1, by omega, by omega, by go_num, HC8.out⟩
            case measure => simp [intOf]; omega
          · obtain rfl : k = M := by omega
            obtain ⟨w9, h9⟩ : ∃ w9, w9 = wr := ⟨_, rfl⟩
            subst h9
            go_wp2
            go_loopw [12] (fun i wr => ∃ j : Nat, j ≤ l.length ∧ i = .int .i64 j ∧ TC w wr b (l.map (acI L k)) v k b2 (l.map (acI L 1)) v2 1) (fun i _ => l.length - (intOf i).toNat)
            case atStart => exact ⟨0, Nat.zero_le _, rfl, HC7.out⟩
            case round =>
              clear HC7 HC6 HT5 HA2
              obtain ⟨j, hj, rfl, hC9⟩ := hrel
              have HC9 := Lib.hid hC9
              clear hC9
              by_cases hlt2 : j < l.length
              · obtain ⟨g0, hg0⟩ := mem_at (l := l) (k := j) hlt2
                obtain ⟨gb, off, e1, hgb, hgc⟩ := HF.out (by omega)
                subst e1
                have hgw : gb < wr.heap.size := Nat.lt_of_lt_of_le hgb HC9.out.t1.bl.size
                have d0 := (grow_cells (hgc j g0 hg0)).1
                obtain ⟨hcB, hfB⟩ := bcell HC9.out.t1.bl
                have d1 : wr.cell? ⟨gb, off + j * 15, none⟩ = some (.string g0.nm) := by rw [hcB _ _ hgb]; exact d0
                obtain ⟨g, hgl, hfd⟩ := acI_find L 0 l g0.nm ⟨g0, List.mem_of_getElem? hg0, rfl⟩
                obtain ⟨hp0, hp1⟩ := pr_of_right h2 g hgl
                obtain ⟨r, hr1, hr2, hro⟩ := mean_twice (L := L) (g := g) hM1 hM20 hL60
                have hct := cost_twice (L := L) (g := g) hM1 hM20 hL60 hp0 hp1
                have hlA : (l.map (acI L k)).length ≤ 1000 := by rw [List.length_map]; omega
                have hlB : (l.map (acI L 1)).length ≤ 1000 := by rw [List.length_map]; omega
                have hoA : ∀ y ∈ l.map (acI L k), okA y := fun y hy => by
                  obtain ⟨g9, hg9, rfl⟩ := List.mem_map.1 hy
                  obtain ⟨q0, q1⟩ := pr_of_right h2 g9 hg9
                  exact okA_acI hM20 hL60 q0 q1
                have hoB : ∀ y ∈ l.map (acI L 1), okA y := fun y hy => by
                  obtain ⟨g9, hg9, rfl⟩ := List.mem_map.1 hy
                  obtain ⟨q0, q1⟩ := pr_of_right h2 g9 hg9
                  exact okA_acI (by omega) hL60 q0 q1
                have hz9 := costA_le (okA_acI (L := L) (i := 1) (g := g) (by omega) hL60 hp0 hp1)
                obtain ⟨nm, hnm⟩ : ∃ s, g0.nm = s := ⟨_, rfl⟩
                rw [hnm] at d1 hfd
                obtain ⟨cz, hcz⟩ : ∃ z : Int, (cntI L g.nm : Int) = z := ⟨_, rfl⟩
                have F1 := Lib.hid (fun V (h : TC w V b (l.map (acI L k)) v k b2 (l.map (acI L 1)) v2 1) => show Calls Try.prog 17 #[.pointer (some ⟨b, 0, none⟩), .string nm] V (fun e w' => e = .returned (.int .i64 cz) ∧ Below V.heap.size V w') from by (have h9 := lpeak_any _ b _ v k nm V h.t1.t hlA); rw [hfd] at h9; rw [← hcz]; exact h9)
                have F2 := Lib.hid (fun V (h : TC w V b (l.map (acI L k)) v k b2 (l.map (acI L 1)) v2 1) => show Calls Try.prog 17 #[.pointer (some ⟨b2, 0, none⟩), .string nm] V (fun e w' => e = .returned (.int .i64 cz) ∧ Below V.heap.size V w') from by (have h9 := lpeak_any _ b2 _ v2 1 nm V h.t2.t hlB); rw [hfd] at h9; rw [← hcz]; exact h9)
                have F3 := Lib.hid (fun V (h : TC w V b (l.map (acI L k)) v k b2 (l.map (acI L 1)) v2 1) => lmean_any _ b _ v k nm V h.t1.t hlA (by omega) r (by rw [hfd]; exact hr1))
                have F4 := Lib.hid (fun V (h : TC w V b (l.map (acI L k)) v k b2 (l.map (acI L 1)) v2 1) => lmean_any _ b2 _ v2 1 nm V h.t2.t hlB (by decide) r (by rw [hfd]; exact hr2))
                obtain ⟨yz, hyz⟩ : ∃ z, costA (acI L k g) = z := ⟨_, rfl⟩
                obtain ⟨zz, hzz⟩ : ∃ z, costA (acI L 1 g) = z := ⟨_, rfl⟩
                have F5 := Lib.hid (fun V (h : TC w V b (l.map (acI L k)) v k b2 (l.map (acI L 1)) v2 1) => show Calls Try.prog 15 #[.pointer (some ⟨b, 0, none⟩), .string nm] V (fun e w' => e = .returned (.int .i64 yz) ∧ Below V.heap.size V w') from by (have h9 := lsum_any _ b _ v k nm V h.t1.t hlA hoA); rw [hfd, hyz] at h9; exact h9)
                have F6 := Lib.hid (fun V (h : TC w V b (l.map (acI L k)) v k b2 (l.map (acI L 1)) v2 1) => show Calls Try.prog 15 #[.pointer (some ⟨b2, 0, none⟩), .string nm] V (fun e w' => e = .returned (.int .i64 zz) ∧ Below V.heap.size V w') from by (have h9 := lsum_any _ b2 _ v2 1 nm V h.t2.t hlB hoB); rw [hfd, hzz] at h9; exact h9)
                rw [hyz, hzz, Int.mul_comm] at hct
                rw [hzz] at hz9
                have hkz : (k : Int) * zz ≤ 20 * zz := Int.mul_le_mul_of_nonneg_right (by omega) hz9.1
                have hkz0 : 0 ≤ (k : Int) * zz := Int.mul_nonneg (by omega) hz9.1
                have hwz : IntKind.i64.wrap ((k : Int) * zz) = (k : Int) * zz := lwrap_in (by omega) (by omega)
                obtain ⟨pz, hpz⟩ : ∃ z, (k : Int) * zz = z := ⟨_, rfl⟩
                rw [hpz] at hct hwz hkz hkz0
                have HC := HC9
                clear hgc d0 hcB hfB hg0 hfd hcz hr1 hr2 hyz hzz hlA hlB hoA hoB HC9 hkz hkz0 hz9 hnm hp0 hp1 hgl
                by_cases hmx : 1125899906842624 < pz
                · obtain rfl : yz = 1125899906842624 := by omega
                  clear hct
                  go_wp2_with (first | (go_at_call 17; (with_reducible refine (F1.out _ HC.out).mono ?_); rintro e w7 ⟨rfl, hb⟩; have HC' := Lib.hid (HC.out.below hb); clear HC hb; have HC := HC'; clear HC') | (go_at_call 17; (with_reducible refine (F2.out _ HC.out).mono ?_); rintro e w7 ⟨rfl, hb⟩; have HC' := Lib.hid (HC.out.below hb); clear HC hb; have HC := HC'; clear HC') | (go_at_call 19; (with_reducible refine (F3.out _ HC.out).mono ?_); rintro e w7 ⟨rfl, hb⟩; have HC' := Lib.hid (HC.out.below hb); clear HC hb; have HC := HC'; clear HC') | (go_at_call 19; (with_reducible refine (F4.out _ HC.out).mono ?_); rintro e w7 ⟨rfl, hb⟩; have HC' := Lib.hid (HC.out.below hb); clear HC hb; have HC := HC'; clear HC') | (go_at_call 15; (with_reducible refine (F5.out _ HC.out).mono ?_); rintro e w7 ⟨rfl, hb⟩; have HC' := Lib.hid (HC.out.below hb); clear HC hb; have HC := HC'; clear HC') | (go_at_call 15; (with_reducible refine (F6.out _ HC.out).mono ?_); rintro e w7 ⟨rfl, hb⟩; have HC' := Lib.hid (HC.out.below hb); clear HC hb; have HC := HC'; clear HC'))
                  go_roundw
                  case rel => exact ⟨j + 1, by omega, by go_num, HC.out⟩
                  case measure => simp [intOf]; omega
                · obtain rfl : yz = pz := by omega
                  clear hct
                  go_wp2_with (first | (go_at_call 17; (with_reducible refine (F1.out _ HC.out).mono ?_); rintro e w7 ⟨rfl, hb⟩; have HC' := Lib.hid (HC.out.below hb); clear HC hb; have HC := HC'; clear HC') | (go_at_call 17; (with_reducible refine (F2.out _ HC.out).mono ?_); rintro e w7 ⟨rfl, hb⟩; have HC' := Lib.hid (HC.out.below hb); clear HC hb; have HC := HC'; clear HC') | (go_at_call 19; (with_reducible refine (F3.out _ HC.out).mono ?_); rintro e w7 ⟨rfl, hb⟩; have HC' := Lib.hid (HC.out.below hb); clear HC hb; have HC := HC'; clear HC') | (go_at_call 19; (with_reducible refine (F4.out _ HC.out).mono ?_); rintro e w7 ⟨rfl, hb⟩; have HC' := Lib.hid (HC.out.below hb); clear HC hb; have HC := HC'; clear HC') | (go_at_call 15; (with_reducible refine (F5.out _ HC.out).mono ?_); rintro e w7 ⟨rfl, hb⟩; have HC' := Lib.hid (HC.out.below hb); clear HC hb; have HC := HC'; clear HC') | (go_at_call 15; (with_reducible refine (F6.out _ HC.out).mono ?_); rintro e w7 ⟨rfl, hb⟩; have HC' := Lib.hid (HC.out.below hb); clear HC hb; have HC := HC'; clear HC'))
                  go_roundw
                  case rel => exact ⟨j + 1, by omega, by go_num, HC.out⟩
                  case measure => simp [intOf]; omega
              · have hjl : j = l.length := by omega
                subst hjl
                have HT9 := Lib.hid (fun V (h : TC w V b (l.map (acI L k)) v k b2 (l.map (acI L 1)) v2 1) => lticks_any _ b _ v k V h.t1.t)
                go_wp2_with (first
                  | (go_at_call 23; (with_reducible refine (HT9.out _ HC9.out).mono ?_); rintro e w7 ⟨rfl, rfl⟩)
                  | (go_at_call 9; (with_reducible refine (HK.out _ HC9.out.t1.bl).mono ?_); rintro e w8 ⟨rfl, hb8⟩; have HB8 := Lib.hid (HC9.out.t1.bl.trans (hb8.mono HC9.out.t1.bl.size))))
                go_ret
                exact ⟨rfl, HB8.out⟩

set_option maxRecDepth 100000 in
theorem lifted (os : Os) (started : os.Started) (H : Type) (enc : TypeId × Value → H) :
    ReturnsInHanded {} Try.checked os 6 .any (Rows.ledgerTwiceSpec.pre6 enc Try.prog Try.f6 Rows.ledgerTwiceRow.domain false) (Rows.ledgerTwiceSpec.post enc Try.prog Try.f6 false true false false) := by
  refine returnsInHanded_of_change (C := Try.checked) Try.own started (by kernel_rfl) Try.func6
    (ChangeSpec.witness6 (enc := enc) (C := Try.checked) false ⟨#[], #[.slice none 0 0, .slice none 0 0, .int .u8 0], []⟩ 8 (by kernel_rfl) (by kernel_rfl) (by kernel_rfl) (by kernel_rfl)) ?_
  intro W base args ds gs before hval hW _ _
  have hW' := hW
  obtain ⟨p, q, hA, hV, rfl, hfz, hnd⟩ := hW
  rw [Try.params6] at hA hval
  obtain ⟨v0, v1, v2, d0, d1, d2, p0, p1, p2, rfl, rfl, rfl, h0, h1, h2⟩ := trodAll_three hA
  obtain ⟨a, l, ka, rfl, _, hF, hl, _, hI⟩ := open_grps (hval 0 22 v0 rfl rfl) h0
  obtain ⟨c, L, kc, rfl, _, hC, hm, _⟩ := open_ins (hval 1 35 v1 rfl rfl) h1
  obtain ⟨x, rfl, _, _, wx⟩ := open_int Try.underlying5 (hval 2 5 v2 rfl rfl) h2
  have hx : 0 ≤ x ∧ x ≤ 255 := by simpa [Lit.wf, IntKind.min, IntKind.max, IntKind.signed, IntKind.bits] using wx
  refine (walk a l ka c L kc x W hx.1 hx.2 hF hl hI hC hm).mono fun e W' ⟨he, hb⟩ => ?_
  exact ⟨_, he, law_post Try.laidOut hW' rfl (by kernel_rfl) (by kernel_rfl) Try.underlying4 rfl rfl rfl hb⟩

theorem over : Rows.ledgerTwiceRow.holds Try.pinned (OpenSpec.ofChange Rows.ledgerTwiceSpec) :=
  OpenClaim.holds_of_wide 6 Try.f6 rfl rfl rfl rfl rfl rfl rfl ⟨rfl, rfl, rfl, rfl, rfl⟩ rfl rfl rfl rfl rfl (by kernel_rfl) Try.func6 (by kernel_rfl)
    (of_decide_eq_true (by kernel_rfl)) (by unfold Func.isWrapper; first | (rw [if_pos (by decide +kernel)]; kernel_rfl) | (rw [if_neg (by decide +kernel)]; exact ⟨rfl, rfl⟩))
    (fun os started H enc _ => lifted os started H enc)

/-- The statement. -/
theorem proved : Rows.LedgerTwiceSaid := over
end ledgerTwice
end Go.Proofs.Ytaipiflbigpniaa
