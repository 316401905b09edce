/-
  YardLeft.
-/
import Derived.Test.YthbpnfpalcgfeaaYdP
import Derived.Test.YthbpnfpalcgfeaaYdL
namespace Go.Proofs.Ythbpnfpalcgfeaa
open Go.ChangeShapes Go.WideShapes Go.ChangeAt Go.RowKit
set_option linter.unusedVariables false
set_option linter.unusedSimpArgs false
namespace yardLeft

/-- What stands of a machine whose pods' need is known: left l of h, with u used. -/
structure LeftOk (h u l : R5) : Prop where
  rt : rtB l.r0 l.r1 l.r2 l.r3 l.r4 = true
  le : Rs.lesB l.r0 l.r1 l.r2 l.r3 l.r4 h.r0 h.r1 h.r2 h.r3 h.r4 = true
  ad : Rs.lesB u.r0 u.r1 u.r2 u.r3 u.r4 h.r0 h.r1 h.r2 h.r3 h.r4 = true → Rs.addE l.r0 l.r1 l.r2 l.r3 l.r4 u.r0 u.r1 u.r2 u.r3 u.r4 = 0 ∧ l.r0 + u.r0 = h.r0 ∧ l.r1 + u.r1 = h.r1 ∧ l.r2 + u.r2 = h.r2 ∧ l.r3 + u.r3 = h.r3 ∧ l.r4 + u.r4 = h.r4
theorem left_ok {h u : R5} (hh : rt5 h = true) (hu : rt5 u = true) : LeftOk h u (subP h (lstP h u)) := by
  rw [left_plain hh hu]
  have ha := (rtB_iff _ _ _ _ _).1 hh
  have hb := (rtB_iff _ _ _ _ _).1 hu
  have m0 := minI_le h.r0 u.r0
  have m1 := minI_le h.r1 u.r1
  have m2 := minI_le h.r2 u.r2
  have m3 := minI_le h.r3 u.r3
  have m4 := minI_le h.r4 u.r4
  have hr : rtB (h.r0 - minI h.r0 u.r0) (h.r1 - minI h.r1 u.r1) (h.r2 - minI h.r2 u.r2) (h.r3 - minI h.r3 u.r3) (h.r4 - minI h.r4 u.r4) = true := by
    rw [rtB_iff]
    omega
  refine ⟨hr, ?_, fun hl => ?_⟩
  · unfold Rs.lesB
    rw [hr, show rtB h.r0 h.r1 h.r2 h.r3 h.r4 = true from hh]
    simp only [Bool.true_and]
    exact decide_eq_true (by omega)
  · unfold Rs.lesB at hl
    rw [show rtB u.r0 u.r1 u.r2 u.r3 u.r4 = true from hu, show rtB h.r0 h.r1 h.r2 h.r3 h.r4 = true from hh] at hl
    simp only [Bool.true_and, decide_eq_true_eq] at hl
    dsimp only
    refine ⟨?_, by omega⟩
    unfold Rs.addE
    rw [if_pos ⟨hr, hu⟩, if_pos (by omega)]
set_option maxRecDepth 100000 in
set_option maxHeartbeats 8000000 in
theorem walk1 (a : Option Addr) (ka : Nat) (ms : List Mac) (c : Option Addr) (kc : Nat) (bs : List Bd) (w : World) (hF : MacL w a ms) (hG : BndL w c bs) (hA : ∀ m ∈ ms, MacIn w m) (hB : ∀ b ∈ bs, BndIn w b) (hl : ms.length ≤ maxLen) (hl2 : bs.length ≤ maxLen) :
    Calls Try.prog 4 #[.slice a ms.length ka, .slice c bs.length kc] w fun e w' => e = .returned (.bool true) ∧ Below w.heap.size w w' := by
  have hLi := lighty_any a ka ms c kc bs w hF hG hA hB hl hl2
  cases hL : lightY ms bs with
  | false =>
    rw [hL] at hLi
    have HLi := Lib.hid hLi
    generalize ms.length = n at HLi ⊢
    generalize bs.length = q at HLi ⊢
    clear hF hG hA hB hl hl2 hL hLi
    go_enter Try.func4, Try.ntmps4
    go_wp2_with (first | (go_at_call 12; (with_reducible refine (HLi.out).mono ?_); rintro e w1 ⟨rfl, hb1⟩; have HB1 := Lib.hid hb1; have hz1 := hb1.size; clear hb1) | (go_at_call 13; (with_reducible refine (yknown_any _).mono ?_); rintro e w2 ⟨rfl, hb2⟩; have HB2 := Lib.hid (HB1.out.trans (hb2.mono hz1)); clear hb2))
    go_ret
    exact ⟨rfl, HB2.out⟩
  | true =>
    rw [hL] at hLi
    have HLi := Lib.hid hLi
    obtain ⟨h20, h40, hLm, hLb⟩ := lightY_iff hL
    have hCk := fun V (hV : Below w.heap.size w V) => check_any a ka ms c kc bs V (hF.mono hV) (hG.mono hV) (fun m hm => (hA m hm).mono hV) (fun m hm => (hB m hm).mono hV) hLm (fun b hb => (hLb b hb).1) (by omega) (by omega)
    obtain ⟨E, hE⟩ : ∃ E, checkY ms bs = E := ⟨_, rfl⟩
    rw [hE] at hCk
    have HCk := Lib.hid hCk
    by_cases h0 : E = 0
    · subst h0
      obtain ⟨-, hok, -, -, -⟩ := check_zero hE
      have HUs := Lib.hid (fun nm V (hV : Below w.heap.size w V) => used_any c kc bs nm V (hG.mono hV) (by omega))
      have HLf := Lib.hid (fun m V (hV : Below w.heap.size w V) => left_any m c kc bs V (hG.mono hV) (by omega))
      have HRi := Lib.hid (fun (k : Nat) (m : Mac) (hm : ms[k]? = some m) => by
        have h9 := List.all_eq_true.1 hok m (List.mem_of_getElem? hm)
        unfold okM rightM at h9
        simp only [Bool.and_eq_true] at h9
        exact (h9.2.1.1.2 : rtB m.r0 m.r1 m.r2 m.r3 m.r4 = true))
      have HUr := Lib.hid (fun nm => usedY_right (bs := bs) (nm := nm))
      have HLy := Lib.hid (show ∀ m : Mac, leftY m bs = if (usedY bs m.nm).1 = 0 then subP (hasM m) (lstP (hasM m) (usedY bs m.nm).2) else R5.z from fun m => rfl)
      have HF := Lib.hid hF
      obtain ⟨n, hn⟩ : ∃ n, ms.length = n := ⟨_, rfl⟩
      obtain ⟨q, hq⟩ : ∃ q, bs.length = q := ⟨_, rfl⟩
      obtain ⟨US, hUS⟩ : ∃ US, US = usedY bs := ⟨_, rfl⟩
      obtain ⟨LY, hLY⟩ : ∃ LY : Mac → R5, LY = fun m => leftY m bs := ⟨_, rfl⟩
      have hLY' : ∀ m, leftY m bs = LY m := fun m => by rw [hLY]
      have Hn := Lib.hid hn
      rw [hn, hq] at HLi HCk
      rw [hn] at h20
      rw [hq] at HUs HLf h40
      rw [← hUS] at HUs HUr HLy
      simp only [hLY'] at HLf HLy
      rw [hn, hq]
      clear hF hG hA hB hl hl2 hLi hCk hE hok hLm hLb hL hn hq hUS hLY hLY'
      clear bs
      go_enter Try.func4, Try.ntmps4
      go_wp2_with (first
        | (go_at_call 12; (with_reducible refine (HLi.out).mono ?_); rintro e w1 ⟨rfl, hb1⟩; have HB1 := Lib.hid hb1; have hz1 := hb1.size; clear hb1)
        | (go_at_call 14; (with_reducible refine (HCk.out _ HB1.out).mono ?_); rintro e w2 ⟨rfl, hb2⟩; have HB2 := Lib.hid (HB1.out.trans (hb2.mono hz1)); have hz2 := HB2.out.size; clear hb2))
      go_loopw [5] (fun vi wr => ∃ k : Nat, k ≤ n ∧ vi = .int .i64 k ∧ Below w.heap.size w wr) (fun vi _ => n - (intOf vi).toNat)
      case atStart => exact ⟨0, Nat.zero_le _, rfl, HB2.out⟩
      case round =>
        obtain ⟨k, hk, rfl, hB⟩ := hrel
        have HB := Lib.hid hB
        have hbz := hB.size
        by_cases hlt : k < n
        · obtain ⟨m, hm⟩ := mem_at (l := ms) (k := k) (by rw [Hn.out]; exact hlt)
          obtain ⟨b, o, rfl, hb, hc⟩ := (HF.out.mono hB) (by rw [Hn.out]; omega)
          have c0 : wr.cell? ⟨b, o + k * 10, none⟩ = some (.string m.nm) := hc k m hm 0 (by decide)
          have HRg := Lib.hid (show wr.rangeAt b (o + k * 10) (mrow m) from fun j v hj => by rw [hc k m hm j (by have := (List.getElem?_eq_some_iff.1 hj).1; exact this)]; exact hj)
          have HUm := Lib.hid (HUs.out m.nm)
          have HLm := Lib.hid (HLf.out m)
          have hur := HUr.out m.nm
          have hri := HRi.out k m hm
          have hly := HLy.out m
          clear hc hm hB
          obtain ⟨nm, gp, r0, r1, r2, r3, r4, la, lk, L, ta, tk, T, rd⟩ := m
          dsimp only at c0 HUm HLm hur hri hly
          obtain ⟨⟨e, u0, u1, u2, u3, u4⟩, hU⟩ : ∃ U, US nm = U := ⟨_, rfl⟩
          rw [hU] at HUm hur hly
          obtain ⟨⟨l0, l1, l2, l3, l4⟩, hLv⟩ : ∃ l, LY ⟨nm, gp, r0, r1, r2, r3, r4, la, lk, L, ta, tk, T, rd⟩ = l := ⟨_, rfl⟩
          rw [hLv] at HLm hly
          dsimp only [R5.v] at HUm HLm
          clear hU hLv
          by_cases he : e = 0
          · subst he
            have hur := hur rfl
            rw [if_pos rfl] at hly
            have hk9 := left_ok (h := hasM ⟨nm, gp, r0, r1, r2, r3, r4, la, lk, L, ta, tk, T, rd⟩) hri hur
            dsimp only at hk9 hly
            rw [← hly] at hk9
            obtain ⟨hrt, hle, had⟩ := hk9
            dsimp only [hasM] at hrt hle had
            clear hly hur hri
            have hRt := fun V => refright_any l0 l1 l2 l3 l4 V
            rw [hrt] at hRt
            have HRt := Lib.hid hRt
            have hFl := fun V => Rs.reffits_any l0 l1 l2 l3 l4 r0 r1 r2 r3 r4 V
            rw [hle] at hFl
            have HFl := Lib.hid hFl
            have hFu := fun V => Rs.reffits_any u0 u1 u2 u3 u4 r0 r1 r2 r3 r4 V
            obtain ⟨z, hz⟩ : ∃ z, Rs.lesB u0 u1 u2 u3 u4 r0 r1 r2 r3 r4 = z := ⟨_, rfl⟩
            rw [hz] at hFu had
            have HFu := Lib.hid hFu
            have hAd := fun V => Rs.refadd_any l0 l1 l2 l3 l4 u0 u1 u2 u3 u4 V
            clear hRt hFl hFu hrt hle hz
            go_wp2_with (first
              | (go_at_call 16; (with_reducible refine (HUm.out _ HB.out).mono ?_); rintro e w3 ⟨rfl, hb3⟩; have HB3 := Lib.hid (HB.out.trans (hb3.mono hbz)); have hz3 := hb3.size; have HRg3 := Lib.hid (rangeAt_mono HRg.out hb hb3); have hb3l : b < w3.heap.size := Nat.lt_of_lt_of_le hb hz3; clear hb3)
              | ((with_reducible refine at_load (ty := 35) ?_); refine load_cells rfl 35 (.tmp 42) rfl b (o + k * 10) rfl [.string nm, .string gp, .int .i64 r0, .int .i64 r1, .int .i64 r2, .int .i64 r3, .int .i64 r4, .slice la L.length lk, .slice ta T.length tk, .bool rd] _ Try.underlying35 rfl (by kernel_rfl) (rangeAt_alloc _ hb3l HRg3.out) ?_)
              | (go_at_call 17; (with_reducible refine (HLm.out _ (HB3.out.alloc HB3.out.size _)).mono ?_); rintro e w4 ⟨rfl, hb4⟩; have HB4 := Lib.hid ((HB3.out.alloc HB3.out.size _).trans (hb4.mono (by simp; omega))); have HU4 := Lib.hid ((Blk.new w3 29 [.int .i64 u0, .int .i64 u1, .int .i64 u2, .int .i64 u3, .int .i64 u4]).below hb4); have HRg4 := Lib.hid (rangeAt_mono (rangeAt_alloc _ hb3l HRg3.out) (by simp; omega) hb4); have hz4 := hb4.size; (simp at hz4); clear hb4))
            obtain ⟨V, hV⟩ : ∃ V, V = w4.alloc (.cells #[.int .i64 l0, .int .i64 l1, .int .i64 l2, .int .i64 l3, .int .i64 l4] 29) := ⟨_, rfl⟩
            have HBV := Lib.hid (show Below w.heap.size w V by rw [hV]; exact HB4.out.alloc HB4.out.size _)
            have hv4 : Below w4.heap.size w4 V := by rw [hV]; exact (Below.refl _ _).alloc (Nat.le_refl _) _
            have HUV := Lib.hid (HU4.out.below hv4)
            have HLV := Lib.hid (show Blk V w4.heap.size 29 [.int .i64 l0, .int .i64 l1, .int .i64 l2, .int .i64 l3, .int .i64 l4] by rw [hV]; exact Blk.new w4 29 [.int .i64 l0, .int .i64 l1, .int .i64 l2, .int .i64 l3, .int .i64 l4])
            have HRgV := Lib.hid (rangeAt_mono HRg4.out (show b < w4.heap.size by omega) hv4)
            rw [← hV]
            obtain ⟨x, hx⟩ : ∃ x, w3.heap.size = x := ⟨_, rfl⟩
            obtain ⟨y, hy⟩ : ∃ y, w4.heap.size = y := ⟨_, rfl⟩
            rw [hx] at HUV ⊢
            rw [hy] at HLV ⊢
            have hbV : b < V.heap.size := Nat.lt_of_lt_of_le (show b < w4.heap.size by omega) hv4.size
            have hxV := HUV.out.lt
            have hyV := HLV.out.lt
            have HRu := Lib.hid (show V.rangeAt x 0 [.int .i64 u0, .int .i64 u1, .int .i64 u2, .int .i64 u3, .int .i64 u4] from fun j v hj => by rw [Nat.zero_add, HUV.out.cell]; exact hj)
            have HRl := Lib.hid (show V.rangeAt y 0 [.int .i64 l0, .int .i64 l1, .int .i64 l2, .int .i64 l3, .int .i64 l4] from fun j v hj => by rw [Nat.zero_add, HLV.out.cell]; exact hj)
            have HRh := Lib.hid (show V.rangeAt b (o + k * 10 + 2) [.int .i64 r0, .int .i64 r1, .int .i64 r2, .int .i64 r3, .int .i64 r4] from fun j v hj => by
              have hj5 : j < 5 := (List.getElem?_eq_some_iff.1 hj).1
              rw [show o + k * 10 + 2 + j = o + k * 10 + (2 + j) by omega]
              refine HRgV.out (2 + j) v ?_
              match j, hj5, hj with
              | 0, _, hj => exact hj
              | 1, _, hj => exact hj
              | 2, _, hj => exact hj
              | 3, _, hj => exact hj
              | 4, _, hj => exact hj)
            clear hV hv4 hx hy hb3l hz3 hz4 hb HB HB3 HB4 HU4 HRg HRg3 HRg4 HRgV HUV HLV HUm HLm c0 hbz
            have hcH := held_cell
            refine region_rel (by kernel_rfl) (by kernel_rfl) ?_
            repeat
              ((with_reducible refine relStep (fun K hK => ?_))
               (have HK := Lib.hid hK)
               clear hK
               (apply relInl
                · intro r n hf
                  have Hf := Lib.hid hf
                  clear hf
                  (first
                    | ((first | ((with_reducible refine at_rel (ty := 29) ?_); refine rel_load rfl y 0 rfl [.int .i64 l0, .int .i64 l1, .int .i64 l2, .int .i64 l3, .int .i64 l4] _ Try.underlying29 rfl (by kernel_rfl) (rangeAt_mono HRl.out hyV n.below) rfl) | ((with_reducible refine at_rel (ty := 29) ?_); refine rel_load rfl b (o + k * 10 + 2) rfl [.int .i64 r0, .int .i64 r1, .int .i64 r2, .int .i64 r3, .int .i64 r4] _ Try.underlying29 rfl (by kernel_rfl) (rangeAt_mono HRh.out hbV n.below) rfl)))
                    | (unfold relAt
                       go_simp
                       (first | (refine relUpon_val ?_ (Below.refl _ _); exact rfl) | exact rfl | (refine relUpon_enter ?_; (first | (go_at_call 18; (with_reducible refine (HRt.out _).mono ?_); rintro e w9 ⟨rfl, hb⟩; exact ⟨⟨_, rfl, rfl⟩, hb⟩) | (go_at_call 19; (with_reducible refine (HFl.out _).mono ?_); rintro e w9 ⟨rfl, hb⟩; exact ⟨⟨_, rfl, rfl⟩, hb⟩))))))
                (simp only [Act.put, List.setIfInBounds_toArray, List.set_cons_zero, List.set_cons_succ])
                (with_reducible refine HK.out _ _ ?_)
                clear HK K))
            refine relNil ?_
            intro r9 n9 hx9
            clear hcH
            (try simp only [List.nil_append, List.cons_append, List.mem_cons, List.not_mem_nil, or_false, forall_eq_or_imp, forall_eq, false_implies, implies_true] at hx9)
            obtain ⟨w9, hb9⟩ := n9
            (try dsimp only)
            obtain ⟨hc9, hf9⟩ := bcell hb9
            have hz9 := hb9.size
            (try simp at hz9)
            have HRu9 := Lib.hid (rangeAt_mono HRu.out hxV hb9)
            have HRl9 := Lib.hid (rangeAt_mono HRl.out hyV hb9)
            have HRh9 := Lib.hid (rangeAt_mono HRh.out hbV hb9)
            have hx9 : x < w9.heap.size := Nat.lt_of_lt_of_le hxV hb9.size
            have hy9 : y < w9.heap.size := Nat.lt_of_lt_of_le hyV hb9.size
            have hb9l : b < w9.heap.size := Nat.lt_of_lt_of_le hbV hb9.size
            have HB9 := Lib.hid (HBV.out.trans (hb9.mono HBV.out.size))
            clear hb9 hc9 hf9 hz9 HRu HRl HRh hxV hyV hbV HBV HRt HFl
            obtain ⟨E, hE⟩ : ∃ E, Rs.addE l0 l1 l2 l3 l4 u0 u1 u2 u3 u4 = E := ⟨_, rfl⟩
            obtain ⟨s0, hs0⟩ : ∃ s, Rs.sel E (l0 + u0) = s := ⟨_, rfl⟩
            obtain ⟨s1, hs1⟩ : ∃ s, Rs.sel E (l1 + u1) = s := ⟨_, rfl⟩
            obtain ⟨s2, hs2⟩ : ∃ s, Rs.sel E (l2 + u2) = s := ⟨_, rfl⟩
            obtain ⟨s3, hs3⟩ : ∃ s, Rs.sel E (l3 + u3) = s := ⟨_, rfl⟩
            obtain ⟨s4, hs4⟩ : ∃ s, Rs.sel E (l4 + u4) = s := ⟨_, rfl⟩
            rw [hE, hs0, hs1, hs2, hs3, hs4] at hAd
            have HAd := Lib.hid hAd
            have hzs : z = true → E = 0 ∧ s0 = r0 ∧ s1 = r1 ∧ s2 = r2 ∧ s3 = r3 ∧ s4 = r4 := fun hz => by
              obtain ⟨g0, g1, g2, g3, g4, g5⟩ := had hz
              rw [hE] at g0
              subst g0
              rw [← hs0, ← hs1, ← hs2, ← hs3, ← hs4]
              simp only [Rs.sel_0]
              exact ⟨trivial, g1, g2, g3, g4, g5⟩
            clear hE hs0 hs1 hs2 hs3 hs4 hAd had
            go_wp2_with (first
              | ((with_reducible refine at_load (ty := 29) ?_); refine load_cells rfl 29 (.tmp 8) rfl y 0 rfl [.int .i64 l0, .int .i64 l1, .int .i64 l2, .int .i64 l3, .int .i64 l4] _ Try.underlying29 rfl (by kernel_rfl) HRl9.out ?_)
              | ((with_reducible refine at_load (ty := 29) ?_); refine load_cells rfl 29 (.tmp 6) rfl x 0 rfl [.int .i64 u0, .int .i64 u1, .int .i64 u2, .int .i64 u3, .int .i64 u4] _ Try.underlying29 rfl (by kernel_rfl) HRu9.out ?_)
              | (go_at_call 20; (with_reducible refine (HAd.out _).mono ?_); rintro e w5 ⟨rfl, hb5⟩; have HB5 := Lib.hid (HB9.out.trans (hb5.mono HB9.out.size)); have HRu5 := Lib.hid (rangeAt_mono HRu9.out hx9 hb5); have HRh5 := Lib.hid (rangeAt_mono HRh9.out hb9l hb5); have hz5 := hb5.size; clear hb5))
            obtain ⟨U, hU⟩ : ∃ U, U = w5.alloc (.cells #[.int .i64 s0, .int .i64 s1, .int .i64 s2, .int .i64 s3, .int .i64 s4] 29) := ⟨_, rfl⟩
            have HBU := Lib.hid (show Below w.heap.size w U by rw [hU]; exact HB5.out.alloc HB5.out.size _)
            have h5U : Below w5.heap.size w5 U := by rw [hU]; exact (Below.refl _ _).alloc (Nat.le_refl _) _
            have HRuU := Lib.hid (rangeAt_mono HRu5.out (show x < w5.heap.size by omega) h5U)
            have HRhU := Lib.hid (rangeAt_mono HRh5.out (show b < w5.heap.size by omega) h5U)
            have HRsU := Lib.hid (show U.rangeAt w5.heap.size 0 [.int .i64 s0, .int .i64 s1, .int .i64 s2, .int .i64 s3, .int .i64 s4] by rw [hU]; exact rangeAt_new w5 [.int .i64 s0, .int .i64 s1, .int .i64 s2, .int .i64 s3, .int .i64 s4] 29)
            have hsU : w5.heap.size < U.heap.size := by rw [hU]; simp
            have hxU : x < U.heap.size := by omega
            have hbU : b < U.heap.size := by omega
            rw [← hU]
            obtain ⟨v, hv⟩ : ∃ v, w5.heap.size = v := ⟨_, rfl⟩
            rw [hv] at HRsU hsU ⊢
            clear hU h5U hv HB5 HRu5 HRh5 hz5 HB9 HRu9 HRl9 HRh9 hx9 hy9 hb9l HAd
            cases z with
            | false =>
              clear hzs
              have hcH := held_cell
              refine region_rel (by kernel_rfl) (by kernel_rfl) ?_
              repeat
                ((with_reducible refine relStep (fun K hK => ?_))
                 (have HK := Lib.hid hK)
                 clear hK
                 (apply relInl
                  · intro r n hf
                    have Hf := Lib.hid hf
                    clear hf
                    (first
                      | ((first | ((with_reducible refine at_rel (ty := 29) ?_); refine rel_load rfl x 0 rfl [.int .i64 u0, .int .i64 u1, .int .i64 u2, .int .i64 u3, .int .i64 u4] _ Try.underlying29 rfl (by kernel_rfl) (rangeAt_mono HRuU.out hxU n.below) rfl) | ((with_reducible refine at_rel (ty := 29) ?_); refine rel_load rfl b (o + k * 10 + 2) rfl [.int .i64 r0, .int .i64 r1, .int .i64 r2, .int .i64 r3, .int .i64 r4] _ Try.underlying29 rfl (by kernel_rfl) (rangeAt_mono HRhU.out hbU n.below) rfl)))
                      | (unfold relAt
                         go_simp
                         (first | (refine relUpon_val ?_ (Below.refl _ _); exact rfl) | exact rfl | (refine relUpon_enter ?_; (go_at_call 19; (with_reducible refine (HFu.out _).mono ?_); rintro e w9 ⟨rfl, hb⟩; exact ⟨⟨_, rfl, rfl⟩, hb⟩)))))
                  (simp only [Act.put, List.setIfInBounds_toArray, List.set_cons_zero, List.set_cons_succ])
                  (with_reducible refine HK.out _ _ ?_)
                  clear HK K))
              refine relNil ?_
              intro r7 n7 hx7
              clear hcH
              (try simp only [List.nil_append, List.cons_append, List.mem_cons, List.not_mem_nil, or_false, forall_eq_or_imp, forall_eq, false_implies, implies_true] at hx7)
              obtain ⟨w7, hb7⟩ := n7
              (try dsimp only)
              obtain ⟨hc7, hf7⟩ := bcell hb7
              have hz7 := hb7.size
              (try simp at hz7)
              have HB7 := Lib.hid (HBU.out.trans (hb7.mono HBU.out.size))
              clear hb7 hc7 hf7 hz7
              go_wp2
              go_roundw
              case rel => exact ⟨k + 1, by omega, by go_num, HB7.out⟩
              case measure => simp [intOf]; omega
            | true =>
              obtain ⟨rfl, rfl, rfl, rfl, rfl, rfl⟩ := hzs rfl
              have hcH := held_cell
              refine region_rel (by kernel_rfl) (by kernel_rfl) ?_
              repeat
                ((with_reducible refine relStep (fun K hK => ?_))
                 (have HK := Lib.hid hK)
                 clear hK
                 (apply relInl
                  · intro r n hf
                    have Hf := Lib.hid hf
                    clear hf
                    (first
                      | ((first | ((with_reducible refine at_rel (ty := 29) ?_); refine rel_load rfl x 0 rfl [.int .i64 u0, .int .i64 u1, .int .i64 u2, .int .i64 u3, .int .i64 u4] _ Try.underlying29 rfl (by kernel_rfl) (rangeAt_mono HRuU.out hxU n.below) rfl) | ((with_reducible refine at_rel (ty := 29) ?_); refine rel_load rfl b (o + k * 10 + 2) rfl [.int .i64 s0, .int .i64 s1, .int .i64 s2, .int .i64 s3, .int .i64 s4] _ Try.underlying29 rfl (by kernel_rfl) (rangeAt_mono HRhU.out hbU n.below) rfl) | ((with_reducible refine at_rel (ty := 29) ?_); refine rel_load rfl v 0 rfl [.int .i64 s0, .int .i64 s1, .int .i64 s2, .int .i64 s3, .int .i64 s4] _ Try.underlying29 rfl (by kernel_rfl) (rangeAt_mono HRsU.out hsU n.below) rfl)))
                      | (unfold relAt
                         go_simp
                         (first | (refine relUpon_val ?_ (Below.refl _ _); exact rfl) | exact rfl | (refine relUpon_enter ?_; (go_at_call 19; (with_reducible refine (HFu.out _).mono ?_); rintro e w9 ⟨rfl, hb⟩; exact ⟨⟨_, rfl, rfl⟩, hb⟩)))))
                  (simp only [Act.put, List.setIfInBounds_toArray, List.set_cons_zero, List.set_cons_succ])
                  (with_reducible refine HK.out _ _ ?_)
                  clear HK K))
              refine relNil ?_
              intro r7 n7 hx7
              clear hcH
              (try simp only [List.nil_append, List.cons_append, List.mem_cons, List.not_mem_nil, or_false, forall_eq_or_imp, forall_eq, false_implies, implies_true] at hx7)
              obtain ⟨w7, hb7⟩ := n7
              (try dsimp only)
              obtain ⟨hc7, hf7⟩ := bcell hb7
              have hz7 := hb7.size
              (try simp at hz7)
              have HB7 := Lib.hid (HBU.out.trans (hb7.mono HBU.out.size))
              clear hb7 hc7 hf7 hz7
              go_wp2
              go_roundw
              case rel => exact ⟨k + 1, by omega, by go_num, HB7.out⟩
              case measure => simp [intOf]; omega
          · have q0 : (e == 0) = false := by simpa using he
            clear hur hri hly he
            go_wp2_with (go_at_call 16; (with_reducible refine (HUm.out _ HB.out).mono ?_); rintro e w3 ⟨rfl, hb3⟩; have HB3 := Lib.hid (HB.out.trans (hb3.mono hbz)); clear hb3)
            go_roundw
            case rel => exact ⟨k + 1, by omega, by go_num, HB3.out.alloc HB3.out.size _⟩
            case measure => simp [intOf]; omega
        · obtain rfl : k = n := by omega
          go_wp2_with (go_at_call 13; (with_reducible refine (yknown_any _).mono ?_); rintro e w5 ⟨rfl, hb5⟩; have HB5 := Lib.hid (HB.out.trans (hb5.mono hbz)); clear hb5)
          go_ret
          exact ⟨rfl, HB5.out⟩
    · have q0 : (E == 0) = false := by simpa using h0
      generalize ms.length = n at HLi HCk ⊢
      generalize bs.length = q at HLi HCk ⊢
      clear hF hG hA hB hl hl2 hL hLi hE h20 h40 hLm hLb hCk h0
      go_enter Try.func4, Try.ntmps4
      go_wp2_with (first
        | (go_at_call 12; (with_reducible refine (HLi.out).mono ?_); rintro e w1 ⟨rfl, hb1⟩; have HB1 := Lib.hid hb1; have hz1 := hb1.size; clear hb1)
        | (go_at_call 14; (with_reducible refine (HCk.out _ HB1.out).mono ?_); rintro e w2 ⟨rfl, hb2⟩; have HB2 := Lib.hid (HB1.out.trans (hb2.mono hz1)); have hz2 := HB2.out.size; clear hb2)
        | (go_at_call 13; (with_reducible refine (yknown_any _).mono ?_); rintro e w3 ⟨rfl, hb3⟩; have HB3 := Lib.hid (HB2.out.trans (hb3.mono hz2)); clear hb3))
      go_ret
      exact ⟨rfl, HB3.out⟩

set_option maxRecDepth 100000 in
theorem walk {H : Type} {enc : TypeId × Value → H} {W : World} {base : Nat} {v u : Value} {d e : DataW H} {p q : List MemPlace}
    (hv : Value.okWide Try.prog W .any base 22 v) (h : DataW.Trod enc Try.prog W 0 (fun _ => true) true 22 v d p)
    (hu : Value.okWide Try.prog W .any base 23 u) (h2 : DataW.Trod enc Try.prog W 0 (fun _ => true) true 23 u e q) :
    Calls Try.prog 4 #[v, u] W fun e W' => e = .returned (.bool true) ∧ Below W.heap.size W W' := by
  obtain ⟨a, l, k, rfl, -, hF, hm, -, hI⟩ := open_macs hv h
  obtain ⟨c, l2, k2, rfl, -, hG, hm2, -, hI2⟩ := open_bnds hu h2
  exact walk1 a k l c k2 l2 W hF hG hI hI2 hm hm2

set_option maxRecDepth 100000 in
theorem lifted (os : Os) (started : os.Started) (H : Type) (enc : TypeId × Value → H) :
    ReturnsInHanded {} Try.checked os 4 .any (Rows.yardLeftSpec.pre6 enc Try.prog Try.f4 Rows.yardLeftRow.domain false) (Rows.yardLeftSpec.post enc Try.prog Try.f4 false true false false) := by
  refine returnsInHanded_of_change (C := Try.checked) Try.own started (by kernel_rfl) Try.func4
    (ChangeSpec.witness6 (enc := enc) (C := Try.checked) false ⟨#[], #[.slice none 0 0, .slice none 0 0], []⟩ 8 (by kernel_rfl) (by kernel_rfl) (by kernel_rfl) (by kernel_rfl)) ?_
  intro W base args ds gs before hval hW _ _
  have hW' := hW
  obtain ⟨p, q, hA, hV, rfl, hfz, hnd⟩ := hW
  rw [Try.params4] at hA hval
  obtain ⟨v0, v1, d0, d1, p0, p1, rfl, rfl, rfl, h0, h1⟩ := trodAll_two hA
  refine (walk (hval 0 22 v0 rfl rfl) h0 (hval 1 23 v1 rfl rfl) h1).mono fun e W' ⟨he, hb⟩ => ?_
  exact ⟨_, he, law_post Try.laidOut hW' rfl (by kernel_rfl) (by kernel_rfl) Try.underlying4 rfl rfl rfl hb⟩

theorem over : Rows.yardLeftRow.holds Try.pinned (OpenSpec.ofChange Rows.yardLeftSpec) :=
  OpenClaim.holds_of_wide 4 Try.f4 rfl rfl rfl rfl rfl rfl rfl ⟨rfl, rfl, rfl, rfl, rfl⟩ rfl rfl rfl rfl rfl (by kernel_rfl) Try.func4 (by kernel_rfl)
    (of_decide_eq_true (by kernel_rfl)) (by unfold Func.isWrapper; first | (rw [if_pos (by decide +kernel)]; kernel_rfl) | (rw [if_neg (by decide +kernel)]; exact ⟨rfl, rfl⟩))
    (fun os started H enc _ => lifted os started H enc)

/-- The statement. -/
theorem proved : Rows.YardLeftSaid := over
end yardLeft
end Go.Proofs.Ythbpnfpalcgfeaa
