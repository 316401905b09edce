/-
  PermitBounds: behind what is permitted targets stay within their bounds; what rests is not asked for more; a Leaving one is not given back again.
-/
import Derived.Test.YtmkdfcggjlhcpaaPeM
import Derived.Test.YtmkdfcggjlhcpaaPeQ
import Derived.Test.YtmkdfcggjlhcpaaPeV
namespace Go.Proofs.Ytmkdfcggjlhcpaa
open Go.ChangeShapes Go.WideShapes Go.ChangeAt Go.RowKit
set_option linter.unusedVariables false
set_option linter.unusedSimpArgs false
namespace permitBounds

set_option maxRecDepth 100000 in
set_option maxHeartbeats 16000000 in
theorem walk1 (s : St) (c : Option Addr) (kc : Nat) (l : List Cv) (w : World) (hI : StIn w s) (hC : s.C.length ≤ maxLen) (hT : s.T.length ≤ maxLen) (hL : s.L.length ≤ maxLen) (hR : s.R.length ≤ maxLen) (hF : CvL w c l) (hV : ∀ x ∈ l, CvIn w x) (hm : l.length ≤ maxLen) :
    Calls Try.prog 3 #[.agg #[.slice s.ga s.C.length s.gk, .slice s.ta s.T.length s.tk, .slice s.ia s.L.length s.ik, .int .i64 s.c0, .int .i64 s.c1, .int .i64 s.c2, .slice s.ra s.R.length s.rk, .int .i64 s.un, .int .i64 s.sh], .slice c l.length kc] w fun e w' => e = .returned (.bool true) ∧ Below w.heap.size w w' := by
  have HRt := Lib.hid (fun V (hV : Below w.heap.size w V) => right33_any s V (hI.mono hV) hC hT hL hR)
  have HI := Lib.hid hI
  have HF := Lib.hid hF
  have HV := Lib.hid hV
  obtain ⟨N, hN⟩ : ∃ n, l.length = n := ⟨_, rfl⟩
  have HN := Lib.hid hN
  rw [hN] at hm ⊢
  clear hI hC hT hL hR hF hV hN
  obtain ⟨W, hW⟩ : ∃ W, W = w.alloc (.cells #[.slice s.ga s.C.length s.gk, .slice s.ta s.T.length s.tk, .slice s.ia s.L.length s.ik, .int .i64 s.c0, .int .i64 s.c1, .int .i64 s.c2, .slice s.ra s.R.length s.rk, .int .i64 s.un, .int .i64 s.sh] 29) := ⟨_, rfl⟩
  have HS := Lib.hid (show Blk W w.heap.size 29 [.slice s.ga s.C.length s.gk, .slice s.ta s.T.length s.tk, .slice s.ia s.L.length s.ik, .int .i64 s.c0, .int .i64 s.c1, .int .i64 s.c2, .slice s.ra s.R.length s.rk, .int .i64 s.un, .int .i64 s.sh] by rw [hW]; exact Blk.new w _ _)
  have HB := Lib.hid (show Below w.heap.size w W by rw [hW]; exact (Below.refl _ _).alloc (Nat.le_refl _) _)
  go_enter Try.func3, Try.ntmps3
  go_upto_region 1 with (fail)
  rw [← hW]
  clear hW
  by_cases h30 : N ≤ 30
  · have k30 : decide (30 < N) = false := decide_eq_false (by omega)
    have k30i : decide ((30 : Int) < (N : Int)) = false := decide_eq_false (by omega)
    go_upto_region 4 with (first
      | ((with_reducible refine at_load (ty := 29) ?_); refine load_cells rfl 29 (.tmp 2) rfl w.heap.size 0 rfl [.slice s.ga s.C.length s.gk, .slice s.ta s.T.length s.tk, .slice s.ia s.L.length s.ik, .int .i64 s.c0, .int .i64 s.c1, .int .i64 s.c2, .slice s.ra s.R.length s.rk, .int .i64 s.un, .int .i64 s.sh] _ Try.underlying29 rfl (by kernel_rfl) (by first | exact HS.out.range 0 _ rfl | exact HS1.out.range 0 _ rfl) ?_)
      | (go_at_call 4; (with_reducible refine (HRt.out _ HB.out).mono ?_); rintro e w1 ⟨⟨b, rfl, hb1⟩, hb⟩; have HB1 := Lib.hid (HB.out.trans (hb.mono HB.out.size)); have HS1 := Lib.hid (HS.out.below hb); have HOk := Lib.hid hb1; clear hb hb1; cases b)
      | (go_at_call 5; (with_reducible refine (known_any _).mono ?_); rintro e w8 ⟨rfl, hb⟩; have HB8 := Lib.hid (HB1.out.trans (hb.mono HB1.out.size)); clear hb)
      | (go_at_call 6; (with_reducible refine (given_any s _).mono ?_); rintro e w2 ⟨rfl, hb⟩; have HB2 := Lib.hid (HB1.out.trans (hb.mono HB1.out.size)); have HS2 := Lib.hid (HS1.out.below hb); clear hb)
      | ((with_reducible refine at_store (ty := 33) ?_); refine store_new rfl 33 (.tmp 5) (.tmp 23) rfl _ _ rfl rfl (by kernel_rfl) rfl (by rfl) rfl ?_))
    · refine bodyPost_ret (v := .bool true) (by simp [results, Try.results3, go_sem]) rfl ⟨rfl, HB8.out⟩
    · have HOk := Lib.hid (HOk.out (by trivial))
      obtain ⟨V, hV⟩ : ∃ V, V = w2.alloc (.cells #[.slice s.ga s.C.length s.gk, .slice s.ta s.T.length s.tk, .slice s.ia s.L.length s.ik, .int .i64 s.c0, .int .i64 s.c1, .int .i64 s.c2, .slice s.ra s.R.length s.rk, .int .i64 s.un, .int .i64 s.sh] 33) := ⟨_, rfl⟩
      have hbn : Below w2.heap.size w2 V := by rw [hV]; exact below_alloc _ _
      have HX := Lib.hid (show Blk V w2.heap.size 33 [.slice s.ga s.C.length s.gk, .slice s.ta s.T.length s.tk, .slice s.ia s.L.length s.ik, .int .i64 s.c0, .int .i64 s.c1, .int .i64 s.c2, .slice s.ra s.R.length s.rk, .int .i64 s.un, .int .i64 s.sh] by rw [hV]; exact Blk.new _ _ _)
      have HB3 := Lib.hid (HB2.out.trans (hbn.mono HB2.out.size))
      have HS3 := Lib.hid (HS2.out.below hbn)
      have hlX : w.heap.size < w2.heap.size := HS2.out.lt
      rw [← hV]
      clear hV hbn HRt HB HS HB1 HS1 HB2 HS2
      generalize w2.heap.size = X at HX hlX ⊢
      have HK0 := Lib.hid (KB.first HOk.out.o)
      go_wp2
      go_loopw [6] (fun i wr => ∃ (k : Nat) (sk : St), k ≤ N ∧ i = .int .i64 k ∧ KB s sk ∧ (sk = s ∨ SOwn (X + 1) sk wr) ∧ Blk wr X 33 [.slice sk.ga sk.C.length sk.gk, .slice sk.ta sk.T.length sk.tk, .slice sk.ia sk.L.length sk.ik, .int .i64 sk.c0, .int .i64 sk.c1, .int .i64 sk.c2, .slice sk.ra sk.R.length sk.rk, .int .i64 sk.un, .int .i64 sk.sh] ∧ Blk wr w.heap.size 29 [.slice s.ga s.C.length s.gk, .slice s.ta s.T.length s.tk, .slice s.ia s.L.length s.ik, .int .i64 s.c0, .int .i64 s.c1, .int .i64 s.c2, .slice s.ra s.R.length s.rk, .int .i64 s.un, .int .i64 s.sh] ∧ Below w.heap.size w wr) (fun i _ => N - (intOf i).toNat)
      case atStart => exact ⟨0, s, Nat.zero_le _, rfl, HK0.out, .inl rfl, HX.out, HS3.out, HB3.out⟩
      case round =>
        obtain ⟨k, sk, hk, rfl, hkb, hsk, hx, hs, hb⟩ := hrel
        have HKb := Lib.hid hkb
        have HXr := Lib.hid hx
        have HSr := Lib.hid hs
        have HBr := Lib.hid hb
        have HIk := Lib.hid (show StIn wr sk from by
          rcases hsk with rfl | h
          · exact HI.out.mono hb
          · exact h.sIn hkb.o.gl)
        have HIs := Lib.hid (HI.out.mono hb)
        have hlXr := HXr.out.lt
        have hlSr := HSr.out.lt
        clear HX HS3 HB3
        by_cases hlt : k < N
        · obtain ⟨x, hx⟩ := mem_at (l := l) (k := k) (by rw [HN.out]; exact hlt)
          obtain ⟨b, o, rfl, hbw, hc⟩ := HF.out (by rw [HN.out]; omega)
          have hxi := HV.out x (List.mem_of_getElem? hx)
          obtain ⟨x0, x1, x2⟩ := cv_cells (hc k x hx)
          have x0 := (hb.cell (p := ⟨b, o + k * 3, none⟩) hbw).trans x0
          have x1 := (hb.cell (p := ⟨b, o + k * 3 + 1, none⟩) hbw).trans x1
          have HRc := Lib.hid (show wr.rangeAt b (o + k * 3) [.string x.what, .string x.nm, .int .i64 x.n] from fun j v hj => by
            have hj3 : j < 3 := (List.getElem?_eq_some_iff.1 hj).1
            rw [hb.cell (p := ⟨b, o + k * 3 + j, none⟩) hbw, hc k x hx j hj3]
            exact hj)
          have HRx := Lib.hid (HXr.out.range 0 [.slice sk.ga sk.C.length sk.gk, .slice sk.ta sk.T.length sk.tk, .slice sk.ia sk.L.length sk.ik, .int .i64 sk.c0, .int .i64 sk.c1, .int .i64 sk.c2, .slice sk.ra sk.R.length sk.rk, .int .i64 sk.un, .int .i64 sk.sh] rfl)
          have hbr : b < wr.heap.size := Nat.lt_of_lt_of_le hbw hb.size
          have HCx := Lib.hid (callc_any x)
          obtain ⟨z, hz⟩ : ∃ z, whyP sk x.what x.nm x.n (bX sk x.nm x.n) = z := ⟨_, rfl⟩
          clear hkb hx hs hb hc hbw
          by_cases h0 : z = 0
          · subst h0
            have HAf := Lib.hid (fun V (hV : Below wr.heap.size wr V) => after_yes (w := V) (HIk.out.mono hV) HKb.out.o hxi.1 hxi.2 hz)
            have Hz := Lib.hid hz
            clear hz hxi
            go_upto_region 7 with (fail)
            have hcH := held_cell
            refine region_rel_late 11 [9] (by kernel_rfl) (by kernel_rfl) (by kernel_rfl) ?_ ?_
            · exact fun _ _ _ _ _ h => h
            dsimp only [List.take, List.drop]
            repeat
              ((with_reducible refine relStep (fun K hK => ?_))
               (have HK := Lib.hid hK)
               clear hK
               (apply relInl
                · intro r n hf
                  have Hf := Lib.hid hf
                  clear hf
                  (first
                    | ((first | ((with_reducible refine at_rel (ty := 33) ?_); refine rel_load rfl X 0 rfl [.slice sk.ga sk.C.length sk.gk, .slice sk.ta sk.T.length sk.tk, .slice sk.ia sk.L.length sk.ik, .int .i64 sk.c0, .int .i64 sk.c1, .int .i64 sk.c2, .slice sk.ra sk.R.length sk.rk, .int .i64 sk.un, .int .i64 sk.sh] _ Try.underlying33 rfl (by kernel_rfl) (rangeAt_mono HRx.out hlXr n.below) rfl) | ((with_reducible refine at_rel (ty := 41) ?_); refine rel_load rfl b (o + k * 3) rfl [.string x.what, .string x.nm, .int .i64 x.n] _ Try.underlying41 rfl (by kernel_rfl) (rangeAt_mono HRc.out hbr n.below) rfl)))
                    | (unfold relAt
                       go_simp
                       (first | (refine relUpon_val ?_ (Below.refl _ _); exact rfl) | exact rfl | (refine relUpon_enter ?_; (go_at_call 8; (with_reducible refine (HCx.out _).mono ?_); rintro e w9 ⟨rfl, hb⟩; exact ⟨⟨_, rfl, rfl⟩, hb⟩)))))
                (simp only [Act.put, List.setIfInBounds_toArray, List.set_cons_zero, List.set_cons_succ])
                (with_reducible refine HK.out _ _ ?_)
                clear HK K))
            (with_reducible refine relStep (fun K hK => ?_))
            (have HK := Lib.hid hK)
            clear hK
            refine relInr (RA (X + 1) (aft sk x.what x.nm x.n)) (RA.stays _ _) (fun r n hf => ?_) ?_
            · have Hf := Lib.hid hf
              clear hf HK K
              unfold relAt
              (skip)
              go_simp
              ((refine relUpon_enter ?_; go_at_call 7; (with_reducible refine (HAf.out _ n.below).mono ?_); rintro e w9 ⟨⟨s', rfl, h1, h2⟩, hb⟩; exact ⟨⟨_, rfl, ⟨s', rfl, h1.less (Nat.le_trans (Nat.succ_le_of_lt hlXr) n.below.size), h2⟩⟩, hb⟩))
            (simp only [Act.put, List.setIfInBounds_toArray, List.set_cons_zero, List.set_cons_succ])
            (with_reducible refine HK.out _ _ ?_)
            clear HK K
            (with_reducible refine relStep (fun K hK => ?_))
            (have HK := Lib.hid hK)
            clear hK
            refine relInr (RA (X + 1) (aft sk x.what x.nm x.n)) (RA.stays _ _) (fun r n hf => ?_) ?_
            · have Hf := Lib.hid hf
              clear hf HK K
              unfold relAt
              ((have h1 := given_at Hf.out 0 rfl (by dsimp only; decide +kernel); (try dsimp only at h1)))
              go_simp
              ((exact relUpon_val h1 (Below.refl _ _)))
            (simp only [Act.put, List.setIfInBounds_toArray, List.set_cons_zero, List.set_cons_succ])
            (with_reducible refine HK.out _ _ ?_)
            clear HK K
            (with_reducible refine relStep (fun K hK => ?_))
            (have HK := Lib.hid hK)
            clear hK
            refine relInr (RE (X + 1) (aft sk x.what x.nm x.n)) (RE.stays _ _) (fun r n hf => ?_) ?_
            · have Hf := Lib.hid hf
              clear hf HK K
              unfold relAt
              ((have h1 := given_at Hf.out 1 rfl (by dsimp only; decide +kernel); (try dsimp only at h1); obtain ⟨s', e1, h1, h2⟩ := h1; rw [e1]; have H1 := Lib.hid h1; have H2 := Lib.hid h2; clear h1 h2 e1))
              go_simp
              ((refine relUpon_val ⟨s', rfl, H1.out, H2.out⟩ (Below.refl _ _)))
            (simp only [Act.put, List.setIfInBounds_toArray, List.set_cons_zero, List.set_cons_succ])
            (with_reducible refine HK.out _ _ ?_)
            clear HK K
            (with_reducible refine relStep (fun K hK => ?_))
            (have HK := Lib.hid hK)
            clear hK
            refine relInr (RO) (RO.stays) (fun r n hf => ?_) ?_
            · have Hf := Lib.hid hf
              clear hf HK K
              unfold relAt
              ((have h1 := given_at Hf.out 1 rfl (by dsimp only; decide +kernel); (try dsimp only at h1); obtain ⟨s', e1, -, -⟩ := h1; rw [e1]; clear e1))
              go_simp
              ((exact relUpon_val rfl (Below.refl _ _)))
            (simp only [Act.put, List.setIfInBounds_toArray, List.set_cons_zero, List.set_cons_succ])
            (with_reducible refine HK.out _ _ ?_)
            clear HK K
            (with_reducible refine relStep (fun K hK => ?_))
            (have HK := Lib.hid hK)
            clear hK
            refine relInr (NewS wr.heap.size) (NewS.stays _) (fun r n hf => ?_) ?_
            · have Hf := Lib.hid hf
              clear hf HK K
              unfold relAt
              (skip)
              go_simp
              ((refine relUpon_val ?_ ?_; exact NewS.mk n; exact (Below.refl _ _).alloc (Nat.le_refl _) _))
            (simp only [Act.put, List.setIfInBounds_toArray, List.set_cons_zero, List.set_cons_succ])
            (with_reducible refine HK.out _ _ ?_)
            clear HK K
            refine relNil ?_
            intro r9 n9 hx9
            clear hcH
            (try simp only [List.nil_append, List.cons_append, List.mem_cons, List.not_mem_nil, or_false, forall_eq_or_imp, forall_eq, false_implies, implies_true] at hx9)
            obtain ⟨w9, hb9⟩ := n9
            (try dsimp only)
            obtain ⟨hc9, hf9⟩ := bcell hb9
            have hz9 := hb9.size
            (try simp at hz9)
            obtain ⟨-, -, ⟨s', e8, ho8, ha8⟩, e0, Xn, e9, hXn, hBn⟩ := hx9
            have e9 : r9 10 = _ := e9
            have e8 : r9 8 = _ := e8
            replace e0 : r9 9 = .int .i64 0 := e0
            dsimp only at hBn ho8 ha8
            rw [e9, e8, e0]
            have HN9 := Lib.hid hBn
            have HO9 := Lib.hid ho8
            have HB9 := Lib.hid hb9
            have HA9 := Lib.hid ha8
            have hXl := hBn.lt
            clear e9 e8 e0 hBn hc9 hf9 hb9 hz9 ho8 ha8 HAf HRc HRx
            go_upto_region 9 with (first
              | ((with_reducible refine at_store (ty := 33) ?_); refine wpList_store_mid rfl 33 (.tmp 7) (.tmp 38) rfl Xn 0 _ rfl rfl (HN9.out.there 0 9 (Nat.le_of_ble_eq_true rfl)) (by kernel_rfl) (by rw [← Array.all_toList]; rfl) ?_; obtain ⟨W5, hW5⟩ : ∃ W5, W5 = w9.setCells Xn 0 [.slice s'.ga s'.C.length s'.gk, .slice s'.ta s'.T.length s'.tk, .slice s'.ia s'.L.length s'.ik, .int .i64 s'.c0, .int .i64 s'.c1, .int .i64 s'.c2, .slice s'.ra s'.R.length s'.rk, .int .i64 s'.un, .int .i64 s'.sh] := ⟨_, rfl⟩; (show wpList _ _ _ _ _ (w9.setCells Xn 0 [.slice s'.ga s'.C.length s'.gk, .slice s'.ta s'.T.length s'.tk, .slice s'.ia s'.L.length s'.ik, .int .i64 s'.c0, .int .i64 s'.c1, .int .i64 s'.c2, .slice s'.ra s'.R.length s'.rk, .int .i64 s'.un, .int .i64 s'.sh])); rw [← hW5]; have HO5 := Lib.hid (show Only [Xn] w9 W5 from by rw [hW5]; exact Only.setCells (.inl (by simp)) (Only.refl _ _) _ _); have HY5 := Lib.hid (show Blk W5 Xn 33 [.slice s'.ga s'.C.length s'.gk, .slice s'.ta s'.T.length s'.tk, .slice s'.ia s'.L.length s'.ik, .int .i64 s'.c0, .int .i64 s'.c1, .int .i64 s'.c2, .slice s'.ra s'.R.length s'.rk, .int .i64 s'.un, .int .i64 s'.sh] from by rw [hW5]; exact HN9.out.setCells 0 _); have HB5 := Lib.hid (show Below wr.heap.size wr W5 from HO5.out.below HB9.out HB9.out.size (by simpa using hXn)); clear hW5))
            have HKn := Lib.hid (HKb.out.step Hz.out HA9.out)
            have HOn := Lib.hid (HO9.out.apart HN9.out HO5.out)
            have hMr := fun (hm : x.what = sUp ∨ x.what = sRaise) => HKb.out.more Hz.out hm
            have HLv := Lib.hid (fun (j : Nat) (y z : Ins) (hy : sk.L[j]? = some y) (hz : s'.L[j]? = some z) (h3 : y.st = 3) => KB.leave HA9.out hy hz h3)
            have HeT := Lib.hid (HKn.out.lt HOk.out.o)
            have HeL := Lib.hid HKn.out.ll
            have HeK := Lib.hid HKb.out.ll
            have hXv := HXr.out.below HB5.out
            rw [HeK.out] at hXv
            have HXv := Lib.hid hXv
            have hNv := HY5.out
            rw [HeT.out, HeL.out] at hNv
            have HNv := Lib.hid hNv
            have HSv := Lib.hid (HSr.out.below HB5.out)
            have HBv := Lib.hid (HBr.out.trans (HB5.out.mono HBr.out.size))
            have HIv := Lib.hid (HIs.out.mono HB5.out)
            have HIkv := Lib.hid (HIk.out.mono HB5.out)
            have HInv := Lib.hid (HOn.out.sIn HKn.out.o.gl)
            have hbv : b < W5.heap.size := Nat.lt_of_lt_of_le hbr HB5.out.size
            have x0 := (HB5.out.cell (p := ⟨b, o + k * 3, none⟩) hbr).trans x0
            have x1 := (HB5.out.cell (p := ⟨b, o + k * 3 + 1, none⟩) hbr).trans x1
            have hT16 : s.T.length ≤ 16 := by have := HOk.out.o.lt; have := HOk.out.g.g16; omega
            have hL60 := HOk.out.l60
            have hR20 := HOk.out.r20
            have HGb := Lib.hid (fun (j : Nat) (t : Int) (ht : s'.T[j]? = some t) => HKn.out.bound ht)
            have hlXv : w.heap.size < W5.heap.size := HSv.out.lt
            clear hXv hNv hXn hXl HO9 HA9 HN9 HO5 HY5 HB5 HIk HIs HXr HSr HBr hlXr hlSr hbr hsk Hz HCx
            have hk : ((x.what.toList == [117, 112]) = true ∧ s.un ≤ s.sh ∧ s.R.any (strB x.nm) = false) ∨ ((x.what.toList == [117, 112]) = false ∧ (x.what.toList == [114, 97, 105, 115, 101]) = true ∧ s.un ≤ s.sh ∧ s.R.any (strB x.nm) = false) ∨ ((x.what.toList == [117, 112]) = false ∧ (x.what.toList == [114, 97, 105, 115, 101]) = false) := by
              by_cases h1 : x.what = sUp
              · exact .inl ⟨plit_yes h1, hMr (.inl h1)⟩
              · by_cases h2 : x.what = sRaise
                · exact .inr (.inl ⟨plit_no h1, plit_yes h2, hMr (.inr h2)⟩)
                · exact .inr (.inr ⟨plit_no h1, plit_no h2⟩)
            clear hMr
            rcases hk with ⟨k1, m1, m2⟩ | ⟨k1, k2, m1, m2⟩ | ⟨k1, k2⟩
            · have kq : decide (s.sh < s.un) = false := decide_eq_false (by omega)
              have HM := Lib.hid m2
              clear m1 m2
              go_wp2
              go_loopw [10] (fun i wr => ∃ j : Nat, j ≤ s.R.length ∧ i = .int .i64 j ∧ Below W5.heap.size W5 wr) (fun i _ => s.R.length - (intOf i).toNat)
              case atStart => exact ⟨0, Nat.zero_le _, rfl, Below.refl _ _⟩
              case round =>
                obtain ⟨j, hj, rfl, hbq⟩ := hrel
                have HBq := Lib.hid hbq
                have HSq := Lib.hid (HSv.out.below hbq)
                have HNq := Lib.hid (HNv.out.below hbq)
                have HXq := Lib.hid (HXv.out.below hbq)
                have hlSq := HSq.out.lt
                have hlNq := HNq.out.lt
                have hlXq := HXq.out.lt
                have hbvq : b < wr.heap.size := Nat.lt_of_lt_of_le hbv hbq.size
                have x1q := (hbq.cell (p := ⟨b, o + k * 3 + 1, none⟩) hbv).trans x1
                have y0 := HSq.out.cell 0
                have y1 := HSq.out.cell 1
                have y2 := HSq.out.cell 2
                have y6 := HSq.out.cell 6
                have y7 := HSq.out.cell 7
                have y8 := HSq.out.cell 8
                have z1 := HNq.out.cell 1
                have z2 := HNq.out.cell 2
                have v2 := HXq.out.cell 2
                dsimp only [List.getElem?_cons_zero, List.getElem?_cons_succ] at y0 y1 y2 y6 y7 y8 z1 z2 v2
                clear hbq
                by_cases hjl : j < s.R.length
                · obtain ⟨r, hr⟩ := mem_at (l := s.R) (k := j) hjl
                  obtain ⟨br, or, hra, hbrw, hcr⟩ := HIv.out.r (by omega)
                  have r0 := txt_cell (hcr j r hr)
                  rw [Nat.mul_one] at r0
                  have r0 := (HBq.out.cell (p := ⟨br, or + j, none⟩) hbrw).trans r0
                  have hbrq : br < wr.heap.size := Nat.lt_of_lt_of_le hbrw HBq.out.size
                  rw [hra] at y6
                  (have q0 : (r.toList == x.nm.toList) = false := by rw [strB_list]; exact decide_eq_false (fun e => by have h9 := List.any_eq_false.1 HM.out r (List.mem_of_getElem? hr); exact h9 (decide_eq_true e.symm)))
                  clear hcr hra hr
                  go_upto_region 13 with (fail)
                  have hcH := held_cell
                  refine region_rel (by kernel_rfl) (by kernel_rfl) ?_
                  repeat
                    ((with_reducible refine relStep (fun K hK => ?_))
                     (have HK := Lib.hid hK)
                     clear hK
                     (apply relInl
                      · intro r n hf
                        have Hf := Lib.hid hf
                        clear hf
                        (first
                          | (fail)
                          | (unfold relAt
                             go_simp
                             (first | (refine relUpon_val ?_ (Below.refl _ _); exact rfl) | exact rfl | (refine relUpon_enter ?_; fail))))
                      (simp only [Act.put, List.setIfInBounds_toArray, List.set_cons_zero, List.set_cons_succ])
                      (with_reducible refine HK.out _ _ ?_)
                      clear HK K))
                  refine relNil ?_
                  intro r5 n5 hx5
                  clear hcH
                  (try simp only [List.nil_append, List.cons_append, List.mem_cons, List.not_mem_nil, or_false, forall_eq_or_imp, forall_eq, false_implies, implies_true] at hx5)
                  obtain ⟨w5, hb5⟩ := n5
                  (try dsimp only)
                  obtain ⟨hc5, hf5⟩ := bcell hb5
                  have hz5 := hb5.size
                  (try simp at hz5)
                  go_wp2
                  go_roundw
                  case rel => exact ⟨j + 1, by omega, by go_num, HBq.out.trans (hb5.mono HBq.out.size)⟩
                  case measure => simp [intOf]; omega
                · obtain rfl : j = s.R.length := by omega
                  go_upto_region 15 with (fail)
                  go_wp2
                  go_loopw [11] (fun i wr => ∃ j : Nat, j ≤ s.T.length ∧ i = .int .i64 j ∧ Below W5.heap.size W5 wr) (fun i _ => s.T.length - (intOf i).toNat)
                  case atStart => exact ⟨0, Nat.zero_le _, rfl, HBq.out⟩
                  case round =>
                    obtain ⟨j, hj, rfl, hbq⟩ := hrel
                    clear HBq HSq HNq HXq hlSq hlNq hlXq hbvq x1q y0 y1 y2 y6 y7 y8 z1 z2 v2
                    have HBq := Lib.hid hbq
                    have HSq := Lib.hid (HSv.out.below hbq)
                    have HNq := Lib.hid (HNv.out.below hbq)
                    have HXq := Lib.hid (HXv.out.below hbq)
                    have hlSq := HSq.out.lt
                    have hlNq := HNq.out.lt
                    have hlXq := HXq.out.lt
                    have hbvq : b < wr.heap.size := Nat.lt_of_lt_of_le hbv hbq.size
                    have x1q := (hbq.cell (p := ⟨b, o + k * 3 + 1, none⟩) hbv).trans x1
                    have y0 := HSq.out.cell 0
                    have y1 := HSq.out.cell 1
                    have y2 := HSq.out.cell 2
                    have y6 := HSq.out.cell 6
                    have y7 := HSq.out.cell 7
                    have y8 := HSq.out.cell 8
                    have z1 := HNq.out.cell 1
                    have z2 := HNq.out.cell 2
                    have v2 := HXq.out.cell 2
                    dsimp only [List.getElem?_cons_zero, List.getElem?_cons_succ] at y0 y1 y2 y6 y7 y8 z1 z2 v2
                    clear hbq
                    by_cases hjl : j < s.T.length
                    · obtain ⟨t, ht⟩ := mem_at (l := s'.T) (k := j) (by rw [HeT.out]; exact hjl)
                      obtain ⟨g, hg, hg1, hg2⟩ := HGb.out j t ht
                      obtain ⟨bt, ot, hta, hbtw, hct⟩ := HInv.out.t (by rw [HeT.out]; omega)
                      obtain ⟨bg, og, hga, hbgw, hcg⟩ := HIv.out.g (Nat.lt_of_le_of_lt (Nat.zero_le _) (lt_at hg))
                      have t0 := int_cell (hct j t ht)
                      rw [Nat.mul_one] at t0
                      obtain ⟨-, g1, g2, -⟩ := grow_cells (hcg j g hg)
                      have t0 := (HBq.out.cell (p := ⟨bt, ot + j, none⟩) hbtw).trans t0
                      have g1 := (HBq.out.cell (p := ⟨bg, og + j * 15 + 1, none⟩) hbgw).trans g1
                      have g2 := (HBq.out.cell (p := ⟨bg, og + j * 15 + 2, none⟩) hbgw).trans g2
                      have hbtq : bt < wr.heap.size := Nat.lt_of_lt_of_le hbtw HBq.out.size
                      have hbgq : bg < wr.heap.size := Nat.lt_of_lt_of_le hbgw HBq.out.size
                      have hjC : j < s.C.length := lt_at hg
                      rw [hta] at z1
                      rw [hga] at y0
                      obtain ⟨mn, hmn⟩ : ∃ mn, g.mn = mn := ⟨_, rfl⟩
                      obtain ⟨mx, hmx⟩ : ∃ mx, g.mx = mx := ⟨_, rfl⟩
                      rw [hmn] at g1 hg1
                      rw [hmx] at g2 hg2
                      have k8 : decide (t < mn) = false := decide_eq_false (by omega)
                      have k9 : decide (mx < t) = false := decide_eq_false (by omega)
                      clear hct hcg ht hg hmn hmx hta hga hg1 hg2
                      go_upto_region 20 with (fail)
                      have hcH := held_cell
                      refine region_rel (by kernel_rfl) (by kernel_rfl) ?_
                      repeat
                        ((with_reducible refine relStep (fun K hK => ?_))
                         (have HK := Lib.hid hK)
                         clear hK
                         (apply relInl
                          · intro r n hf
                            have Hf := Lib.hid hf
                            clear hf
                            (first
                              | (fail)
                              | (unfold relAt
                                 go_simp
                                 (first | (refine relUpon_val ?_ (Below.refl _ _); exact rfl) | exact rfl | (refine relUpon_enter ?_; fail))))
                          (simp only [Act.put, List.setIfInBounds_toArray, List.set_cons_zero, List.set_cons_succ])
                          (with_reducible refine HK.out _ _ ?_)
                          clear HK K))
                      refine relNil ?_
                      intro r5 n5 hx5
                      clear hcH
                      (try simp only [List.nil_append, List.cons_append, List.mem_cons, List.not_mem_nil, or_false, forall_eq_or_imp, forall_eq, false_implies, implies_true] at hx5)
                      obtain ⟨w5, hb5⟩ := n5
                      (try dsimp only)
                      obtain ⟨hc5, hf5⟩ := bcell hb5
                      have hz5 := hb5.size
                      (try simp at hz5)
                      go_wp2
                      go_roundw
                      case rel => exact ⟨j + 1, by omega, by go_num, HBq.out.trans (hb5.mono HBq.out.size)⟩
                      case measure => simp [intOf]; omega
                    · obtain rfl : j = s.T.length := by omega
                      go_wp2
                      go_loopw [12] (fun i wr => ∃ j : Nat, j ≤ s.L.length ∧ i = .int .i64 j ∧ Below W5.heap.size W5 wr) (fun i _ => s.L.length - (intOf i).toNat)
                      case atStart => exact ⟨0, Nat.zero_le _, rfl, HBq.out⟩
                      case round =>
                        obtain ⟨j, hj, rfl, hbq⟩ := hrel
                        clear HBq HSq HNq HXq hlSq hlNq hlXq hbvq x1q y0 y1 y2 y6 y7 y8 z1 z2 v2
                        have HBq := Lib.hid hbq
                        have HSq := Lib.hid (HSv.out.below hbq)
                        have HNq := Lib.hid (HNv.out.below hbq)
                        have HXq := Lib.hid (HXv.out.below hbq)
                        have hlSq := HSq.out.lt
                        have hlNq := HNq.out.lt
                        have hlXq := HXq.out.lt
                        have hbvq : b < wr.heap.size := Nat.lt_of_lt_of_le hbv hbq.size
                        have x1q := (hbq.cell (p := ⟨b, o + k * 3 + 1, none⟩) hbv).trans x1
                        have y0 := HSq.out.cell 0
                        have y1 := HSq.out.cell 1
                        have y2 := HSq.out.cell 2
                        have y6 := HSq.out.cell 6
                        have y7 := HSq.out.cell 7
                        have y8 := HSq.out.cell 8
                        have z1 := HNq.out.cell 1
                        have z2 := HNq.out.cell 2
                        have v2 := HXq.out.cell 2
                        dsimp only [List.getElem?_cons_zero, List.getElem?_cons_succ] at y0 y1 y2 y6 y7 y8 z1 z2 v2
                        clear hbq
                        by_cases hjl : j < s.L.length
                        · obtain ⟨y, hy⟩ := mem_at (l := sk.L) (k := j) (by rw [HeK.out]; exact hjl)
                          obtain ⟨z, hz⟩ := mem_at (l := s'.L) (k := j) (by rw [HeL.out]; exact hjl)
                          have h33 := HLv.out j y z hy hz
                          obtain ⟨bt, ot, hta, hbtw, hct⟩ := HIkv.out.i (by rw [HeK.out]; omega)
                          obtain ⟨bg, og, hga, hbgw, hcg⟩ := HInv.out.i (by rw [HeL.out]; omega)
                          obtain ⟨-, -, d2, -⟩ := irow_cells (hct j y hy)
                          obtain ⟨-, -, e2, -⟩ := irow_cells (hcg j z hz)
                          have d2 := (HBq.out.cell (p := ⟨bt, ot + j * 5 + 2, none⟩) hbtw).trans d2
                          have e2 := (HBq.out.cell (p := ⟨bg, og + j * 5 + 2, none⟩) hbgw).trans e2
                          have hbtq : bt < wr.heap.size := Nat.lt_of_lt_of_le hbtw HBq.out.size
                          have hbgq : bg < wr.heap.size := Nat.lt_of_lt_of_le hbgw HBq.out.size
                          rw [hta] at v2
                          rw [hga] at z2
                          obtain ⟨ys, hys⟩ : ∃ v, y.st = v := ⟨_, rfl⟩
                          obtain ⟨zs, hzs⟩ : ∃ v, z.st = v := ⟨_, rfl⟩
                          rw [hys] at d2 h33
                          rw [hzs] at e2 h33
                          clear hct hcg hy hz hys hzs hta hga
                          by_cases h3 : ys = 3
                          · have k8 : (ys == 3) = true := by rw [h3]; rfl
                            have k9 : (zs != 3) = false := by rw [h33 h3]; rfl
                            clear h3 h33
                            go_wp2
                            go_roundw
                            case rel => exact ⟨j + 1, by omega, by go_num, HBq.out⟩
                            case measure => simp [intOf]; omega
                          · have k8 : (ys == 3) = false := by simpa using h3
                            clear h3 h33
                            go_wp2
                            go_roundw
                            case rel => exact ⟨j + 1, by omega, by go_num, HBq.out⟩
                            case measure => simp [intOf]; omega
                        · obtain rfl : j = s.L.length := by omega
                          go_wp2_with (first
                            | ((with_reducible refine at_load (ty := 33) ?_); refine load_cells rfl 33 (.tmp 7) rfl Xn 0 rfl [.slice s'.ga s'.C.length s'.gk, .slice s'.ta s.T.length s'.tk, .slice s'.ia s.L.length s'.ik, .int .i64 s'.c0, .int .i64 s'.c1, .int .i64 s'.c2, .slice s'.ra s'.R.length s'.rk, .int .i64 s'.un, .int .i64 s'.sh] _ Try.underlying33 rfl (by kernel_rfl) (HNq.out.range 0 _ rfl) ?_)
                            | ((with_reducible refine at_store (ty := 33) ?_); refine wpList_store_mid rfl 33 (.tmp 5) (.tmp 159) rfl X 0 _ rfl rfl (HXq.out.there 0 9 (Nat.le_of_ble_eq_true rfl)) (by kernel_rfl) (by rw [← Array.all_toList]; rfl) ?_; obtain ⟨W7, hW7⟩ : ∃ W7, W7 = wr.setCells X 0 [.slice s'.ga s'.C.length s'.gk, .slice s'.ta s.T.length s'.tk, .slice s'.ia s.L.length s'.ik, .int .i64 s'.c0, .int .i64 s'.c1, .int .i64 s'.c2, .slice s'.ra s'.R.length s'.rk, .int .i64 s'.un, .int .i64 s'.sh] := ⟨_, rfl⟩; (show wpList _ _ _ _ _ (wr.setCells X 0 [.slice s'.ga s'.C.length s'.gk, .slice s'.ta s.T.length s'.tk, .slice s'.ia s.L.length s'.ik, .int .i64 s'.c0, .int .i64 s'.c1, .int .i64 s'.c2, .slice s'.ra s'.R.length s'.rk, .int .i64 s'.un, .int .i64 s'.sh])); rw [← hW7]; have HO7 := Lib.hid (show Only [X] wr W7 from by rw [hW7]; exact Only.setCells (.inl (by simp)) (Only.refl _ _) _ _); have HX7 := Lib.hid (show Blk W7 X 33 [.slice s'.ga s'.C.length s'.gk, .slice s'.ta s.T.length s'.tk, .slice s'.ia s.L.length s'.ik, .int .i64 s'.c0, .int .i64 s'.c1, .int .i64 s'.c2, .slice s'.ra s'.R.length s'.rk, .int .i64 s'.un, .int .i64 s'.sh] from by rw [hW7]; exact HXq.out.setCells 0 _); clear hW7))
                          go_roundw
                          case rel =>
                            have hBw := HBv.out.trans (HBq.out.mono HBv.out.size)
                            have h9 := HX7.out
                            rw [← HeT.out, ← HeL.out] at h9
                            exact ⟨k + 1, s', by omega, by go_num, HKn.out, .inr ((HOn.out.mono HBq.out).only HO7.out (by simp)), h9, HSq.out.only HO7.out (by simp; omega), HO7.out.below hBw hBw.size (by simp; omega)⟩
                          case measure => simp [intOf]; omega
              skip
            · have kq : decide (s.sh < s.un) = false := decide_eq_false (by omega)
              have HM := Lib.hid m2
              clear m1 m2
              go_wp2
              go_loopw [10] (fun i wr => ∃ j : Nat, j ≤ s.R.length ∧ i = .int .i64 j ∧ Below W5.heap.size W5 wr) (fun i _ => s.R.length - (intOf i).toNat)
              case atStart => exact ⟨0, Nat.zero_le _, rfl, Below.refl _ _⟩
              case round =>
                obtain ⟨j, hj, rfl, hbq⟩ := hrel
                have HBq := Lib.hid hbq
                have HSq := Lib.hid (HSv.out.below hbq)
                have HNq := Lib.hid (HNv.out.below hbq)
                have HXq := Lib.hid (HXv.out.below hbq)
                have hlSq := HSq.out.lt
                have hlNq := HNq.out.lt
                have hlXq := HXq.out.lt
                have hbvq : b < wr.heap.size := Nat.lt_of_lt_of_le hbv hbq.size
                have x1q := (hbq.cell (p := ⟨b, o + k * 3 + 1, none⟩) hbv).trans x1
                have y0 := HSq.out.cell 0
                have y1 := HSq.out.cell 1
                have y2 := HSq.out.cell 2
                have y6 := HSq.out.cell 6
                have y7 := HSq.out.cell 7
                have y8 := HSq.out.cell 8
                have z1 := HNq.out.cell 1
                have z2 := HNq.out.cell 2
                have v2 := HXq.out.cell 2
                dsimp only [List.getElem?_cons_zero, List.getElem?_cons_succ] at y0 y1 y2 y6 y7 y8 z1 z2 v2
                clear hbq
                by_cases hjl : j < s.R.length
                · obtain ⟨r, hr⟩ := mem_at (l := s.R) (k := j) hjl
                  obtain ⟨br, or, hra, hbrw, hcr⟩ := HIv.out.r (by omega)
                  have r0 := txt_cell (hcr j r hr)
                  rw [Nat.mul_one] at r0
                  have r0 := (HBq.out.cell (p := ⟨br, or + j, none⟩) hbrw).trans r0
                  have hbrq : br < wr.heap.size := Nat.lt_of_lt_of_le hbrw HBq.out.size
                  rw [hra] at y6
                  (have q0 : (r.toList == x.nm.toList) = false := by rw [strB_list]; exact decide_eq_false (fun e => by have h9 := List.any_eq_false.1 HM.out r (List.mem_of_getElem? hr); exact h9 (decide_eq_true e.symm)))
                  clear hcr hra hr
                  go_upto_region 13 with (fail)
                  have hcH := held_cell
                  refine region_rel (by kernel_rfl) (by kernel_rfl) ?_
                  repeat
                    ((with_reducible refine relStep (fun K hK => ?_))
                     (have HK := Lib.hid hK)
                     clear hK
                     (apply relInl
                      · intro r n hf
                        have Hf := Lib.hid hf
                        clear hf
                        (first
                          | (fail)
                          | (unfold relAt
                             go_simp
                             (first | (refine relUpon_val ?_ (Below.refl _ _); exact rfl) | exact rfl | (refine relUpon_enter ?_; fail))))
                      (simp only [Act.put, List.setIfInBounds_toArray, List.set_cons_zero, List.set_cons_succ])
                      (with_reducible refine HK.out _ _ ?_)
                      clear HK K))
                  refine relNil ?_
                  intro r5 n5 hx5
                  clear hcH
                  (try simp only [List.nil_append, List.cons_append, List.mem_cons, List.not_mem_nil, or_false, forall_eq_or_imp, forall_eq, false_implies, implies_true] at hx5)
                  obtain ⟨w5, hb5⟩ := n5
                  (try dsimp only)
                  obtain ⟨hc5, hf5⟩ := bcell hb5
                  have hz5 := hb5.size
                  (try simp at hz5)
                  go_wp2
                  go_roundw
                  case rel => exact ⟨j + 1, by omega, by go_num, HBq.out.trans (hb5.mono HBq.out.size)⟩
                  case measure => simp [intOf]; omega
                · obtain rfl : j = s.R.length := by omega
                  go_upto_region 15 with (fail)
                  go_wp2
                  go_loopw [11] (fun i wr => ∃ j : Nat, j ≤ s.T.length ∧ i = .int .i64 j ∧ Below W5.heap.size W5 wr) (fun i _ => s.T.length - (intOf i).toNat)
                  case atStart => exact ⟨0, Nat.zero_le _, rfl, HBq.out⟩
                  case round =>
                    obtain ⟨j, hj, rfl, hbq⟩ := hrel
                    clear HBq HSq HNq HXq hlSq hlNq hlXq hbvq x1q y0 y1 y2 y6 y7 y8 z1 z2 v2
                    have HBq := Lib.hid hbq
                    have HSq := Lib.hid (HSv.out.below hbq)
                    have HNq := Lib.hid (HNv.out.below hbq)
                    have HXq := Lib.hid (HXv.out.below hbq)
                    have hlSq := HSq.out.lt
                    have hlNq := HNq.out.lt
                    have hlXq := HXq.out.lt
                    have hbvq : b < wr.heap.size := Nat.lt_of_lt_of_le hbv hbq.size
                    have x1q := (hbq.cell (p := ⟨b, o + k * 3 + 1, none⟩) hbv).trans x1
                    have y0 := HSq.out.cell 0
                    have y1 := HSq.out.cell 1
                    have y2 := HSq.out.cell 2
                    have y6 := HSq.out.cell 6
                    have y7 := HSq.out.cell 7
                    have y8 := HSq.out.cell 8
                    have z1 := HNq.out.cell 1
                    have z2 := HNq.out.cell 2
                    have v2 := HXq.out.cell 2
                    dsimp only [List.getElem?_cons_zero, List.getElem?_cons_succ] at y0 y1 y2 y6 y7 y8 z1 z2 v2
                    clear hbq
                    by_cases hjl : j < s.T.length
                    · obtain ⟨t, ht⟩ := mem_at (l := s'.T) (k := j) (by rw [HeT.out]; exact hjl)
                      obtain ⟨g, hg, hg1, hg2⟩ := HGb.out j t ht
                      obtain ⟨bt, ot, hta, hbtw, hct⟩ := HInv.out.t (by rw [HeT.out]; omega)
                      obtain ⟨bg, og, hga, hbgw, hcg⟩ := HIv.out.g (Nat.lt_of_le_of_lt (Nat.zero_le _) (lt_at hg))
                      have t0 := int_cell (hct j t ht)
                      rw [Nat.mul_one] at t0
                      obtain ⟨-, g1, g2, -⟩ := grow_cells (hcg j g hg)
                      have t0 := (HBq.out.cell (p := ⟨bt, ot + j, none⟩) hbtw).trans t0
                      have g1 := (HBq.out.cell (p := ⟨bg, og + j * 15 + 1, none⟩) hbgw).trans g1
                      have g2 := (HBq.out.cell (p := ⟨bg, og + j * 15 + 2, none⟩) hbgw).trans g2
                      have hbtq : bt < wr.heap.size := Nat.lt_of_lt_of_le hbtw HBq.out.size
                      have hbgq : bg < wr.heap.size := Nat.lt_of_lt_of_le hbgw HBq.out.size
                      have hjC : j < s.C.length := lt_at hg
                      rw [hta] at z1
                      rw [hga] at y0
                      obtain ⟨mn, hmn⟩ : ∃ mn, g.mn = mn := ⟨_, rfl⟩
                      obtain ⟨mx, hmx⟩ : ∃ mx, g.mx = mx := ⟨_, rfl⟩
                      rw [hmn] at g1 hg1
                      rw [hmx] at g2 hg2
                      have k8 : decide (t < mn) = false := decide_eq_false (by omega)
                      have k9 : decide (mx < t) = false := decide_eq_false (by omega)
                      clear hct hcg ht hg hmn hmx hta hga hg1 hg2
                      go_upto_region 20 with (fail)
                      have hcH := held_cell
                      refine region_rel (by kernel_rfl) (by kernel_rfl) ?_
                      repeat
                        ((with_reducible refine relStep (fun K hK => ?_))
                         (have HK := Lib.hid hK)
                         clear hK
                         (apply relInl
                          · intro r n hf
                            have Hf := Lib.hid hf
                            clear hf
                            (first
                              | (fail)
                              | (unfold relAt
                                 go_simp
                                 (first | (refine relUpon_val ?_ (Below.refl _ _); exact rfl) | exact rfl | (refine relUpon_enter ?_; fail))))
                          (simp only [Act.put, List.setIfInBounds_toArray, List.set_cons_zero, List.set_cons_succ])
                          (with_reducible refine HK.out _ _ ?_)
                          clear HK K))
                      refine relNil ?_
                      intro r5 n5 hx5
                      clear hcH
                      (try simp only [List.nil_append, List.cons_append, List.mem_cons, List.not_mem_nil, or_false, forall_eq_or_imp, forall_eq, false_implies, implies_true] at hx5)
                      obtain ⟨w5, hb5⟩ := n5
                      (try dsimp only)
                      obtain ⟨hc5, hf5⟩ := bcell hb5
                      have hz5 := hb5.size
                      (try simp at hz5)
                      go_wp2
                      go_roundw
                      case rel => exact ⟨j + 1, by omega, by go_num, HBq.out.trans (hb5.mono HBq.out.size)⟩
                      case measure => simp [intOf]; omega
                    · obtain rfl : j = s.T.length := by omega
                      go_wp2
                      go_loopw [12] (fun i wr => ∃ j : Nat, j ≤ s.L.length ∧ i = .int .i64 j ∧ Below W5.heap.size W5 wr) (fun i _ => s.L.length - (intOf i).toNat)
                      case atStart => exact ⟨0, Nat.zero_le _, rfl, HBq.out⟩
                      case round =>
                        obtain ⟨j, hj, rfl, hbq⟩ := hrel
                        clear HBq HSq HNq HXq hlSq hlNq hlXq hbvq x1q y0 y1 y2 y6 y7 y8 z1 z2 v2
                        have HBq := Lib.hid hbq
                        have HSq := Lib.hid (HSv.out.below hbq)
                        have HNq := Lib.hid (HNv.out.below hbq)
                        have HXq := Lib.hid (HXv.out.below hbq)
                        have hlSq := HSq.out.lt
                        have hlNq := HNq.out.lt
                        have hlXq := HXq.out.lt
                        have hbvq : b < wr.heap.size := Nat.lt_of_lt_of_le hbv hbq.size
                        have x1q := (hbq.cell (p := ⟨b, o + k * 3 + 1, none⟩) hbv).trans x1
                        have y0 := HSq.out.cell 0
                        have y1 := HSq.out.cell 1
                        have y2 := HSq.out.cell 2
                        have y6 := HSq.out.cell 6
                        have y7 := HSq.out.cell 7
                        have y8 := HSq.out.cell 8
                        have z1 := HNq.out.cell 1
                        have z2 := HNq.out.cell 2
                        have v2 := HXq.out.cell 2
                        dsimp only [List.getElem?_cons_zero, List.getElem?_cons_succ] at y0 y1 y2 y6 y7 y8 z1 z2 v2
                        clear hbq
                        by_cases hjl : j < s.L.length
                        · obtain ⟨y, hy⟩ := mem_at (l := sk.L) (k := j) (by rw [HeK.out]; exact hjl)
                          obtain ⟨z, hz⟩ := mem_at (l := s'.L) (k := j) (by rw [HeL.out]; exact hjl)
                          have h33 := HLv.out j y z hy hz
                          obtain ⟨bt, ot, hta, hbtw, hct⟩ := HIkv.out.i (by rw [HeK.out]; omega)
                          obtain ⟨bg, og, hga, hbgw, hcg⟩ := HInv.out.i (by rw [HeL.out]; omega)
                          obtain ⟨-, -, d2, -⟩ := irow_cells (hct j y hy)
                          obtain ⟨-, -, e2, -⟩ := irow_cells (hcg j z hz)
                          have d2 := (HBq.out.cell (p := ⟨bt, ot + j * 5 + 2, none⟩) hbtw).trans d2
                          have e2 := (HBq.out.cell (p := ⟨bg, og + j * 5 + 2, none⟩) hbgw).trans e2
                          have hbtq : bt < wr.heap.size := Nat.lt_of_lt_of_le hbtw HBq.out.size
                          have hbgq : bg < wr.heap.size := Nat.lt_of_lt_of_le hbgw HBq.out.size
                          rw [hta] at v2
                          rw [hga] at z2
                          obtain ⟨ys, hys⟩ : ∃ v, y.st = v := ⟨_, rfl⟩
                          obtain ⟨zs, hzs⟩ : ∃ v, z.st = v := ⟨_, rfl⟩
                          rw [hys] at d2 h33
                          rw [hzs] at e2 h33
                          clear hct hcg hy hz hys hzs hta hga
                          by_cases h3 : ys = 3
                          · have k8 : (ys == 3) = true := by rw [h3]; rfl
                            have k9 : (zs != 3) = false := by rw [h33 h3]; rfl
                            clear h3 h33
                            go_wp2
                            go_roundw
                            case rel => exact ⟨j + 1, by omega, by go_num, HBq.out⟩
                            case measure => simp [intOf]; omega
                          · have k8 : (ys == 3) = false := by simpa using h3
                            clear h3 h33
                            go_wp2
                            go_roundw
                            case rel => exact ⟨j + 1, by omega, by go_num, HBq.out⟩
                            case measure => simp [intOf]; omega
                        · obtain rfl : j = s.L.length := by omega
                          go_wp2_with (first
                            | ((with_reducible refine at_load (ty := 33) ?_); refine load_cells rfl 33 (.tmp 7) rfl Xn 0 rfl [.slice s'.ga s'.C.length s'.gk, .slice s'.ta s.T.length s'.tk, .slice s'.ia s.L.length s'.ik, .int .i64 s'.c0, .int .i64 s'.c1, .int .i64 s'.c2, .slice s'.ra s'.R.length s'.rk, .int .i64 s'.un, .int .i64 s'.sh] _ Try.underlying33 rfl (by kernel_rfl) (HNq.out.range 0 _ rfl) ?_)
                            | ((with_reducible refine at_store (ty := 33) ?_); refine wpList_store_mid rfl 33 (.tmp 5) (.tmp 159) rfl X 0 _ rfl rfl (HXq.out.there 0 9 (Nat.le_of_ble_eq_true rfl)) (by kernel_rfl) (by rw [← Array.all_toList]; rfl) ?_; obtain ⟨W7, hW7⟩ : ∃ W7, W7 = wr.setCells X 0 [.slice s'.ga s'.C.length s'.gk, .slice s'.ta s.T.length s'.tk, .slice s'.ia s.L.length s'.ik, .int .i64 s'.c0, .int .i64 s'.c1, .int .i64 s'.c2, .slice s'.ra s'.R.length s'.rk, .int .i64 s'.un, .int .i64 s'.sh] := ⟨_, rfl⟩; (show wpList _ _ _ _ _ (wr.setCells X 0 [.slice s'.ga s'.C.length s'.gk, .slice s'.ta s.T.length s'.tk, .slice s'.ia s.L.length s'.ik, .int .i64 s'.c0, .int .i64 s'.c1, .int .i64 s'.c2, .slice s'.ra s'.R.length s'.rk, .int .i64 s'.un, .int .i64 s'.sh])); rw [← hW7]; have HO7 := Lib.hid (show Only [X] wr W7 from by rw [hW7]; exact Only.setCells (.inl (by simp)) (Only.refl _ _) _ _); have HX7 := Lib.hid (show Blk W7 X 33 [.slice s'.ga s'.C.length s'.gk, .slice s'.ta s.T.length s'.tk, .slice s'.ia s.L.length s'.ik, .int .i64 s'.c0, .int .i64 s'.c1, .int .i64 s'.c2, .slice s'.ra s'.R.length s'.rk, .int .i64 s'.un, .int .i64 s'.sh] from by rw [hW7]; exact HXq.out.setCells 0 _); clear hW7))
                          go_roundw
                          case rel =>
                            have hBw := HBv.out.trans (HBq.out.mono HBv.out.size)
                            have h9 := HX7.out
                            rw [← HeT.out, ← HeL.out] at h9
                            exact ⟨k + 1, s', by omega, by go_num, HKn.out, .inr ((HOn.out.mono HBq.out).only HO7.out (by simp)), h9, HSq.out.only HO7.out (by simp; omega), HO7.out.below hBw hBw.size (by simp; omega)⟩
                          case measure => simp [intOf]; omega
              skip
            · skip
              go_wp2
              go_loopw [10] (fun i wr => ∃ j : Nat, j ≤ s.R.length ∧ i = .int .i64 j ∧ Below W5.heap.size W5 wr) (fun i _ => s.R.length - (intOf i).toNat)
              case atStart => exact ⟨0, Nat.zero_le _, rfl, Below.refl _ _⟩
              case round =>
                obtain ⟨j, hj, rfl, hbq⟩ := hrel
                have HBq := Lib.hid hbq
                have HSq := Lib.hid (HSv.out.below hbq)
                have HNq := Lib.hid (HNv.out.below hbq)
                have HXq := Lib.hid (HXv.out.below hbq)
                have hlSq := HSq.out.lt
                have hlNq := HNq.out.lt
                have hlXq := HXq.out.lt
                have hbvq : b < wr.heap.size := Nat.lt_of_lt_of_le hbv hbq.size
                have x1q := (hbq.cell (p := ⟨b, o + k * 3 + 1, none⟩) hbv).trans x1
                have y0 := HSq.out.cell 0
                have y1 := HSq.out.cell 1
                have y2 := HSq.out.cell 2
                have y6 := HSq.out.cell 6
                have y7 := HSq.out.cell 7
                have y8 := HSq.out.cell 8
                have z1 := HNq.out.cell 1
                have z2 := HNq.out.cell 2
                have v2 := HXq.out.cell 2
                dsimp only [List.getElem?_cons_zero, List.getElem?_cons_succ] at y0 y1 y2 y6 y7 y8 z1 z2 v2
                clear hbq
                by_cases hjl : j < s.R.length
                · obtain ⟨r, hr⟩ := mem_at (l := s.R) (k := j) hjl
                  obtain ⟨br, or, hra, hbrw, hcr⟩ := HIv.out.r (by omega)
                  have r0 := txt_cell (hcr j r hr)
                  rw [Nat.mul_one] at r0
                  have r0 := (HBq.out.cell (p := ⟨br, or + j, none⟩) hbrw).trans r0
                  have hbrq : br < wr.heap.size := Nat.lt_of_lt_of_le hbrw HBq.out.size
                  rw [hra] at y6
                  (skip)
                  clear hcr hra hr
                  go_upto_region 13 with (fail)
                  have hcH := held_cell
                  refine region_rel (by kernel_rfl) (by kernel_rfl) ?_
                  repeat
                    ((with_reducible refine relStep (fun K hK => ?_))
                     (have HK := Lib.hid hK)
                     clear hK
                     (apply relInl
                      · intro r n hf
                        have Hf := Lib.hid hf
                        clear hf
                        (first
                          | (fail)
                          | (unfold relAt
                             go_simp
                             (first | (refine relUpon_val ?_ (Below.refl _ _); exact rfl) | exact rfl | (refine relUpon_enter ?_; fail))))
                      (simp only [Act.put, List.setIfInBounds_toArray, List.set_cons_zero, List.set_cons_succ])
                      (with_reducible refine HK.out _ _ ?_)
                      clear HK K))
                  refine relNil ?_
                  intro r5 n5 hx5
                  clear hcH
                  (try simp only [List.nil_append, List.cons_append, List.mem_cons, List.not_mem_nil, or_false, forall_eq_or_imp, forall_eq, false_implies, implies_true] at hx5)
                  obtain ⟨w5, hb5⟩ := n5
                  (try dsimp only)
                  obtain ⟨hc5, hf5⟩ := bcell hb5
                  have hz5 := hb5.size
                  (try simp at hz5)
                  go_wp2
                  go_roundw
                  case rel => exact ⟨j + 1, by omega, by go_num, HBq.out.trans (hb5.mono HBq.out.size)⟩
                  case measure => simp [intOf]; omega
                · obtain rfl : j = s.R.length := by omega
                  go_upto_region 15 with (fail)
                  go_wp2
                  go_loopw [11] (fun i wr => ∃ j : Nat, j ≤ s.T.length ∧ i = .int .i64 j ∧ Below W5.heap.size W5 wr) (fun i _ => s.T.length - (intOf i).toNat)
                  case atStart => exact ⟨0, Nat.zero_le _, rfl, HBq.out⟩
                  case round =>
                    obtain ⟨j, hj, rfl, hbq⟩ := hrel
                    clear HBq HSq HNq HXq hlSq hlNq hlXq hbvq x1q y0 y1 y2 y6 y7 y8 z1 z2 v2
                    have HBq := Lib.hid hbq
                    have HSq := Lib.hid (HSv.out.below hbq)
                    have HNq := Lib.hid (HNv.out.below hbq)
                    have HXq := Lib.hid (HXv.out.below hbq)
                    have hlSq := HSq.out.lt
                    have hlNq := HNq.out.lt
                    have hlXq := HXq.out.lt
                    have hbvq : b < wr.heap.size := Nat.lt_of_lt_of_le hbv hbq.size
                    have x1q := (hbq.cell (p := ⟨b, o + k * 3 + 1, none⟩) hbv).trans x1
                    have y0 := HSq.out.cell 0
                    have y1 := HSq.out.cell 1
                    have y2 := HSq.out.cell 2
                    have y6 := HSq.out.cell 6
                    have y7 := HSq.out.cell 7
                    have y8 := HSq.out.cell 8
                    have z1 := HNq.out.cell 1
                    have z2 := HNq.out.cell 2
                    have v2 := HXq.out.cell 2
                    dsimp only [List.getElem?_cons_zero, List.getElem?_cons_succ] at y0 y1 y2 y6 y7 y8 z1 z2 v2
                    clear hbq
                    by_cases hjl : j < s.T.length
                    · obtain ⟨t, ht⟩ := mem_at (l := s'.T) (k := j) (by rw [HeT.out]; exact hjl)
                      obtain ⟨g, hg, hg1, hg2⟩ := HGb.out j t ht
                      obtain ⟨bt, ot, hta, hbtw, hct⟩ := HInv.out.t (by rw [HeT.out]; omega)
                      obtain ⟨bg, og, hga, hbgw, hcg⟩ := HIv.out.g (Nat.lt_of_le_of_lt (Nat.zero_le _) (lt_at hg))
                      have t0 := int_cell (hct j t ht)
                      rw [Nat.mul_one] at t0
                      obtain ⟨-, g1, g2, -⟩ := grow_cells (hcg j g hg)
                      have t0 := (HBq.out.cell (p := ⟨bt, ot + j, none⟩) hbtw).trans t0
                      have g1 := (HBq.out.cell (p := ⟨bg, og + j * 15 + 1, none⟩) hbgw).trans g1
                      have g2 := (HBq.out.cell (p := ⟨bg, og + j * 15 + 2, none⟩) hbgw).trans g2
                      have hbtq : bt < wr.heap.size := Nat.lt_of_lt_of_le hbtw HBq.out.size
                      have hbgq : bg < wr.heap.size := Nat.lt_of_lt_of_le hbgw HBq.out.size
                      have hjC : j < s.C.length := lt_at hg
                      rw [hta] at z1
                      rw [hga] at y0
                      obtain ⟨mn, hmn⟩ : ∃ mn, g.mn = mn := ⟨_, rfl⟩
                      obtain ⟨mx, hmx⟩ : ∃ mx, g.mx = mx := ⟨_, rfl⟩
                      rw [hmn] at g1 hg1
                      rw [hmx] at g2 hg2
                      have k8 : decide (t < mn) = false := decide_eq_false (by omega)
                      have k9 : decide (mx < t) = false := decide_eq_false (by omega)
                      clear hct hcg ht hg hmn hmx hta hga hg1 hg2
                      go_upto_region 20 with (fail)
                      have hcH := held_cell
                      refine region_rel (by kernel_rfl) (by kernel_rfl) ?_
                      repeat
                        ((with_reducible refine relStep (fun K hK => ?_))
                         (have HK := Lib.hid hK)
                         clear hK
                         (apply relInl
                          · intro r n hf
                            have Hf := Lib.hid hf
                            clear hf
                            (first
                              | (fail)
                              | (unfold relAt
                                 go_simp
                                 (first | (refine relUpon_val ?_ (Below.refl _ _); exact rfl) | exact rfl | (refine relUpon_enter ?_; fail))))
                          (simp only [Act.put, List.setIfInBounds_toArray, List.set_cons_zero, List.set_cons_succ])
                          (with_reducible refine HK.out _ _ ?_)
                          clear HK K))
                      refine relNil ?_
                      intro r5 n5 hx5
                      clear hcH
                      (try simp only [List.nil_append, List.cons_append, List.mem_cons, List.not_mem_nil, or_false, forall_eq_or_imp, forall_eq, false_implies, implies_true] at hx5)
                      obtain ⟨w5, hb5⟩ := n5
                      (try dsimp only)
                      obtain ⟨hc5, hf5⟩ := bcell hb5
                      have hz5 := hb5.size
                      (try simp at hz5)
                      go_wp2
                      go_roundw
                      case rel => exact ⟨j + 1, by omega, by go_num, HBq.out.trans (hb5.mono HBq.out.size)⟩
                      case measure => simp [intOf]; omega
                    · obtain rfl : j = s.T.length := by omega
                      go_wp2
                      go_loopw [12] (fun i wr => ∃ j : Nat, j ≤ s.L.length ∧ i = .int .i64 j ∧ Below W5.heap.size W5 wr) (fun i _ => s.L.length - (intOf i).toNat)
                      case atStart => exact ⟨0, Nat.zero_le _, rfl, HBq.out⟩
                      case round =>
                        obtain ⟨j, hj, rfl, hbq⟩ := hrel
                        clear HBq HSq HNq HXq hlSq hlNq hlXq hbvq x1q y0 y1 y2 y6 y7 y8 z1 z2 v2
                        have HBq := Lib.hid hbq
                        have HSq := Lib.hid (HSv.out.below hbq)
                        have HNq := Lib.hid (HNv.out.below hbq)
                        have HXq := Lib.hid (HXv.out.below hbq)
                        have hlSq := HSq.out.lt
                        have hlNq := HNq.out.lt
                        have hlXq := HXq.out.lt
                        have hbvq : b < wr.heap.size := Nat.lt_of_lt_of_le hbv hbq.size
                        have x1q := (hbq.cell (p := ⟨b, o + k * 3 + 1, none⟩) hbv).trans x1
                        have y0 := HSq.out.cell 0
                        have y1 := HSq.out.cell 1
                        have y2 := HSq.out.cell 2
                        have y6 := HSq.out.cell 6
                        have y7 := HSq.out.cell 7
                        have y8 := HSq.out.cell 8
                        have z1 := HNq.out.cell 1
                        have z2 := HNq.out.cell 2
                        have v2 := HXq.out.cell 2
                        dsimp only [List.getElem?_cons_zero, List.getElem?_cons_succ] at y0 y1 y2 y6 y7 y8 z1 z2 v2
                        clear hbq
                        by_cases hjl : j < s.L.length
                        · obtain ⟨y, hy⟩ := mem_at (l := sk.L) (k := j) (by rw [HeK.out]; exact hjl)
                          obtain ⟨z, hz⟩ := mem_at (l := s'.L) (k := j) (by rw [HeL.out]; exact hjl)
                          have h33 := HLv.out j y z hy hz
                          obtain ⟨bt, ot, hta, hbtw, hct⟩ := HIkv.out.i (by rw [HeK.out]; omega)
                          obtain ⟨bg, og, hga, hbgw, hcg⟩ := HInv.out.i (by rw [HeL.out]; omega)
                          obtain ⟨-, -, d2, -⟩ := irow_cells (hct j y hy)
                          obtain ⟨-, -, e2, -⟩ := irow_cells (hcg j z hz)
                          have d2 := (HBq.out.cell (p := ⟨bt, ot + j * 5 + 2, none⟩) hbtw).trans d2
                          have e2 := (HBq.out.cell (p := ⟨bg, og + j * 5 + 2, none⟩) hbgw).trans e2
                          have hbtq : bt < wr.heap.size := Nat.lt_of_lt_of_le hbtw HBq.out.size
                          have hbgq : bg < wr.heap.size := Nat.lt_of_lt_of_le hbgw HBq.out.size
                          rw [hta] at v2
                          rw [hga] at z2
                          obtain ⟨ys, hys⟩ : ∃ v, y.st = v := ⟨_, rfl⟩
                          obtain ⟨zs, hzs⟩ : ∃ v, z.st = v := ⟨_, rfl⟩
                          rw [hys] at d2 h33
                          rw [hzs] at e2 h33
                          clear hct hcg hy hz hys hzs hta hga
                          by_cases h3 : ys = 3
                          · have k8 : (ys == 3) = true := by rw [h3]; rfl
                            have k9 : (zs != 3) = false := by rw [h33 h3]; rfl
                            clear h3 h33
                            go_wp2
                            go_roundw
                            case rel => exact ⟨j + 1, by omega, by go_num, HBq.out⟩
                            case measure => simp [intOf]; omega
                          · have k8 : (ys == 3) = false := by simpa using h3
                            clear h3 h33
                            go_wp2
                            go_roundw
                            case rel => exact ⟨j + 1, by omega, by go_num, HBq.out⟩
                            case measure => simp [intOf]; omega
                        · obtain rfl : j = s.L.length := by omega
                          go_wp2_with (first
                            | ((with_reducible refine at_load (ty := 33) ?_); refine load_cells rfl 33 (.tmp 7) rfl Xn 0 rfl [.slice s'.ga s'.C.length s'.gk, .slice s'.ta s.T.length s'.tk, .slice s'.ia s.L.length s'.ik, .int .i64 s'.c0, .int .i64 s'.c1, .int .i64 s'.c2, .slice s'.ra s'.R.length s'.rk, .int .i64 s'.un, .int .i64 s'.sh] _ Try.underlying33 rfl (by kernel_rfl) (HNq.out.range 0 _ rfl) ?_)
                            | ((with_reducible refine at_store (ty := 33) ?_); refine wpList_store_mid rfl 33 (.tmp 5) (.tmp 159) rfl X 0 _ rfl rfl (HXq.out.there 0 9 (Nat.le_of_ble_eq_true rfl)) (by kernel_rfl) (by rw [← Array.all_toList]; rfl) ?_; obtain ⟨W7, hW7⟩ : ∃ W7, W7 = wr.setCells X 0 [.slice s'.ga s'.C.length s'.gk, .slice s'.ta s.T.length s'.tk, .slice s'.ia s.L.length s'.ik, .int .i64 s'.c0, .int .i64 s'.c1, .int .i64 s'.c2, .slice s'.ra s'.R.length s'.rk, .int .i64 s'.un, .int .i64 s'.sh] := ⟨_, rfl⟩; (show wpList _ _ _ _ _ (wr.setCells X 0 [.slice s'.ga s'.C.length s'.gk, .slice s'.ta s.T.length s'.tk, .slice s'.ia s.L.length s'.ik, .int .i64 s'.c0, .int .i64 s'.c1, .int .i64 s'.c2, .slice s'.ra s'.R.length s'.rk, .int .i64 s'.un, .int .i64 s'.sh])); rw [← hW7]; have HO7 := Lib.hid (show Only [X] wr W7 from by rw [hW7]; exact Only.setCells (.inl (by simp)) (Only.refl _ _) _ _); have HX7 := Lib.hid (show Blk W7 X 33 [.slice s'.ga s'.C.length s'.gk, .slice s'.ta s.T.length s'.tk, .slice s'.ia s.L.length s'.ik, .int .i64 s'.c0, .int .i64 s'.c1, .int .i64 s'.c2, .slice s'.ra s'.R.length s'.rk, .int .i64 s'.un, .int .i64 s'.sh] from by rw [hW7]; exact HXq.out.setCells 0 _); clear hW7))
                          go_roundw
                          case rel =>
                            have hBw := HBv.out.trans (HBq.out.mono HBv.out.size)
                            have h9 := HX7.out
                            rw [← HeT.out, ← HeL.out] at h9
                            exact ⟨k + 1, s', by omega, by go_num, HKn.out, .inr ((HOn.out.mono HBq.out).only HO7.out (by simp)), h9, HSq.out.only HO7.out (by simp; omega), HO7.out.below hBw hBw.size (by simp; omega)⟩
                          case measure => simp [intOf]; omega
              skip
          · have HAf := Lib.hid (fun V (hV : Below wr.heap.size wr V) => after_no (w := V) (HIk.out.mono hV) HKb.out.o hxi.1 hxi.2 hz h0)
            have kz : (z != 0) = true := by simpa using h0
            clear hz hxi h0
            go_upto_region 7 with (fail)
            have hcH := held_cell
            refine region_rel_late 11 [9] (by kernel_rfl) (by kernel_rfl) (by kernel_rfl) ?_ ?_
            · exact fun _ _ _ _ _ h => h
            dsimp only [List.take, List.drop]
            repeat
              ((with_reducible refine relStep (fun K hK => ?_))
               (have HK := Lib.hid hK)
               clear hK
               (apply relInl
                · intro r n hf
                  have Hf := Lib.hid hf
                  clear hf
                  (first
                    | ((first | ((with_reducible refine at_rel (ty := 33) ?_); refine rel_load rfl X 0 rfl [.slice sk.ga sk.C.length sk.gk, .slice sk.ta sk.T.length sk.tk, .slice sk.ia sk.L.length sk.ik, .int .i64 sk.c0, .int .i64 sk.c1, .int .i64 sk.c2, .slice sk.ra sk.R.length sk.rk, .int .i64 sk.un, .int .i64 sk.sh] _ Try.underlying33 rfl (by kernel_rfl) (rangeAt_mono HRx.out hlXr n.below) rfl) | ((with_reducible refine at_rel (ty := 41) ?_); refine rel_load rfl b (o + k * 3) rfl [.string x.what, .string x.nm, .int .i64 x.n] _ Try.underlying41 rfl (by kernel_rfl) (rangeAt_mono HRc.out hbr n.below) rfl)))
                    | (unfold relAt
                       go_simp
                       (first | (refine relUpon_val ?_ (Below.refl _ _); exact rfl) | exact rfl | (refine relUpon_enter ?_; (first | (go_at_call 8; (with_reducible refine (HCx.out _).mono ?_); rintro e w9 ⟨rfl, hb⟩; exact ⟨⟨_, rfl, rfl⟩, hb⟩) | (go_at_call 7; (with_reducible refine (HAf.out _ n.below).mono ?_); rintro e w9 ⟨rfl, hb⟩; exact ⟨⟨_, rfl, rfl⟩, hb⟩))))))
                (simp only [Act.put, List.setIfInBounds_toArray, List.set_cons_zero, List.set_cons_succ])
                (with_reducible refine HK.out _ _ ?_)
                clear HK K))
            (with_reducible refine relStep (fun K hK => ?_))
            (have HK := Lib.hid hK)
            clear hK
            refine relInr (NewS wr.heap.size) (NewS.stays _) (fun r n hf => ?_) ?_
            · have Hf := Lib.hid hf
              clear hf HK K
              unfold relAt
              (skip)
              go_simp
              ((refine relUpon_val ?_ ?_; exact NewS.mk n; exact (Below.refl _ _).alloc (Nat.le_refl _) _))
            (simp only [Act.put, List.setIfInBounds_toArray, List.set_cons_zero, List.set_cons_succ])
            (with_reducible refine HK.out _ _ ?_)
            clear HK K
            refine relNil ?_
            intro r9 n9 hx9
            clear hcH
            (try simp only [List.nil_append, List.cons_append, List.mem_cons, List.not_mem_nil, or_false, forall_eq_or_imp, forall_eq, false_implies, implies_true] at hx9)
            obtain ⟨w9, hb9⟩ := n9
            (try dsimp only)
            obtain ⟨hc9, hf9⟩ := bcell hb9
            have hz9 := hb9.size
            (try simp at hz9)
            obtain ⟨Xn, e9, hXn, hBn⟩ := hx9
            have e9 : r9 10 = _ := e9
            dsimp only at hBn
            rw [e9]
            have HN9 := Lib.hid hBn
            have HB9 := Lib.hid hb9
            have hXl := hBn.lt
            clear e9 hBn hc9 hf9 hb9 hz9 x0 x1
            go_wp2_with ((with_reducible refine at_store (ty := 33) ?_); refine wpList_store_mid rfl 33 (.tmp 7) (.tmp 38) rfl Xn 0 _ rfl rfl (HN9.out.there 0 9 (Nat.le_of_ble_eq_true rfl)) (by kernel_rfl) (by rw [← Array.all_toList]; rfl) ?_; obtain ⟨W5, hW5⟩ : ∃ W5, W5 = w9.setCells Xn 0 [.slice none 0 0, .slice none 0 0, .slice none 0 0, .int .i64 0, .int .i64 0, .int .i64 0, .slice none 0 0, .int .i64 0, .int .i64 0] := ⟨_, rfl⟩; (show wpList _ _ _ _ _ (w9.setCells Xn 0 [.slice none 0 0, .slice none 0 0, .slice none 0 0, .int .i64 0, .int .i64 0, .int .i64 0, .slice none 0 0, .int .i64 0, .int .i64 0])); rw [← hW5]; have HO5 := Lib.hid (show Only [Xn] w9 W5 from by rw [hW5]; exact Only.setCells (.inl (by simp)) (Only.refl _ _) _ _); have HY5 := Lib.hid (show Blk W5 Xn 33 [.slice none 0 0, .slice none 0 0, .slice none 0 0, .int .i64 0, .int .i64 0, .int .i64 0, .slice none 0 0, .int .i64 0, .int .i64 0] from by rw [hW5]; exact HN9.out.setCells 0 _); have HB5 := Lib.hid (show Below wr.heap.size wr W5 from HO5.out.below HB9.out HB9.out.size (by simpa using hXn)); clear hW5)
            have HY0 := HN9
            clear HN9
            go_roundw
            case rel => exact ⟨k + 1, sk, by omega, by go_num, HKb.out, hsk.imp id fun h => h.mono HB5.out, HXr.out.below HB5.out, HSr.out.below HB5.out, HBr.out.trans (HB5.out.mono HBr.out.size)⟩
            case measure => simp [intOf]; omega
        · obtain rfl : k = N := by omega
          go_wp2_with (go_at_call 5; (with_reducible refine (known_any _).mono ?_); rintro e w8 ⟨rfl, hb⟩; have HB8 := Lib.hid (HBr.out.trans (hb.mono HBr.out.size)); clear hb)
          refine bodyPost_ret (v := .bool true) (by simp [results, Try.results3, go_sem]) rfl ⟨rfl, HB8.out⟩
  · have k30 : decide (30 < N) = true := decide_eq_true (by omega)
    have k30i : decide ((30 : Int) < (N : Int)) = true := decide_eq_true (by omega)
    go_wp2_with (first
      | ((with_reducible refine at_load (ty := 29) ?_); refine load_cells rfl 29 (.tmp 2) rfl w.heap.size 0 rfl [.slice s.ga s.C.length s.gk, .slice s.ta s.T.length s.tk, .slice s.ia s.L.length s.ik, .int .i64 s.c0, .int .i64 s.c1, .int .i64 s.c2, .slice s.ra s.R.length s.rk, .int .i64 s.un, .int .i64 s.sh] _ Try.underlying29 rfl (by kernel_rfl) (by first | exact HS.out.range 0 _ rfl | exact HS1.out.range 0 _ rfl) ?_)
      | (go_at_call 4; (with_reducible refine (HRt.out _ HB.out).mono ?_); rintro e w1 ⟨⟨b, rfl, hb1⟩, hb⟩; have HB1 := Lib.hid (HB.out.trans (hb.mono HB.out.size)); have HS1 := Lib.hid (HS.out.below hb); have HOk := Lib.hid hb1; clear hb hb1; cases b)
      | (go_at_call 5; (with_reducible refine (known_any _).mono ?_); rintro e w8 ⟨rfl, hb⟩; have HB8 := Lib.hid (HB1.out.trans (hb.mono HB1.out.size)); clear hb))
    all_goals
      refine bodyPost_ret (v := .bool true) (by simp [results, Try.results3, go_sem]) rfl ⟨rfl, HB8.out⟩
set_option maxRecDepth 100000 in
theorem walk {H : Type} {enc : TypeId × Value → H} {W : World} {base : Nat} {v u : Value} {d e : DataW H} {p q : List MemPlace}
    (hv : Value.okWide Try.prog W .any base 29 v) (h : DataW.Trod enc Try.prog W 0 (fun _ => true) true 29 v d p)
    (hu : Value.okWide Try.prog W .any base 30 u) (h2 : DataW.Trod enc Try.prog W 0 (fun _ => true) true 30 u e q) :
    Calls Try.prog 3 #[v, u] W fun e W' => e = .returned (.bool true) ∧ Below W.heap.size W W' := by
  obtain ⟨s, rfl, hI, h1, h3, h4, h5⟩ := open_state hv h
  obtain ⟨a, l, k, rfl, -, hF, hm, -, hV⟩ := open_calls hu h2
  exact walk1 s a k l W hI h1 h3 h4 h5 hF hV hm
end permitBounds
end Go.Proofs.Ytmkdfcggjlhcpaa
