/-
  Suit: Room, Suits.
-/
import Derived.Test.YthbpnfpalcgfeaaSu1
import Derived.Test.YthbpnfpalcgfeaaSu3
import Derived.Test.YthbpnfpalcgfeaaYd7
namespace Go.Proofs.Ythbpnfpalcgfeaa
open Go.RowKit
set_option linter.unusedVariables false
set_option linter.unusedSimpArgs false

/-- Why there is no room. -/
def roomS (m : Mac) (bs : List Bd) (p : Pd) : Int :=
  if Rs.fitsB p.n0 p.n1 p.n2 p.n3 p.n4 (leftY m (othL bs m.nm p.nm)).r0 (leftY m (othL bs m.nm p.nm)).r1 (leftY m (othL bs m.nm p.nm)).r2 (leftY m (othL bs m.nm p.nm)).r3 (leftY m (othL bs m.nm p.nm)).r4 = false then 2
  else if shareQ (othL bs m.nm p.nm) p.prts = true then 3 else 0
def suitS (m : Mac) (bs : List Bd) (p : Pd) : Int := if placeS m p = 0 then roomS m bs p else placeS m p

set_option maxRecDepth 100000 in
set_option maxHeartbeats 4000000 in
theorem sroom_any (m : Mac) (c : Option Addr) (kc : Nat) (bs : List Bd) (p : Pd) (w : World) (hM : MacAt w m) (hG : BndL w c bs) (hB : ∀ b ∈ bs, PodAt w b.p) (hP : PodAt w p) (hl : bs.length ≤ 1000000) (hq : p.prts.length ≤ 1000000) (hb : ∀ b ∈ bs, b.p.prts.length ≤ 1000000) :
    Calls Try.prog 33 #[.agg (mrow m).toArray, .slice c bs.length kc, .agg (prow p).toArray] w fun e w' => e = .returned (.int .i64 (roomS m bs p)) ∧ Below w.heap.size w w' := by
  obtain ⟨R, hR⟩ : ∃ R, roomS m bs p = R := ⟨_, rfl⟩
  rw [hR]
  unfold roomS at hR
  have hWo := fun V (hV : Below w.heap.size w V) => swithout_any c kc bs m.nm p.nm V (hG.mono hV) hl
  have hol := othL_len bs m.nm p.nm
  have hsub : ∀ b ∈ othL bs m.nm p.nm, b ∈ bs := fun b hb => (List.mem_filter.1 hb).1
  obtain ⟨O, hO⟩ : ∃ O, othL bs m.nm p.nm = O := ⟨_, rfl⟩
  rw [hO] at hWo hol hsub hR
  have hLf := fun a k V (hV : BndL V a O) => left_any m a k O V hV (by omega)
  obtain ⟨⟨l0, l1, l2, l3, l4⟩, hlv⟩ : ∃ l, leftY m O = l := ⟨_, rfl⟩
  rw [hlv] at hLf hR
  dsimp only [R5.v] at hLf hR
  have hFt := fun V => Rs.fits_any p.n0 p.n1 p.n2 p.n3 p.n4 l0 l1 l2 l3 l4 V
  obtain ⟨z, hz⟩ : ∃ z, Rs.fitsB p.n0 p.n1 p.n2 p.n3 p.n4 l0 l1 l2 l3 l4 = z := ⟨_, rfl⟩
  rw [hz] at hFt hR
  have hSh := fun a k V (hV : Below w.heap.size w V) (hL : BndL V a O) => sshares_any a k O p V hL (fun b hb => (hB b (hsub b hb)).mono hV) (hP.mono hV) (by omega) hq (fun b h => hb b (hsub b h))
  obtain ⟨s, hs⟩ : ∃ s, shareQ O p.prts = s := ⟨_, rfl⟩
  rw [hs] at hSh hR
  obtain ⟨W, hW⟩ : ∃ W, W = (w.alloc (.cells (mrow m).toArray 35)).alloc (.cells (prow p).toArray 47) := ⟨_, rfl⟩
  have H0 := Lib.hid (show MP w w.heap.size m p W by rw [hW]; exact MP.new hM hP)
  obtain ⟨n, hn⟩ : ∃ n, bs.length = n := ⟨_, rfl⟩
  obtain ⟨on, hon⟩ : ∃ on, O.length = on := ⟨_, rfl⟩
  have Hon := Lib.hid hon
  rw [hn] at hWo ⊢
  rw [hon] at hLf hSh
  have hGv : ∀ V e V', GivesB V O e V' → (∃ a k, e = .returned (.slice a on k) ∧ BndL V' a O) ∧ Below V.heap.size V V' := fun V e V' h => by
    obtain ⟨⟨v, rfl, ho⟩, hb⟩ := h
    obtain ⟨a, k, rfl, -, ht⟩ := IsL.of_own brow_len (by decide) ho
    exact ⟨⟨a, k, by rw [hon], ht⟩, hb⟩
  clear hz hs hM hG hB hP hl hq hb hol hsub hO hlv hn hon
  obtain ⟨mn, mg, r0, r1, r2, r3, r4, ma, mk, ML, mta, mtk, MT, rd⟩ := m
  obtain ⟨nm, n0, n1, n2, n3, n4, la, lk, L, sa, sk, S, ta, tk, T, ba, bk, B, pa, pk, P, aa, ak, A, wd, da, dk, D, sw, rk, ow, dm, pn, lc⟩ := p
  have HWo := Lib.hid (show ∀ V, Below w.heap.size w V → Calls Try.prog 71 #[.slice c n kc, .string mn, .string nm] V fun e V' => (∃ a k, e = .returned (.slice a on k) ∧ BndL V' a O) ∧ Below V.heap.size V V' from fun V hV => (hWo V hV).mono fun e V' h => hGv V e V' h)
  have HLf := Lib.hid (show ∀ a k V, BndL V a O → Calls Try.prog 17 #[.agg #[.string mn, .string mg, .int .i64 r0, .int .i64 r1, .int .i64 r2, .int .i64 r3, .int .i64 r4, .slice ma ML.length mk, .slice mta MT.length mtk, .bool rd], .slice a on k] V fun e w' => e = .returned (.agg #[.int .i64 l0, .int .i64 l1, .int .i64 l2, .int .i64 l3, .int .i64 l4]) ∧ Below V.heap.size V w' from hLf)
  have HFt := Lib.hid (show ∀ V, Calls Try.prog 72 #[.agg #[.int .i64 n0, .int .i64 n1, .int .i64 n2, .int .i64 n3, .int .i64 n4], .agg #[.int .i64 l0, .int .i64 l1, .int .i64 l2, .int .i64 l3, .int .i64 l4]] V fun e w' => e = .returned (.bool z) ∧ Below V.heap.size V w' from hFt)
  have HSh := Lib.hid (show ∀ a k V, Below w.heap.size w V → BndL V a O → Calls Try.prog 73 #[.slice a on k, .agg #[.string nm, .int .i64 n0, .int .i64 n1, .int .i64 n2, .int .i64 n3, .int .i64 n4, .slice la L.length lk, .slice sa S.length sk, .slice ta T.length tk, .slice ba B.length bk, .slice pa P.length pk, .slice aa A.length ak, .bool wd, .slice da D.length dk, .int .i64 sw, .int .i64 rk, .string ow, .bool dm, .bool pn, .bool lc]] V fun e w' => e = .returned (.bool s) ∧ Below V.heap.size V w' from hSh)
  clear hWo hLf hFt hSh hGv
  replace hW : W = (w.alloc (.cells #[.string mn, .string mg, .int .i64 r0, .int .i64 r1, .int .i64 r2, .int .i64 r3, .int .i64 r4, .slice ma ML.length mk, .slice mta MT.length mtk, .bool rd] 35)).alloc (.cells #[.string nm, .int .i64 n0, .int .i64 n1, .int .i64 n2, .int .i64 n3, .int .i64 n4, .slice la L.length lk, .slice sa S.length sk, .slice ta T.length tk, .slice ba B.length bk, .slice pa P.length pk, .slice aa A.length ak, .bool wd, .slice da D.length dk, .int .i64 sw, .int .i64 rk, .string ow, .bool dm, .bool pn, .bool lc] 47) := hW
  show Calls Try.prog 33 #[.agg #[.string mn, .string mg, .int .i64 r0, .int .i64 r1, .int .i64 r2, .int .i64 r3, .int .i64 r4, .slice ma ML.length mk, .slice mta MT.length mtk, .bool rd], .slice c n kc, .agg #[.string nm, .int .i64 n0, .int .i64 n1, .int .i64 n2, .int .i64 n3, .int .i64 n4, .slice la L.length lk, .slice sa S.length sk, .slice ta T.length tk, .slice ba B.length bk, .slice pa P.length pk, .slice aa A.length ak, .bool wd, .slice da D.length dk, .int .i64 sw, .int .i64 rk, .string ow, .bool dm, .bool pn, .bool lc]] w _
  go_enter Try.func33, Try.ntmps33
  go_upto_region 1 with (fail)
  rw [← hW]
  clear hW
  have hxm : ∀ i, W.cell? ⟨w.heap.size, i, none⟩ = [.string mn, .string mg, .int .i64 r0, .int .i64 r1, .int .i64 r2, .int .i64 r3, .int .i64 r4, .slice ma ML.length mk, .slice mta MT.length mtk, .bool rd][i]? := H0.out.xm.cell
  have hxp : ∀ i, W.cell? ⟨w.heap.size + 1, i, none⟩ = [.string nm, .int .i64 n0, .int .i64 n1, .int .i64 n2, .int .i64 n3, .int .i64 n4, .slice la L.length lk, .slice sa S.length sk, .slice ta T.length tk, .slice ba B.length bk, .slice pa P.length pk, .slice aa A.length ak, .bool wd, .slice da D.length dk, .int .i64 sw, .int .i64 rk, .string ow, .bool dm, .bool pn, .bool lc][i]? := H0.out.xp.cell
  have hlm := H0.out.xm.lt
  have hlp := H0.out.xp.lt
  go_wp2_with (go_at_call 71; (with_reducible refine (HWo.out _ H0.out.bl).mono ?_); rintro e w1 ⟨⟨a1, k1, rfl, ht1⟩, hb1⟩; have H01 := Lib.hid (H0.out.mono hb1); have HT1 := Lib.hid ht1; clear hb1 ht1 hxm hxp hlm hlp)
  have hxp : ∀ i, w1.cell? ⟨w.heap.size + 1, i, none⟩ = [.string nm, .int .i64 n0, .int .i64 n1, .int .i64 n2, .int .i64 n3, .int .i64 n4, .slice la L.length lk, .slice sa S.length sk, .slice ta T.length tk, .slice ba B.length bk, .slice pa P.length pk, .slice aa A.length ak, .bool wd, .slice da D.length dk, .int .i64 sw, .int .i64 rk, .string ow, .bool dm, .bool pn, .bool lc][i]? := H01.out.xp.cell
  have hlm := H01.out.xm.lt
  have hlp := H01.out.xp.lt
  have HRm := Lib.hid (show w1.rangeAt w.heap.size 0 [.string mn, .string mg, .int .i64 r0, .int .i64 r1, .int .i64 r2, .int .i64 r3, .int .i64 r4, .slice ma ML.length mk, .slice mta MT.length mtk, .bool rd] from H01.out.xm.range)
  have HRn := Lib.hid (show w1.rangeAt (w.heap.size + 1) 1 [.int .i64 n0, .int .i64 n1, .int .i64 n2, .int .i64 n3, .int .i64 n4] from fun j v hj => by
    have hj5 : j < 5 := (List.getElem?_eq_some_iff.1 hj).1
    rw [hxp]
    match j, hj5, hj with
    | 0, _, hj => exact hj
    | 1, _, hj => exact hj
    | 2, _, hj => exact hj
    | 3, _, hj => exact hj
    | 4, _, hj => exact hj)
  clear hxp
  have hcH := held_cell
  refine region_rel (by kernel_rfl) (by kernel_rfl) ?_
  repeat
    ((with_reducible refine relStep (fun K hK => ?_))
     (have HK := Lib.hid hK)
     clear hK
     (apply relInl
      · intro r n hf
        have Hf := Lib.hid hf
        clear hf
        (first
          | ((first | ((with_reducible refine at_rel (ty := 29) ?_); refine rel_load rfl (w.heap.size + 1) 1 rfl [.int .i64 n0, .int .i64 n1, .int .i64 n2, .int .i64 n3, .int .i64 n4] _ Try.underlying29 rfl (by kernel_rfl) (rangeAt_mono HRn.out hlp n.below) rfl) | ((with_reducible refine at_rel (ty := 35) ?_); refine rel_load rfl w.heap.size 0 rfl [.string mn, .string mg, .int .i64 r0, .int .i64 r1, .int .i64 r2, .int .i64 r3, .int .i64 r4, .slice ma ML.length mk, .slice mta MT.length mtk, .bool rd] _ Try.underlying35 rfl (by kernel_rfl) (rangeAt_mono HRm.out hlm n.below) rfl)))
          | (unfold relAt
             go_simp
             (first | (refine relUpon_val ?_ (Below.refl _ _); exact rfl) | exact rfl | (refine relUpon_enter ?_; (first | (go_at_call 17; (with_reducible refine (HLf.out _ _ _ (HT1.out.mono n.below)).mono ?_); rintro e w9 ⟨rfl, hb⟩; exact ⟨⟨_, rfl, rfl⟩, hb⟩) | (go_at_call 72; (with_reducible refine (HFt.out _).mono ?_); rintro e w9 ⟨rfl, hb⟩; exact ⟨⟨_, rfl, rfl⟩, hb⟩))))))
      (simp only [Act.put, List.setIfInBounds_toArray, List.set_cons_zero, List.set_cons_succ])
      (with_reducible refine HK.out _ _ ?_)
      clear HK K))
  refine relNil ?_
  intro r9 n9 hx9
  clear hcH
  (try simp only [List.nil_append, List.cons_append, List.mem_cons, List.not_mem_nil, or_false, forall_eq_or_imp, forall_eq, false_implies, implies_true] at hx9)
  obtain ⟨w9, hb9⟩ := n9
  (try dsimp only)
  obtain ⟨hc9, hf9⟩ := bcell hb9
  have hz9 := hb9.size
  (try simp at hz9)
  have H09 := Lib.hid (H01.out.mono hb9)
  have HT9 := Lib.hid (HT1.out.mono hb9)
  have HRp := Lib.hid (show w9.rangeAt (w.heap.size + 1) 0 [.string nm, .int .i64 n0, .int .i64 n1, .int .i64 n2, .int .i64 n3, .int .i64 n4, .slice la L.length lk, .slice sa S.length sk, .slice ta T.length tk, .slice ba B.length bk, .slice pa P.length pk, .slice aa A.length ak, .bool wd, .slice da D.length dk, .int .i64 sw, .int .i64 rk, .string ow, .bool dm, .bool pn, .bool lc] from H09.out.xp.range)
  clear hb9 hc9 hf9 hz9 hlm hlp HRm HRn
  cases z with
  | false =>
    obtain rfl : R = 2 := by rw [← hR]; rfl
    clear hR
    go_wp2
    go_ret
    exact ⟨rfl, H09.out.bl⟩
  | true =>
    cases s with
    | true =>
      obtain rfl : R = 3 := by rw [← hR]; rfl
      clear hR
      go_wp2_with (first
        | ((with_reducible refine at_load (ty := 47) ?_); refine load_cells rfl 47 (.tmp 5) rfl (w.heap.size + 1) 0 rfl [.string nm, .int .i64 n0, .int .i64 n1, .int .i64 n2, .int .i64 n3, .int .i64 n4, .slice la L.length lk, .slice sa S.length sk, .slice ta T.length tk, .slice ba B.length bk, .slice pa P.length pk, .slice aa A.length ak, .bool wd, .slice da D.length dk, .int .i64 sw, .int .i64 rk, .string ow, .bool dm, .bool pn, .bool lc] _ Try.underlying47 rfl (by kernel_rfl) HRp.out ?_)
        | (go_at_call 73; (with_reducible refine (HSh.out _ _ _ H09.out.bl HT9.out).mono ?_); rintro e w5 ⟨rfl, hb5⟩; have H05 := Lib.hid (H09.out.mono hb5); clear hb5))
      go_ret
      exact ⟨rfl, H05.out.bl⟩
    | false =>
      obtain rfl : R = 0 := by rw [← hR]; rfl
      clear hR
      go_wp2_with (first
        | ((with_reducible refine at_load (ty := 47) ?_); refine load_cells rfl 47 (.tmp 5) rfl (w.heap.size + 1) 0 rfl [.string nm, .int .i64 n0, .int .i64 n1, .int .i64 n2, .int .i64 n3, .int .i64 n4, .slice la L.length lk, .slice sa S.length sk, .slice ta T.length tk, .slice ba B.length bk, .slice pa P.length pk, .slice aa A.length ak, .bool wd, .slice da D.length dk, .int .i64 sw, .int .i64 rk, .string ow, .bool dm, .bool pn, .bool lc] _ Try.underlying47 rfl (by kernel_rfl) HRp.out ?_)
        | (go_at_call 73; (with_reducible refine (HSh.out _ _ _ H09.out.bl HT9.out).mono ?_); rintro e w5 ⟨rfl, hb5⟩; have H05 := Lib.hid (H09.out.mono hb5); clear hb5))
      go_ret
      exact ⟨rfl, H05.out.bl⟩

set_option maxRecDepth 100000 in
set_option maxHeartbeats 4000000 in
theorem ssuits_any (m : Mac) (c : Option Addr) (kc : Nat) (bs : List Bd) (p : Pd) (w : World) (hM : MacAt w m) (hG : BndL w c bs) (hB : ∀ b ∈ bs, PodAt w b.p) (hP : PodAt w p) (hm : lightM m = true) (hp : lightP p = true) (hl : bs.length ≤ 1000000) (hb : ∀ b ∈ bs, b.p.prts.length ≤ 1000000) :
    Calls Try.prog 26 #[.agg (mrow m).toArray, .slice c bs.length kc, .agg (prow p).toArray] w fun e w' => e = .returned (.int .i64 (suitS m bs p)) ∧ Below w.heap.size w w' := by
  have hq : p.prts.length ≤ 1000000 := by have := (lightP_iff hp).pl; omega
  have hPl := fun V (h : MP w w.heap.size m p V) => splace_any m p V h.ma h.pa hm hp
  have hRo := fun V (h : MP w w.heap.size m p V) => sroom_any m c kc bs p V h.ma (hG.mono h.bl) (fun b hb => (hB b hb).mono h.bl) h.pa hl hq hb
  obtain ⟨R, hR⟩ : ∃ R, suitS m bs p = R := ⟨_, rfl⟩
  rw [hR]
  unfold suitS at hR
  obtain ⟨x, hx⟩ : ∃ x, placeS m p = x := ⟨_, rfl⟩
  obtain ⟨y, hy⟩ : ∃ y, roomS m bs p = y := ⟨_, rfl⟩
  rw [hx] at hPl hR
  rw [hy] at hRo hR
  obtain ⟨W, hW⟩ : ∃ W, W = (w.alloc (.cells (mrow m).toArray 35)).alloc (.cells (prow p).toArray 47) := ⟨_, rfl⟩
  have H0 := Lib.hid (show MP w w.heap.size m p W by rw [hW]; exact MP.new hM hP)
  obtain ⟨n, hn⟩ : ∃ n, bs.length = n := ⟨_, rfl⟩
  rw [hn] at hRo ⊢
  clear hx hy hM hG hB hP hl hq hb hn hm hp
  obtain ⟨mn, mg, r0, r1, r2, r3, r4, ma, mk, ML, mta, mtk, MT, rd⟩ := m
  obtain ⟨nm, n0, n1, n2, n3, n4, la, lk, L, sa, sk, S, ta, tk, T, ba, bk, B, pa, pk, P, aa, ak, A, wd, da, dk, D, sw, rk, ow, dm, pn, lc⟩ := p
  have HPl := Lib.hid (show ∀ V, MP w w.heap.size (⟨mn, mg, r0, r1, r2, r3, r4, ma, mk, ML, mta, mtk, MT, rd⟩ : Mac) (⟨nm, n0, n1, n2, n3, n4, la, lk, L, sa, sk, S, ta, tk, T, ba, bk, B, pa, pk, P, aa, ak, A, wd, da, dk, D, sw, rk, ow, dm, pn, lc⟩ : Pd) V → Calls Try.prog 31 #[.agg #[.string mn, .string mg, .int .i64 r0, .int .i64 r1, .int .i64 r2, .int .i64 r3, .int .i64 r4, .slice ma ML.length mk, .slice mta MT.length mtk, .bool rd], .agg #[.string nm, .int .i64 n0, .int .i64 n1, .int .i64 n2, .int .i64 n3, .int .i64 n4, .slice la L.length lk, .slice sa S.length sk, .slice ta T.length tk, .slice ba B.length bk, .slice pa P.length pk, .slice aa A.length ak, .bool wd, .slice da D.length dk, .int .i64 sw, .int .i64 rk, .string ow, .bool dm, .bool pn, .bool lc]] V fun e w' => e = .returned (.int .i64 x) ∧ Below V.heap.size V w' from hPl)
  have HRo := Lib.hid (show ∀ V, MP w w.heap.size (⟨mn, mg, r0, r1, r2, r3, r4, ma, mk, ML, mta, mtk, MT, rd⟩ : Mac) (⟨nm, n0, n1, n2, n3, n4, la, lk, L, sa, sk, S, ta, tk, T, ba, bk, B, pa, pk, P, aa, ak, A, wd, da, dk, D, sw, rk, ow, dm, pn, lc⟩ : Pd) V → Calls Try.prog 33 #[.agg #[.string mn, .string mg, .int .i64 r0, .int .i64 r1, .int .i64 r2, .int .i64 r3, .int .i64 r4, .slice ma ML.length mk, .slice mta MT.length mtk, .bool rd], .slice c n kc, .agg #[.string nm, .int .i64 n0, .int .i64 n1, .int .i64 n2, .int .i64 n3, .int .i64 n4, .slice la L.length lk, .slice sa S.length sk, .slice ta T.length tk, .slice ba B.length bk, .slice pa P.length pk, .slice aa A.length ak, .bool wd, .slice da D.length dk, .int .i64 sw, .int .i64 rk, .string ow, .bool dm, .bool pn, .bool lc]] V fun e w' => e = .returned (.int .i64 y) ∧ Below V.heap.size V w' from hRo)
  clear hPl hRo
  replace hW : W = (w.alloc (.cells #[.string mn, .string mg, .int .i64 r0, .int .i64 r1, .int .i64 r2, .int .i64 r3, .int .i64 r4, .slice ma ML.length mk, .slice mta MT.length mtk, .bool rd] 35)).alloc (.cells #[.string nm, .int .i64 n0, .int .i64 n1, .int .i64 n2, .int .i64 n3, .int .i64 n4, .slice la L.length lk, .slice sa S.length sk, .slice ta T.length tk, .slice ba B.length bk, .slice pa P.length pk, .slice aa A.length ak, .bool wd, .slice da D.length dk, .int .i64 sw, .int .i64 rk, .string ow, .bool dm, .bool pn, .bool lc] 47) := hW
  show Calls Try.prog 26 #[.agg #[.string mn, .string mg, .int .i64 r0, .int .i64 r1, .int .i64 r2, .int .i64 r3, .int .i64 r4, .slice ma ML.length mk, .slice mta MT.length mtk, .bool rd], .slice c n kc, .agg #[.string nm, .int .i64 n0, .int .i64 n1, .int .i64 n2, .int .i64 n3, .int .i64 n4, .slice la L.length lk, .slice sa S.length sk, .slice ta T.length tk, .slice ba B.length bk, .slice pa P.length pk, .slice aa A.length ak, .bool wd, .slice da D.length dk, .int .i64 sw, .int .i64 rk, .string ow, .bool dm, .bool pn, .bool lc]] w _
  have HRm := Lib.hid (show ∀ V, MP w w.heap.size (⟨mn, mg, r0, r1, r2, r3, r4, ma, mk, ML, mta, mtk, MT, rd⟩ : Mac) (⟨nm, n0, n1, n2, n3, n4, la, lk, L, sa, sk, S, ta, tk, T, ba, bk, B, pa, pk, P, aa, ak, A, wd, da, dk, D, sw, rk, ow, dm, pn, lc⟩ : Pd) V → V.rangeAt w.heap.size 0 [.string mn, .string mg, .int .i64 r0, .int .i64 r1, .int .i64 r2, .int .i64 r3, .int .i64 r4, .slice ma ML.length mk, .slice mta MT.length mtk, .bool rd] from fun V h => h.xm.range)
  have HRp := Lib.hid (show ∀ V, MP w w.heap.size (⟨mn, mg, r0, r1, r2, r3, r4, ma, mk, ML, mta, mtk, MT, rd⟩ : Mac) (⟨nm, n0, n1, n2, n3, n4, la, lk, L, sa, sk, S, ta, tk, T, ba, bk, B, pa, pk, P, aa, ak, A, wd, da, dk, D, sw, rk, ow, dm, pn, lc⟩ : Pd) V → V.rangeAt (w.heap.size + 1) 0 [.string nm, .int .i64 n0, .int .i64 n1, .int .i64 n2, .int .i64 n3, .int .i64 n4, .slice la L.length lk, .slice sa S.length sk, .slice ta T.length tk, .slice ba B.length bk, .slice pa P.length pk, .slice aa A.length ak, .bool wd, .slice da D.length dk, .int .i64 sw, .int .i64 rk, .string ow, .bool dm, .bool pn, .bool lc] from fun V h => h.xp.range)
  by_cases h0 : x = 0
  · subst h0
    obtain rfl : R = y := by rw [← hR]; rfl
    clear hR
    go_enter Try.func26, Try.ntmps26
    go_upto_region 1 with (fail)
    rw [← hW]
    clear hW
    go_wp2_with (first
      | ((with_reducible refine at_load (ty := 35) ?_); refine load_cells rfl 35 (.tmp 3) rfl w.heap.size 0 rfl [.string mn, .string mg, .int .i64 r0, .int .i64 r1, .int .i64 r2, .int .i64 r3, .int .i64 r4, .slice ma ML.length mk, .slice mta MT.length mtk, .bool rd] _ Try.underlying35 rfl (by kernel_rfl) (by first | exact HRm.out _ H01.out | exact HRm.out _ H0.out) ?_)
      | ((with_reducible refine at_load (ty := 47) ?_); refine load_cells rfl 47 (.tmp 5) rfl (w.heap.size + 1) 0 rfl [.string nm, .int .i64 n0, .int .i64 n1, .int .i64 n2, .int .i64 n3, .int .i64 n4, .slice la L.length lk, .slice sa S.length sk, .slice ta T.length tk, .slice ba B.length bk, .slice pa P.length pk, .slice aa A.length ak, .bool wd, .slice da D.length dk, .int .i64 sw, .int .i64 rk, .string ow, .bool dm, .bool pn, .bool lc] _ Try.underlying47 rfl (by kernel_rfl) (by first | exact HRp.out _ H01.out | exact HRp.out _ H0.out) ?_)
      | (go_at_call 31; (with_reducible refine (HPl.out _ H0.out).mono ?_); rintro e w1 ⟨rfl, hb1⟩; have H01 := Lib.hid (H0.out.mono hb1); clear hb1)
      | (go_at_call 33; (with_reducible refine (HRo.out _ H01.out).mono ?_); rintro e w2 ⟨rfl, hb2⟩; have H02 := Lib.hid (H01.out.mono hb2); clear hb2))
    go_ret
    exact ⟨rfl, H02.out.bl⟩
  · have q0 : (x == 0) = false := by simpa using h0
    obtain rfl : R = x := by rw [← hR, if_neg h0]
    clear hR h0
    go_enter Try.func26, Try.ntmps26
    go_upto_region 1 with (fail)
    rw [← hW]
    clear hW
    go_wp2_with (first
      | ((with_reducible refine at_load (ty := 35) ?_); refine load_cells rfl 35 (.tmp 3) rfl w.heap.size 0 rfl [.string mn, .string mg, .int .i64 r0, .int .i64 r1, .int .i64 r2, .int .i64 r3, .int .i64 r4, .slice ma ML.length mk, .slice mta MT.length mtk, .bool rd] _ Try.underlying35 rfl (by kernel_rfl) (HRm.out _ H0.out) ?_)
      | ((with_reducible refine at_load (ty := 47) ?_); refine load_cells rfl 47 (.tmp 5) rfl (w.heap.size + 1) 0 rfl [.string nm, .int .i64 n0, .int .i64 n1, .int .i64 n2, .int .i64 n3, .int .i64 n4, .slice la L.length lk, .slice sa S.length sk, .slice ta T.length tk, .slice ba B.length bk, .slice pa P.length pk, .slice aa A.length ak, .bool wd, .slice da D.length dk, .int .i64 sw, .int .i64 rk, .string ow, .bool dm, .bool pn, .bool lc] _ Try.underlying47 rfl (by kernel_rfl) (HRp.out _ H0.out) ?_)
      | (go_at_call 31; (with_reducible refine (HPl.out _ H0.out).mono ?_); rintro e w1 ⟨rfl, hb1⟩; have H01 := Lib.hid (H0.out.mono hb1); clear hb1))
    go_ret
    exact ⟨rfl, H01.out.bl⟩
end Go.Proofs.Ythbpnfpalcgfeaa
