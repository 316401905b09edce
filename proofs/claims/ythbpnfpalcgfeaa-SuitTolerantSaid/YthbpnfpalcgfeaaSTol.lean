/-
  SuitTolerant.
-/
import Derived.Test.YthbpnfpalcgfeaaSu6
import Derived.Test.YthbpnfpalcgfeaaYeC
namespace Go.Proofs.Ythbpnfpalcgfeaa
open Go.ChangeShapes Go.WideShapes Go.ChangeAt Go.RowKit
set_option linter.unusedVariables false
set_option linter.unusedSimpArgs false
namespace suitTolerant

def anyT : Tol := ⟨emp, emp, true, 0⟩
theorem any_bears (x : Tnt) : Tn.borneB [anyT] x = true := by
  unfold Tn.borneB
  rw [List.any_cons, List.any_nil, Bool.or_false]
  unfold Tn.bearsB
  exact decide_eq_true ⟨.inl rfl, .inl rfl, .inl rfl⟩
theorem any_left (xs : List Tnt) (e : Int) : Tn.unborneL [anyT] xs e = [] := by
  unfold Tn.unborneL
  rw [List.filter_eq_nil_iff]
  intro x _
  unfold Tn.leftB
  rw [any_bears, Bool.not_true, Bool.and_false]
  decide
theorem any_allows (xs : List Tnt) : Tn.allowsB [anyT] xs = true := by
  unfold Tn.allowsB
  rw [any_left, any_left]
  rfl
/-- The pod that bears all. -/
def pAll (p : Pd) (Z : Nat) : Pd := { p with ba := some ⟨Z, 0, none⟩, bk := 1, bers := [anyT] }
def pFree (p : Pd) (Z : Nat) : Pd := { pAll p Z with sa := none, sk := 0, sels := [], ta := none, tk := 0, trms := [] }
def mUp (m : Mac) : Mac := { m with rd := true }
theorem place_all (m : Mac) (p : Pd) (Z : Nat) : placeS m (pAll p Z) ≠ 6 := by
  unfold placeS
  rw [show Tn.allowsB (pAll p Z).bers m.tnts = true from any_allows _]
  split
  · decide
  · split
    · decide
    · split
      · decide
      · decide
theorem pref_all (m : Mac) (p : Pd) (Z : Nat) : prefS m (pAll p Z) = 0 := by
  unfold prefS
  rw [show Tn.unborneL (pAll p Z).bers m.tnts 2 = [] from any_left _ _]
  rfl
theorem place_free (m : Mac) (p : Pd) (Z : Nat) : placeS (mUp m) (pFree p Z) = 0 := by
  unfold placeS
  rw [if_neg (show ¬ (mUp m).rd = false from (by intro h; cases h)), show Lb.hasP (mUp m).labs (pFree p Z).sels = true from rfl, show (pFree p Z).trms.all (Lb.meetP (mUp m).labs) = true from rfl, show Tn.allowsB (pFree p Z).bers (mUp m).tnts = true from any_allows _]
  rfl
theorem suit_free (m : Mac) (bs : List Bd) (p : Pd) (Z : Nat) : suitS (mUp m) bs (pFree p Z) = roomS (mUp m) bs (pFree p Z) := by
  unfold suitS
  rw [if_pos (place_free m p Z)]
theorem light_all {p : Pd} (Z : Nat) (h : lightP p = true) : lightP (pAll p Z) = true := by
  unfold lightP at h ⊢
  simp only [Bool.and_eq_true] at h ⊢
  exact ⟨⟨h.1.1, (by show lightB [anyT] [] = true; decide +kernel)⟩, h.2⟩
theorem light_free {p : Pd} (Z : Nat) (h : lightP p = true) : lightP (pFree p Z) = true := by
  unfold lightP at h ⊢
  simp only [Bool.and_eq_true] at h ⊢
  obtain ⟨⟨⟨⟨⟨⟨⟨⟨⟨h0, h1⟩, h2⟩, h3⟩, h4⟩, h5⟩, h6⟩, h7⟩, h8⟩, h9⟩ := h
  exact ⟨⟨⟨⟨⟨⟨⟨⟨⟨h0, h1⟩, rfl⟩, h3⟩, h4⟩, rfl⟩, h6⟩, h7⟩, (by show lightB [anyT] [] = true; decide +kernel)⟩, rfl⟩
theorem up_at {V : World} {m : Mac} (h : MacAt V m) : MacAt V (mUp m) := ⟨h.labs, h.tnts, h.ll, h.tl⟩
theorem all_at {V : World} {p : Pd} {Z : Nat} (h : PodAt V p) (hz : TolsAt V (some ⟨Z, 0, none⟩) [anyT]) : PodAt V (pAll p Z) := ⟨h.labs, h.sels, h.trms, h.trmA, hz, h.prts, h.aprs, h.spds, h.ll, h.sl, h.tl, one_le, h.pl, h.al, h.dl⟩
theorem free_at {V : World} {p : Pd} {Z : Nat} (h : PodAt V p) (hz : TolsAt V (some ⟨Z, 0, none⟩) [anyT]) : PodAt V (pFree p Z) := ⟨h.labs, RowsAt.nil, RowsAt.nil, (fun t ht => by cases ht), hz, h.prts, h.aprs, h.spds, h.ll, Nat.zero_le _, Nat.zero_le _, one_le, h.pl, h.al, h.dl⟩

theorem tols_set {V : World} {Z : Nat} {l : List Tol} (h : TolsAt V (some ⟨Z, 0, none⟩) l) {q : Addr} (hq : Z ≠ q.block) (v : Value) : TolsAt (V.setCell q v) (some ⟨Z, 0, none⟩) l := fun h0 => by
  obtain ⟨b, o, e, hb, hc⟩ := h h0
  injection e with e
  injection e with e1 e2
  subst e1 e2
  have hh : (V.setCell q v).heap[Z]? = V.heap[Z]? := Below.heap_setCell _ _ _ _ hq
  refine ⟨Z, 0, rfl, by simpa using hb, fun i x hx r hr => ?_⟩
  rw [← hc i x hx r hr]
  unfold World.cell?
  dsimp only
  rw [hh]
set_option maxRecDepth 100000 in
set_option maxHeartbeats 16000000 in
theorem walk1 (m : Mac) (c : Option Addr) (kc : Nat) (bs : List Bd) (p : Pd) (i0 i1 i2 i3 i4 : Int) (w : World) (hM : MacIn w m) (hP : PodIn w p) (hG : BndL w c bs) (hl : bs.length ≤ maxLen) (hB : ∀ b ∈ bs, BndIn w b) :
    Calls Try.prog 8 #[.agg (crow m c bs.length kc p i0 i1 i2 i3 i4).toArray] w fun e w' => e = .returned (.bool true) ∧ Below w.heap.size w w' := by
  obtain ⟨n, hn⟩ : ∃ n, bs.length = n := ⟨_, rfl⟩
  obtain ⟨W, hW⟩ : ∃ W, W = w.alloc (.cells (crow m c n kc p i0 i1 i2 i3 i4).toArray 49) := ⟨_, rfl⟩
  obtain ⟨CC, hCC⟩ : ∃ C, C = CB w m c n kc p i0 i1 i2 i3 i4 := ⟨_, rfl⟩
  have H0 := Lib.hid (show CC W by rw [hCC]; exact ⟨by rw [hW]; exact Box.new w _ _, by rw [hW]; exact (Below.refl _ w).alloc (Nat.le_refl _) _⟩)
  have hbl : ∀ V, CC V → Below w.heap.size w V := fun V h => by rw [hCC] at h; exact h.bl
  have HBl := Lib.hid hbl
  have HMo := Lib.hid (show ∀ V V', CC V → Below V.heap.size V V' → CC V' from fun V V' h hb => by rw [hCC] at h ⊢; exact h.mono hb)
  have HPu := Lib.hid (show ∀ V o, CC V → CC (V.alloc o) from fun V o h => by rw [hCC] at h ⊢; exact h.push o)
  have HSt := Lib.hid (show ∀ V (q : Addr) v, CC V → w.heap.size < q.block → CC (V.setCell q v) from fun V q v h hq => by rw [hCC] at h ⊢; exact h.set hq v)
  have hRm : ∀ V, CC V → V.rangeAt w.heap.size 0 (mrow m) := fun V h => by rw [hCC] at h; exact h.rm
  have hRq : ∀ V, CC V → V.rangeAt w.heap.size 11 (prow p) := fun V h => by rw [hCC] at h; exact h.rp
  have HCb := Lib.hid (show ∀ V, CC V → V.cell? ⟨w.heap.size, 10, none⟩ = some (.slice c n kc) from fun V h => by rw [hCC] at h; exact h.cb)
  have HLt := Lib.hid (show ∀ V, CC V → w.heap.size < V.heap.size from fun V h => by rw [hCC] at h; exact h.bx.lt)
  clear hCC
  have hone : ∀ V, ∀ x ∈ [m], Below w.heap.size w V → MacIn V x := fun V x hx hV => by
    obtain rfl : x = m := by simpa using hx
    exact hM.mono hV
  have hLi := fun a V (h : MacL V a [m]) (hV : CC V) => lighty_any a 1 [m] c kc bs V h (hG.mono (hbl V hV)) (fun x hx => hone V x hx (hbl V hV)) (fun b hb => (hB b hb).mono (hbl V hV)) one_le hl
  have hLp := fun V (hV : CC V) => lightp_any p V (hP.here.mono (hbl V hV))
  have hCk := fun a V (h : MacL V a [m]) (hV : CC V) (hL : lightY [m] bs = true) => rcheck_any a 1 [m] c kc bs V h (hG.mono (hbl V hV)) (fun x hx => hone V x hx (hbl V hV)) (fun b hb => (hB b hb).mono (hbl V hV)) (lightY_iff hL).2.2.1 (fun b hb => ((lightY_iff hL).2.2.2 b hb).1) (by show 1 ≤ 200; decide) (by have := (lightY_iff hL).2.1; omega)
  have hRp := fun V (hV : CC V) (hL : lightP p = true) => refrightp_any p V (hP.here.mono (hbl V hV)) hL
  have hPa := fun V (hV : CC V) (hL : lightY [m] bs = true) (hL2 : lightP p = true) Z (hz : TolsAt V (some ⟨Z, 0, none⟩) [anyT]) => splace_any m (pAll p Z) V (hM.here.mono (hbl V hV)) (all_at (hP.here.mono (hbl V hV)) hz) ((lightY_iff hL).2.2.1 m (List.mem_singleton.2 rfl)) (light_all Z hL2)
  have hPr := fun V (hV : CC V) (hL : lightY [m] bs = true) (hL2 : lightP p = true) Z (hz : TolsAt V (some ⟨Z, 0, none⟩) [anyT]) => sprefers_any m (pAll p Z) V (hM.here.mono (hbl V hV)) (all_at (hP.here.mono (hbl V hV)) hz) ((lightY_iff hL).2.2.1 m (List.mem_singleton.2 rfl)) (light_all Z hL2)
  have hPf := fun V (hV : CC V) (hL : lightY [m] bs = true) (hL2 : lightP p = true) Z (hz : TolsAt V (some ⟨Z, 0, none⟩) [anyT]) => splace_any (mUp m) (pFree p Z) V (up_at (hM.here.mono (hbl V hV))) (free_at (hP.here.mono (hbl V hV)) hz) ((lightY_iff hL).2.2.1 m (List.mem_singleton.2 rfl)) (light_free Z hL2)
  have hbp : lightY [m] bs = true → ∀ b ∈ bs, b.p.prts.length ≤ 1000000 := fun hL b hb => by have := (lightP_iff ((lightY_iff hL).2.2.2 b hb).1).pl; omega
  have hRm2 := fun V (hV : CC V) (hL : lightY [m] bs = true) (hL2 : lightP p = true) Z (hz : TolsAt V (some ⟨Z, 0, none⟩) [anyT]) => sroom_any (mUp m) c kc bs (pFree p Z) V (up_at (hM.here.mono (hbl V hV))) (hG.mono (hbl V hV)) (fun b hb => ((hB b hb).mono (hbl V hV)).here) (free_at (hP.here.mono (hbl V hV)) hz) (by have := (lightY_iff hL).2.1; omega) (by have : p.prts.length ≤ 30 := (lightP_iff hL2).pl; show p.prts.length ≤ 1000000; omega) (hbp hL)
  have hSu := fun V (hV : CC V) (hL : lightY [m] bs = true) (hL2 : lightP p = true) Z (hz : TolsAt V (some ⟨Z, 0, none⟩) [anyT]) => ssuits_any (mUp m) c kc bs (pFree p Z) V (up_at (hM.here.mono (hbl V hV))) (hG.mono (hbl V hV)) (fun b hb => ((hB b hb).mono (hbl V hV)).here) (free_at (hP.here.mono (hbl V hV)) hz) ((lightY_iff hL).2.2.1 m (List.mem_singleton.2 rfl)) (light_free Z hL2) (by have := (lightY_iff hL).2.1; omega) (hbp hL)
  simp only [suit_free] at hSu
  simp only [place_free] at hPf
  simp only [pref_all] at hPr
  obtain ⟨b1, h1⟩ : ∃ b, lightY [m] bs = b := ⟨_, rfl⟩
  obtain ⟨b2, h2⟩ : ∃ b, lightP p = b := ⟨_, rfl⟩
  obtain ⟨E, h3⟩ : ∃ b, checkY [m] bs = b := ⟨_, rfl⟩
  obtain ⟨b4, h4⟩ : ∃ b, rightP p = b := ⟨_, rfl⟩
  rw [h1, hn] at hLi
  rw [h2] at hLp
  simp only [h1, h3, hn] at hCk
  simp only [h2, h4] at hRp
  simp only [h1, h2, hn] at hPa hPr hPf hRm2 hSu
  rw [hn]
  have hX : ∀ V, CC V → MacL (V.alloc (.cells (mrow m).toArray 35)) (some ⟨V.heap.size, 0, none⟩) [m] := fun V hV => by
    have h9 := RowsAt.new (enc := mrow) (K := 10) (fun _ => rfl) V [m] 35
    rw [show [m].flatMap mrow = mrow m from List.append_nil _] at h9
    exact h9
  clear h1 h2 h3 h4 hn hbl hone hbp hM hP hG hl hB
  obtain ⟨mn, mg, r0, r1, r2, r3, r4, ma, mk, ML, mta, mtk, MT, rd⟩ := m
  obtain ⟨nm, n0, n1, n2, n3, n4, la, lk, L, sa, sk, S, ta, tk, T, ba, bk, B, pa, pk, P, aa, ak, A, wd, da, dk, D, sw, rk, ow, dm, pn, lc⟩ := p
  have HLi := Lib.hid (show ∀ V, CC V → Calls Try.prog 12 #[.slice (some ⟨V.heap.size, 0, none⟩) 1 1, .slice c n kc] (V.alloc (.cells #[.string mn, .string mg, .int .i64 r0, .int .i64 r1, .int .i64 r2, .int .i64 r3, .int .i64 r4, .slice ma ML.length mk, .slice mta MT.length mtk, .bool rd] 35)) fun e w' => e = .returned (.bool b1) ∧ Below (V.alloc (.cells #[.string mn, .string mg, .int .i64 r0, .int .i64 r1, .int .i64 r2, .int .i64 r3, .int .i64 r4, .slice ma ML.length mk, .slice mta MT.length mtk, .bool rd] 35)).heap.size (V.alloc (.cells #[.string mn, .string mg, .int .i64 r0, .int .i64 r1, .int .i64 r2, .int .i64 r3, .int .i64 r4, .slice ma ML.length mk, .slice mta MT.length mtk, .bool rd] 35)) w' from fun V hV => hLi _ _ (hX V hV) (HPu.out _ _ hV))
  have HLp := Lib.hid (show ∀ V, CC V → Calls Try.prog 23 #[.agg #[.string nm, .int .i64 n0, .int .i64 n1, .int .i64 n2, .int .i64 n3, .int .i64 n4, .slice la L.length lk, .slice sa S.length sk, .slice ta T.length tk, .slice ba B.length bk, .slice pa P.length pk, .slice aa A.length ak, .bool wd, .slice da D.length dk, .int .i64 sw, .int .i64 rk, .string ow, .bool dm, .bool pn, .bool lc]] V fun e w' => e = .returned (.bool b2) ∧ Below V.heap.size V w' from hLp)
  have HRm := Lib.hid (show ∀ V, CC V → V.rangeAt w.heap.size 0 [.string mn, .string mg, .int .i64 r0, .int .i64 r1, .int .i64 r2, .int .i64 r3, .int .i64 r4, .slice ma ML.length mk, .slice mta MT.length mtk, .bool rd] from hRm)
  have HRq := Lib.hid (show ∀ V, CC V → V.rangeAt w.heap.size 11 [.string nm, .int .i64 n0, .int .i64 n1, .int .i64 n2, .int .i64 n3, .int .i64 n4, .slice la L.length lk, .slice sa S.length sk, .slice ta T.length tk, .slice ba B.length bk, .slice pa P.length pk, .slice aa A.length ak, .bool wd, .slice da D.length dk, .int .i64 sw, .int .i64 rk, .string ow, .bool dm, .bool pn, .bool lc] from hRq)
  replace hW : W = w.alloc (.cells #[.string mn, .string mg, .int .i64 r0, .int .i64 r1, .int .i64 r2, .int .i64 r3, .int .i64 r4, .slice ma ML.length mk, .slice mta MT.length mtk, .bool rd, .slice c n kc, .string nm, .int .i64 n0, .int .i64 n1, .int .i64 n2, .int .i64 n3, .int .i64 n4, .slice la L.length lk, .slice sa S.length sk, .slice ta T.length tk, .slice ba B.length bk, .slice pa P.length pk, .slice aa A.length ak, .bool wd, .slice da D.length dk, .int .i64 sw, .int .i64 rk, .string ow, .bool dm, .bool pn, .bool lc, .int .i64 i0, .int .i64 i1, .int .i64 i2, .int .i64 i3, .int .i64 i4] 49) := hW
  have hrow : (crow (⟨mn, mg, r0, r1, r2, r3, r4, ma, mk, ML, mta, mtk, MT, rd⟩ : Mac) c n kc (⟨nm, n0, n1, n2, n3, n4, la, lk, L, sa, sk, S, ta, tk, T, ba, bk, B, pa, pk, P, aa, ak, A, wd, da, dk, D, sw, rk, ow, dm, pn, lc⟩ : Pd) i0 i1 i2 i3 i4).toArray = #[.string mn, .string mg, .int .i64 r0, .int .i64 r1, .int .i64 r2, .int .i64 r3, .int .i64 r4, .slice ma ML.length mk, .slice mta MT.length mtk, .bool rd, .slice c n kc, .string nm, .int .i64 n0, .int .i64 n1, .int .i64 n2, .int .i64 n3, .int .i64 n4, .slice la L.length lk, .slice sa S.length sk, .slice ta T.length tk, .slice ba B.length bk, .slice pa P.length pk, .slice aa A.length ak, .bool wd, .slice da D.length dk, .int .i64 sw, .int .i64 rk, .string ow, .bool dm, .bool pn, .bool lc, .int .i64 i0, .int .i64 i1, .int .i64 i2, .int .i64 i3, .int .i64 i4] := rfl
  rw [hrow]
  clear hrow
  clear hLi hLp hRm hRq
  cases b1 with
  | false =>
    clear hCk hRp hPa hPr hPf hRm2 hSu hX
    have HCk := HLp
    have HRp := HLp
    go_enter Try.func8, Try.ntmps8
    go_upto_region 1 with (fail)
    rw [← hW]
    clear hW
    have cb := HCb.out _ H0.out
    have hlt := HLt.out _ H0.out
    go_wp2_with (first
      | ((with_reducible refine at_load (ty := 35) ?_); refine load_cells rfl 35 (.tmp 5) rfl w.heap.size 0 rfl [.string mn, .string mg, .int .i64 r0, .int .i64 r1, .int .i64 r2, .int .i64 r3, .int .i64 r4, .slice ma ML.length mk, .slice mta MT.length mtk, .bool rd] _ Try.underlying35 rfl (by kernel_rfl) (HRm.out _ H0.out) ?_)
        | ((with_reducible refine at_load (ty := 35) ?_); refine load_cells rfl 35 (.tmp 19) rfl w.heap.size 0 rfl [.string mn, .string mg, .int .i64 r0, .int .i64 r1, .int .i64 r2, .int .i64 r3, .int .i64 r4, .slice ma ML.length mk, .slice mta MT.length mtk, .bool rd] _ Try.underlying35 rfl (by kernel_rfl) (HRm.out _ H0.out) ?_)
        | ((with_reducible refine at_load (ty := 47) ?_); refine load_cells rfl 47 (.tmp 13) rfl w.heap.size 11 rfl [.string nm, .int .i64 n0, .int .i64 n1, .int .i64 n2, .int .i64 n3, .int .i64 n4, .slice la L.length lk, .slice sa S.length sk, .slice ta T.length tk, .slice ba B.length bk, .slice pa P.length pk, .slice aa A.length ak, .bool wd, .slice da D.length dk, .int .i64 sw, .int .i64 rk, .string ow, .bool dm, .bool pn, .bool lc] _ Try.underlying47 rfl (by kernel_rfl) (HRq.out _ H0.out) ?_)
        | ((with_reducible refine at_load (ty := 47) ?_); refine load_cells rfl 47 (.tmp 28) rfl w.heap.size 11 rfl [.string nm, .int .i64 n0, .int .i64 n1, .int .i64 n2, .int .i64 n3, .int .i64 n4, .slice la L.length lk, .slice sa S.length sk, .slice ta T.length tk, .slice ba B.length bk, .slice pa P.length pk, .slice aa A.length ak, .bool wd, .slice da D.length dk, .int .i64 sw, .int .i64 rk, .string ow, .bool dm, .bool pn, .bool lc] _ Try.underlying47 rfl (by kernel_rfl) (HRq.out _ H0.out) ?_)
        | (go_at_call 12; (with_reducible refine (HLi.out _ H0.out).mono ?_); rintro e w1 ⟨rfl, hb⟩; have HD := Lib.hid (HMo.out _ _ (HPu.out _ _ H0.out) hb); clear H0 hb; have H0 := HD; clear HD; (try clear cb hlt); have cb := HCb.out _ H0.out; have hlt := HLt.out _ H0.out)
        | (go_at_call 23; (with_reducible refine (HLp.out _ H0.out).mono ?_); rintro e w1 ⟨rfl, hb⟩; have HD := Lib.hid (HMo.out _ _ H0.out hb); clear H0 hb; have H0 := HD; clear HD; (try clear cb hlt); have cb := HCb.out _ H0.out; have hlt := HLt.out _ H0.out)
        | (go_at_call 15; (with_reducible refine (HCk.out _ H0.out).mono ?_); rintro e w1 ⟨rfl, hb⟩; have HD := Lib.hid (HMo.out _ _ (HPu.out _ _ H0.out) hb); clear H0 hb; have H0 := HD; clear HD; (try clear cb hlt); have cb := HCb.out _ H0.out; have hlt := HLt.out _ H0.out)
        | (go_at_call 24; (with_reducible refine (HRp.out _ H0.out).mono ?_); rintro e w1 ⟨rfl, hb⟩; have HD := Lib.hid (HMo.out _ _ H0.out hb); clear H0 hb; have H0 := HD; clear HD; (try clear cb hlt); have cb := HCb.out _ H0.out; have hlt := HLt.out _ H0.out)
      | (go_at_call 25; (with_reducible refine (sknown_any _).mono ?_); rintro e w9 ⟨rfl, hb⟩; have HD := Lib.hid (HMo.out _ _ H0.out hb); clear H0 hb; have H0 := HD; clear HD))
    go_ret
    exact ⟨rfl, HBl.out _ H0.out⟩
  | true =>
    cases b2 with
    | false =>
      clear hCk hRp hPa hPr hPf hRm2 hSu hX
      have HCk := HLp
      have HRp := HLp
      go_enter Try.func8, Try.ntmps8
      go_upto_region 1 with (fail)
      rw [← hW]
      clear hW
      have cb := HCb.out _ H0.out
      have hlt := HLt.out _ H0.out
      go_wp2_with (first
        | ((with_reducible refine at_load (ty := 35) ?_); refine load_cells rfl 35 (.tmp 5) rfl w.heap.size 0 rfl [.string mn, .string mg, .int .i64 r0, .int .i64 r1, .int .i64 r2, .int .i64 r3, .int .i64 r4, .slice ma ML.length mk, .slice mta MT.length mtk, .bool rd] _ Try.underlying35 rfl (by kernel_rfl) (HRm.out _ H0.out) ?_)
          | ((with_reducible refine at_load (ty := 35) ?_); refine load_cells rfl 35 (.tmp 19) rfl w.heap.size 0 rfl [.string mn, .string mg, .int .i64 r0, .int .i64 r1, .int .i64 r2, .int .i64 r3, .int .i64 r4, .slice ma ML.length mk, .slice mta MT.length mtk, .bool rd] _ Try.underlying35 rfl (by kernel_rfl) (HRm.out _ H0.out) ?_)
          | ((with_reducible refine at_load (ty := 47) ?_); refine load_cells rfl 47 (.tmp 13) rfl w.heap.size 11 rfl [.string nm, .int .i64 n0, .int .i64 n1, .int .i64 n2, .int .i64 n3, .int .i64 n4, .slice la L.length lk, .slice sa S.length sk, .slice ta T.length tk, .slice ba B.length bk, .slice pa P.length pk, .slice aa A.length ak, .bool wd, .slice da D.length dk, .int .i64 sw, .int .i64 rk, .string ow, .bool dm, .bool pn, .bool lc] _ Try.underlying47 rfl (by kernel_rfl) (HRq.out _ H0.out) ?_)
          | ((with_reducible refine at_load (ty := 47) ?_); refine load_cells rfl 47 (.tmp 28) rfl w.heap.size 11 rfl [.string nm, .int .i64 n0, .int .i64 n1, .int .i64 n2, .int .i64 n3, .int .i64 n4, .slice la L.length lk, .slice sa S.length sk, .slice ta T.length tk, .slice ba B.length bk, .slice pa P.length pk, .slice aa A.length ak, .bool wd, .slice da D.length dk, .int .i64 sw, .int .i64 rk, .string ow, .bool dm, .bool pn, .bool lc] _ Try.underlying47 rfl (by kernel_rfl) (HRq.out _ H0.out) ?_)
          | (go_at_call 12; (with_reducible refine (HLi.out _ H0.out).mono ?_); rintro e w1 ⟨rfl, hb⟩; have HD := Lib.hid (HMo.out _ _ (HPu.out _ _ H0.out) hb); clear H0 hb; have H0 := HD; clear HD; (try clear cb hlt); have cb := HCb.out _ H0.out; have hlt := HLt.out _ H0.out)
          | (go_at_call 23; (with_reducible refine (HLp.out _ H0.out).mono ?_); rintro e w1 ⟨rfl, hb⟩; have HD := Lib.hid (HMo.out _ _ H0.out hb); clear H0 hb; have H0 := HD; clear HD; (try clear cb hlt); have cb := HCb.out _ H0.out; have hlt := HLt.out _ H0.out)
          | (go_at_call 15; (with_reducible refine (HCk.out _ H0.out).mono ?_); rintro e w1 ⟨rfl, hb⟩; have HD := Lib.hid (HMo.out _ _ (HPu.out _ _ H0.out) hb); clear H0 hb; have H0 := HD; clear HD; (try clear cb hlt); have cb := HCb.out _ H0.out; have hlt := HLt.out _ H0.out)
          | (go_at_call 24; (with_reducible refine (HRp.out _ H0.out).mono ?_); rintro e w1 ⟨rfl, hb⟩; have HD := Lib.hid (HMo.out _ _ H0.out hb); clear H0 hb; have H0 := HD; clear HD; (try clear cb hlt); have cb := HCb.out _ H0.out; have hlt := HLt.out _ H0.out)
        | (go_at_call 25; (with_reducible refine (sknown_any _).mono ?_); rintro e w9 ⟨rfl, hb⟩; have HD := Lib.hid (HMo.out _ _ H0.out hb); clear H0 hb; have H0 := HD; clear HD))
      go_ret
      exact ⟨rfl, HBl.out _ H0.out⟩
    | true =>
      have HCk := Lib.hid (show ∀ V, CC V → Calls Try.prog 15 #[.slice (some ⟨V.heap.size, 0, none⟩) 1 1, .slice c n kc] (V.alloc (.cells #[.string mn, .string mg, .int .i64 r0, .int .i64 r1, .int .i64 r2, .int .i64 r3, .int .i64 r4, .slice ma ML.length mk, .slice mta MT.length mtk, .bool rd] 35)) fun e w' => e = .returned (.int .i64 E) ∧ Below (V.alloc (.cells #[.string mn, .string mg, .int .i64 r0, .int .i64 r1, .int .i64 r2, .int .i64 r3, .int .i64 r4, .slice ma ML.length mk, .slice mta MT.length mtk, .bool rd] 35)).heap.size (V.alloc (.cells #[.string mn, .string mg, .int .i64 r0, .int .i64 r1, .int .i64 r2, .int .i64 r3, .int .i64 r4, .slice ma ML.length mk, .slice mta MT.length mtk, .bool rd] 35)) w' from fun V hV => hCk _ _ (hX V hV) (HPu.out _ _ hV) rfl)
      have HRp := Lib.hid (show ∀ V, CC V → Calls Try.prog 24 #[.agg #[.string nm, .int .i64 n0, .int .i64 n1, .int .i64 n2, .int .i64 n3, .int .i64 n4, .slice la L.length lk, .slice sa S.length sk, .slice ta T.length tk, .slice ba B.length bk, .slice pa P.length pk, .slice aa A.length ak, .bool wd, .slice da D.length dk, .int .i64 sw, .int .i64 rk, .string ow, .bool dm, .bool pn, .bool lc]] V fun e w' => e = .returned (.bool b4) ∧ Below V.heap.size V w' from fun V hV => hRp V hV rfl)
      clear hCk hRp hX
      by_cases he : E = 0
      · subst he
        cases b4 with
        | false =>
          clear hPa hPr hPf hRm2 hSu
          go_enter Try.func8, Try.ntmps8
          go_upto_region 1 with (fail)
          rw [← hW]
          clear hW
          have cb := HCb.out _ H0.out
          have hlt := HLt.out _ H0.out
          go_wp2_with (first
            | ((with_reducible refine at_load (ty := 35) ?_); refine load_cells rfl 35 (.tmp 5) rfl w.heap.size 0 rfl [.string mn, .string mg, .int .i64 r0, .int .i64 r1, .int .i64 r2, .int .i64 r3, .int .i64 r4, .slice ma ML.length mk, .slice mta MT.length mtk, .bool rd] _ Try.underlying35 rfl (by kernel_rfl) (HRm.out _ H0.out) ?_)
              | ((with_reducible refine at_load (ty := 35) ?_); refine load_cells rfl 35 (.tmp 19) rfl w.heap.size 0 rfl [.string mn, .string mg, .int .i64 r0, .int .i64 r1, .int .i64 r2, .int .i64 r3, .int .i64 r4, .slice ma ML.length mk, .slice mta MT.length mtk, .bool rd] _ Try.underlying35 rfl (by kernel_rfl) (HRm.out _ H0.out) ?_)
              | ((with_reducible refine at_load (ty := 47) ?_); refine load_cells rfl 47 (.tmp 13) rfl w.heap.size 11 rfl [.string nm, .int .i64 n0, .int .i64 n1, .int .i64 n2, .int .i64 n3, .int .i64 n4, .slice la L.length lk, .slice sa S.length sk, .slice ta T.length tk, .slice ba B.length bk, .slice pa P.length pk, .slice aa A.length ak, .bool wd, .slice da D.length dk, .int .i64 sw, .int .i64 rk, .string ow, .bool dm, .bool pn, .bool lc] _ Try.underlying47 rfl (by kernel_rfl) (HRq.out _ H0.out) ?_)
              | ((with_reducible refine at_load (ty := 47) ?_); refine load_cells rfl 47 (.tmp 28) rfl w.heap.size 11 rfl [.string nm, .int .i64 n0, .int .i64 n1, .int .i64 n2, .int .i64 n3, .int .i64 n4, .slice la L.length lk, .slice sa S.length sk, .slice ta T.length tk, .slice ba B.length bk, .slice pa P.length pk, .slice aa A.length ak, .bool wd, .slice da D.length dk, .int .i64 sw, .int .i64 rk, .string ow, .bool dm, .bool pn, .bool lc] _ Try.underlying47 rfl (by kernel_rfl) (HRq.out _ H0.out) ?_)
              | (go_at_call 12; (with_reducible refine (HLi.out _ H0.out).mono ?_); rintro e w1 ⟨rfl, hb⟩; have HD := Lib.hid (HMo.out _ _ (HPu.out _ _ H0.out) hb); clear H0 hb; have H0 := HD; clear HD; (try clear cb hlt); have cb := HCb.out _ H0.out; have hlt := HLt.out _ H0.out)
              | (go_at_call 23; (with_reducible refine (HLp.out _ H0.out).mono ?_); rintro e w1 ⟨rfl, hb⟩; have HD := Lib.hid (HMo.out _ _ H0.out hb); clear H0 hb; have H0 := HD; clear HD; (try clear cb hlt); have cb := HCb.out _ H0.out; have hlt := HLt.out _ H0.out)
              | (go_at_call 15; (with_reducible refine (HCk.out _ H0.out).mono ?_); rintro e w1 ⟨rfl, hb⟩; have HD := Lib.hid (HMo.out _ _ (HPu.out _ _ H0.out) hb); clear H0 hb; have H0 := HD; clear HD; (try clear cb hlt); have cb := HCb.out _ H0.out; have hlt := HLt.out _ H0.out)
              | (go_at_call 24; (with_reducible refine (HRp.out _ H0.out).mono ?_); rintro e w1 ⟨rfl, hb⟩; have HD := Lib.hid (HMo.out _ _ H0.out hb); clear H0 hb; have H0 := HD; clear HD; (try clear cb hlt); have cb := HCb.out _ H0.out; have hlt := HLt.out _ H0.out)
            | (go_at_call 25; (with_reducible refine (sknown_any _).mono ?_); rintro e w9 ⟨rfl, hb⟩; have HD := Lib.hid (HMo.out _ _ H0.out hb); clear H0 hb; have H0 := HD; clear HD))
          go_ret
          exact ⟨rfl, HBl.out _ H0.out⟩
        | true =>
          have HPa := Lib.hid (fun V hV Z hz => hPa V hV rfl rfl Z hz)
          have HPr := Lib.hid (fun V hV Z hz => hPr V hV rfl rfl Z hz)
          have HPf := Lib.hid (fun V hV Z hz => hPf V hV rfl rfl Z hz)
          have HRo := Lib.hid (fun V hV Z hz => hRm2 V hV rfl rfl Z hz)
          have HSu := Lib.hid (fun V hV Z hz => hSu V hV rfl rfl Z hz)
          clear hPa hPr hPf hRm2 hSu
          go_enter Try.func8, Try.ntmps8
          go_upto_region 1 with (fail)
          rw [← hW]
          clear hW
          have cb := HCb.out _ H0.out
          have hlt := HLt.out _ H0.out
          go_upto_region 4 with (first
            | ((with_reducible refine at_load (ty := 35) ?_); refine load_cells rfl 35 (.tmp 5) rfl w.heap.size 0 rfl [.string mn, .string mg, .int .i64 r0, .int .i64 r1, .int .i64 r2, .int .i64 r3, .int .i64 r4, .slice ma ML.length mk, .slice mta MT.length mtk, .bool rd] _ Try.underlying35 rfl (by kernel_rfl) (HRm.out _ H0.out) ?_)
              | ((with_reducible refine at_load (ty := 35) ?_); refine load_cells rfl 35 (.tmp 19) rfl w.heap.size 0 rfl [.string mn, .string mg, .int .i64 r0, .int .i64 r1, .int .i64 r2, .int .i64 r3, .int .i64 r4, .slice ma ML.length mk, .slice mta MT.length mtk, .bool rd] _ Try.underlying35 rfl (by kernel_rfl) (HRm.out _ H0.out) ?_)
              | ((with_reducible refine at_load (ty := 47) ?_); refine load_cells rfl 47 (.tmp 13) rfl w.heap.size 11 rfl [.string nm, .int .i64 n0, .int .i64 n1, .int .i64 n2, .int .i64 n3, .int .i64 n4, .slice la L.length lk, .slice sa S.length sk, .slice ta T.length tk, .slice ba B.length bk, .slice pa P.length pk, .slice aa A.length ak, .bool wd, .slice da D.length dk, .int .i64 sw, .int .i64 rk, .string ow, .bool dm, .bool pn, .bool lc] _ Try.underlying47 rfl (by kernel_rfl) (HRq.out _ H0.out) ?_)
              | ((with_reducible refine at_load (ty := 47) ?_); refine load_cells rfl 47 (.tmp 28) rfl w.heap.size 11 rfl [.string nm, .int .i64 n0, .int .i64 n1, .int .i64 n2, .int .i64 n3, .int .i64 n4, .slice la L.length lk, .slice sa S.length sk, .slice ta T.length tk, .slice ba B.length bk, .slice pa P.length pk, .slice aa A.length ak, .bool wd, .slice da D.length dk, .int .i64 sw, .int .i64 rk, .string ow, .bool dm, .bool pn, .bool lc] _ Try.underlying47 rfl (by kernel_rfl) (HRq.out _ H0.out) ?_)
              | (go_at_call 12; (with_reducible refine (HLi.out _ H0.out).mono ?_); rintro e w1 ⟨rfl, hb⟩; have HD := Lib.hid (HMo.out _ _ (HPu.out _ _ H0.out) hb); clear H0 hb; have H0 := HD; clear HD; (try clear cb hlt); have cb := HCb.out _ H0.out; have hlt := HLt.out _ H0.out)
              | (go_at_call 23; (with_reducible refine (HLp.out _ H0.out).mono ?_); rintro e w1 ⟨rfl, hb⟩; have HD := Lib.hid (HMo.out _ _ H0.out hb); clear H0 hb; have H0 := HD; clear HD; (try clear cb hlt); have cb := HCb.out _ H0.out; have hlt := HLt.out _ H0.out)
              | (go_at_call 15; (with_reducible refine (HCk.out _ H0.out).mono ?_); rintro e w1 ⟨rfl, hb⟩; have HD := Lib.hid (HMo.out _ _ (HPu.out _ _ H0.out) hb); clear H0 hb; have H0 := HD; clear HD; (try clear cb hlt); have cb := HCb.out _ H0.out; have hlt := HLt.out _ H0.out)
              | (go_at_call 24; (with_reducible refine (HRp.out _ H0.out).mono ?_); rintro e w1 ⟨rfl, hb⟩; have HD := Lib.hid (HMo.out _ _ H0.out hb); clear H0 hb; have H0 := HD; clear HD; (try clear cb hlt); have cb := HCb.out _ H0.out; have hlt := HLt.out _ H0.out)
            | ((with_reducible refine at_load (ty := 47) ?_); refine load_cells rfl 47 (.tmp 34) rfl w.heap.size 11 rfl [.string nm, .int .i64 n0, .int .i64 n1, .int .i64 n2, .int .i64 n3, .int .i64 n4, .slice la L.length lk, .slice sa S.length sk, .slice ta T.length tk, .slice ba B.length bk, .slice pa P.length pk, .slice aa A.length ak, .bool wd, .slice da D.length dk, .int .i64 sw, .int .i64 rk, .string ow, .bool dm, .bool pn, .bool lc] _ Try.underlying47 rfl (by kernel_rfl) (HRq.out _ H0.out) ?_)
            | ((with_reducible refine at_store (ty := 47) ?_); refine store_new rfl 47 (.tmp 3) (.tmp 35) rfl _ _ rfl rfl (by kernel_rfl) rfl (List.all_eq_true.2 (prow_one (⟨nm, n0, n1, n2, n3, n4, la, lk, L, sa, sk, S, ta, tk, T, ba, bk, B, pa, pk, P, aa, ak, A, wd, da, dk, D, sw, rk, ow, dm, pn, lc⟩ : Pd))) rfl ?_))
          obtain ⟨V3, hV3⟩ : ∃ V, V = w1.alloc (.cells #[.string nm, .int .i64 n0, .int .i64 n1, .int .i64 n2, .int .i64 n3, .int .i64 n4, .slice la L.length lk, .slice sa S.length sk, .slice ta T.length tk, .slice ba B.length bk, .slice pa P.length pk, .slice aa A.length ak, .bool wd, .slice da D.length dk, .int .i64 sw, .int .i64 rk, .string ow, .bool dm, .bool pn, .bool lc] 47) := ⟨_, rfl⟩
          have H3 := Lib.hid (show CC V3 by rw [hV3]; exact HPu.out _ _ H0.out)
          obtain ⟨Y, hY⟩ : ∃ Y, w1.heap.size = Y := ⟨_, rfl⟩
          have HY3 := Lib.hid (show Blk V3 Y 47 [.string nm, .int .i64 n0, .int .i64 n1, .int .i64 n2, .int .i64 n3, .int .i64 n4, .slice la L.length lk, .slice sa S.length sk, .slice ta T.length tk, .slice ba B.length bk, .slice pa P.length pk, .slice aa A.length ak, .bool wd, .slice da D.length dk, .int .i64 sw, .int .i64 rk, .string ow, .bool dm, .bool pn, .bool lc] by rw [hV3, ← hY]; exact Blk.new w1 47 [.string nm, .int .i64 n0, .int .i64 n1, .int .i64 n2, .int .i64 n3, .int .i64 n4, .slice la L.length lk, .slice sa S.length sk, .slice ta T.length tk, .slice ba B.length bk, .slice pa P.length pk, .slice aa A.length ak, .bool wd, .slice da D.length dk, .int .i64 sw, .int .i64 rk, .string ow, .bool dm, .bool pn, .bool lc])
          have hxY : w.heap.size < Y := by rw [← hY]; exact hlt
          rw [← hV3, hY]
          clear hV3 hY H0 cb hlt
          have y9 := HY3.out.cell 9
          have g9 := HY3.out.frozen 9
          have hly := HY3.out.lt
          dsimp only [List.getElem?_cons_zero, List.getElem?_cons_succ] at y9
          go_upto_region 5 with (fail)
          obtain ⟨Z, hZ⟩ : ∃ Z, V3.heap.size = Z := ⟨_, rfl⟩
          rw [hZ]
          obtain ⟨V4, hV4⟩ : ∃ V, V = (V3.setCell ⟨Y, 9, none⟩ (.slice (some ⟨Z, 0, none⟩) 1 1)).alloc (.cells #[.string ⟨#[]⟩, .string ⟨#[]⟩, .bool true, .int .i64 0] 60) := ⟨_, rfl⟩
          have H0 := Lib.hid (show CC V4 by rw [hV4]; exact HPu.out _ _ (HSt.out _ _ _ H3.out hxY))
          have HY := Lib.hid (show Blk V4 Y 47 [.string nm, .int .i64 n0, .int .i64 n1, .int .i64 n2, .int .i64 n3, .int .i64 n4, .slice la L.length lk, .slice sa S.length sk, .slice ta T.length tk, .slice (some ⟨Z, 0, none⟩) 1 1, .slice pa P.length pk, .slice aa A.length ak, .bool wd, .slice da D.length dk, .int .i64 sw, .int .i64 rk, .string ow, .bool dm, .bool pn, .bool lc] by rw [hV4]; exact (HY3.out.set 9 _).alloc _)
          have HZ := Lib.hid (show TolsAt V4 (some ⟨Z, 0, none⟩) [anyT] by
            have h9 := Blk.new (V3.setCell ⟨Y, 9, none⟩ (.slice (some ⟨Z, 0, none⟩) 1 1)) 60 [.string ⟨#[]⟩, .string ⟨#[]⟩, .bool true, .int .i64 0]
            rw [show (V3.setCell ⟨Y, 9, none⟩ (.slice (some ⟨Z, 0, none⟩) 1 1)).heap.size = Z by simp; exact hZ] at h9
            rw [hV4]
            exact blk_rows (enc := ocs) (K := 4) (l := [anyT]) ocs_len h9)
          obtain ⟨v, hv⟩ : ∃ v, placeS (⟨mn, mg, r0, r1, r2, r3, r4, ma, mk, ML, mta, mtk, MT, rd⟩ : Mac) (pAll (⟨nm, n0, n1, n2, n3, n4, la, lk, L, sa, sk, S, ta, tk, T, ba, bk, B, pa, pk, P, aa, ak, A, wd, da, dk, D, sw, rk, ow, dm, pn, lc⟩ : Pd) Z) = v := ⟨_, rfl⟩
          have hv6 : ¬ v = 6 := by rw [← hv]; exact place_all _ _ _
          have q6 : (v == 6) = false := by simpa using hv6
          have HPl := Lib.hid (show ∀ V, CC V → TolsAt V (some ⟨Z, 0, none⟩) [anyT] → Calls Try.prog 31 #[.agg #[.string mn, .string mg, .int .i64 r0, .int .i64 r1, .int .i64 r2, .int .i64 r3, .int .i64 r4, .slice ma ML.length mk, .slice mta MT.length mtk, .bool rd], .agg #[.string nm, .int .i64 n0, .int .i64 n1, .int .i64 n2, .int .i64 n3, .int .i64 n4, .slice la L.length lk, .slice sa S.length sk, .slice ta T.length tk, .slice (some ⟨Z, 0, none⟩) 1 1, .slice pa P.length pk, .slice aa A.length ak, .bool wd, .slice da D.length dk, .int .i64 sw, .int .i64 rk, .string ow, .bool dm, .bool pn, .bool lc]] V fun e w' => e = .returned (.int .i64 v) ∧ Below V.heap.size V w' from fun V h hz => by
            have h9 := HPa.out V h Z hz
            rw [hv] at h9
            exact h9)
          have HPp := Lib.hid (show ∀ V, CC V → TolsAt V (some ⟨Z, 0, none⟩) [anyT] → Calls Try.prog 32 #[.agg #[.string mn, .string mg, .int .i64 r0, .int .i64 r1, .int .i64 r2, .int .i64 r3, .int .i64 r4, .slice ma ML.length mk, .slice mta MT.length mtk, .bool rd], .agg #[.string nm, .int .i64 n0, .int .i64 n1, .int .i64 n2, .int .i64 n3, .int .i64 n4, .slice la L.length lk, .slice sa S.length sk, .slice ta T.length tk, .slice (some ⟨Z, 0, none⟩) 1 1, .slice pa P.length pk, .slice aa A.length ak, .bool wd, .slice da D.length dk, .int .i64 sw, .int .i64 rk, .string ow, .bool dm, .bool pn, .bool lc]] V fun e w' => e = .returned (.int .i64 0) ∧ Below V.heap.size V w' from fun V h hz => HPr.out V h Z hz)
          have HZY := Lib.hid (show Z ≠ Y by have := HY3.out.lt; omega)
          rw [← hV4]
          clear hV4 hZ hv y9 g9 hly H3 HY3 HPa HPr
          go_upto_region 7 with (first
            | ((with_reducible refine at_load (ty := 35) ?_); refine load_cells rfl 35 (.tmp 39) rfl w.heap.size 0 rfl [.string mn, .string mg, .int .i64 r0, .int .i64 r1, .int .i64 r2, .int .i64 r3, .int .i64 r4, .slice ma ML.length mk, .slice mta MT.length mtk, .bool rd] _ Try.underlying35 rfl (by kernel_rfl) (HRm.out _ H0.out) ?_)
            | ((with_reducible refine at_load (ty := 35) ?_); refine load_cells rfl 35 (.tmp 45) rfl w.heap.size 0 rfl [.string mn, .string mg, .int .i64 r0, .int .i64 r1, .int .i64 r2, .int .i64 r3, .int .i64 r4, .slice ma ML.length mk, .slice mta MT.length mtk, .bool rd] _ Try.underlying35 rfl (by kernel_rfl) (HRm.out _ H0.out) ?_)
            | ((with_reducible refine at_load (ty := 47) ?_); refine load_cells rfl 47 (.tmp 3) rfl Y 0 rfl [.string nm, .int .i64 n0, .int .i64 n1, .int .i64 n2, .int .i64 n3, .int .i64 n4, .slice la L.length lk, .slice sa S.length sk, .slice ta T.length tk, .slice (some ⟨Z, 0, none⟩) 1 1, .slice pa P.length pk, .slice aa A.length ak, .bool wd, .slice da D.length dk, .int .i64 sw, .int .i64 rk, .string ow, .bool dm, .bool pn, .bool lc] _ Try.underlying47 rfl (by kernel_rfl) (blk_range HY.out) ?_)
            | (go_at_call 31; (with_reducible refine (HPl.out _ H0.out HZ.out).mono ?_); rintro e w5 ⟨rfl, hb⟩; have HD := Lib.hid (HMo.out _ _ H0.out hb); have HE := Lib.hid (HY.out.below hb); have HF := Lib.hid (HZ.out.mono hb); clear H0 HY HZ hb; have H0 := HD; have HY := HE; have HZ := HF; clear HD HE HF)
            | (go_at_call 32; (with_reducible refine (HPp.out _ H0.out HZ.out).mono ?_); rintro e w5 ⟨rfl, hb⟩; have HD := Lib.hid (HMo.out _ _ H0.out hb); have HE := Lib.hid (HY.out.below hb); have HF := Lib.hid (HZ.out.mono hb); clear H0 HY HZ hb; have H0 := HD; have HY := HE; have HZ := HF; clear HD HE HF))
          clear hv6 q6 HPl HPp
          have y7 := HY.out.cell 7
          have g7 := HY.out.frozen 7
          have y8 := HY.out.cell 8
          have g8 := HY.out.frozen 8
          have hly := HY.out.lt
          dsimp only [List.getElem?_cons_zero, List.getElem?_cons_succ] at y7 y8
          go_upto_region 9 with (fail)
          obtain ⟨V5, hV5⟩ : ∃ V, V = (w5.setCell ⟨Y, 7, none⟩ (.slice none 0 0)).setCell ⟨Y, 8, none⟩ (.slice none 0 0) := ⟨_, rfl⟩
          have H5 := Lib.hid (show CC V5 by rw [hV5]; exact HSt.out _ _ _ (HSt.out _ _ _ H0.out hxY) hxY)
          have HY5 := Lib.hid (show Blk V5 Y 47 [.string nm, .int .i64 n0, .int .i64 n1, .int .i64 n2, .int .i64 n3, .int .i64 n4, .slice la L.length lk, .slice none 0 0, .slice none 0 0, .slice (some ⟨Z, 0, none⟩) 1 1, .slice pa P.length pk, .slice aa A.length ak, .bool wd, .slice da D.length dk, .int .i64 sw, .int .i64 rk, .string ow, .bool dm, .bool pn, .bool lc] by rw [hV5]; exact (HY.out.set 7 _).set 8 _)
          have hzY : Z ≠ Y := HZY.out
          have HZ5 := Lib.hid (show TolsAt V5 (some ⟨Z, 0, none⟩) [anyT] by
            rw [hV5]
            refine tols_set (tols_set HZ.out ?_ _) ?_ _
            · exact hzY
            · exact hzY)
          rw [← hV5]
          clear hV5 H0 HY HZ y7 g7 y8 g8 hly
          have H0 := H5
          clear H5
          go_upto_region 10 with (first
            | ((with_reducible refine at_load (ty := 35) ?_); refine load_cells rfl 35 (.tmp 53) rfl w.heap.size 0 rfl [.string mn, .string mg, .int .i64 r0, .int .i64 r1, .int .i64 r2, .int .i64 r3, .int .i64 r4, .slice ma ML.length mk, .slice mta MT.length mtk, .bool rd] _ Try.underlying35 rfl (by kernel_rfl) (HRm.out _ H0.out) ?_)
            | ((with_reducible refine at_store (ty := 35) ?_); refine store_new rfl 35 (.tmp 4) (.tmp 54) rfl _ _ rfl rfl (by kernel_rfl) rfl (by rfl) rfl ?_))
          obtain ⟨V6, hV6⟩ : ∃ V, V = V5.alloc (.cells #[.string mn, .string mg, .int .i64 r0, .int .i64 r1, .int .i64 r2, .int .i64 r3, .int .i64 r4, .slice ma ML.length mk, .slice mta MT.length mtk, .bool rd] 35) := ⟨_, rfl⟩
          have H6 := Lib.hid (show CC V6 by rw [hV6]; exact HPu.out _ _ H0.out)
          have HY6 := Lib.hid (show Blk V6 Y 47 [.string nm, .int .i64 n0, .int .i64 n1, .int .i64 n2, .int .i64 n3, .int .i64 n4, .slice la L.length lk, .slice none 0 0, .slice none 0 0, .slice (some ⟨Z, 0, none⟩) 1 1, .slice pa P.length pk, .slice aa A.length ak, .bool wd, .slice da D.length dk, .int .i64 sw, .int .i64 rk, .string ow, .bool dm, .bool pn, .bool lc] by rw [hV6]; exact HY5.out.alloc _)
          have HZ6 := Lib.hid (show TolsAt V6 (some ⟨Z, 0, none⟩) [anyT] by rw [hV6]; exact HZ5.out.mono ((Below.refl _ _).alloc (Nat.le_refl _) _))
          obtain ⟨Q, hQ⟩ : ∃ Q, V5.heap.size = Q := ⟨_, rfl⟩
          have HQ6 := Lib.hid (show Blk V6 Q 35 [.string mn, .string mg, .int .i64 r0, .int .i64 r1, .int .i64 r2, .int .i64 r3, .int .i64 r4, .slice ma ML.length mk, .slice mta MT.length mtk, .bool rd] by rw [hV6, ← hQ]; exact Blk.new V5 35 [.string mn, .string mg, .int .i64 r0, .int .i64 r1, .int .i64 r2, .int .i64 r3, .int .i64 r4, .slice ma ML.length mk, .slice mta MT.length mtk, .bool rd])
          have hYQ : Y < Q := by rw [← hQ]; exact HY5.out.lt
          have HZQ := Lib.hid (show Z ≠ Q by
            obtain ⟨b, o, e, hb, -⟩ := HZ5.out (Nat.succ_pos _)
            injection e with e
            injection e with e1 e2
            subst e1
            rw [hQ] at hb
            omega)
          rw [← hV6, hQ]
          clear hV6 hQ H0 HY5 HZ5
          have m9 := HQ6.out.cell 9
          have k9 := HQ6.out.frozen 9
          have hlq := HQ6.out.lt
          dsimp only [List.getElem?_cons_zero, List.getElem?_cons_succ] at m9
          go_upto_region 11 with (fail)
          obtain ⟨V7, hV7⟩ : ∃ V, V = V6.setCell ⟨Q, 9, none⟩ (.bool true) := ⟨_, rfl⟩
          have H7 := Lib.hid (show CC V7 by rw [hV7]; exact HSt.out _ _ _ H6.out (Nat.lt_trans hxY hYQ))
          have HY7 := Lib.hid (show Blk V7 Y 47 [.string nm, .int .i64 n0, .int .i64 n1, .int .i64 n2, .int .i64 n3, .int .i64 n4, .slice la L.length lk, .slice none 0 0, .slice none 0 0, .slice (some ⟨Z, 0, none⟩) 1 1, .slice pa P.length pk, .slice aa A.length ak, .bool wd, .slice da D.length dk, .int .i64 sw, .int .i64 rk, .string ow, .bool dm, .bool pn, .bool lc] by rw [hV7]; exact HY6.out.other (by show Y ≠ Q; omega) _)
          have HZ7 := Lib.hid (show TolsAt V7 (some ⟨Z, 0, none⟩) [anyT] by rw [hV7]; exact tols_set HZ6.out HZQ.out _)
          have HQ7 := Lib.hid (show Blk V7 Q 35 [.string mn, .string mg, .int .i64 r0, .int .i64 r1, .int .i64 r2, .int .i64 r3, .int .i64 r4, .slice ma ML.length mk, .slice mta MT.length mtk, .bool true] by rw [hV7]; exact HQ6.out.set 9 _)
          rw [← hV7]
          clear hV7 H6 HY6 HZ6 HQ6 m9 k9 hlq
          obtain ⟨x, hx⟩ : ∃ x, roomS (mUp (⟨mn, mg, r0, r1, r2, r3, r4, ma, mk, ML, mta, mtk, MT, rd⟩ : Mac)) bs (pFree (⟨nm, n0, n1, n2, n3, n4, la, lk, L, sa, sk, S, ta, tk, T, ba, bk, B, pa, pk, P, aa, ak, A, wd, da, dk, D, sw, rk, ow, dm, pn, lc⟩ : Pd) Z) = x := ⟨_, rfl⟩
          have HC1 := Lib.hid (show ∀ V, CC V → TolsAt V (some ⟨Z, 0, none⟩) [anyT] → Calls Try.prog 31 #[.agg #[.string mn, .string mg, .int .i64 r0, .int .i64 r1, .int .i64 r2, .int .i64 r3, .int .i64 r4, .slice ma ML.length mk, .slice mta MT.length mtk, .bool true], .agg #[.string nm, .int .i64 n0, .int .i64 n1, .int .i64 n2, .int .i64 n3, .int .i64 n4, .slice la L.length lk, .slice none 0 0, .slice none 0 0, .slice (some ⟨Z, 0, none⟩) 1 1, .slice pa P.length pk, .slice aa A.length ak, .bool wd, .slice da D.length dk, .int .i64 sw, .int .i64 rk, .string ow, .bool dm, .bool pn, .bool lc]] V fun e w' => e = .returned (.int .i64 0) ∧ Below V.heap.size V w' from fun V h hz => HPf.out V h Z hz)
          have HC2 := Lib.hid (show ∀ V, CC V → TolsAt V (some ⟨Z, 0, none⟩) [anyT] → Calls Try.prog 26 #[.agg #[.string mn, .string mg, .int .i64 r0, .int .i64 r1, .int .i64 r2, .int .i64 r3, .int .i64 r4, .slice ma ML.length mk, .slice mta MT.length mtk, .bool true], .slice c n kc, .agg #[.string nm, .int .i64 n0, .int .i64 n1, .int .i64 n2, .int .i64 n3, .int .i64 n4, .slice la L.length lk, .slice none 0 0, .slice none 0 0, .slice (some ⟨Z, 0, none⟩) 1 1, .slice pa P.length pk, .slice aa A.length ak, .bool wd, .slice da D.length dk, .int .i64 sw, .int .i64 rk, .string ow, .bool dm, .bool pn, .bool lc]] V fun e w' => e = .returned (.int .i64 x) ∧ Below V.heap.size V w' from fun V h hz => by
            have h9 := HSu.out V h Z hz
            rw [hx] at h9
            exact h9)
          have HC3 := Lib.hid (show ∀ V, CC V → TolsAt V (some ⟨Z, 0, none⟩) [anyT] → Calls Try.prog 33 #[.agg #[.string mn, .string mg, .int .i64 r0, .int .i64 r1, .int .i64 r2, .int .i64 r3, .int .i64 r4, .slice ma ML.length mk, .slice mta MT.length mtk, .bool true], .slice c n kc, .agg #[.string nm, .int .i64 n0, .int .i64 n1, .int .i64 n2, .int .i64 n3, .int .i64 n4, .slice la L.length lk, .slice none 0 0, .slice none 0 0, .slice (some ⟨Z, 0, none⟩) 1 1, .slice pa P.length pk, .slice aa A.length ak, .bool wd, .slice da D.length dk, .int .i64 sw, .int .i64 rk, .string ow, .bool dm, .bool pn, .bool lc]] V fun e w' => e = .returned (.int .i64 x) ∧ Below V.heap.size V w' from fun V h hz => by
            have h9 := HRo.out V h Z hz
            rw [hx] at h9
            exact h9)
          clear hx HPf HSu HRo
          have cb := HCb.out _ H7.out
          have hlt := HLt.out _ H7.out
          have hly := HY7.out.lt
          have hlq := HQ7.out.lt
          have HRy := Lib.hid (blk_range HY7.out)
          have HRz := Lib.hid (blk_range HQ7.out)
          have hcH := held_cell
          refine region_rel (by kernel_rfl) (by kernel_rfl) ?_
          repeat
            ((with_reducible refine relStep (fun K hK => ?_))
             (have HK := Lib.hid hK)
             clear hK
             (apply relInl
              · intro r n hf
                have Hf := Lib.hid hf
                clear hf
                (first
                  | ((first | ((with_reducible refine at_rel (ty := 35) ?_); refine rel_load rfl Q 0 rfl [.string mn, .string mg, .int .i64 r0, .int .i64 r1, .int .i64 r2, .int .i64 r3, .int .i64 r4, .slice ma ML.length mk, .slice mta MT.length mtk, .bool true] _ Try.underlying35 rfl (by kernel_rfl) (rangeAt_mono HRz.out hlq n.below) rfl) | ((with_reducible refine at_rel (ty := 47) ?_); refine rel_load rfl Y 0 rfl [.string nm, .int .i64 n0, .int .i64 n1, .int .i64 n2, .int .i64 n3, .int .i64 n4, .slice la L.length lk, .slice none 0 0, .slice none 0 0, .slice (some ⟨Z, 0, none⟩) 1 1, .slice pa P.length pk, .slice aa A.length ak, .bool wd, .slice da D.length dk, .int .i64 sw, .int .i64 rk, .string ow, .bool dm, .bool pn, .bool lc] _ Try.underlying47 rfl (by kernel_rfl) (rangeAt_mono HRy.out hly n.below) rfl)))
                  | (unfold relAt
                     go_simp
                     (first | (refine relUpon_val ?_ (Below.refl _ _); exact rfl) | exact rfl | (refine relUpon_enter ?_; (first | (go_at_call 31; (with_reducible refine (HC1.out _ (HMo.out _ _ H7.out n.below) (HZ7.out.mono n.below)).mono ?_); rintro e w9 ⟨rfl, hb⟩; exact ⟨⟨_, rfl, rfl⟩, hb⟩) | (go_at_call 26; (with_reducible refine (HC2.out _ (HMo.out _ _ H7.out n.below) (HZ7.out.mono n.below)).mono ?_); rintro e w9 ⟨rfl, hb⟩; exact ⟨⟨_, rfl, rfl⟩, hb⟩) | (go_at_call 33; (with_reducible refine (HC3.out _ (HMo.out _ _ H7.out n.below) (HZ7.out.mono n.below)).mono ?_); rintro e w9 ⟨rfl, hb⟩; exact ⟨⟨_, rfl, rfl⟩, hb⟩) | (go_at_call 25; (with_reducible refine (sknown_any _).mono ?_); rintro e w9 ⟨rfl, hb⟩; exact ⟨⟨_, rfl, rfl⟩, hb⟩))))))
              (simp only [Act.put, List.setIfInBounds_toArray, List.set_cons_zero, List.set_cons_succ])
              (with_reducible refine HK.out _ _ ?_)
              clear HK K))
          refine relNil ?_
          intro r9 n9 hx9
          clear hcH
          (try simp only [List.nil_append, List.cons_append, List.mem_cons, List.not_mem_nil, or_false, forall_eq_or_imp, forall_eq, false_implies, implies_true] at hx9)
          obtain ⟨w9, hb9⟩ := n9
          (try dsimp only)
          obtain ⟨hc9, hf9⟩ := bcell hb9
          have hz9 := hb9.size
          (try simp at hz9)
          have H9 := Lib.hid (HMo.out _ _ H7.out hb9)
          clear hb9 hc9 hf9 hz9
          go_wp2
          go_ret
          exact ⟨rfl, HBl.out _ H9.out⟩
      · have q0 : (E == 0) = false := by simpa using he
        clear hPa hPr hPf hRm2 hSu
        go_enter Try.func8, Try.ntmps8
        go_upto_region 1 with (fail)
        rw [← hW]
        clear hW
        have cb := HCb.out _ H0.out
        have hlt := HLt.out _ H0.out
        go_wp2_with (first
          | ((with_reducible refine at_load (ty := 35) ?_); refine load_cells rfl 35 (.tmp 5) rfl w.heap.size 0 rfl [.string mn, .string mg, .int .i64 r0, .int .i64 r1, .int .i64 r2, .int .i64 r3, .int .i64 r4, .slice ma ML.length mk, .slice mta MT.length mtk, .bool rd] _ Try.underlying35 rfl (by kernel_rfl) (HRm.out _ H0.out) ?_)
            | ((with_reducible refine at_load (ty := 35) ?_); refine load_cells rfl 35 (.tmp 19) rfl w.heap.size 0 rfl [.string mn, .string mg, .int .i64 r0, .int .i64 r1, .int .i64 r2, .int .i64 r3, .int .i64 r4, .slice ma ML.length mk, .slice mta MT.length mtk, .bool rd] _ Try.underlying35 rfl (by kernel_rfl) (HRm.out _ H0.out) ?_)
            | ((with_reducible refine at_load (ty := 47) ?_); refine load_cells rfl 47 (.tmp 13) rfl w.heap.size 11 rfl [.string nm, .int .i64 n0, .int .i64 n1, .int .i64 n2, .int .i64 n3, .int .i64 n4, .slice la L.length lk, .slice sa S.length sk, .slice ta T.length tk, .slice ba B.length bk, .slice pa P.length pk, .slice aa A.length ak, .bool wd, .slice da D.length dk, .int .i64 sw, .int .i64 rk, .string ow, .bool dm, .bool pn, .bool lc] _ Try.underlying47 rfl (by kernel_rfl) (HRq.out _ H0.out) ?_)
            | ((with_reducible refine at_load (ty := 47) ?_); refine load_cells rfl 47 (.tmp 28) rfl w.heap.size 11 rfl [.string nm, .int .i64 n0, .int .i64 n1, .int .i64 n2, .int .i64 n3, .int .i64 n4, .slice la L.length lk, .slice sa S.length sk, .slice ta T.length tk, .slice ba B.length bk, .slice pa P.length pk, .slice aa A.length ak, .bool wd, .slice da D.length dk, .int .i64 sw, .int .i64 rk, .string ow, .bool dm, .bool pn, .bool lc] _ Try.underlying47 rfl (by kernel_rfl) (HRq.out _ H0.out) ?_)
            | (go_at_call 12; (with_reducible refine (HLi.out _ H0.out).mono ?_); rintro e w1 ⟨rfl, hb⟩; have HD := Lib.hid (HMo.out _ _ (HPu.out _ _ H0.out) hb); clear H0 hb; have H0 := HD; clear HD; (try clear cb hlt); have cb := HCb.out _ H0.out; have hlt := HLt.out _ H0.out)
            | (go_at_call 23; (with_reducible refine (HLp.out _ H0.out).mono ?_); rintro e w1 ⟨rfl, hb⟩; have HD := Lib.hid (HMo.out _ _ H0.out hb); clear H0 hb; have H0 := HD; clear HD; (try clear cb hlt); have cb := HCb.out _ H0.out; have hlt := HLt.out _ H0.out)
            | (go_at_call 15; (with_reducible refine (HCk.out _ H0.out).mono ?_); rintro e w1 ⟨rfl, hb⟩; have HD := Lib.hid (HMo.out _ _ (HPu.out _ _ H0.out) hb); clear H0 hb; have H0 := HD; clear HD; (try clear cb hlt); have cb := HCb.out _ H0.out; have hlt := HLt.out _ H0.out)
            | (go_at_call 24; (with_reducible refine (HRp.out _ H0.out).mono ?_); rintro e w1 ⟨rfl, hb⟩; have HD := Lib.hid (HMo.out _ _ H0.out hb); clear H0 hb; have H0 := HD; clear HD; (try clear cb hlt); have cb := HCb.out _ H0.out; have hlt := HLt.out _ H0.out)
          | (go_at_call 25; (with_reducible refine (sknown_any _).mono ?_); rintro e w9 ⟨rfl, hb⟩; have HD := Lib.hid (HMo.out _ _ H0.out hb); clear H0 hb; have H0 := HD; clear HD))
        go_ret
        exact ⟨rfl, HBl.out _ H0.out⟩

set_option maxRecDepth 100000 in
theorem walk {H : Type} {enc : TypeId × Value → H} {W : World} {base : Nat} {v : Value} {d : DataW H} {q : List MemPlace}
    (hv : Value.okWide Try.prog W .any base 49 v) (h : DataW.Trod enc Try.prog W 0 (fun _ => true) true 49 v d q) :
    Calls Try.prog 8 #[v] W fun e W' => e = .returned (.bool true) ∧ Below W.heap.size W W' := by
  obtain ⟨m, a, l, k, p, i0, i1, i2, i3, i4, rfl, hM, hP, hG, hl, hB⟩ := open_case hv h
  exact walk1 m a k l p i0 i1 i2 i3 i4 W hM hP hG hl hB

set_option maxRecDepth 100000 in
theorem lifted (os : Os) (started : os.Started) (H : Type) (enc : TypeId × Value → H) :
    ReturnsInHanded {} Try.checked os 8 .any (Rows.suitTolerantSpec.pre6 enc Try.prog Try.f8 Rows.suitTolerantRow.domain false) (Rows.suitTolerantSpec.post enc Try.prog Try.f8 false true false false) := by
  refine returnsInHanded_of_change (C := Try.checked) Try.own started (by kernel_rfl) Try.func8
    (ChangeSpec.witness6 (enc := enc) (C := Try.checked) false ⟨#[], #[.agg #[.string ⟨#[]⟩, .string ⟨#[]⟩, .int .i64 0, .int .i64 0, .int .i64 0, .int .i64 0, .int .i64 0, .slice none 0 0, .slice none 0 0, .bool false, .slice none 0 0, .string ⟨#[]⟩, .int .i64 0, .int .i64 0, .int .i64 0, .int .i64 0, .int .i64 0, .slice none 0 0, .slice none 0 0, .slice none 0 0, .slice none 0 0, .slice none 0 0, .slice none 0 0, .bool false, .slice none 0 0, .int .i64 0, .int .i64 0, .string ⟨#[]⟩, .bool false, .bool false, .bool false, .int .i64 0, .int .i64 0, .int .i64 0, .int .i64 0, .int .i64 0]], []⟩ 8 (by kernel_rfl) (by kernel_rfl) (by kernel_rfl) (by kernel_rfl)) ?_
  intro W base args ds gs before hval hW _ _
  have hW' := hW
  obtain ⟨p, q, hA, hV, rfl, hfz, hnd⟩ := hW
  rw [Try.params8] at hA hval
  obtain ⟨v0, d0, rfl, rfl, h0⟩ := trodAll_one hA
  refine (walk (hval 0 49 v0 rfl rfl) h0).mono fun e W' ⟨he, hb⟩ => ?_
  exact ⟨_, he, law_post Try.laidOut hW' rfl (by kernel_rfl) (by kernel_rfl) Try.underlying4 rfl rfl rfl hb⟩

theorem over : Rows.suitTolerantRow.holds Try.pinned (OpenSpec.ofChange Rows.suitTolerantSpec) :=
  OpenClaim.holds_of_wide 8 Try.f8 rfl rfl rfl rfl rfl rfl rfl ⟨rfl, rfl, rfl, rfl, rfl⟩ rfl rfl rfl rfl rfl (by kernel_rfl) Try.func8 (by kernel_rfl)
    (of_decide_eq_true (by kernel_rfl)) (by unfold Func.isWrapper; first | (rw [if_pos (by decide +kernel)]; kernel_rfl) | (rw [if_neg (by decide +kernel)]; exact ⟨rfl, rfl⟩))
    (fun os started H enc _ => lifted os started H enc)

/-- The statement. -/
theorem proved : Rows.SuitTolerantSaid := over
end suitTolerant
end Go.Proofs.Ythbpnfpalcgfeaa
