/-
  SuitFull.
-/
import Derived.Test.YthbpnfpalcgfeaaSuA
import Derived.Test.YthbpnfpalcgfeaaYeC
import Derived.Test.YthbpnfpalcgfeaaYfM
import Derived.Test.YthbpnfpalcgfeaaReT
import Derived.Test.YthbpnfpalcgfeaaSFp
namespace Go.Proofs.Ythbpnfpalcgfeaa
open Go.ChangeShapes Go.WideShapes Go.ChangeAt Go.RowKit
set_option linter.unusedVariables false
set_option linter.unusedSimpArgs false
namespace suitFull

/-- All that is bound is right where the yard is. -/
theorem all_right {ms : List Mac} {bs : List Bd} (h : checkY ms bs = 0) : ∀ b ∈ bs, rtP b.p = true := fun b hb => by
  unfold checkY at h
  split at h
  · cases h
  · split at h
    · cases h
    · rename_i h1 h2
      have h9 : ms.all okM = true ∧ bs.all okBd = true := Decidable.not_not.1 h2
      have h8 := List.all_eq_true.1 h9.2 b hb
      unfold okBd rightP at h8
      simp only [Bool.and_eq_true] at h8
      exact h8.1.1.1.1.1.1.1.1.1.1.1.2
theorem used_zero {m : Mac} {bs : List Bd} {p : Pd} (h : suitS m bs p = 0) (h3 : p.n3 = 1) (hp : noName bs p.nm) : (usedY bs m.nm).1 = 0 := by
  obtain ⟨g1, g2, g3, g4, g5, g6⟩ := suit_zero h h3
  rw [oth_no hp] at g6
  unfold usedY at g6 ⊢
  rw [usB_all]
  exact g6
/-- Twice as much, if it is right, and there. -/
theorem enough_iff {p : Pd} {l : R5} (hn : rtP p = true) (hl : rt5 l = true) : (Rs.timesE p.n0 p.n1 p.n2 p.n3 p.n4 2 = 0 ∧ Rs.lesB (p.n0 * 2) (p.n1 * 2) (p.n2 * 2) (p.n3 * 2) (p.n4 * 2) l.r0 l.r1 l.r2 l.r3 l.r4 = true) ↔ twice p l := by
  have gn := (rtB_iff _ _ _ _ _).1 hn
  have gl := (rtB_iff _ _ _ _ _).1 hl
  constructor
  · rintro ⟨-, h2⟩
    unfold Rs.lesB at h2
    simp only [Bool.and_eq_true, decide_eq_true_eq] at h2
    exact h2.2
  · intro h
    unfold twice at h
    have t : ∀ x : Int, 0 ≤ x → x * 2 ≤ 1125899906842624 → Rs.tok x 2 := fun x hx h2 => (Rs.tok_iff x 2 hx (by decide)).2 (by omega)
    refine ⟨?_, ?_⟩
    · unfold Rs.timesE
      rw [if_pos ⟨hn, by decide⟩, if_pos ⟨t _ gn.1.1 (by omega), t _ gn.2.1.1 (by omega), t _ gn.2.2.1.1 (by omega), t _ gn.2.2.2.1.1 (by omega), t _ gn.2.2.2.2.1 (by omega)⟩]
    · unfold Rs.lesB
      rw [show rtB l.r0 l.r1 l.r2 l.r3 l.r4 = true from hl, (rtB_iff (p.n0 * 2) (p.n1 * 2) (p.n2 * 2) (p.n3 * 2) (p.n4 * 2)).2 (by omega)]
      simp only [Bool.true_and]
      exact decide_eq_true h

theorem name_at {V : World} {p : Pd} {nm : ByteArray} (h : PodAt V p) : PodAt V (pName p nm) := ⟨h.labs, h.sels, h.trms, h.trmA, h.bers, h.prts, h.aprs, h.spds, h.ll, h.sl, h.tl, h.bl, h.pl, h.al, h.dl⟩
theorem name_light {p : Pd} {nm : ByteArray} (hn : nm.size ≤ 300) (h : lightP p = true) : lightP (pName p nm) = true := by
  unfold lightP at h ⊢
  simp only [Bool.and_eq_true] at h ⊢
  obtain ⟨⟨⟨⟨⟨⟨⟨⟨⟨h0, h1⟩, h2⟩, h3⟩, h4⟩, h5⟩, h6⟩, h7⟩, h8⟩, h9⟩ := h
  exact ⟨⟨⟨⟨⟨⟨⟨⟨⟨decide_eq_true hn, h1⟩, h2⟩, h3⟩, h4⟩, h5⟩, h6⟩, h7⟩, h8⟩, h9⟩
set_option maxRecDepth 100000 in
set_option maxHeartbeats 16000000 in
theorem walk1 (m : Mac) (c : Option Addr) (kc : Nat) (bs : List Bd) (p : Pd) (w : World) (hM : MacIn w m) (hP : PodIn w p) (hG : BndL w c bs) (hl : bs.length ≤ maxLen) (hcap : bs.length ≤ kc) (hok : NilOk c bs.length kc) (hB : ∀ b ∈ bs, BndIn w b) :
    Calls Try.prog 7 #[.agg (mrow m).toArray, .slice c bs.length kc, .agg (prow p).toArray] w fun e w' => e = .returned (.bool true) ∧ Below w.heap.size w w' := by
  obtain ⟨n, hn⟩ : ∃ n, bs.length = n := ⟨_, rfl⟩
  obtain ⟨W, hW⟩ : ∃ W, W = (w.alloc (.cells (mrow m).toArray 35)).alloc (.cells (prow p).toArray 47) := ⟨_, rfl⟩
  obtain ⟨CC, hCC⟩ : ∃ C, C = MP w w.heap.size m p := ⟨_, rfl⟩
  have H0 := Lib.hid (show CC W by rw [hCC, hW]; exact MP.new hM.here hP.here)
  have hbl : ∀ V, CC V → Below w.heap.size w V := fun V h => by rw [hCC] at h; exact h.bl
  have HBl := Lib.hid hbl
  have HMo := Lib.hid (show ∀ V V', CC V → Below V.heap.size V V' → CC V' from fun V V' h hb => by rw [hCC] at h ⊢; exact h.mono hb)
  have HPu := Lib.hid (show ∀ V o, CC V → CC (V.alloc o) from fun V o h => by rw [hCC] at h ⊢; exact h.mono ((Below.refl _ _).alloc (Nat.le_refl _) o))
  have HLt := Lib.hid (show ∀ V, CC V → w.heap.size + 1 < V.heap.size from fun V h => by rw [hCC] at h; exact h.xp.lt)
  have hRm : ∀ V, CC V → V.rangeAt w.heap.size 0 (mrow m) := fun V h => by rw [hCC] at h; exact h.xm.range
  have hRq : ∀ V, CC V → V.rangeAt (w.heap.size + 1) 0 (prow p) := fun V h => by rw [hCC] at h; exact h.xp.range
  have hC10 : ∀ V, CC V → V.cell? ⟨w.heap.size + 1, 10, none⟩ = some (.slice p.pa p.prts.length p.pk) := fun V h => by rw [hCC] at h; rw [h.xp.cell]; rfl
  have hCm : ∀ V, CC V → V.cell? ⟨w.heap.size, 0, none⟩ = some (.string m.nm) := fun V h => by rw [hCC] at h; rw [h.xm.cell]; rfl
  have hCp : ∀ V, CC V → V.cell? ⟨w.heap.size + 1, 0, none⟩ = some (.string p.nm) := fun V h => by rw [hCC] at h; rw [h.xp.cell]; rfl
  clear hCC
  have hone : ∀ V, ∀ x ∈ [m], Below w.heap.size w V → MacIn V x := fun V x hx hV => by
    obtain rfl : x = m := by simpa using hx
    exact hM.mono hV
  have hX : ∀ V : World, MacL (V.alloc (.cells (mrow m).toArray 35)) (some ⟨V.heap.size, 0, none⟩) [m] := fun V => by
    have h9 := RowsAt.new (enc := mrow) (K := 10) (fun _ => rfl) V [m] 35
    rw [show [m].flatMap mrow = mrow m from List.append_nil _] at h9
    exact h9
  have hPu : ∀ (V : World) o, Below w.heap.size w V → Below w.heap.size w (V.alloc o) := fun V o h => h.alloc h.size o
  have hLi := fun V (hV : Below w.heap.size w V) => lighty_any (some ⟨V.heap.size, 0, none⟩) 1 [m] c kc bs (V.alloc (.cells (mrow m).toArray 35)) (hX V) (hG.mono (hPu _ _ hV)) (fun x hx => hone _ x hx (hPu _ _ hV)) (fun b hb => (hB b hb).mono (hPu _ _ hV)) one_le hl
  have hLp := fun V (hV : Below w.heap.size w V) => lightp_any p V (hP.here.mono hV)
  have hCk := fun V (hV : Below w.heap.size w V) (hL : lightY [m] bs = true) => rcheck_any (some ⟨V.heap.size, 0, none⟩) 1 [m] c kc bs (V.alloc (.cells (mrow m).toArray 35)) (hX V) (hG.mono (hPu _ _ hV)) (fun x hx => hone _ x hx (hPu _ _ hV)) (fun b hb => (hB b hb).mono (hPu _ _ hV)) (lightY_iff hL).2.2.1 (fun b hb => ((lightY_iff hL).2.2.2 b hb).1) (by show 1 ≤ 200; decide) (by have := (lightY_iff hL).2.1; omega)
  have hRp := fun V (hV : Below w.heap.size w V) (hL : lightP p = true) => refrightp_any p V (hP.here.mono hV) hL
  have hPc := fun V (hV : Below w.heap.size w V) (hL : lightY [m] bs = true) => rplace_any c kc bs p.nm V (hG.mono hV) (by have := (lightY_iff hL).2.1; omega)
  have hbp : lightY [m] bs = true → ∀ b ∈ bs, b.p.prts.length ≤ 1000000 := fun hL b hb => by have := (lightP_iff ((lightY_iff hL).2.2.2 b hb).1).pl; omega
  have hS1 := fun V (hV : Below w.heap.size w V) (hL : lightY [m] bs = true) (hq : lightP p = true) => ssuits_any m c kc bs p V (hM.here.mono hV) (hG.mono hV) (fun b hb => ((hB b hb).mono hV).here) (hP.here.mono hV) ((lightY_iff hL).2.2.1 m (List.mem_singleton.2 rfl)) hq (by have := (lightY_iff hL).2.1; omega) (hbp hL)
  obtain ⟨b1, h1⟩ : ∃ b, lightY [m] bs = b := ⟨_, rfl⟩
  obtain ⟨b2, h2⟩ : ∃ b, lightP p = b := ⟨_, rfl⟩
  obtain ⟨E, h3⟩ : ∃ b, checkY [m] bs = b := ⟨_, rfl⟩
  obtain ⟨b4, h4⟩ : ∃ b, rightP p = b := ⟨_, rfl⟩
  obtain ⟨F1, h6⟩ : ∃ b, findN (bs.map pnm) p.nm 0 = b := ⟨_, rfl⟩
  obtain ⟨Sv, h5⟩ : ∃ b, suitS m bs p = b := ⟨_, rfl⟩
  rw [h1, hn] at hLi
  rw [h2] at hLp
  simp only [h1, h3, hn] at hCk
  simp only [h2, h4] at hRp
  simp only [h1, h6, hn] at hPc
  simp only [h1, h2, h5, hn] at hS1
  rw [hn]
  have K1 := Lib.hid h1
  have K2 := Lib.hid h2
  have K3 := Lib.hid h3
  have K4 := Lib.hid h4
  have K5 := Lib.hid h5
  have K6 := Lib.hid h6
  have KM := Lib.hid hM
  have KP := Lib.hid hP
  have KG := Lib.hid hG
  have KB := Lib.hid hB
  have Kn := Lib.hid hn
  have Kb := Lib.hid hbp
  rw [hn] at hl hcap hok
  clear h1 h2 h3 h4 h5 h6 hone hbp hM hP hG hB hX hPu hn hbl
  obtain ⟨m', hm'⟩ : ∃ m', m' = m := ⟨_, rfl⟩
  obtain ⟨p', hp'⟩ : ∃ p', p' = p := ⟨_, rfl⟩
  rw [← hm'] at K1 K3 K5 KM Kb
  rw [← hp'] at K2 K4 K5 K6 KP
  obtain ⟨mn, mg, r0, r1, r2, r3, r4, ma, mk, ML, mta, mtk, MT, rd⟩ := m
  obtain ⟨nm, n0, n1, n2, n3, n4, la, lk, L, sa, sk, S, ta, tk, T, ba, bk, B, pa, pk, P, aa, ak, A, wd, da, dk, D, sw, rk, ow, dm, pn, lc⟩ := p
  have Hm' := Lib.hid hm'
  have Hp' := Lib.hid hp'
  clear hm' hp'
  have HLi := Lib.hid (show ∀ V, Below w.heap.size w V → Calls Try.prog 12 #[.slice (some ⟨V.heap.size, 0, none⟩) 1 1, .slice c n kc] (V.alloc (.cells #[.string mn, .string mg, .int .i64 r0, .int .i64 r1, .int .i64 r2, .int .i64 r3, .int .i64 r4, .slice ma ML.length mk, .slice mta MT.length mtk, .bool rd] 35)) fun e w' => e = .returned (.bool b1) ∧ Below (V.alloc (.cells #[.string mn, .string mg, .int .i64 r0, .int .i64 r1, .int .i64 r2, .int .i64 r3, .int .i64 r4, .slice ma ML.length mk, .slice mta MT.length mtk, .bool rd] 35)).heap.size (V.alloc (.cells #[.string mn, .string mg, .int .i64 r0, .int .i64 r1, .int .i64 r2, .int .i64 r3, .int .i64 r4, .slice ma ML.length mk, .slice mta MT.length mtk, .bool rd] 35)) w' from hLi)
  have HLp := Lib.hid (show ∀ V, Below w.heap.size w V → Calls Try.prog 23 #[.agg #[.string nm, .int .i64 n0, .int .i64 n1, .int .i64 n2, .int .i64 n3, .int .i64 n4, .slice la L.length lk, .slice sa S.length sk, .slice ta T.length tk, .slice ba B.length bk, .slice pa P.length pk, .slice aa A.length ak, .bool wd, .slice da D.length dk, .int .i64 sw, .int .i64 rk, .string ow, .bool dm, .bool pn, .bool lc]] V fun e w' => e = .returned (.bool b2) ∧ Below V.heap.size V w' from hLp)
  have HRm := Lib.hid (show ∀ V, CC V → V.rangeAt w.heap.size 0 [.string mn, .string mg, .int .i64 r0, .int .i64 r1, .int .i64 r2, .int .i64 r3, .int .i64 r4, .slice ma ML.length mk, .slice mta MT.length mtk, .bool rd] from hRm)
  have HRq := Lib.hid (show ∀ V, CC V → V.rangeAt (w.heap.size + 1) 0 [.string nm, .int .i64 n0, .int .i64 n1, .int .i64 n2, .int .i64 n3, .int .i64 n4, .slice la L.length lk, .slice sa S.length sk, .slice ta T.length tk, .slice ba B.length bk, .slice pa P.length pk, .slice aa A.length ak, .bool wd, .slice da D.length dk, .int .i64 sw, .int .i64 rk, .string ow, .bool dm, .bool pn, .bool lc] from hRq)
  have HCm := Lib.hid (show ∀ V, CC V → V.cell? ⟨w.heap.size, 0, none⟩ = some (.string mn) from hCm)
  have HC10 := Lib.hid (show ∀ V, CC V → V.cell? ⟨w.heap.size + 1, 10, none⟩ = some (.slice pa P.length pk) from hC10)
  have HCp := Lib.hid (show ∀ V, CC V → V.cell? ⟨w.heap.size + 1, 0, none⟩ = some (.string nm) from hCp)
  replace hW : W = (w.alloc (.cells #[.string mn, .string mg, .int .i64 r0, .int .i64 r1, .int .i64 r2, .int .i64 r3, .int .i64 r4, .slice ma ML.length mk, .slice mta MT.length mtk, .bool rd] 35)).alloc (.cells #[.string nm, .int .i64 n0, .int .i64 n1, .int .i64 n2, .int .i64 n3, .int .i64 n4, .slice la L.length lk, .slice sa S.length sk, .slice ta T.length tk, .slice ba B.length bk, .slice pa P.length pk, .slice aa A.length ak, .bool wd, .slice da D.length dk, .int .i64 sw, .int .i64 rk, .string ow, .bool dm, .bool pn, .bool lc] 47) := hW
  have hr1 : (mrow (⟨mn, mg, r0, r1, r2, r3, r4, ma, mk, ML, mta, mtk, MT, rd⟩ : Mac)).toArray = #[.string mn, .string mg, .int .i64 r0, .int .i64 r1, .int .i64 r2, .int .i64 r3, .int .i64 r4, .slice ma ML.length mk, .slice mta MT.length mtk, .bool rd] := rfl
  have hr2 : (prow (⟨nm, n0, n1, n2, n3, n4, la, lk, L, sa, sk, S, ta, tk, T, ba, bk, B, pa, pk, P, aa, ak, A, wd, da, dk, D, sw, rk, ow, dm, pn, lc⟩ : Pd)).toArray = #[.string nm, .int .i64 n0, .int .i64 n1, .int .i64 n2, .int .i64 n3, .int .i64 n4, .slice la L.length lk, .slice sa S.length sk, .slice ta T.length tk, .slice ba B.length bk, .slice pa P.length pk, .slice aa A.length ak, .bool wd, .slice da D.length dk, .int .i64 sw, .int .i64 rk, .string ow, .bool dm, .bool pn, .bool lc] := rfl
  rw [hr1, hr2]
  have GCk := Lib.hid hCk
  have GRp := Lib.hid hRp
  have GPc := Lib.hid hPc
  have GS1 := Lib.hid hS1
  clear hr1 hr2 hLi hLp hRm hRq hCm hC10 hCp hCk hRp hPc hS1
  cases b1 with
  | false =>
    have HCk := HLp
    have HRp := HLp
    have HPc := HLp
    have HS1 := HLp
    clear GCk GRp GPc GS1
    go_enter Try.func7, Try.ntmps7
    go_upto_region 1 with (fail)
    rw [← hW]
    clear hW
    have cb := HCp.out _ H0.out
    have ca := HCm.out _ H0.out
    have hlt := HLt.out _ H0.out
    go_wp2_with (first
      | ((with_reducible refine at_load (ty := 35) ?_); refine load_cells rfl 35 (.tmp 3) rfl w.heap.size 0 rfl [.string mn, .string mg, .int .i64 r0, .int .i64 r1, .int .i64 r2, .int .i64 r3, .int .i64 r4, .slice ma ML.length mk, .slice mta MT.length mtk, .bool rd] _ Try.underlying35 rfl (by kernel_rfl) (HRm.out _ H0.out) ?_)
        | ((with_reducible refine at_load (ty := 47) ?_); refine load_cells rfl 47 (.tmp 5) rfl (w.heap.size + 1) 0 rfl [.string nm, .int .i64 n0, .int .i64 n1, .int .i64 n2, .int .i64 n3, .int .i64 n4, .slice la L.length lk, .slice sa S.length sk, .slice ta T.length tk, .slice ba B.length bk, .slice pa P.length pk, .slice aa A.length ak, .bool wd, .slice da D.length dk, .int .i64 sw, .int .i64 rk, .string ow, .bool dm, .bool pn, .bool lc] _ Try.underlying47 rfl (by kernel_rfl) (HRq.out _ H0.out) ?_)
        | (go_at_call 12; (with_reducible refine (HLi.out _ (HBl.out _ H0.out)).mono ?_); rintro e w1 ⟨rfl, hb⟩; have HD := Lib.hid (HMo.out _ _ (HPu.out _ _ H0.out) hb); clear H0 hb; have H0 := HD; clear HD; (try clear cb ca hlt); have cb := HCp.out _ H0.out; have ca := HCm.out _ H0.out; have hlt := HLt.out _ H0.out)
        | (go_at_call 23; (with_reducible refine (HLp.out _ (HBl.out _ H0.out)).mono ?_); rintro e w1 ⟨rfl, hb⟩; have HD := Lib.hid (HMo.out _ _ H0.out hb); clear H0 hb; have H0 := HD; clear HD; (try clear cb ca hlt); have cb := HCp.out _ H0.out; have ca := HCm.out _ H0.out; have hlt := HLt.out _ H0.out)
        | (go_at_call 15; (with_reducible refine (HCk.out _ (HBl.out _ H0.out)).mono ?_); rintro e w1 ⟨rfl, hb⟩; have HD := Lib.hid (HMo.out _ _ (HPu.out _ _ H0.out) hb); clear H0 hb; have H0 := HD; clear HD; (try clear cb ca hlt); have cb := HCp.out _ H0.out; have ca := HCm.out _ H0.out; have hlt := HLt.out _ H0.out)
        | (go_at_call 24; (with_reducible refine (HRp.out _ (HBl.out _ H0.out)).mono ?_); rintro e w1 ⟨rfl, hb⟩; have HD := Lib.hid (HMo.out _ _ H0.out hb); clear H0 hb; have H0 := HD; clear HD; (try clear cb ca hlt); have cb := HCp.out _ H0.out; have ca := HCm.out _ H0.out; have hlt := HLt.out _ H0.out)
        | (go_at_call 28; (with_reducible refine (HPc.out _ (HBl.out _ H0.out)).mono ?_); rintro e w1 ⟨rfl, hb⟩; have HD := Lib.hid (HMo.out _ _ H0.out hb); clear H0 hb; have H0 := HD; clear HD; (try clear cb ca hlt); have cb := HCp.out _ H0.out; have ca := HCm.out _ H0.out; have hlt := HLt.out _ H0.out)
        | (go_at_call 26; (with_reducible refine (HS1.out _ (HBl.out _ H0.out)).mono ?_); rintro e w1 ⟨rfl, hb⟩; have HD := Lib.hid (HMo.out _ _ H0.out hb); clear H0 hb; have H0 := HD; clear HD; (try clear cb ca hlt); have cb := HCp.out _ H0.out; have ca := HCm.out _ H0.out; have hlt := HLt.out _ H0.out)
      | (go_at_call 25; (with_reducible refine (sknown_any _).mono ?_); rintro e w1 ⟨rfl, hb⟩; have HD := Lib.hid (HMo.out _ _ H0.out hb); clear H0 hb; have H0 := HD; clear HD; (try clear cb ca hlt); have cb := HCp.out _ H0.out; have ca := HCm.out _ H0.out; have hlt := HLt.out _ H0.out))
    go_ret
    exact ⟨rfl, HBl.out _ H0.out⟩
  | true =>
    have HPc := Lib.hid (show ∀ V, Below w.heap.size w V → Calls Try.prog 28 #[.slice c n kc, .string nm] V fun e w' => e = .returned (.int .i64 F1) ∧ Below V.heap.size V w' from fun V hV => GPc.out V hV (by trivial))
    cases b2 with
    | false =>
      have HCk := HLp
      have HRp := HLp
      have HS1 := HLp
      clear GCk GRp GPc GS1
      go_enter Try.func7, Try.ntmps7
      go_upto_region 1 with (fail)
      rw [← hW]
      clear hW
      have cb := HCp.out _ H0.out
      have ca := HCm.out _ H0.out
      have hlt := HLt.out _ H0.out
      go_wp2_with (first
        | ((with_reducible refine at_load (ty := 35) ?_); refine load_cells rfl 35 (.tmp 3) rfl w.heap.size 0 rfl [.string mn, .string mg, .int .i64 r0, .int .i64 r1, .int .i64 r2, .int .i64 r3, .int .i64 r4, .slice ma ML.length mk, .slice mta MT.length mtk, .bool rd] _ Try.underlying35 rfl (by kernel_rfl) (HRm.out _ H0.out) ?_)
          | ((with_reducible refine at_load (ty := 47) ?_); refine load_cells rfl 47 (.tmp 5) rfl (w.heap.size + 1) 0 rfl [.string nm, .int .i64 n0, .int .i64 n1, .int .i64 n2, .int .i64 n3, .int .i64 n4, .slice la L.length lk, .slice sa S.length sk, .slice ta T.length tk, .slice ba B.length bk, .slice pa P.length pk, .slice aa A.length ak, .bool wd, .slice da D.length dk, .int .i64 sw, .int .i64 rk, .string ow, .bool dm, .bool pn, .bool lc] _ Try.underlying47 rfl (by kernel_rfl) (HRq.out _ H0.out) ?_)
          | (go_at_call 12; (with_reducible refine (HLi.out _ (HBl.out _ H0.out)).mono ?_); rintro e w1 ⟨rfl, hb⟩; have HD := Lib.hid (HMo.out _ _ (HPu.out _ _ H0.out) hb); clear H0 hb; have H0 := HD; clear HD; (try clear cb ca hlt); have cb := HCp.out _ H0.out; have ca := HCm.out _ H0.out; have hlt := HLt.out _ H0.out)
          | (go_at_call 23; (with_reducible refine (HLp.out _ (HBl.out _ H0.out)).mono ?_); rintro e w1 ⟨rfl, hb⟩; have HD := Lib.hid (HMo.out _ _ H0.out hb); clear H0 hb; have H0 := HD; clear HD; (try clear cb ca hlt); have cb := HCp.out _ H0.out; have ca := HCm.out _ H0.out; have hlt := HLt.out _ H0.out)
          | (go_at_call 15; (with_reducible refine (HCk.out _ (HBl.out _ H0.out)).mono ?_); rintro e w1 ⟨rfl, hb⟩; have HD := Lib.hid (HMo.out _ _ (HPu.out _ _ H0.out) hb); clear H0 hb; have H0 := HD; clear HD; (try clear cb ca hlt); have cb := HCp.out _ H0.out; have ca := HCm.out _ H0.out; have hlt := HLt.out _ H0.out)
          | (go_at_call 24; (with_reducible refine (HRp.out _ (HBl.out _ H0.out)).mono ?_); rintro e w1 ⟨rfl, hb⟩; have HD := Lib.hid (HMo.out _ _ H0.out hb); clear H0 hb; have H0 := HD; clear HD; (try clear cb ca hlt); have cb := HCp.out _ H0.out; have ca := HCm.out _ H0.out; have hlt := HLt.out _ H0.out)
          | (go_at_call 28; (with_reducible refine (HPc.out _ (HBl.out _ H0.out)).mono ?_); rintro e w1 ⟨rfl, hb⟩; have HD := Lib.hid (HMo.out _ _ H0.out hb); clear H0 hb; have H0 := HD; clear HD; (try clear cb ca hlt); have cb := HCp.out _ H0.out; have ca := HCm.out _ H0.out; have hlt := HLt.out _ H0.out)
          | (go_at_call 26; (with_reducible refine (HS1.out _ (HBl.out _ H0.out)).mono ?_); rintro e w1 ⟨rfl, hb⟩; have HD := Lib.hid (HMo.out _ _ H0.out hb); clear H0 hb; have H0 := HD; clear HD; (try clear cb ca hlt); have cb := HCp.out _ H0.out; have ca := HCm.out _ H0.out; have hlt := HLt.out _ H0.out)
        | (go_at_call 25; (with_reducible refine (sknown_any _).mono ?_); rintro e w1 ⟨rfl, hb⟩; have HD := Lib.hid (HMo.out _ _ H0.out hb); clear H0 hb; have H0 := HD; clear HD; (try clear cb ca hlt); have cb := HCp.out _ H0.out; have ca := HCm.out _ H0.out; have hlt := HLt.out _ H0.out))
      go_ret
      exact ⟨rfl, HBl.out _ H0.out⟩
    | true =>
      have HCk := Lib.hid (show ∀ V, Below w.heap.size w V → Calls Try.prog 15 #[.slice (some ⟨V.heap.size, 0, none⟩) 1 1, .slice c n kc] (V.alloc (.cells #[.string mn, .string mg, .int .i64 r0, .int .i64 r1, .int .i64 r2, .int .i64 r3, .int .i64 r4, .slice ma ML.length mk, .slice mta MT.length mtk, .bool rd] 35)) fun e w' => e = .returned (.int .i64 E) ∧ Below (V.alloc (.cells #[.string mn, .string mg, .int .i64 r0, .int .i64 r1, .int .i64 r2, .int .i64 r3, .int .i64 r4, .slice ma ML.length mk, .slice mta MT.length mtk, .bool rd] 35)).heap.size (V.alloc (.cells #[.string mn, .string mg, .int .i64 r0, .int .i64 r1, .int .i64 r2, .int .i64 r3, .int .i64 r4, .slice ma ML.length mk, .slice mta MT.length mtk, .bool rd] 35)) w' from fun V hV => GCk.out V hV (by trivial))
      have HRp := Lib.hid (show ∀ V, Below w.heap.size w V → Calls Try.prog 24 #[.agg #[.string nm, .int .i64 n0, .int .i64 n1, .int .i64 n2, .int .i64 n3, .int .i64 n4, .slice la L.length lk, .slice sa S.length sk, .slice ta T.length tk, .slice ba B.length bk, .slice pa P.length pk, .slice aa A.length ak, .bool wd, .slice da D.length dk, .int .i64 sw, .int .i64 rk, .string ow, .bool dm, .bool pn, .bool lc]] V fun e w' => e = .returned (.bool b4) ∧ Below V.heap.size V w' from fun V hV => GRp.out V hV (by trivial))
      have HS1 := Lib.hid (show ∀ V, Below w.heap.size w V → Calls Try.prog 26 #[.agg #[.string mn, .string mg, .int .i64 r0, .int .i64 r1, .int .i64 r2, .int .i64 r3, .int .i64 r4, .slice ma ML.length mk, .slice mta MT.length mtk, .bool rd], .slice c n kc, .agg #[.string nm, .int .i64 n0, .int .i64 n1, .int .i64 n2, .int .i64 n3, .int .i64 n4, .slice la L.length lk, .slice sa S.length sk, .slice ta T.length tk, .slice ba B.length bk, .slice pa P.length pk, .slice aa A.length ak, .bool wd, .slice da D.length dk, .int .i64 sw, .int .i64 rk, .string ow, .bool dm, .bool pn, .bool lc]] V fun e w' => e = .returned (.int .i64 Sv) ∧ Below V.heap.size V w' from fun V hV => GS1.out V hV (by trivial) (by trivial))
      clear GCk GRp GPc GS1
      by_cases he : E = 0
      · subst he
        cases b4 with
        | false =>
          skip
          go_enter Try.func7, Try.ntmps7
          go_upto_region 1 with (fail)
          rw [← hW]
          clear hW
          have cb := HCp.out _ H0.out
          have ca := HCm.out _ H0.out
          have hlt := HLt.out _ H0.out
          go_wp2_with (first
            | ((with_reducible refine at_load (ty := 35) ?_); refine load_cells rfl 35 (.tmp 3) rfl w.heap.size 0 rfl [.string mn, .string mg, .int .i64 r0, .int .i64 r1, .int .i64 r2, .int .i64 r3, .int .i64 r4, .slice ma ML.length mk, .slice mta MT.length mtk, .bool rd] _ Try.underlying35 rfl (by kernel_rfl) (HRm.out _ H0.out) ?_)
              | ((with_reducible refine at_load (ty := 47) ?_); refine load_cells rfl 47 (.tmp 5) rfl (w.heap.size + 1) 0 rfl [.string nm, .int .i64 n0, .int .i64 n1, .int .i64 n2, .int .i64 n3, .int .i64 n4, .slice la L.length lk, .slice sa S.length sk, .slice ta T.length tk, .slice ba B.length bk, .slice pa P.length pk, .slice aa A.length ak, .bool wd, .slice da D.length dk, .int .i64 sw, .int .i64 rk, .string ow, .bool dm, .bool pn, .bool lc] _ Try.underlying47 rfl (by kernel_rfl) (HRq.out _ H0.out) ?_)
              | (go_at_call 12; (with_reducible refine (HLi.out _ (HBl.out _ H0.out)).mono ?_); rintro e w1 ⟨rfl, hb⟩; have HD := Lib.hid (HMo.out _ _ (HPu.out _ _ H0.out) hb); clear H0 hb; have H0 := HD; clear HD; (try clear cb ca hlt); have cb := HCp.out _ H0.out; have ca := HCm.out _ H0.out; have hlt := HLt.out _ H0.out)
              | (go_at_call 23; (with_reducible refine (HLp.out _ (HBl.out _ H0.out)).mono ?_); rintro e w1 ⟨rfl, hb⟩; have HD := Lib.hid (HMo.out _ _ H0.out hb); clear H0 hb; have H0 := HD; clear HD; (try clear cb ca hlt); have cb := HCp.out _ H0.out; have ca := HCm.out _ H0.out; have hlt := HLt.out _ H0.out)
              | (go_at_call 15; (with_reducible refine (HCk.out _ (HBl.out _ H0.out)).mono ?_); rintro e w1 ⟨rfl, hb⟩; have HD := Lib.hid (HMo.out _ _ (HPu.out _ _ H0.out) hb); clear H0 hb; have H0 := HD; clear HD; (try clear cb ca hlt); have cb := HCp.out _ H0.out; have ca := HCm.out _ H0.out; have hlt := HLt.out _ H0.out)
              | (go_at_call 24; (with_reducible refine (HRp.out _ (HBl.out _ H0.out)).mono ?_); rintro e w1 ⟨rfl, hb⟩; have HD := Lib.hid (HMo.out _ _ H0.out hb); clear H0 hb; have H0 := HD; clear HD; (try clear cb ca hlt); have cb := HCp.out _ H0.out; have ca := HCm.out _ H0.out; have hlt := HLt.out _ H0.out)
              | (go_at_call 28; (with_reducible refine (HPc.out _ (HBl.out _ H0.out)).mono ?_); rintro e w1 ⟨rfl, hb⟩; have HD := Lib.hid (HMo.out _ _ H0.out hb); clear H0 hb; have H0 := HD; clear HD; (try clear cb ca hlt); have cb := HCp.out _ H0.out; have ca := HCm.out _ H0.out; have hlt := HLt.out _ H0.out)
              | (go_at_call 26; (with_reducible refine (HS1.out _ (HBl.out _ H0.out)).mono ?_); rintro e w1 ⟨rfl, hb⟩; have HD := Lib.hid (HMo.out _ _ H0.out hb); clear H0 hb; have H0 := HD; clear HD; (try clear cb ca hlt); have cb := HCp.out _ H0.out; have ca := HCm.out _ H0.out; have hlt := HLt.out _ H0.out)
            | (go_at_call 25; (with_reducible refine (sknown_any _).mono ?_); rintro e w1 ⟨rfl, hb⟩; have HD := Lib.hid (HMo.out _ _ H0.out hb); clear H0 hb; have H0 := HD; clear HD; (try clear cb ca hlt); have cb := HCp.out _ H0.out; have ca := HCm.out _ H0.out; have hlt := HLt.out _ H0.out))
          go_ret
          exact ⟨rfl, HBl.out _ H0.out⟩
        | true =>
          by_cases hf : 0 ≤ F1
          · have qf : decide (0 ≤ F1) = true := decide_eq_true hf
            go_enter Try.func7, Try.ntmps7
            go_upto_region 1 with (fail)
            rw [← hW]
            clear hW
            have cb := HCp.out _ H0.out
            have ca := HCm.out _ H0.out
            have hlt := HLt.out _ H0.out
            go_wp2_with (first
              | ((with_reducible refine at_load (ty := 35) ?_); refine load_cells rfl 35 (.tmp 3) rfl w.heap.size 0 rfl [.string mn, .string mg, .int .i64 r0, .int .i64 r1, .int .i64 r2, .int .i64 r3, .int .i64 r4, .slice ma ML.length mk, .slice mta MT.length mtk, .bool rd] _ Try.underlying35 rfl (by kernel_rfl) (HRm.out _ H0.out) ?_)
                | ((with_reducible refine at_load (ty := 47) ?_); refine load_cells rfl 47 (.tmp 5) rfl (w.heap.size + 1) 0 rfl [.string nm, .int .i64 n0, .int .i64 n1, .int .i64 n2, .int .i64 n3, .int .i64 n4, .slice la L.length lk, .slice sa S.length sk, .slice ta T.length tk, .slice ba B.length bk, .slice pa P.length pk, .slice aa A.length ak, .bool wd, .slice da D.length dk, .int .i64 sw, .int .i64 rk, .string ow, .bool dm, .bool pn, .bool lc] _ Try.underlying47 rfl (by kernel_rfl) (HRq.out _ H0.out) ?_)
                | (go_at_call 12; (with_reducible refine (HLi.out _ (HBl.out _ H0.out)).mono ?_); rintro e w1 ⟨rfl, hb⟩; have HD := Lib.hid (HMo.out _ _ (HPu.out _ _ H0.out) hb); clear H0 hb; have H0 := HD; clear HD; (try clear cb ca hlt); have cb := HCp.out _ H0.out; have ca := HCm.out _ H0.out; have hlt := HLt.out _ H0.out)
                | (go_at_call 23; (with_reducible refine (HLp.out _ (HBl.out _ H0.out)).mono ?_); rintro e w1 ⟨rfl, hb⟩; have HD := Lib.hid (HMo.out _ _ H0.out hb); clear H0 hb; have H0 := HD; clear HD; (try clear cb ca hlt); have cb := HCp.out _ H0.out; have ca := HCm.out _ H0.out; have hlt := HLt.out _ H0.out)
                | (go_at_call 15; (with_reducible refine (HCk.out _ (HBl.out _ H0.out)).mono ?_); rintro e w1 ⟨rfl, hb⟩; have HD := Lib.hid (HMo.out _ _ (HPu.out _ _ H0.out) hb); clear H0 hb; have H0 := HD; clear HD; (try clear cb ca hlt); have cb := HCp.out _ H0.out; have ca := HCm.out _ H0.out; have hlt := HLt.out _ H0.out)
                | (go_at_call 24; (with_reducible refine (HRp.out _ (HBl.out _ H0.out)).mono ?_); rintro e w1 ⟨rfl, hb⟩; have HD := Lib.hid (HMo.out _ _ H0.out hb); clear H0 hb; have H0 := HD; clear HD; (try clear cb ca hlt); have cb := HCp.out _ H0.out; have ca := HCm.out _ H0.out; have hlt := HLt.out _ H0.out)
                | (go_at_call 28; (with_reducible refine (HPc.out _ (HBl.out _ H0.out)).mono ?_); rintro e w1 ⟨rfl, hb⟩; have HD := Lib.hid (HMo.out _ _ H0.out hb); clear H0 hb; have H0 := HD; clear HD; (try clear cb ca hlt); have cb := HCp.out _ H0.out; have ca := HCm.out _ H0.out; have hlt := HLt.out _ H0.out)
                | (go_at_call 26; (with_reducible refine (HS1.out _ (HBl.out _ H0.out)).mono ?_); rintro e w1 ⟨rfl, hb⟩; have HD := Lib.hid (HMo.out _ _ H0.out hb); clear H0 hb; have H0 := HD; clear HD; (try clear cb ca hlt); have cb := HCp.out _ H0.out; have ca := HCm.out _ H0.out; have hlt := HLt.out _ H0.out)
              | (go_at_call 25; (with_reducible refine (sknown_any _).mono ?_); rintro e w1 ⟨rfl, hb⟩; have HD := Lib.hid (HMo.out _ _ H0.out hb); clear H0 hb; have H0 := HD; clear HD; (try clear cb ca hlt); have cb := HCp.out _ H0.out; have ca := HCm.out _ H0.out; have hlt := HLt.out _ H0.out))
            go_ret
            exact ⟨rfl, HBl.out _ H0.out⟩
          · have qf : decide (0 ≤ F1) = false := decide_eq_false hf
            by_cases hs : Sv = 0
            · subst hs
              have hno : noName bs p'.nm := noName_of (by rw [K6.out]; omega)
              obtain ⟨-, hok9, -, -, -⟩ := check_zero K3.out
              have hmr : rt5 (hasM m') = true := by
                have h9 := List.all_eq_true.1 hok9 m' (List.mem_singleton.2 rfl)
                unfold okM rightM at h9
                simp only [Bool.and_eq_true] at h9
                exact h9.2.1.1.2
              have hpr := K4.out
              unfold rightP at hpr
              simp only [Bool.and_eq_true, decide_eq_true_eq] at hpr
              have hn3 : p'.n3 = 1 := hpr.1.1.1.1.1.1.1.1.1.1.2
              have hrt : rtP p' = true := hpr.1.1.1.1.1.1.1.1.1.1.1.2
              have hu0 := used_zero K5.out hn3 hno
              have hlr : rt5 (leftY m' bs) = true := by
                have h9 := (suit_zero K5.out hn3).2.2.1
                rw [left_no hno] at h9
                exact h9
              have hLe := fun V (hV : Below w.heap.size w V) => refleft_any m' c kc bs V (KG.out.mono hV) (by have := (lightY_iff K1.out).2.1; omega) (all_right K3.out) hmr hu0
              obtain ⟨l, hll⟩ : ∃ l, leftY m' bs = l := ⟨_, rfl⟩
              rw [hll] at hLe hlr
              rw [Kn.out] at hLe
              have h40 : n ≤ 40 := by have := (lightY_iff K1.out).2.1; rw [Kn.out] at this; exact this
              have Hlr := Lib.hid hlr
              have Hno := Lib.hid hno
              have Hmr := Lib.hid hmr
              have Hn3 := Lib.hid hn3
              have Hrt := Lib.hid hrt
              have Hll := Lib.hid hll
              rw [Hm'.out] at hLe
              obtain ⟨l0, l1, l2, l3, l4⟩ := l
              have HLe := Lib.hid (show ∀ V, Below w.heap.size w V → Calls Try.prog 29 #[.agg #[.string mn, .string mg, .int .i64 r0, .int .i64 r1, .int .i64 r2, .int .i64 r3, .int .i64 r4, .slice ma ML.length mk, .slice mta MT.length mtk, .bool rd], .slice c n kc] V fun e w' => e = .returned (.agg #[.int .i64 l0, .int .i64 l1, .int .i64 l2, .int .i64 l3, .int .i64 l4]) ∧ Below V.heap.size V w' from hLe)
              clear hno hok9 hmr hpr hn3 hrt hu0 hlr hLe hll hf
              obtain ⟨i0, hi, hz0, hz1, hz2⟩ := info_parts Try.info56
              have Hi := Lib.hid hi
              have Hz0 := Lib.hid hz0
              have Hz1 := Lib.hid hz1
              have Hz2 := Lib.hid hz2
              clear hi hz0 hz1 hz2
              go_enter Try.func7, Try.ntmps7
              go_upto_region 1 with (fail)
              rw [← hW]
              clear hW
              have cb := HCp.out _ H0.out
              have ca := HCm.out _ H0.out
              have hlt := HLt.out _ H0.out
              go_upto_region 5 with (first
                | ((with_reducible refine at_load (ty := 35) ?_); refine load_cells rfl 35 (.tmp 3) rfl w.heap.size 0 rfl [.string mn, .string mg, .int .i64 r0, .int .i64 r1, .int .i64 r2, .int .i64 r3, .int .i64 r4, .slice ma ML.length mk, .slice mta MT.length mtk, .bool rd] _ Try.underlying35 rfl (by kernel_rfl) (HRm.out _ H0.out) ?_)
                  | ((with_reducible refine at_load (ty := 47) ?_); refine load_cells rfl 47 (.tmp 5) rfl (w.heap.size + 1) 0 rfl [.string nm, .int .i64 n0, .int .i64 n1, .int .i64 n2, .int .i64 n3, .int .i64 n4, .slice la L.length lk, .slice sa S.length sk, .slice ta T.length tk, .slice ba B.length bk, .slice pa P.length pk, .slice aa A.length ak, .bool wd, .slice da D.length dk, .int .i64 sw, .int .i64 rk, .string ow, .bool dm, .bool pn, .bool lc] _ Try.underlying47 rfl (by kernel_rfl) (HRq.out _ H0.out) ?_)
                  | (go_at_call 12; (with_reducible refine (HLi.out _ (HBl.out _ H0.out)).mono ?_); rintro e w1 ⟨rfl, hb⟩; have HD := Lib.hid (HMo.out _ _ (HPu.out _ _ H0.out) hb); clear H0 hb; have H0 := HD; clear HD; (try clear cb ca hlt); have cb := HCp.out _ H0.out; have ca := HCm.out _ H0.out; have hlt := HLt.out _ H0.out)
                  | (go_at_call 23; (with_reducible refine (HLp.out _ (HBl.out _ H0.out)).mono ?_); rintro e w1 ⟨rfl, hb⟩; have HD := Lib.hid (HMo.out _ _ H0.out hb); clear H0 hb; have H0 := HD; clear HD; (try clear cb ca hlt); have cb := HCp.out _ H0.out; have ca := HCm.out _ H0.out; have hlt := HLt.out _ H0.out)
                  | (go_at_call 15; (with_reducible refine (HCk.out _ (HBl.out _ H0.out)).mono ?_); rintro e w1 ⟨rfl, hb⟩; have HD := Lib.hid (HMo.out _ _ (HPu.out _ _ H0.out) hb); clear H0 hb; have H0 := HD; clear HD; (try clear cb ca hlt); have cb := HCp.out _ H0.out; have ca := HCm.out _ H0.out; have hlt := HLt.out _ H0.out)
                  | (go_at_call 24; (with_reducible refine (HRp.out _ (HBl.out _ H0.out)).mono ?_); rintro e w1 ⟨rfl, hb⟩; have HD := Lib.hid (HMo.out _ _ H0.out hb); clear H0 hb; have H0 := HD; clear HD; (try clear cb ca hlt); have cb := HCp.out _ H0.out; have ca := HCm.out _ H0.out; have hlt := HLt.out _ H0.out)
                  | (go_at_call 28; (with_reducible refine (HPc.out _ (HBl.out _ H0.out)).mono ?_); rintro e w1 ⟨rfl, hb⟩; have HD := Lib.hid (HMo.out _ _ H0.out hb); clear H0 hb; have H0 := HD; clear HD; (try clear cb ca hlt); have cb := HCp.out _ H0.out; have ca := HCm.out _ H0.out; have hlt := HLt.out _ H0.out)
                  | (go_at_call 26; (with_reducible refine (HS1.out _ (HBl.out _ H0.out)).mono ?_); rintro e w1 ⟨rfl, hb⟩; have HD := Lib.hid (HMo.out _ _ H0.out hb); clear H0 hb; have H0 := HD; clear HD; (try clear cb ca hlt); have cb := HCp.out _ H0.out; have ca := HCm.out _ H0.out; have hlt := HLt.out _ H0.out))
              clear HLi HLp HCk HRp HPc HS1
              go_upto_region 6 with (first
                | ((with_reducible refine at_load (ty := 35) ?_); refine load_cells rfl 35 (.tmp 3) rfl w.heap.size 0 rfl [.string mn, .string mg, .int .i64 r0, .int .i64 r1, .int .i64 r2, .int .i64 r3, .int .i64 r4, .slice ma ML.length mk, .slice mta MT.length mtk, .bool rd] _ Try.underlying35 rfl (by kernel_rfl) (HRm.out _ H0.out) ?_)
                | (go_at_call 29; (with_reducible refine (HLe.out _ (HBl.out _ H0.out)).mono ?_); rintro e w1 ⟨rfl, hb⟩; have HD := Lib.hid (HMo.out _ _ H0.out hb); clear H0 hb; have H0 := HD; clear HD; (try clear cb ca hlt); have cb := HCp.out _ H0.out; have ca := HCm.out _ H0.out; have hlt := HLt.out _ H0.out)
                | ((with_reducible refine at_store (ty := 29) ?_); refine store_new rfl 29 (.tmp 7) (.tmp 52) rfl _ _ rfl rfl (by kernel_rfl) rfl (by rfl) rfl ?_))
              obtain ⟨V5, hV5⟩ : ∃ V, V = w1.alloc (.cells #[.int .i64 l0, .int .i64 l1, .int .i64 l2, .int .i64 l3, .int .i64 l4] 29) := ⟨_, rfl⟩
              obtain ⟨TT, hTT⟩ : ∃ T, w1.heap.size = T := ⟨_, rfl⟩
              have H5 := Lib.hid (show CC V5 by rw [hV5]; exact HPu.out _ _ H0.out)
              have HT := Lib.hid (show Blk V5 TT 29 [.int .i64 l0, .int .i64 l1, .int .i64 l2, .int .i64 l3, .int .i64 l4] by rw [hV5, ← hTT]; exact Blk.new w1 29 [.int .i64 l0, .int .i64 l1, .int .i64 l2, .int .i64 l3, .int .i64 l4])
              have hXT : w.heap.size + 1 < TT := by rw [← hTT]; exact hlt
              rw [← hV5, hTT]
              clear hV5 hTT H0 cb ca hlt HLe
              have H0 := H5
              clear H5
              have HG5 := Lib.hid (KG.out.mono (HBl.out _ H0.out))
              have hown0 := (World.ownsRow_made V5 #[] 0 (Nat.le_refl V5.heap.size) (Nat.zero_le _) rfl : (V5.alloc (.cells #[] 56)).ownsRow V5.heap.size 56 21 (.slice (some ⟨V5.heap.size, 0, none⟩) 0 0) 0 [])
              go_upto_region 7 with (at_builtin; refine wpList_append_src rfl (.tmp 53) (.tmp 54) 23 rfl V5.heap.size 56 i0 _ 21 288 Try.underlying23 Hi.out Hz0.out Hz1.out Hz2.out rfl (by decide) _ 0 [] rfl hown0 c n kc (bs.flatMap brow) rfl (by rw [rows_length brow 21 brow_len, Kn.out]) (RowsAt.news brow_len (HG5.out.mono ((Below.refl _ V5).alloc (Nat.le_refl _) _))) hok (flat_ones brow_one bs) (by unfold maxLen; omega) (by omega) (le_alloc (Nat.le_refl V5.heap.size) _) ?_; intro v6 w6 hown6 hgrow6; rw [Nat.zero_add, List.nil_append] at hown6; obtain ⟨a6, k6, rfl⟩ := own_sl hown6; have HB6 := Lib.hid (own_below hown0 ((Below.refl _ V5).alloc (Nat.le_refl V5.heap.size) _) (le_alloc (Nat.le_refl V5.heap.size) _) hgrow6); have HO6 := Lib.hid hown6; clear hown6 hgrow6)
              have HBw := Lib.hid (HBl.out _ H0.out)
              have hz6 := HB6.out.size
              have H6 := Lib.hid (HMo.out _ _ H0.out HB6.out)
              have HT6 := Lib.hid (HT.out.below HB6.out)
              have HOn := Lib.hid (show ∀ u ∈ ([.string nm, .int .i64 n0, .int .i64 n1, .int .i64 n2, .int .i64 n3, .int .i64 n4, .slice la L.length lk, .slice sa S.length sk, .slice ta T.length tk, .slice ba B.length bk, .slice pa P.length pk, .slice aa A.length ak, .bool wd, .slice da D.length dk, .int .i64 sw, .int .i64 rk, .string ow, .bool dm, .bool pn, .bool lc, .string mn] : List Value), u.oneCell' = true from brow_one (⟨⟨nm, n0, n1, n2, n3, n4, la, lk, L, sa, sk, S, ta, tk, T, ba, bk, B, pa, pk, P, aa, ak, A, wd, da, dk, D, sw, rk, ow, dm, pn, lc⟩, mn⟩ : Bd))
              have HMr := Lib.hid (show (bs ++ [(⟨p', m'.nm⟩ : Bd)]).flatMap brow = bs.flatMap brow ++ [.string nm, .int .i64 n0, .int .i64 n1, .int .i64 n2, .int .i64 n3, .int .i64 n4, .slice la L.length lk, .slice sa S.length sk, .slice ta T.length tk, .slice ba B.length bk, .slice pa P.length pk, .slice aa A.length ak, .bool wd, .slice da D.length dk, .int .i64 sw, .int .i64 rk, .string ow, .bool dm, .bool pn, .bool lc, .string mn] by
                rw [List.flatMap_append, Hm'.out, Hp'.out]
                rfl)
              have HMl := Lib.hid (show (bs ++ [(⟨p', m'.nm⟩ : Bd)]).length = n + 1 by rw [List.length_append, Kn.out]; rfl)
              have HV5 := H0
              have HTV5 := HT
              have HB56 := HB6
              clear H0 HB6 HT hown0 HG5
              have H0 := H6
              clear H6
              have ca := HCm.out _ H0.out
              have hlt := HLt.out _ H0.out
              go_upto_region 8 with (first
                | ((with_reducible refine at_load (ty := 47) ?_); refine load_cells rfl 47 (.tmp 57) rfl (w.heap.size + 1) 0 rfl [.string nm, .int .i64 n0, .int .i64 n1, .int .i64 n2, .int .i64 n3, .int .i64 n4, .slice la L.length lk, .slice sa S.length sk, .slice ta T.length tk, .slice ba B.length bk, .slice pa P.length pk, .slice aa A.length ak, .bool wd, .slice da D.length dk, .int .i64 sw, .int .i64 rk, .string ow, .bool dm, .bool pn, .bool lc] _ Try.underlying47 rfl (by kernel_rfl) (HRq.out _ H0.out) ?_)
                | ((with_reducible refine at_load (ty := 47) ?_); refine load_cells rfl 47 (.tmp 5) rfl (w.heap.size + 1) 0 rfl [.string nm, .int .i64 n0, .int .i64 n1, .int .i64 n2, .int .i64 n3, .int .i64 n4, .slice la L.length lk, .slice sa S.length sk, .slice ta T.length tk, .slice ba B.length bk, .slice pa P.length pk, .slice aa A.length ak, .bool wd, .slice da D.length dk, .int .i64 sw, .int .i64 rk, .string ow, .bool dm, .bool pn, .bool lc] _ Try.underlying47 rfl (by kernel_rfl) (HRq.out _ H0.out) ?_)
                | (at_builtin; refine wpList_append_src rfl (.tmp 56) (.tmp 61) 23 rfl V5.heap.size 56 i0 _ 21 288 Try.underlying23 Hi.out Hz0.out Hz1.out Hz2.out rfl (by decide) _ n (bs.flatMap brow) rfl (HO6.out.alloc _) (some ⟨w6.heap.size, 0, none⟩) 1 1 [.string nm, .int .i64 n0, .int .i64 n1, .int .i64 n2, .int .i64 n3, .int .i64 n4, .slice la L.length lk, .slice sa S.length sk, .slice ta T.length tk, .slice ba B.length bk, .slice pa P.length pk, .slice aa A.length ak, .bool wd, .slice da D.length dk, .int .i64 sw, .int .i64 rk, .string ow, .bool dm, .bool pn, .bool lc, .string mn] rfl rfl (fun q e => by injection e with e; rw [← e]; exact news_at _ _ _) (fun e => by cases e) HOn.out (by unfold maxLen; omega) (by omega) (le_alloc hz6 _) ?_; intro v7 w7 hown7 hgrow7; have HB7 := Lib.hid (own_below (HO6.out.alloc _) ((Below.refl V5.heap.size w6).alloc hz6 _) (le_alloc hz6 _) hgrow7); rw [← HMr.out, ← HMl.out] at hown7; obtain ⟨a7, k7, rfl, -, hr7⟩ := IsL.of_own brow_len (by decide) hown7; rw [HMl.out]; have HR7 := Lib.hid hr7; clear hown7 hgrow7 hr7))
              have HB57 := Lib.hid (HB56.out.trans HB7.out)
              have H7 := Lib.hid (HMo.out _ _ HV5.out HB57.out)
              have HT7 := Lib.hid (HTV5.out.below HB57.out)
              clear H0 HB7 HB56 HB57 HV5 HTV5 HT6 HO6 HOn ca hlt hz6
              have H0 := H7
              clear H7
              have cb := HCp.out _ H0.out
              have hlt := HLt.out _ H0.out
              go_upto_region 9 with (first
                | ((with_reducible refine at_load (ty := 47) ?_); refine load_cells rfl 47 (.tmp 5) rfl (w.heap.size + 1) 0 rfl [.string nm, .int .i64 n0, .int .i64 n1, .int .i64 n2, .int .i64 n3, .int .i64 n4, .slice la L.length lk, .slice sa S.length sk, .slice ta T.length tk, .slice ba B.length bk, .slice pa P.length pk, .slice aa A.length ak, .bool wd, .slice da D.length dk, .int .i64 sw, .int .i64 rk, .string ow, .bool dm, .bool pn, .bool lc] _ Try.underlying47 rfl (by kernel_rfl) (HRq.out _ H0.out) ?_)
                | ((with_reducible refine at_store (ty := 47) ?_); refine store_new rfl 47 (.tmp 9) (.tmp 63) rfl _ _ rfl rfl (by kernel_rfl) rfl (List.all_eq_true.2 (prow_one (⟨nm, n0, n1, n2, n3, n4, la, lk, L, sa, sk, S, ta, tk, T, ba, bk, B, pa, pk, P, aa, ak, A, wd, da, dk, D, sw, rk, ow, dm, pn, lc⟩ : Pd))) rfl ?_))
              obtain ⟨V8, hV8⟩ : ∃ V, V = w7.alloc (.cells #[.string nm, .int .i64 n0, .int .i64 n1, .int .i64 n2, .int .i64 n3, .int .i64 n4, .slice la L.length lk, .slice sa S.length sk, .slice ta T.length tk, .slice ba B.length bk, .slice pa P.length pk, .slice aa A.length ak, .bool wd, .slice da D.length dk, .int .i64 sw, .int .i64 rk, .string ow, .bool dm, .bool pn, .bool lc] 47) := ⟨_, rfl⟩
              obtain ⟨Y, hY⟩ : ∃ T, w7.heap.size = T := ⟨_, rfl⟩
              have HY8 := Lib.hid (show Blk V8 Y 47 [.string nm, .int .i64 n0, .int .i64 n1, .int .i64 n2, .int .i64 n3, .int .i64 n4, .slice la L.length lk, .slice sa S.length sk, .slice ta T.length tk, .slice ba B.length bk, .slice pa P.length pk, .slice aa A.length ak, .bool wd, .slice da D.length dk, .int .i64 sw, .int .i64 rk, .string ow, .bool dm, .bool pn, .bool lc] by rw [hV8, ← hY]; exact Blk.new w7 47 [.string nm, .int .i64 n0, .int .i64 n1, .int .i64 n2, .int .i64 n3, .int .i64 n4, .slice la L.length lk, .slice sa S.length sk, .slice ta T.length tk, .slice ba B.length bk, .slice pa P.length pk, .slice aa A.length ak, .bool wd, .slice da D.length dk, .int .i64 sw, .int .i64 rk, .string ow, .bool dm, .bool pn, .bool lc])
              have HB8 := Lib.hid (show Below w7.heap.size w7 V8 by rw [hV8]; exact (Below.refl _ _).alloc (Nat.le_refl _) _)
              have HYs := Lib.hid hY
              rw [← hV8, hY]
              clear hV8 hY cb hlt
              have y0 := HY8.out.cell 0
              have g0 := HY8.out.frozen 0
              have hly := HY8.out.lt
              dsimp only [List.getElem?_cons_zero, List.getElem?_cons_succ] at y0
              go_upto_region 10 with (fail)
              obtain ⟨V9, hV9⟩ : ∃ V, V = V8.setCell ⟨Y, 0, none⟩ (.string ⟨#[115, 101, 99, 111, 110, 100]⟩) := ⟨_, rfl⟩
              have HB9 := Lib.hid (show Below w7.heap.size w7 V9 by rw [hV9]; exact HB8.out.setCell (by show w7.heap.size ≤ Y; rw [HYs.out]; exact Nat.le_refl _) _)
              have H9 := Lib.hid (HMo.out _ _ H0.out HB9.out)
              have HT9 := Lib.hid (HT7.out.below HB9.out)
              have HR9 := Lib.hid (HR7.out.mono HB9.out)
              have HY9 := Lib.hid (show Blk V9 Y 47 [.string ⟨#[115, 101, 99, 111, 110, 100]⟩, .int .i64 n0, .int .i64 n1, .int .i64 n2, .int .i64 n3, .int .i64 n4, .slice la L.length lk, .slice sa S.length sk, .slice ta T.length tk, .slice ba B.length bk, .slice pa P.length pk, .slice aa A.length ak, .bool wd, .slice da D.length dk, .int .i64 sw, .int .i64 rk, .string ow, .bool dm, .bool pn, .bool lc] by rw [hV9]; exact HY8.out.set 0 _)
              rw [← hV9]
              clear hV9 y0 g0 hly HY8 HB8 HB9 HYs H0 HT7 HR7
              have H0 := H9
              clear H9
              obtain ⟨F2, hF2⟩ : ∃ x, findN ((bs ++ [(⟨p', m'.nm⟩ : Bd)]).map pnm) ⟨#[115, 101, 99, 111, 110, 100]⟩ 0 = x := ⟨_, rfl⟩
              have HPm := Lib.hid (show ∀ V, BndL V a7 (bs ++ [(⟨p', m'.nm⟩ : Bd)]) → Calls Try.prog 28 #[.slice a7 (n + 1) k7, .string ⟨#[115, 101, 99, 111, 110, 100]⟩] V fun e w' => e = .returned (.int .i64 F2) ∧ Below V.heap.size V w' from fun V hV => by
                have h9 := rplace_any a7 k7 (bs ++ [(⟨p', m'.nm⟩ : Bd)]) ⟨#[115, 101, 99, 111, 110, 100]⟩ V hV (by rw [HMl.out]; omega)
                rw [hF2, HMl.out] at h9
                exact h9)
              have HF2 := Lib.hid hF2
              clear hF2
              have z0 := HY9.out.cell 0
              have hlz := HY9.out.lt
              dsimp only [List.getElem?_cons_zero, List.getElem?_cons_succ] at z0
              by_cases hf2 : 0 ≤ F2
              · have qf2 : decide (0 ≤ F2) = true := decide_eq_true hf2
                go_wp2_with (first
                  | (go_at_call 28; (with_reducible refine (HPm.out _ HR9.out).mono ?_); rintro e w1 ⟨rfl, hb⟩; have HD := Lib.hid (HMo.out _ _ H0.out hb); clear H0 hb z0 hlz; have H0 := HD; clear HD)
                  | (go_at_call 25; (with_reducible refine (sknown_any _).mono ?_); rintro e w1 ⟨rfl, hb⟩; have HD := Lib.hid (HMo.out _ _ H0.out hb); clear H0 hb; have H0 := HD; clear HD))
                go_ret
                exact ⟨rfl, HBl.out _ H0.out⟩
              · have qf2 : decide (0 ≤ F2) = false := decide_eq_false hf2
                go_upto_region 12 with (go_at_call 28; (with_reducible refine (HPm.out _ HR9.out).mono ?_); rintro e w1 ⟨rfl, hb⟩; have HD := Lib.hid (HMo.out _ _ H0.out hb); have HT := Lib.hid (HT9.out.below hb); have HR := Lib.hid (HR9.out.mono hb); have HY := Lib.hid (HY9.out.below hb); clear H0 HT9 HR9 HY9 hb z0 hlz; have H0 := HD; clear HD)
                have HRn := Lib.hid (show ∀ V, CC V → V.rangeAt (w.heap.size + 1) 1 [.int .i64 n0, .int .i64 n1, .int .i64 n2, .int .i64 n3, .int .i64 n4] from fun V hV j v hj => by
                  have hj5 : j < 5 := (List.getElem?_eq_some_iff.1 hj).1
                  have h9 := HRq.out V hV (1 + j) v
                  rw [Nat.zero_add] at h9
                  refine h9 ?_
                  match j, hj5, hj with
                  | 0, _, hj => exact hj
                  | 1, _, hj => exact hj
                  | 2, _, hj => exact hj
                  | 3, _, hj => exact hj
                  | 4, _, hj => exact hj)
                have hTi := fun V => Rs.reftimes_any n0 n1 n2 n3 n4 2 V
                have hen := enough_iff (p := p') (l := ⟨l0, l1, l2, l3, l4⟩) Hrt.out Hlr.out
                have hsec := suit_second (m := m') (bs := bs) (p := p') (nm := ⟨#[115, 101, 99, 111, 110, 100]⟩) Hmr.out K5.out Hn3.out Hrt.out Hno.out (noName_of (by rw [HF2.out]; omega))
                rw [Hll.out] at hsec
                have hmo : ∀ V, Below w.heap.size w V → ∀ b ∈ bs ++ [(⟨p', m'.nm⟩ : Bd)], PodAt V b.p := fun V hV b hb => by
                  rcases List.mem_append.1 hb with hb | hb
                  · exact ((KB.out b hb).mono hV).here
                  · rw [List.mem_singleton.1 hb]
                    exact KP.out.here.mono hV
                have hmp : ∀ b ∈ bs ++ [(⟨p', m'.nm⟩ : Bd)], b.p.prts.length ≤ 1000000 := fun b hb => by
                  rcases List.mem_append.1 hb with hb | hb
                  · exact Kb.out K1.out b hb
                  · rw [List.mem_singleton.1 hb]
                    have := (lightP_iff K2.out).pl
                    show p'.prts.length ≤ 1000000
                    omega
                have hml : lightM m' = true := (lightY_iff K1.out).2.2.1 m' (List.mem_singleton.2 rfl)
                have hSm := fun V (hV : CC V) (hR : BndL V a7 (bs ++ [(⟨p', m'.nm⟩ : Bd)])) => ssuits_any m' a7 k7 (bs ++ [(⟨p', m'.nm⟩ : Bd)]) p' V (KM.out.here.mono (HBl.out V hV)) hR (hmo V (HBl.out V hV)) (KP.out.here.mono (HBl.out V hV)) hml K2.out (by rw [HMl.out]; omega) hmp
                have hSq := fun V (hV : CC V) (hR : BndL V a7 (bs ++ [(⟨p', m'.nm⟩ : Bd)])) => ssuits_any m' a7 k7 (bs ++ [(⟨p', m'.nm⟩ : Bd)]) (pName p' ⟨#[115, 101, 99, 111, 110, 100]⟩) V (KM.out.here.mono (HBl.out V hV)) hR (hmo V (HBl.out V hV)) (name_at (KP.out.here.mono (HBl.out V hV))) hml (name_light (by decide) K2.out) (by rw [HMl.out]; omega) hmp
                simp only [suit_again K5.out, HMl.out] at hSm
                simp only [hsec, HMl.out] at hSq
                obtain ⟨wv, hwv⟩ : ∃ x, wantS p' ⟨l0, l1, l2, l3, l4⟩ = x := ⟨_, rfl⟩
                rw [hwv] at hSq
                unfold wantS at hwv
                rw [Hm'.out, Hp'.out] at hSm hSq
                rw [Hp'.out] at hen hwv
                have HSm := Lib.hid (show ∀ V, CC V → BndL V a7 (bs ++ [(⟨p', m'.nm⟩ : Bd)]) → Calls Try.prog 26 #[.agg #[.string mn, .string mg, .int .i64 r0, .int .i64 r1, .int .i64 r2, .int .i64 r3, .int .i64 r4, .slice ma ML.length mk, .slice mta MT.length mtk, .bool rd], .slice a7 (n + 1) k7, .agg #[.string nm, .int .i64 n0, .int .i64 n1, .int .i64 n2, .int .i64 n3, .int .i64 n4, .slice la L.length lk, .slice sa S.length sk, .slice ta T.length tk, .slice ba B.length bk, .slice pa P.length pk, .slice aa A.length ak, .bool wd, .slice da D.length dk, .int .i64 sw, .int .i64 rk, .string ow, .bool dm, .bool pn, .bool lc]] V fun e w' => e = .returned (.int .i64 0) ∧ Below V.heap.size V w' from fun V hV hR => by rw [Hm'.out, Hp'.out] at hR; exact hSm V hV hR)
                have HSq := Lib.hid (show ∀ V, CC V → BndL V a7 (bs ++ [(⟨p', m'.nm⟩ : Bd)]) → Calls Try.prog 26 #[.agg #[.string mn, .string mg, .int .i64 r0, .int .i64 r1, .int .i64 r2, .int .i64 r3, .int .i64 r4, .slice ma ML.length mk, .slice mta MT.length mtk, .bool rd], .slice a7 (n + 1) k7, .agg #[.string ⟨#[115, 101, 99, 111, 110, 100]⟩, .int .i64 n0, .int .i64 n1, .int .i64 n2, .int .i64 n3, .int .i64 n4, .slice la L.length lk, .slice sa S.length sk, .slice ta T.length tk, .slice ba B.length bk, .slice pa P.length pk, .slice aa A.length ak, .bool wd, .slice da D.length dk, .int .i64 sw, .int .i64 rk, .string ow, .bool dm, .bool pn, .bool lc]] V fun e w' => e = .returned (.int .i64 wv) ∧ Below V.heap.size V w' from fun V hV hR => by rw [Hm'.out, Hp'.out] at hR; exact hSq V hV hR)
                obtain ⟨e2, he2⟩ : ∃ e, Rs.timesE n0 n1 n2 n3 n4 2 = e := ⟨_, rfl⟩
                have hts : e2 = 0 → Rs.sel e2 (n0 * 2) = n0 * 2 ∧ Rs.sel e2 (n1 * 2) = n1 * 2 ∧ Rs.sel e2 (n2 * 2) = n2 * 2 ∧ Rs.sel e2 (n3 * 2) = n3 * 2 ∧ Rs.sel e2 (n4 * 2) = n4 * 2 := fun h => by rw [h]; exact ⟨rfl, rfl, rfl, rfl, rfl⟩
                simp only [he2] at hTi hen
                generalize Rs.sel e2 (n0 * 2) = t0 at hTi hts
                generalize Rs.sel e2 (n1 * 2) = t1 at hTi hts
                generalize Rs.sel e2 (n2 * 2) = t2 at hTi hts
                generalize Rs.sel e2 (n3 * 2) = t3 at hTi hts
                generalize Rs.sel e2 (n4 * 2) = t4 at hTi hts
                have hFt := fun V => Rs.reffits_any t0 t1 t2 t3 t4 l0 l1 l2 l3 l4 V
                obtain ⟨zf, hzf⟩ : ∃ z, Rs.lesB t0 t1 t2 t3 t4 l0 l1 l2 l3 l4 = z := ⟨_, rfl⟩
                rw [hzf] at hFt
                have hen2 : e2 = 0 → (zf = true ↔ twice (⟨nm, n0, n1, n2, n3, n4, la, lk, L, sa, sk, S, ta, tk, T, ba, bk, B, pa, pk, P, aa, ak, A, wd, da, dk, D, sw, rk, ow, dm, pn, lc⟩ : Pd) ⟨l0, l1, l2, l3, l4⟩) := fun h => by
                  obtain ⟨j0, j1, j2, j3, j4⟩ := hts h
                  rw [← hzf, j0, j1, j2, j3, j4]
                  exact ⟨fun hz => hen.1 ⟨h, hz⟩, fun ht => (hen.2 ht).2⟩
                have hen3 : ¬ e2 = 0 → ¬ twice (⟨nm, n0, n1, n2, n3, n4, la, lk, L, sa, sk, S, ta, tk, T, ba, bk, B, pa, pk, P, aa, ak, A, wd, da, dk, D, sw, rk, ow, dm, pn, lc⟩ : Pd) ⟨l0, l1, l2, l3, l4⟩ := fun h ht => h (hen.2 ht).1
                have HTi := Lib.hid hTi
                have HFt := Lib.hid hFt
                clear hTi hFt hen hsec hmo hmp hml hSm hSq he2 hts hzf
                go_upto_region 13 with (first
                  | ((with_reducible refine at_load (ty := 29) ?_); refine load_cells rfl 29 (.tmp 72) rfl (w.heap.size + 1) 1 rfl [.int .i64 n0, .int .i64 n1, .int .i64 n2, .int .i64 n3, .int .i64 n4] _ Try.underlying29 rfl (by kernel_rfl) (HRn.out _ H0.out) ?_)
                  | (go_at_call 30; (with_reducible refine (HTi.out _).mono ?_); rintro e w1 ⟨rfl, hb⟩; have HD := Lib.hid (HMo.out _ _ H0.out hb); have HE := Lib.hid (HR.out.mono hb); have HF := Lib.hid (HY.out.below hb); have HG9 := Lib.hid (HT.out.below hb); clear H0 HR HY HT hb; have H0 := HD; have HR := HE; have HY := HF; have HT := HG9; clear HD HE HF HG9)
                  | ((with_reducible refine at_store (ty := 29) ?_); refine store_new rfl 29 (.tmp 10) (.tmp 75) rfl _ _ rfl rfl (by kernel_rfl) rfl (by rfl) rfl ?_))
                obtain ⟨Vc, hVc⟩ : ∃ V, V = w1.alloc (.cells #[.int .i64 t0, .int .i64 t1, .int .i64 t2, .int .i64 t3, .int .i64 t4] 29) := ⟨_, rfl⟩
                obtain ⟨TN, hTN⟩ : ∃ T, w1.heap.size = T := ⟨_, rfl⟩
                have H12 := Lib.hid (show CC Vc by rw [hVc]; exact HPu.out _ _ H0.out)
                have HR12 := Lib.hid (show BndL Vc a7 (bs ++ [(⟨p', m'.nm⟩ : Bd)]) by rw [hVc]; exact HR.out.mono ((Below.refl _ _).alloc (Nat.le_refl _) _))
                have HY12 := Lib.hid (show Blk Vc Y 47 [.string ⟨#[115, 101, 99, 111, 110, 100]⟩, .int .i64 n0, .int .i64 n1, .int .i64 n2, .int .i64 n3, .int .i64 n4, .slice la L.length lk, .slice sa S.length sk, .slice ta T.length tk, .slice ba B.length bk, .slice pa P.length pk, .slice aa A.length ak, .bool wd, .slice da D.length dk, .int .i64 sw, .int .i64 rk, .string ow, .bool dm, .bool pn, .bool lc] by rw [hVc]; exact HY.out.alloc _)
                have HT12 := Lib.hid (show Blk Vc TT 29 [.int .i64 l0, .int .i64 l1, .int .i64 l2, .int .i64 l3, .int .i64 l4] by rw [hVc]; exact HT.out.alloc _)
                have HN := Lib.hid (show Blk Vc TN 29 [.int .i64 t0, .int .i64 t1, .int .i64 t2, .int .i64 t3, .int .i64 t4] by rw [hVc, ← hTN]; exact Blk.new w1 29 [.int .i64 t0, .int .i64 t1, .int .i64 t2, .int .i64 t3, .int .i64 t4])
                rw [← hVc, hTN]
                clear hVc hTN H0 HR HY HT HTi HRn
                have H0 := H12
                have HR := HR12
                have HY := HY12
                have HT := HT12
                clear H12 HR12 HY12 HT12
                have c10 := HC10.out _ H0.out
                have hlt := HLt.out _ H0.out
                by_cases h2 : e2 = 0
                · subst h2
                  have hz2 := hen2 rfl
                  cases zf with
                  | true =>
                    have ht := hz2.1 rfl
                    rw [if_pos ht] at hwv
                    by_cases hpl : 0 < P.length
                    · have qp : decide ((0 : Int) < (P.length : Int)) = true := decide_eq_true (by omega)
                      obtain rfl : wv = 3 := by rw [← hwv]; exact if_pos hpl
                      clear hwv ht hz2 hen2 hen3
                      go_wp2_with (first
                        | ((with_reducible refine at_load (ty := 29) ?_); refine load_cells rfl 29 (.tmp 10) rfl TN 0 rfl [.int .i64 t0, .int .i64 t1, .int .i64 t2, .int .i64 t3, .int .i64 t4] _ Try.underlying29 rfl (by kernel_rfl) (blk_range HN.out) ?_)
                        | ((with_reducible refine at_load (ty := 29) ?_); refine load_cells rfl 29 (.tmp 7) rfl TT 0 rfl [.int .i64 l0, .int .i64 l1, .int .i64 l2, .int .i64 l3, .int .i64 l4] _ Try.underlying29 rfl (by kernel_rfl) (blk_range HT.out) ?_)
                        | (go_at_call 19; (with_reducible refine (HFt.out _).mono ?_); rintro e w1 ⟨rfl, hb⟩; have HD := Lib.hid (HMo.out _ _ H0.out hb); have HE := Lib.hid (HR.out.mono hb); have HF := Lib.hid (HY.out.below hb); clear H0 HR HY hb; have H0 := HD; have HR := HE; have HY := HF; clear HD HE HF; (try clear c10 hlt); have c10 := HC10.out _ H0.out; have hlt := HLt.out _ H0.out)
                        | ((with_reducible refine at_load (ty := 35) ?_); refine load_cells rfl 35 (.tmp 3) rfl w.heap.size 0 rfl [.string mn, .string mg, .int .i64 r0, .int .i64 r1, .int .i64 r2, .int .i64 r3, .int .i64 r4, .slice ma ML.length mk, .slice mta MT.length mtk, .bool rd] _ Try.underlying35 rfl (by kernel_rfl) (HRm.out _ H0.out) ?_)
                        | ((with_reducible refine at_load (ty := 47) ?_); refine load_cells rfl 47 (.tmp 5) rfl (w.heap.size + 1) 0 rfl [.string nm, .int .i64 n0, .int .i64 n1, .int .i64 n2, .int .i64 n3, .int .i64 n4, .slice la L.length lk, .slice sa S.length sk, .slice ta T.length tk, .slice ba B.length bk, .slice pa P.length pk, .slice aa A.length ak, .bool wd, .slice da D.length dk, .int .i64 sw, .int .i64 rk, .string ow, .bool dm, .bool pn, .bool lc] _ Try.underlying47 rfl (by kernel_rfl) (HRq.out _ H0.out) ?_)
                        | ((with_reducible refine at_load (ty := 47) ?_); refine load_cells rfl 47 (.tmp 9) rfl Y 0 rfl [.string ⟨#[115, 101, 99, 111, 110, 100]⟩, .int .i64 n0, .int .i64 n1, .int .i64 n2, .int .i64 n3, .int .i64 n4, .slice la L.length lk, .slice sa S.length sk, .slice ta T.length tk, .slice ba B.length bk, .slice pa P.length pk, .slice aa A.length ak, .bool wd, .slice da D.length dk, .int .i64 sw, .int .i64 rk, .string ow, .bool dm, .bool pn, .bool lc] _ Try.underlying47 rfl (by kernel_rfl) (blk_range HY.out) ?_)
                        | (go_at_call 26; (with_reducible refine (HSm.out _ H0.out HR.out).mono ?_); rintro e w1 ⟨rfl, hb⟩; have HD := Lib.hid (HMo.out _ _ H0.out hb); have HE := Lib.hid (HR.out.mono hb); have HF := Lib.hid (HY.out.below hb); clear H0 HR HY hb; have H0 := HD; have HR := HE; have HY := HF; clear HD HE HF; (try clear c10 hlt); have c10 := HC10.out _ H0.out; have hlt := HLt.out _ H0.out)
                        | (go_at_call 26; (with_reducible refine (HSq.out _ H0.out HR.out).mono ?_); rintro e w1 ⟨rfl, hb⟩; have HD := Lib.hid (HMo.out _ _ H0.out hb); have HE := Lib.hid (HR.out.mono hb); have HF := Lib.hid (HY.out.below hb); clear H0 HR HY hb; have H0 := HD; have HR := HE; have HY := HF; clear HD HE HF; (try clear c10 hlt); have c10 := HC10.out _ H0.out; have hlt := HLt.out _ H0.out)
                        | (go_at_call 25; (with_reducible refine (sknown_any _).mono ?_); rintro e w1 ⟨rfl, hb⟩; have HD := Lib.hid (HMo.out _ _ H0.out hb); have HE := Lib.hid (HR.out.mono hb); have HF := Lib.hid (HY.out.below hb); clear H0 HR HY hb; have H0 := HD; have HR := HE; have HY := HF; clear HD HE HF; (try clear c10 hlt); have c10 := HC10.out _ H0.out; have hlt := HLt.out _ H0.out))
                      go_ret
                      exact ⟨rfl, HBl.out _ H0.out⟩
                    · have qp : decide ((0 : Int) < (P.length : Int)) = false := decide_eq_false (by omega)
                      obtain rfl : wv = 0 := by rw [← hwv]; exact if_neg hpl
                      clear hwv ht hz2 hen2 hen3
                      go_wp2_with (first
                        | ((with_reducible refine at_load (ty := 29) ?_); refine load_cells rfl 29 (.tmp 10) rfl TN 0 rfl [.int .i64 t0, .int .i64 t1, .int .i64 t2, .int .i64 t3, .int .i64 t4] _ Try.underlying29 rfl (by kernel_rfl) (blk_range HN.out) ?_)
                        | ((with_reducible refine at_load (ty := 29) ?_); refine load_cells rfl 29 (.tmp 7) rfl TT 0 rfl [.int .i64 l0, .int .i64 l1, .int .i64 l2, .int .i64 l3, .int .i64 l4] _ Try.underlying29 rfl (by kernel_rfl) (blk_range HT.out) ?_)
                        | (go_at_call 19; (with_reducible refine (HFt.out _).mono ?_); rintro e w1 ⟨rfl, hb⟩; have HD := Lib.hid (HMo.out _ _ H0.out hb); have HE := Lib.hid (HR.out.mono hb); have HF := Lib.hid (HY.out.below hb); clear H0 HR HY hb; have H0 := HD; have HR := HE; have HY := HF; clear HD HE HF; (try clear c10 hlt); have c10 := HC10.out _ H0.out; have hlt := HLt.out _ H0.out)
                        | ((with_reducible refine at_load (ty := 35) ?_); refine load_cells rfl 35 (.tmp 3) rfl w.heap.size 0 rfl [.string mn, .string mg, .int .i64 r0, .int .i64 r1, .int .i64 r2, .int .i64 r3, .int .i64 r4, .slice ma ML.length mk, .slice mta MT.length mtk, .bool rd] _ Try.underlying35 rfl (by kernel_rfl) (HRm.out _ H0.out) ?_)
                        | ((with_reducible refine at_load (ty := 47) ?_); refine load_cells rfl 47 (.tmp 5) rfl (w.heap.size + 1) 0 rfl [.string nm, .int .i64 n0, .int .i64 n1, .int .i64 n2, .int .i64 n3, .int .i64 n4, .slice la L.length lk, .slice sa S.length sk, .slice ta T.length tk, .slice ba B.length bk, .slice pa P.length pk, .slice aa A.length ak, .bool wd, .slice da D.length dk, .int .i64 sw, .int .i64 rk, .string ow, .bool dm, .bool pn, .bool lc] _ Try.underlying47 rfl (by kernel_rfl) (HRq.out _ H0.out) ?_)
                        | ((with_reducible refine at_load (ty := 47) ?_); refine load_cells rfl 47 (.tmp 9) rfl Y 0 rfl [.string ⟨#[115, 101, 99, 111, 110, 100]⟩, .int .i64 n0, .int .i64 n1, .int .i64 n2, .int .i64 n3, .int .i64 n4, .slice la L.length lk, .slice sa S.length sk, .slice ta T.length tk, .slice ba B.length bk, .slice pa P.length pk, .slice aa A.length ak, .bool wd, .slice da D.length dk, .int .i64 sw, .int .i64 rk, .string ow, .bool dm, .bool pn, .bool lc] _ Try.underlying47 rfl (by kernel_rfl) (blk_range HY.out) ?_)
                        | (go_at_call 26; (with_reducible refine (HSm.out _ H0.out HR.out).mono ?_); rintro e w1 ⟨rfl, hb⟩; have HD := Lib.hid (HMo.out _ _ H0.out hb); have HE := Lib.hid (HR.out.mono hb); have HF := Lib.hid (HY.out.below hb); clear H0 HR HY hb; have H0 := HD; have HR := HE; have HY := HF; clear HD HE HF; (try clear c10 hlt); have c10 := HC10.out _ H0.out; have hlt := HLt.out _ H0.out)
                        | (go_at_call 26; (with_reducible refine (HSq.out _ H0.out HR.out).mono ?_); rintro e w1 ⟨rfl, hb⟩; have HD := Lib.hid (HMo.out _ _ H0.out hb); have HE := Lib.hid (HR.out.mono hb); have HF := Lib.hid (HY.out.below hb); clear H0 HR HY hb; have H0 := HD; have HR := HE; have HY := HF; clear HD HE HF; (try clear c10 hlt); have c10 := HC10.out _ H0.out; have hlt := HLt.out _ H0.out)
                        | (go_at_call 25; (with_reducible refine (sknown_any _).mono ?_); rintro e w1 ⟨rfl, hb⟩; have HD := Lib.hid (HMo.out _ _ H0.out hb); have HE := Lib.hid (HR.out.mono hb); have HF := Lib.hid (HY.out.below hb); clear H0 HR HY hb; have H0 := HD; have HR := HE; have HY := HF; clear HD HE HF; (try clear c10 hlt); have c10 := HC10.out _ H0.out; have hlt := HLt.out _ H0.out))
                      go_ret
                      exact ⟨rfl, HBl.out _ H0.out⟩
                  | false =>
                    have ht : ¬ twice (⟨nm, n0, n1, n2, n3, n4, la, lk, L, sa, sk, S, ta, tk, T, ba, bk, B, pa, pk, P, aa, ak, A, wd, da, dk, D, sw, rk, ow, dm, pn, lc⟩ : Pd) ⟨l0, l1, l2, l3, l4⟩ := fun h => Bool.noConfusion (hz2.2 h)
                    obtain rfl : wv = 2 := by rw [← hwv, if_neg ht]
                    clear hwv ht hz2 hen2 hen3
                    go_wp2_with (first
                      | ((with_reducible refine at_load (ty := 29) ?_); refine load_cells rfl 29 (.tmp 10) rfl TN 0 rfl [.int .i64 t0, .int .i64 t1, .int .i64 t2, .int .i64 t3, .int .i64 t4] _ Try.underlying29 rfl (by kernel_rfl) (blk_range HN.out) ?_)
                      | ((with_reducible refine at_load (ty := 29) ?_); refine load_cells rfl 29 (.tmp 7) rfl TT 0 rfl [.int .i64 l0, .int .i64 l1, .int .i64 l2, .int .i64 l3, .int .i64 l4] _ Try.underlying29 rfl (by kernel_rfl) (blk_range HT.out) ?_)
                      | (go_at_call 19; (with_reducible refine (HFt.out _).mono ?_); rintro e w1 ⟨rfl, hb⟩; have HD := Lib.hid (HMo.out _ _ H0.out hb); have HE := Lib.hid (HR.out.mono hb); have HF := Lib.hid (HY.out.below hb); clear H0 HR HY hb; have H0 := HD; have HR := HE; have HY := HF; clear HD HE HF; (try clear c10 hlt); have c10 := HC10.out _ H0.out; have hlt := HLt.out _ H0.out)
                      | ((with_reducible refine at_load (ty := 35) ?_); refine load_cells rfl 35 (.tmp 3) rfl w.heap.size 0 rfl [.string mn, .string mg, .int .i64 r0, .int .i64 r1, .int .i64 r2, .int .i64 r3, .int .i64 r4, .slice ma ML.length mk, .slice mta MT.length mtk, .bool rd] _ Try.underlying35 rfl (by kernel_rfl) (HRm.out _ H0.out) ?_)
                      | ((with_reducible refine at_load (ty := 47) ?_); refine load_cells rfl 47 (.tmp 5) rfl (w.heap.size + 1) 0 rfl [.string nm, .int .i64 n0, .int .i64 n1, .int .i64 n2, .int .i64 n3, .int .i64 n4, .slice la L.length lk, .slice sa S.length sk, .slice ta T.length tk, .slice ba B.length bk, .slice pa P.length pk, .slice aa A.length ak, .bool wd, .slice da D.length dk, .int .i64 sw, .int .i64 rk, .string ow, .bool dm, .bool pn, .bool lc] _ Try.underlying47 rfl (by kernel_rfl) (HRq.out _ H0.out) ?_)
                      | ((with_reducible refine at_load (ty := 47) ?_); refine load_cells rfl 47 (.tmp 9) rfl Y 0 rfl [.string ⟨#[115, 101, 99, 111, 110, 100]⟩, .int .i64 n0, .int .i64 n1, .int .i64 n2, .int .i64 n3, .int .i64 n4, .slice la L.length lk, .slice sa S.length sk, .slice ta T.length tk, .slice ba B.length bk, .slice pa P.length pk, .slice aa A.length ak, .bool wd, .slice da D.length dk, .int .i64 sw, .int .i64 rk, .string ow, .bool dm, .bool pn, .bool lc] _ Try.underlying47 rfl (by kernel_rfl) (blk_range HY.out) ?_)
                      | (go_at_call 26; (with_reducible refine (HSm.out _ H0.out HR.out).mono ?_); rintro e w1 ⟨rfl, hb⟩; have HD := Lib.hid (HMo.out _ _ H0.out hb); have HE := Lib.hid (HR.out.mono hb); have HF := Lib.hid (HY.out.below hb); clear H0 HR HY hb; have H0 := HD; have HR := HE; have HY := HF; clear HD HE HF; (try clear c10 hlt); have c10 := HC10.out _ H0.out; have hlt := HLt.out _ H0.out)
                      | (go_at_call 26; (with_reducible refine (HSq.out _ H0.out HR.out).mono ?_); rintro e w1 ⟨rfl, hb⟩; have HD := Lib.hid (HMo.out _ _ H0.out hb); have HE := Lib.hid (HR.out.mono hb); have HF := Lib.hid (HY.out.below hb); clear H0 HR HY hb; have H0 := HD; have HR := HE; have HY := HF; clear HD HE HF; (try clear c10 hlt); have c10 := HC10.out _ H0.out; have hlt := HLt.out _ H0.out)
                      | (go_at_call 25; (with_reducible refine (sknown_any _).mono ?_); rintro e w1 ⟨rfl, hb⟩; have HD := Lib.hid (HMo.out _ _ H0.out hb); have HE := Lib.hid (HR.out.mono hb); have HF := Lib.hid (HY.out.below hb); clear H0 HR HY hb; have H0 := HD; have HR := HE; have HY := HF; clear HD HE HF; (try clear c10 hlt); have c10 := HC10.out _ H0.out; have hlt := HLt.out _ H0.out))
                    go_ret
                    exact ⟨rfl, HBl.out _ H0.out⟩
                · have ht := hen3 h2
                  have q2 : (e2 == 0) = false := by simpa using h2
                  obtain rfl : wv = 2 := by rw [← hwv, if_neg ht]
                  clear hwv ht hen2 hen3
                  go_wp2_with (first
                    | ((with_reducible refine at_load (ty := 29) ?_); refine load_cells rfl 29 (.tmp 10) rfl TN 0 rfl [.int .i64 t0, .int .i64 t1, .int .i64 t2, .int .i64 t3, .int .i64 t4] _ Try.underlying29 rfl (by kernel_rfl) (blk_range HN.out) ?_)
                    | ((with_reducible refine at_load (ty := 29) ?_); refine load_cells rfl 29 (.tmp 7) rfl TT 0 rfl [.int .i64 l0, .int .i64 l1, .int .i64 l2, .int .i64 l3, .int .i64 l4] _ Try.underlying29 rfl (by kernel_rfl) (blk_range HT.out) ?_)
                    | (go_at_call 19; (with_reducible refine (HFt.out _).mono ?_); rintro e w1 ⟨rfl, hb⟩; have HD := Lib.hid (HMo.out _ _ H0.out hb); have HE := Lib.hid (HR.out.mono hb); have HF := Lib.hid (HY.out.below hb); clear H0 HR HY hb; have H0 := HD; have HR := HE; have HY := HF; clear HD HE HF; (try clear c10 hlt); have c10 := HC10.out _ H0.out; have hlt := HLt.out _ H0.out)
                    | ((with_reducible refine at_load (ty := 35) ?_); refine load_cells rfl 35 (.tmp 3) rfl w.heap.size 0 rfl [.string mn, .string mg, .int .i64 r0, .int .i64 r1, .int .i64 r2, .int .i64 r3, .int .i64 r4, .slice ma ML.length mk, .slice mta MT.length mtk, .bool rd] _ Try.underlying35 rfl (by kernel_rfl) (HRm.out _ H0.out) ?_)
                    | ((with_reducible refine at_load (ty := 47) ?_); refine load_cells rfl 47 (.tmp 5) rfl (w.heap.size + 1) 0 rfl [.string nm, .int .i64 n0, .int .i64 n1, .int .i64 n2, .int .i64 n3, .int .i64 n4, .slice la L.length lk, .slice sa S.length sk, .slice ta T.length tk, .slice ba B.length bk, .slice pa P.length pk, .slice aa A.length ak, .bool wd, .slice da D.length dk, .int .i64 sw, .int .i64 rk, .string ow, .bool dm, .bool pn, .bool lc] _ Try.underlying47 rfl (by kernel_rfl) (HRq.out _ H0.out) ?_)
                    | ((with_reducible refine at_load (ty := 47) ?_); refine load_cells rfl 47 (.tmp 9) rfl Y 0 rfl [.string ⟨#[115, 101, 99, 111, 110, 100]⟩, .int .i64 n0, .int .i64 n1, .int .i64 n2, .int .i64 n3, .int .i64 n4, .slice la L.length lk, .slice sa S.length sk, .slice ta T.length tk, .slice ba B.length bk, .slice pa P.length pk, .slice aa A.length ak, .bool wd, .slice da D.length dk, .int .i64 sw, .int .i64 rk, .string ow, .bool dm, .bool pn, .bool lc] _ Try.underlying47 rfl (by kernel_rfl) (blk_range HY.out) ?_)
                    | (go_at_call 26; (with_reducible refine (HSm.out _ H0.out HR.out).mono ?_); rintro e w1 ⟨rfl, hb⟩; have HD := Lib.hid (HMo.out _ _ H0.out hb); have HE := Lib.hid (HR.out.mono hb); have HF := Lib.hid (HY.out.below hb); clear H0 HR HY hb; have H0 := HD; have HR := HE; have HY := HF; clear HD HE HF; (try clear c10 hlt); have c10 := HC10.out _ H0.out; have hlt := HLt.out _ H0.out)
                    | (go_at_call 26; (with_reducible refine (HSq.out _ H0.out HR.out).mono ?_); rintro e w1 ⟨rfl, hb⟩; have HD := Lib.hid (HMo.out _ _ H0.out hb); have HE := Lib.hid (HR.out.mono hb); have HF := Lib.hid (HY.out.below hb); clear H0 HR HY hb; have H0 := HD; have HR := HE; have HY := HF; clear HD HE HF; (try clear c10 hlt); have c10 := HC10.out _ H0.out; have hlt := HLt.out _ H0.out)
                    | (go_at_call 25; (with_reducible refine (sknown_any _).mono ?_); rintro e w1 ⟨rfl, hb⟩; have HD := Lib.hid (HMo.out _ _ H0.out hb); have HE := Lib.hid (HR.out.mono hb); have HF := Lib.hid (HY.out.below hb); clear H0 HR HY hb; have H0 := HD; have HR := HE; have HY := HF; clear HD HE HF; (try clear c10 hlt); have c10 := HC10.out _ H0.out; have hlt := HLt.out _ H0.out))
                  go_ret
                  exact ⟨rfl, HBl.out _ H0.out⟩
            · have q9 : (Sv == 0) = false := by simpa using hs
              go_enter Try.func7, Try.ntmps7
              go_upto_region 1 with (fail)
              rw [← hW]
              clear hW
              have cb := HCp.out _ H0.out
              have ca := HCm.out _ H0.out
              have hlt := HLt.out _ H0.out
              go_wp2_with (first
                | ((with_reducible refine at_load (ty := 35) ?_); refine load_cells rfl 35 (.tmp 3) rfl w.heap.size 0 rfl [.string mn, .string mg, .int .i64 r0, .int .i64 r1, .int .i64 r2, .int .i64 r3, .int .i64 r4, .slice ma ML.length mk, .slice mta MT.length mtk, .bool rd] _ Try.underlying35 rfl (by kernel_rfl) (HRm.out _ H0.out) ?_)
                  | ((with_reducible refine at_load (ty := 47) ?_); refine load_cells rfl 47 (.tmp 5) rfl (w.heap.size + 1) 0 rfl [.string nm, .int .i64 n0, .int .i64 n1, .int .i64 n2, .int .i64 n3, .int .i64 n4, .slice la L.length lk, .slice sa S.length sk, .slice ta T.length tk, .slice ba B.length bk, .slice pa P.length pk, .slice aa A.length ak, .bool wd, .slice da D.length dk, .int .i64 sw, .int .i64 rk, .string ow, .bool dm, .bool pn, .bool lc] _ Try.underlying47 rfl (by kernel_rfl) (HRq.out _ H0.out) ?_)
                  | (go_at_call 12; (with_reducible refine (HLi.out _ (HBl.out _ H0.out)).mono ?_); rintro e w1 ⟨rfl, hb⟩; have HD := Lib.hid (HMo.out _ _ (HPu.out _ _ H0.out) hb); clear H0 hb; have H0 := HD; clear HD; (try clear cb ca hlt); have cb := HCp.out _ H0.out; have ca := HCm.out _ H0.out; have hlt := HLt.out _ H0.out)
                  | (go_at_call 23; (with_reducible refine (HLp.out _ (HBl.out _ H0.out)).mono ?_); rintro e w1 ⟨rfl, hb⟩; have HD := Lib.hid (HMo.out _ _ H0.out hb); clear H0 hb; have H0 := HD; clear HD; (try clear cb ca hlt); have cb := HCp.out _ H0.out; have ca := HCm.out _ H0.out; have hlt := HLt.out _ H0.out)
                  | (go_at_call 15; (with_reducible refine (HCk.out _ (HBl.out _ H0.out)).mono ?_); rintro e w1 ⟨rfl, hb⟩; have HD := Lib.hid (HMo.out _ _ (HPu.out _ _ H0.out) hb); clear H0 hb; have H0 := HD; clear HD; (try clear cb ca hlt); have cb := HCp.out _ H0.out; have ca := HCm.out _ H0.out; have hlt := HLt.out _ H0.out)
                  | (go_at_call 24; (with_reducible refine (HRp.out _ (HBl.out _ H0.out)).mono ?_); rintro e w1 ⟨rfl, hb⟩; have HD := Lib.hid (HMo.out _ _ H0.out hb); clear H0 hb; have H0 := HD; clear HD; (try clear cb ca hlt); have cb := HCp.out _ H0.out; have ca := HCm.out _ H0.out; have hlt := HLt.out _ H0.out)
                  | (go_at_call 28; (with_reducible refine (HPc.out _ (HBl.out _ H0.out)).mono ?_); rintro e w1 ⟨rfl, hb⟩; have HD := Lib.hid (HMo.out _ _ H0.out hb); clear H0 hb; have H0 := HD; clear HD; (try clear cb ca hlt); have cb := HCp.out _ H0.out; have ca := HCm.out _ H0.out; have hlt := HLt.out _ H0.out)
                  | (go_at_call 26; (with_reducible refine (HS1.out _ (HBl.out _ H0.out)).mono ?_); rintro e w1 ⟨rfl, hb⟩; have HD := Lib.hid (HMo.out _ _ H0.out hb); clear H0 hb; have H0 := HD; clear HD; (try clear cb ca hlt); have cb := HCp.out _ H0.out; have ca := HCm.out _ H0.out; have hlt := HLt.out _ H0.out)
                | (go_at_call 25; (with_reducible refine (sknown_any _).mono ?_); rintro e w1 ⟨rfl, hb⟩; have HD := Lib.hid (HMo.out _ _ H0.out hb); clear H0 hb; have H0 := HD; clear HD; (try clear cb ca hlt); have cb := HCp.out _ H0.out; have ca := HCm.out _ H0.out; have hlt := HLt.out _ H0.out))
              go_ret
              exact ⟨rfl, HBl.out _ H0.out⟩
      · have q0 : (E == 0) = false := by simpa using he
        go_enter Try.func7, Try.ntmps7
        go_upto_region 1 with (fail)
        rw [← hW]
        clear hW
        have cb := HCp.out _ H0.out
        have ca := HCm.out _ H0.out
        have hlt := HLt.out _ H0.out
        go_wp2_with (first
          | ((with_reducible refine at_load (ty := 35) ?_); refine load_cells rfl 35 (.tmp 3) rfl w.heap.size 0 rfl [.string mn, .string mg, .int .i64 r0, .int .i64 r1, .int .i64 r2, .int .i64 r3, .int .i64 r4, .slice ma ML.length mk, .slice mta MT.length mtk, .bool rd] _ Try.underlying35 rfl (by kernel_rfl) (HRm.out _ H0.out) ?_)
            | ((with_reducible refine at_load (ty := 47) ?_); refine load_cells rfl 47 (.tmp 5) rfl (w.heap.size + 1) 0 rfl [.string nm, .int .i64 n0, .int .i64 n1, .int .i64 n2, .int .i64 n3, .int .i64 n4, .slice la L.length lk, .slice sa S.length sk, .slice ta T.length tk, .slice ba B.length bk, .slice pa P.length pk, .slice aa A.length ak, .bool wd, .slice da D.length dk, .int .i64 sw, .int .i64 rk, .string ow, .bool dm, .bool pn, .bool lc] _ Try.underlying47 rfl (by kernel_rfl) (HRq.out _ H0.out) ?_)
            | (go_at_call 12; (with_reducible refine (HLi.out _ (HBl.out _ H0.out)).mono ?_); rintro e w1 ⟨rfl, hb⟩; have HD := Lib.hid (HMo.out _ _ (HPu.out _ _ H0.out) hb); clear H0 hb; have H0 := HD; clear HD; (try clear cb ca hlt); have cb := HCp.out _ H0.out; have ca := HCm.out _ H0.out; have hlt := HLt.out _ H0.out)
            | (go_at_call 23; (with_reducible refine (HLp.out _ (HBl.out _ H0.out)).mono ?_); rintro e w1 ⟨rfl, hb⟩; have HD := Lib.hid (HMo.out _ _ H0.out hb); clear H0 hb; have H0 := HD; clear HD; (try clear cb ca hlt); have cb := HCp.out _ H0.out; have ca := HCm.out _ H0.out; have hlt := HLt.out _ H0.out)
            | (go_at_call 15; (with_reducible refine (HCk.out _ (HBl.out _ H0.out)).mono ?_); rintro e w1 ⟨rfl, hb⟩; have HD := Lib.hid (HMo.out _ _ (HPu.out _ _ H0.out) hb); clear H0 hb; have H0 := HD; clear HD; (try clear cb ca hlt); have cb := HCp.out _ H0.out; have ca := HCm.out _ H0.out; have hlt := HLt.out _ H0.out)
            | (go_at_call 24; (with_reducible refine (HRp.out _ (HBl.out _ H0.out)).mono ?_); rintro e w1 ⟨rfl, hb⟩; have HD := Lib.hid (HMo.out _ _ H0.out hb); clear H0 hb; have H0 := HD; clear HD; (try clear cb ca hlt); have cb := HCp.out _ H0.out; have ca := HCm.out _ H0.out; have hlt := HLt.out _ H0.out)
            | (go_at_call 28; (with_reducible refine (HPc.out _ (HBl.out _ H0.out)).mono ?_); rintro e w1 ⟨rfl, hb⟩; have HD := Lib.hid (HMo.out _ _ H0.out hb); clear H0 hb; have H0 := HD; clear HD; (try clear cb ca hlt); have cb := HCp.out _ H0.out; have ca := HCm.out _ H0.out; have hlt := HLt.out _ H0.out)
            | (go_at_call 26; (with_reducible refine (HS1.out _ (HBl.out _ H0.out)).mono ?_); rintro e w1 ⟨rfl, hb⟩; have HD := Lib.hid (HMo.out _ _ H0.out hb); clear H0 hb; have H0 := HD; clear HD; (try clear cb ca hlt); have cb := HCp.out _ H0.out; have ca := HCm.out _ H0.out; have hlt := HLt.out _ H0.out)
          | (go_at_call 25; (with_reducible refine (sknown_any _).mono ?_); rintro e w1 ⟨rfl, hb⟩; have HD := Lib.hid (HMo.out _ _ H0.out hb); clear H0 hb; have H0 := HD; clear HD; (try clear cb ca hlt); have cb := HCp.out _ H0.out; have ca := HCm.out _ H0.out; have hlt := HLt.out _ H0.out))
        go_ret
        exact ⟨rfl, HBl.out _ H0.out⟩

set_option maxRecDepth 100000 in
theorem walk {H : Type} {enc : TypeId × Value → H} {W : World} {base : Nat} {v u x : Value} {d e f : DataW H} {p q r : List MemPlace}
    (hv : Value.okWide Try.prog W .any base 35 v) (h : DataW.Trod enc Try.prog W 0 (fun _ => true) true 35 v d p)
    (hu : Value.okWide Try.prog W .any base 23 u) (h2 : DataW.Trod enc Try.prog W 0 (fun _ => true) true 23 u e q)
    (hx : Value.okWide Try.prog W .any base 47 x) (h3 : DataW.Trod enc Try.prog W 0 (fun _ => true) true 47 x f r) :
    Calls Try.prog 7 #[v, u, x] W fun e W' => e = .returned (.bool true) ∧ Below W.heap.size W W' := by
  obtain ⟨m, rfl, hM⟩ := open_mac hv h
  obtain ⟨c, l2, k2, rfl, hok, hG, hm2, hc2, hI2⟩ := open_bnds hu h2
  obtain ⟨pd, rfl, hP⟩ := open_pod hx h3
  exact walk1 m c k2 l2 pd W hM hP hG hm2 hc2 hok hI2

set_option maxRecDepth 100000 in
theorem lifted (os : Os) (started : os.Started) (H : Type) (enc : TypeId × Value → H) :
    ReturnsInHanded {} Try.checked os 7 .any (Rows.suitFullSpec.pre6 enc Try.prog Try.f7 Rows.suitFullRow.domain false) (Rows.suitFullSpec.post enc Try.prog Try.f7 false true false false) := by
  refine returnsInHanded_of_change (C := Try.checked) Try.own started (by kernel_rfl) Try.func7
    (ChangeSpec.witness6 (enc := enc) (C := Try.checked) false ⟨#[], #[.agg #[.string ⟨#[]⟩, .string ⟨#[]⟩, .int .i64 0, .int .i64 0, .int .i64 0, .int .i64 0, .int .i64 0, .slice none 0 0, .slice none 0 0, .bool false], .slice none 0 0, .agg #[.string ⟨#[]⟩, .int .i64 0, .int .i64 0, .int .i64 0, .int .i64 0, .int .i64 0, .slice none 0 0, .slice none 0 0, .slice none 0 0, .slice none 0 0, .slice none 0 0, .slice none 0 0, .bool false, .slice none 0 0, .int .i64 0, .int .i64 0, .string ⟨#[]⟩, .bool false, .bool false, .bool false]], []⟩ 8 (by kernel_rfl) (by kernel_rfl) (by kernel_rfl) (by kernel_rfl)) ?_
  intro W base args ds gs before hval hW _ _
  have hW' := hW
  obtain ⟨p, q, hA, hV, rfl, hfz, hnd⟩ := hW
  rw [Try.params7] at hA hval
  obtain ⟨v0, v1, v2, d0, d1, d2, p0, p1, p2, rfl, rfl, rfl, h0, h1, h2⟩ := trodAll_three hA
  refine (walk (hval 0 35 v0 rfl rfl) h0 (hval 1 23 v1 rfl rfl) h1 (hval 2 47 v2 rfl rfl) h2).mono fun e W' ⟨he, hb⟩ => ?_
  exact ⟨_, he, law_post Try.laidOut hW' rfl (by kernel_rfl) (by kernel_rfl) Try.underlying4 rfl rfl rfl hb⟩

theorem over : Rows.suitFullRow.holds Try.pinned (OpenSpec.ofChange Rows.suitFullSpec) :=
  OpenClaim.holds_of_wide 7 Try.f7 rfl rfl rfl rfl rfl rfl rfl ⟨rfl, rfl, rfl, rfl, rfl⟩ rfl rfl rfl rfl rfl (by kernel_rfl) Try.func7 (by kernel_rfl)
    (of_decide_eq_true (by kernel_rfl)) (by unfold Func.isWrapper; first | (rw [if_pos (by decide +kernel)]; kernel_rfl) | (rw [if_neg (by decide +kernel)]; exact ⟨rfl, rfl⟩))
    (fun os started H enc _ => lifted os started H enc)

/-- The statement. -/
theorem proved : Rows.SuitFullSaid := over
end suitFull
end Go.Proofs.Ythbpnfpalcgfeaa
