/-
  Block: Why, at any budgets.
-/
import Derived.Test.YtkmhicoimgpdlaaBk5
namespace Go.Proofs.Ytkmhicoimgpdlaa
open Go.RowKit
set_option linter.unusedVariables false
set_option linter.unusedSimpArgs false

theorem evA_ok (l : List Bg) : ∀ (bs : List Bd) (L : List Pd), (evA l bs L).2 = 0 → evA l bs L = (emp, 0)
  | bs, [], _ => rfl
  | bs, p :: L, h => by
    by_cases he : mayE l bs p.nm = 0
    · have e : evA l bs (p :: L) = evA l (evBs p.nm bs) L := if_pos he
      rw [e] at h ⊢
      exact evA_ok l _ L h
    · have e : evA l bs (p :: L) = (p.nm, mayE l bs p.nm) := if_neg he
      rw [e] at h
      exact absurd h he
def whyB (l : List Bg) (bs : List Bd) (nm : ByteArray) : ByteArray × Int := if blkE (movL bs nm) = 0 then evA l bs (movL bs nm) else (blkN (movL bs nm), blkE (movL bs nm))
theorem blk_zero {L : List Pd} (h : blkE L = 0) : blkN L = emp := by
  unfold blkE at h
  unfold blkN
  split at h
  · rfl
  · omega
theorem blk_twenty {L : List Pd} (h : ¬ blkE L = 0) : blkE L = 22 := by
  unfold blkE at h ⊢
  split at h
  · exact absurd rfl h
  · rfl
set_option maxRecDepth 100000 in
set_option maxHeartbeats 4000000 in
theorem whycg_any (c d a : Option Addr) (kc N kd M ka n p3 p4 : Nat) (x : ByteArray) (y : Int) (w : World) (h3 : w.cell? ⟨p3, 0, none⟩ = some (.slice c N kc)) (h4 : w.cell? ⟨p4, 0, none⟩ = some (.slice d M kd))
    (hE : ∀ V, Below w.heap.size w V → Calls Try.prog 31 #[.slice c N kc, .slice d M kd, .slice a n ka] V fun e w' => e = .returned (.tuple #[.string x, .int .i64 y]) ∧ Below V.heap.size V w') :
    Calls Try.prog 30 #[.slice a n ka, .pointer (some ⟨p3, 0, none⟩), .pointer (some ⟨p4, 0, none⟩)] w fun e w' => e = .returned (.tuple #[.string x, .int .i64 y]) ∧ Below w.heap.size w w' := by
  have HE := Lib.hid hE
  clear hE
  go_enter Try.func30, Try.ntmps30
  go_wp2_with (go_at_call 31; (with_reducible refine (HE.out _ (Below.refl _ _)).mono ?_); rintro e w1 ⟨rfl, hb⟩; have HB := Lib.hid hb; clear hb)
  refine bodyPost_ret (v := .tuple #[.string x, .int .i64 y]) (by simp [results, Try.results30, go_sem]) rfl ⟨rfl, HB.out⟩
set_option maxRecDepth 100000 in
set_option maxHeartbeats 8000000 in
theorem firstg_any (a : Option Addr) (ka n : Nat) (c d : Option Addr) (kc N kd M p3 p4 q : Nat) (x0 x1 : ByteArray) (y1 : Int) (w : World)
    (hU : ∀ V, Below w.heap.size w V → Calls Try.prog 33 #[.slice a n ka] V fun e w' => e = .returned (.tuple #[.string x0, .int .i64 0]) ∧ Below V.heap.size V w')
    (hC : ∀ V, Below w.heap.size w V → Calls Try.prog 30 #[.slice a n ka, .pointer (some ⟨p3, 0, none⟩), .pointer (some ⟨p4, 0, none⟩)] V fun e w' => e = .returned (.tuple #[.string x1, .int .i64 y1]) ∧ Below V.heap.size V w')
    (h0 : w.cell? ⟨q, 0, none⟩ = some (.func (.func 33) #[] #[])) (h1 : w.cell? ⟨q, 1, none⟩ = some (.func (.func 30) #[] #[.pointer (some ⟨p3, 0, none⟩), .pointer (some ⟨p4, 0, none⟩)]))
    (hq : q < w.heap.size) (hx : y1 = 0 → x1 = emp) :
    Calls Try.prog 32 #[.slice a n ka, .slice (some ⟨q, 0, none⟩) 2 2] w fun e w' => e = .returned (.tuple #[.string x1, .int .i64 y1]) ∧ Below w.heap.size w w' := by
  have HU := Lib.hid hU
  have HC := Lib.hid hC
  have H0 := Lib.hid h0
  have H1 := Lib.hid h1
  clear hU hC h0 h1
  by_cases hy : y1 = 0
  · subst hy
    obtain rfl : x1 = emp := hx rfl
    clear hx
    go_enter Try.func32, Try.ntmps32
    go_wp2
    go_loopw [12] (fun vi wr => ∃ k : Nat, k ≤ 2 ∧ vi = .int .i64 k ∧ Below w.heap.size w wr) (fun vi _ => 2 - (intOf vi).toNat)
    case atStart => exact ⟨0, by omega, rfl, Below.refl _ _⟩
    case round =>
      obtain ⟨k, hk, rfl, hB⟩ := hrel
      have HB := Lib.hid hB
      have c0 : wr.cell? ⟨q, 0, none⟩ = _ := (hB.cell (p := ⟨q, 0, none⟩) hq).trans H0.out
      have c1 : wr.cell? ⟨q, 1, none⟩ = _ := (hB.cell (p := ⟨q, 1, none⟩) hq).trans H1.out
      have hqr := Nat.lt_of_lt_of_le hq hB.size
      clear hB
      match k, hk with
      | 0, _ =>
        go_wp2_with (go_at_call 33; (with_reducible refine (HU.out _ HB.out).mono ?_); rintro e w1 ⟨rfl, hb⟩; have HB1 := Lib.hid (HB.out.trans (hb.mono HB.out.size)); clear hb)
        go_roundw
        case rel => exact ⟨1, by omega, by go_num, HB1.out⟩
        case measure => simp [intOf]
      | 1, _ =>
        go_wp2_with (go_at_call 30; (with_reducible refine (HC.out _ HB.out).mono ?_); rintro e w1 ⟨rfl, hb⟩; have HB1 := Lib.hid (HB.out.trans (hb.mono HB.out.size)); clear hb)
        go_roundw
        case rel => exact ⟨2, by omega, by go_num, HB1.out⟩
        case measure => simp [intOf]
      | 2, _ =>
        go_wp2
        refine bodyPost_ret (v := .tuple #[.string emp, .int .i64 0]) (by simp [results, Try.results32, go_sem]; rfl) rfl ⟨rfl, HB.out⟩
  · have q0 : (y1 == 0) = false := by simpa using hy
    have q1 : (y1 != 0) = true := by simpa using hy
    have q2 : (y1 = 0) = False := eq_false hy
    clear hx
    go_enter Try.func32, Try.ntmps32
    go_wp2
    go_loopw [12] (fun vi wr => ∃ k : Nat, k ≤ 1 ∧ vi = .int .i64 k ∧ Below w.heap.size w wr) (fun vi _ => 2 - (intOf vi).toNat)
    case atStart => exact ⟨0, by omega, rfl, Below.refl _ _⟩
    case round =>
      obtain ⟨k, hk, rfl, hB⟩ := hrel
      have HB := Lib.hid hB
      have c0 : wr.cell? ⟨q, 0, none⟩ = _ := (hB.cell (p := ⟨q, 0, none⟩) hq).trans H0.out
      have c1 : wr.cell? ⟨q, 1, none⟩ = _ := (hB.cell (p := ⟨q, 1, none⟩) hq).trans H1.out
      have hqr := Nat.lt_of_lt_of_le hq hB.size
      clear hB
      match k, hk with
      | 0, _ =>
        go_wp2_with (go_at_call 33; (with_reducible refine (HU.out _ HB.out).mono ?_); rintro e w1 ⟨rfl, hb⟩; have HB1 := Lib.hid (HB.out.trans (hb.mono HB.out.size)); clear hb)
        go_roundw
        case rel => exact ⟨1, by omega, by go_num, HB1.out⟩
        case measure => simp [intOf]
      | 1, _ =>
        go_wp2_with (go_at_call 30; (with_reducible refine (HC.out _ HB.out).mono ?_); rintro e w1 ⟨rfl, hb⟩; have HB1 := Lib.hid (HB.out.trans (hb.mono HB.out.size)); clear hb)
        refine bodyPost_ret (v := .tuple #[.string x1, .int .i64 y1]) (by simp [results, Try.results32, go_sem]) rfl ⟨rfl, HB1.out⟩
set_option maxRecDepth 100000 in
set_option maxHeartbeats 8000000 in
theorem bwhyg_any (d c : Option Addr) (kd kc : Nat) (l : List Bg) (bs : List Bd) (nm : ByteArray) (w : World) (hD : BA w d l) (hG : BndL w c bs) (hI : ∀ x ∈ bs, PodAt w x.p) (hl : bs.length ≤ 1000) (hlb : ∀ x ∈ bs, x.p.labs.length ≤ 1000) :
    Calls Try.prog 12 #[.slice c bs.length kc, .slice d l.length kd, .string nm] w fun e w' => e = .returned (.tuple #[.string (whyB l bs nm).1, .int .i64 (whyB l bs nm).2]) ∧ Below w.heap.size w w' := by
  unfold whyB
  by_cases h0 : blkE (movL bs nm) = 0
  · rw [if_pos h0]
    have hlm := movL_len bs nm
    have hMv := fun V (hV : Below w.heap.size w V) => movable_any c kc bs nm V (hG.mono hV) (by omega)
    obtain ⟨L, hL⟩ : ∃ L, movL bs nm = L := ⟨_, rfl⟩
    rw [hL] at hMv hlm h0 ⊢
    have hx := evA_ok l bs L
    have hun := fun (a : Option Addr) (ka : Nat) V (hF : RowsAt prow 20 V a L) => unblocked_any a ka L V hF (by omega)
    rw [h0, blk_zero h0] at hun
    have hev := fun (a : Option Addr) (ka : Nat) V (hV : Below w.heap.size w V) (hF : RowsAt prow 20 V a L) => evictall_any d c a kd kc ka l bs L V (hD.mono hV) (hG.mono hV) (fun x hx => (hI x hx).mono hV) hl hlb hF (by omega)
    obtain ⟨N, hN⟩ : ∃ N, bs.length = N := ⟨_, rfl⟩
    obtain ⟨M, hM⟩ : ∃ M, l.length = M := ⟨_, rfl⟩
    obtain ⟨n, hn⟩ : ∃ n, L.length = n := ⟨_, rfl⟩
    obtain ⟨⟨x, y⟩, hxy⟩ : ∃ x, evA l bs L = x := ⟨_, rfl⟩
    rw [hxy] at hx
    have hx2 : y = 0 → x = emp := fun e => by have h9 := hx e; injection h9
    simp only [hxy, hN, hM, hn] at hev
    simp only [hn] at hun
    rw [hN] at hMv
    rw [hN, hM, hxy]
    dsimp only
    obtain ⟨W, hW⟩ : ∃ W, W = (w.alloc (.cells #[.slice c N kc] 23)).alloc (.cells #[.slice d M kd] 38) := ⟨_, rfl⟩
    have HX := Lib.hid (show Box w.heap.size [.slice c N kc] W by rw [hW]; exact (Box.new w [.slice c N kc] 23).mono ((Below.refl _ _).alloc (Nat.le_refl _) _))
    have HY := Lib.hid (show Box (w.heap.size + 1) [.slice d M kd] W by
      rw [hW]
      have h9 := Box.new (w.alloc (.cells #[.slice c N kc] 23)) [.slice d M kd] 38
      rw [World.size_alloc] at h9
      exact h9)
    have HB := Lib.hid (show Below w.heap.size w W by rw [hW]; exact ((Below.refl _ _).alloc (Nat.le_refl _) _).alloc (by simp) _)
    have c0 : W.cell? ⟨w.heap.size, 0, none⟩ = some (.slice c N kc) := HX.out.cell 0
    have hlx := HX.out.lt
    have HMv := Lib.hid hMv
    have Hn := Lib.hid hn
    have HFi := Lib.hid (fun (a : Option Addr) (ka q : Nat) V (hV : Below w.heap.size w V) (hF : RowsAt prow 20 V a L) (hX : Box w.heap.size [.slice c N kc] V) (hY : Box (w.heap.size + 1) [.slice d M kd] V) h0 h1 hq =>
      firstg_any a ka n c d kc N kd M w.heap.size (w.heap.size + 1) q emp x y V (fun V' hV' => hun a ka V' (hF.mono hV')) (fun V' hV' => whycg_any c d a kc N kd M ka n w.heap.size (w.heap.size + 1) x y V' ((hX.mono hV').cell 0) ((hY.mono hV').cell 0) (fun V2 hV2 => hev a ka V2 (hV.trans ((hV'.trans (hV2.mono hV'.size)).mono hV.size)) ((hF.mono hV').mono hV2))) h0 h1 hq hx2)
    clear hMv hG hl hN hL hM hx hx2 hxy hlm hun hev hn hD hI hlb h0
    go_enter Try.func12, Try.ntmps12
    go_upto_region 1 with (fail)
    rw [← hW]
    clear hW
    go_wp2_with (first
      | (go_at_call 13; (with_reducible refine (HMv.out _ HB.out).mono ?_); rintro e w2 ⟨⟨v, rfl, hv⟩, hb⟩; obtain ⟨al, kl, rfl, -, hrl⟩ := IsL.of_own prow_len (by decide) hv; have HL2 := Lib.hid hrl; have HB2 := Lib.hid (HB.out.trans (hb.mono HB.out.size)); have HX2 := Lib.hid (HX.out.mono hb); have HY2 := Lib.hid (HY.out.mono hb); clear hb hv hrl; rw [Hn.out])
      | (go_at_call 32; (refine (HFi.out al kl w2.heap.size _ (HB2.out.alloc HB2.out.size _) (HL2.out.mono ((Below.refl _ _).alloc (Nat.le_refl _) _)) (HX2.out.mono ((Below.refl _ _).alloc (Nat.le_refl _) _)) (HY2.out.mono ((Below.refl _ _).alloc (Nat.le_refl _) _)) ((Box.new w2 [.func (.func 33) #[] #[], .func (.func 30) #[] #[.pointer (some ⟨w.heap.size, 0, none⟩), .pointer (some ⟨w.heap.size + 1, 0, none⟩)]] _).cell 0) ((Box.new w2 [.func (.func 33) #[] #[], .func (.func 30) #[] #[.pointer (some ⟨w.heap.size, 0, none⟩), .pointer (some ⟨w.heap.size + 1, 0, none⟩)]] _).cell 1) (Box.new w2 [.func (.func 33) #[] #[], .func (.func 30) #[] #[.pointer (some ⟨w.heap.size, 0, none⟩), .pointer (some ⟨w.heap.size + 1, 0, none⟩)]] _).lt).mono ?_); rintro e w3 ⟨rfl, hb⟩; have HB3 := Lib.hid (HB2.out.trans ((((Below.refl _ _).alloc (Nat.le_refl _) _).trans (hb.mono (by simp))).mono HB2.out.size)); clear hb))
    refine bodyPost_ret (v := .tuple #[.string x, .int .i64 y]) (by simp [results, Try.results12, go_sem]) rfl ⟨rfl, HB3.out⟩
  · rw [if_neg h0]
    exact bwhy_any c kc bs d kd l.length nm w hG (by omega) (.inr (blk_twenty h0))
end Go.Proofs.Ytkmhicoimgpdlaa
