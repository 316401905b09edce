/-
  Block: Why, where the pods are blocked or none.
-/
import Derived.Test.YtkmhicoimgpdlaaBk2
namespace Go.Proofs.Ytkmhicoimgpdlaa
open Go.RowKit
set_option linter.unusedVariables false
set_option linter.unusedSimpArgs false

set_option maxRecDepth 100000 in
set_option maxHeartbeats 4000000 in
theorem evict_none (c d a : Option Addr) (kc N kd M ka : Nat) (w : World) :
    Calls Try.prog 31 #[.slice c N kc, .slice d M kd, .slice a 0 ka] w fun e w' => e = .returned (.tuple #[.string emp, .int .i64 0]) ∧ Below w.heap.size w w' := by
  go_enter Try.func31, Try.ntmps31
  go_wp2
  go_loopw [0, 14] (fun vb vi wr => vb = .slice c N kc ∧ vi = .int .i64 0 ∧ wr = w) (fun _ _ _ => 0)
  case atStart => exact ⟨rfl, rfl, rfl⟩
  case round =>
    obtain ⟨rfl, rfl, rfl⟩ := hrel
    go_wp2
    refine bodyPost_ret (v := .tuple #[.string emp, .int .i64 0]) (by simp [results, Try.results31, go_sem]; rfl) rfl ⟨rfl, Below.refl _ _⟩
set_option maxRecDepth 100000 in
set_option maxHeartbeats 4000000 in
theorem whyc_none (c d a : Option Addr) (kc N kd M ka p3 p4 : Nat) (w : World) (h3 : w.cell? ⟨p3, 0, none⟩ = some (.slice c N kc)) (h4 : w.cell? ⟨p4, 0, none⟩ = some (.slice d M kd)) :
    Calls Try.prog 30 #[.slice a 0 ka, .pointer (some ⟨p3, 0, none⟩), .pointer (some ⟨p4, 0, none⟩)] w fun e w' => e = .returned (.tuple #[.string emp, .int .i64 0]) ∧ Below w.heap.size w w' := by
  have HE := Lib.hid (fun V => evict_none c d a kc N kd M ka V)
  go_enter Try.func30, Try.ntmps30
  go_wp2_with (go_at_call 31; (with_reducible refine (HE.out _).mono ?_); rintro e w1 ⟨rfl, hb⟩; have HB := Lib.hid hb; clear hb)
  refine bodyPost_ret (v := .tuple #[.string emp, .int .i64 0]) (by simp [results, Try.results30, go_sem]) rfl ⟨rfl, HB.out⟩
set_option maxRecDepth 100000 in
set_option maxHeartbeats 4000000 in
theorem first_any (a : Option Addr) (ka : Nat) (L : List Pd) (c d : Option Addr) (kc N kd M p3 p4 q : Nat) (w : World) (hF : RowsAt prow 20 w a L) (hl : L.length ≤ 1000000)
    (h0 : w.cell? ⟨q, 0, none⟩ = some (.func (.func 33) #[] #[])) (h1 : w.cell? ⟨q, 1, none⟩ = some (.func (.func 30) #[] #[.pointer (some ⟨p3, 0, none⟩), .pointer (some ⟨p4, 0, none⟩)]))
    (h3 : w.cell? ⟨p3, 0, none⟩ = some (.slice c N kc)) (h4 : w.cell? ⟨p4, 0, none⟩ = some (.slice d M kd)) (hq : q < w.heap.size) (hp3 : p3 < w.heap.size) (hp4 : p4 < w.heap.size) (h : L = [] ∨ blkE L = 22) :
    Calls Try.prog 32 #[.slice a L.length ka, .slice (some ⟨q, 0, none⟩) 2 2] w fun e w' => e = .returned (.tuple #[.string (blkN L), .int .i64 (blkE L)]) ∧ Below w.heap.size w w' := by
  have hU := fun V (hV : Below w.heap.size w V) => unblocked_any a ka L V (hF.mono hV) hl
  by_cases hn : L = []
  · subst hn
    have HU := Lib.hid (show ∀ V, Below w.heap.size w V → Calls Try.prog 33 #[.slice a 0 ka] V fun e w' => e = .returned (.tuple #[.string emp, .int .i64 0]) ∧ Below V.heap.size V w' from hU)
    have HC := Lib.hid (fun V (hV : Below w.heap.size w V) => whyc_none c d a kc N kd M ka p3 p4 V ((hV.cell (p := ⟨p3, 0, none⟩) hp3).trans h3) ((hV.cell (p := ⟨p4, 0, none⟩) hp4).trans h4))
    have H0 := Lib.hid h0
    have H1 := Lib.hid h1
    show Calls Try.prog 32 #[.slice a 0 ka, .slice (some ⟨q, 0, none⟩) 2 2] w fun e w' => e = .returned (.tuple #[.string emp, .int .i64 0]) ∧ Below w.heap.size w w'
    clear hU hF hl h0 h1 h3 h4 h hp3 hp4
    go_enter Try.func32, Try.ntmps32
    go_wp2
    go_loopw [12] (fun vi wr => ∃ k : Nat, k ≤ 2 ∧ vi = .int .i64 k ∧ Below w.heap.size w wr) (fun vi _ => 2 - (intOf vi).toNat)
    case atStart => exact ⟨0, by omega, rfl, Below.refl _ _⟩
    case round =>
      obtain ⟨k, hk, rfl, hB⟩ := hrel
      have HB := Lib.hid hB
      have c0 : wr.cell? ⟨q, 0, none⟩ = _ := (hB.cell (p := ⟨q, 0, none⟩) hq).trans H0.out
      have c1 : wr.cell? ⟨q, 1, none⟩ = _ := (hB.cell (p := ⟨q, 1, none⟩) hq).trans H1.out
      have hqr := Nat.lt_of_lt_of_le hq hB.size
      clear hB
      match k, hk with
      | 0, _ =>
        go_wp2_with (go_at_call 33; (with_reducible refine (HU.out _ HB.out).mono ?_); rintro e w1 ⟨rfl, hb⟩; have HB1 := Lib.hid (HB.out.trans (hb.mono HB.out.size)); clear hb)
        go_roundw
        case rel => exact ⟨1, by omega, by go_num, HB1.out⟩
        case measure => simp [intOf]
      | 1, _ =>
        go_wp2_with (go_at_call 30; (with_reducible refine (HC.out _ HB.out).mono ?_); rintro e w1 ⟨rfl, hb⟩; have HB1 := Lib.hid (HB.out.trans (hb.mono HB.out.size)); clear hb)
        go_roundw
        case rel => exact ⟨2, by omega, by go_num, HB1.out⟩
        case measure => simp [intOf]
      | 2, _ =>
        go_wp2
        refine bodyPost_ret (v := .tuple #[.string emp, .int .i64 0]) (by simp [results, Try.results32, go_sem]; rfl) rfl ⟨rfl, HB.out⟩
  · have hb : blkE L = 22 := h.resolve_left hn
    rw [hb]
    simp only [hb] at hU
    obtain ⟨x, hx⟩ : ∃ x, blkN L = x := ⟨_, rfl⟩
    rw [hx]
    simp only [hx] at hU
    obtain ⟨n, hn'⟩ : ∃ n, L.length = n := ⟨_, rfl⟩
    simp only [hn'] at hU
    rw [hn']
    have HU := Lib.hid hU
    clear hU hF hl h1 h3 h4 h hp3 hp4 hn hb hx hn'
    go_enter Try.func32, Try.ntmps32
    go_wp2
    go_loopw [12] (fun vi wr => vi = .int .i64 0 ∧ wr = w) (fun _ _ => 0)
    case atStart => exact ⟨rfl, rfl⟩
    case round =>
      obtain ⟨rfl, rfl⟩ := hrel
      go_wp2_with (go_at_call 33; (with_reducible refine (HU.out _ (Below.refl _ _)).mono ?_); rintro e w1 ⟨rfl, hb⟩; have HB1 := Lib.hid hb; clear hb)
      refine bodyPost_ret (v := .tuple #[.string x, .int .i64 22]) (by simp [results, Try.results32, go_sem]) rfl ⟨rfl, HB1.out⟩
set_option maxRecDepth 100000 in
set_option maxHeartbeats 4000000 in
theorem bwhy_any (c : Option Addr) (kc : Nat) (bs : List Bd) (d : Option Addr) (kd M : Nat) (nm : ByteArray) (w : World) (hG : BndL w c bs) (hl : bs.length ≤ 1000000) (h : movL bs nm = [] ∨ blkE (movL bs nm) = 22) :
    Calls Try.prog 12 #[.slice c bs.length kc, .slice d M kd, .string nm] w fun e w' => e = .returned (.tuple #[.string (blkN (movL bs nm)), .int .i64 (blkE (movL bs nm))]) ∧ Below w.heap.size w w' := by
  have hlm := movL_len bs nm
  have hMv := fun V (hV : Below w.heap.size w V) => movable_any c kc bs nm V (hG.mono hV) hl
  obtain ⟨N, hN⟩ : ∃ N, bs.length = N := ⟨_, rfl⟩
  obtain ⟨L, hL⟩ : ∃ L, movL bs nm = L := ⟨_, rfl⟩
  rw [hN] at hMv hlm hl
  rw [hL] at hMv h hlm
  rw [hN, hL]
  obtain ⟨x, hx⟩ : ∃ x, blkN L = x := ⟨_, rfl⟩
  obtain ⟨y, hy⟩ : ∃ y, blkE L = y := ⟨_, rfl⟩
  obtain ⟨W, hW⟩ : ∃ W, W = (w.alloc (.cells #[.slice c N kc] 23)).alloc (.cells #[.slice d M kd] 38) := ⟨_, rfl⟩
  have HX := Lib.hid (show Box w.heap.size [.slice c N kc] W by rw [hW]; exact (Box.new w [.slice c N kc] 23).mono ((Below.refl _ _).alloc (Nat.le_refl _) _))
  have HY := Lib.hid (show Box (w.heap.size + 1) [.slice d M kd] W by
    rw [hW]
    have h9 := Box.new (w.alloc (.cells #[.slice c N kc] 23)) [.slice d M kd] 38
    rw [World.size_alloc] at h9
    exact h9)
  have HB := Lib.hid (show Below w.heap.size w W by rw [hW]; (repeat' (first | with_reducible exact Below.refl _ _ | with_reducible assumption | with_reducible refine Below.drew ?_ | with_reducible refine below_drewN' ?_ _ | with_reducible refine Below.alloc ?_ ?_ _ | with_reducible refine Below.setCell ?_ ?_ _ | with_reducible refine below_step (by assumption) ?_ ?_ | omega | (simp; done) | (simp; omega))))
  have c0 : W.cell? ⟨w.heap.size, 0, none⟩ = some (.slice c N kc) := HX.out.cell 0
  have hlx := HX.out.lt
  have HMv := Lib.hid hMv
  have HFi := Lib.hid (fun a ka q V (hF : RowsAt prow 20 V a L) h0 h1 h3 h4 hq hp3 hp4 => first_any a ka L c d kc N kd M w.heap.size (w.heap.size + 1) q V hF (by omega) h0 h1 h3 h4 hq hp3 hp4 h)
  rw [hx, hy] at HFi ⊢
  obtain ⟨n, hn⟩ : ∃ n, L.length = n := ⟨_, rfl⟩
  rw [hn] at HFi
  have Hn := Lib.hid hn
  clear hMv hG hl hN hL hx hy hlm h hn
  go_enter Try.func12, Try.ntmps12
  go_upto_region 1 with (fail)
  rw [← hW]
  clear hW
  go_wp2_with (first
    | (go_at_call 13; (with_reducible refine (HMv.out _ HB.out).mono ?_); rintro e w2 ⟨⟨v, rfl, hv⟩, hb⟩; obtain ⟨al, kl, rfl, -, hrl⟩ := IsL.of_own prow_len (by decide) hv; have HL2 := Lib.hid hrl; have HB2 := Lib.hid (HB.out.trans (hb.mono HB.out.size)); have HX2 := Lib.hid (HX.out.mono hb); have HY2 := Lib.hid (HY.out.mono hb); clear hb hv hrl; rw [Hn.out])
    | (go_at_call 32; (refine (HFi.out al kl w2.heap.size _ (HL2.out.mono ((Below.refl _ _).alloc (Nat.le_refl _) _)) ((Box.new w2 [.func (.func 33) #[] #[], .func (.func 30) #[] #[.pointer (some ⟨w.heap.size, 0, none⟩), .pointer (some ⟨w.heap.size + 1, 0, none⟩)]] _).cell 0) ((Box.new w2 [.func (.func 33) #[] #[], .func (.func 30) #[] #[.pointer (some ⟨w.heap.size, 0, none⟩), .pointer (some ⟨w.heap.size + 1, 0, none⟩)]] _).cell 1) ((HX2.out.mono ((Below.refl _ _).alloc (Nat.le_refl _) _)).cell 0) ((HY2.out.mono ((Below.refl _ _).alloc (Nat.le_refl _) _)).cell 0) (Box.new w2 [.func (.func 33) #[] #[], .func (.func 30) #[] #[.pointer (some ⟨w.heap.size, 0, none⟩), .pointer (some ⟨w.heap.size + 1, 0, none⟩)]] _).lt ((HX2.out.mono ((Below.refl _ _).alloc (Nat.le_refl _) _)).lt) ((HY2.out.mono ((Below.refl _ _).alloc (Nat.le_refl _) _)).lt)).mono ?_); rintro e w3 ⟨rfl, hb⟩; have HB3 := Lib.hid (HB2.out.trans ((((Below.refl _ _).alloc (Nat.le_refl _) _).trans (hb.mono (by simp))).mono HB2.out.size)); clear hb))
  refine bodyPost_ret (v := .tuple #[.string x, .int .i64 y]) (by simp [results, Try.results12, go_sem]) rfl ⟨rfl, HB3.out⟩
end Go.Proofs.Ytkmhicoimgpdlaa
