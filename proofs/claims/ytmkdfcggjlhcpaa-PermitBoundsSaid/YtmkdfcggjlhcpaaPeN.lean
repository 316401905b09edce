/-
  permit.All of two calls in the fixed state; what comes of all fixed calls: known gives back true.
-/
import Derived.Test.YtmkdfcggjlhcpaaPeK
import Derived.Deep.Cut
namespace Go.Proofs.Ytmkdfcggjlhcpaa
open Go.RowKit
set_option linter.unusedVariables false
set_option linter.unusedSimpArgs false

theorem KU.only {B : Nat} {w w' : World} {s : St} {S : List Nat} (h : KU B w s) (ho : Only S w w') (hS : ∀ k ∈ S, k < B) : KU B w' s := ⟨h.own.only ho hS, h.o, h.up⟩
theorem KU.mono {B : Nat} {w w' : World} {s : St} (h : KU B w s) (hb : Below w.heap.size w w') : KU B w' s := ⟨h.own.mono hb, h.o, h.up⟩
set_option maxRecDepth 100000 in
set_option maxHeartbeats 4000000 in
theorem kall_any (q0 q1 q2 B kc : Nat) (w : World) (hI : StIn w (kS q0 q1 q2)) (hB : B < w.heap.size) (h0 : w.rangeAt B 0 [.string ⟨#[117, 112]⟩, .string ⟨#[103]⟩, .int .i64 1]) (h1 : w.rangeAt B 3 [.string ⟨#[117, 112]⟩, .string ⟨#[103]⟩, .int .i64 1]) :
    Calls Try.prog 15 #[.agg #[.slice (some ⟨q0, 0, none⟩) 1 1, .slice (some ⟨q1, 0, none⟩) 1 1, .slice (some ⟨q2, 0, none⟩) 2 2, .int .i64 3, .int .i64 0, .int .i64 0, .slice none 0 0, .int .i64 0, .int .i64 0], .slice (some ⟨B, 0, none⟩) 2 kc] w fun e w' => e = .returned (.int .i64 1) ∧ Below w.heap.size w w' := by
  have H0 := Lib.hid h0
  have H1 := Lib.hid h1
  have HU := Lib.hid (fun V (hV : Below w.heap.size w V) => show Calls Try.prog 7 #[.agg #[.slice (some ⟨q0, 0, none⟩) 1 1, .slice (some ⟨q1, 0, none⟩) 1 1, .slice (some ⟨q2, 0, none⟩) 2 2, .int .i64 3, .int .i64 0, .int .i64 0, .slice none 0 0, .int .i64 0, .int .i64 0], .agg #[.string ⟨#[117, 112]⟩, .string ⟨#[103]⟩, .int .i64 1]] V fun e w' => (∃ s, e = .returned (.tuple #[.agg #[.slice s.ga s.C.length s.gk, .slice s.ta s.T.length s.tk, .slice s.ia s.L.length s.ik, .int .i64 s.c0, .int .i64 s.c1, .int .i64 s.c2, .slice s.ra s.R.length s.rk, .int .i64 s.un, .int .i64 s.sh], .int .i64 0]) ∧ KU V.heap.size w' s) ∧ Below V.heap.size V w' from kw_up (hI.mono hV))
  have HU2 := Lib.hid (fun (C : Nat) (s : St) V (h : KU C V s) => show Calls Try.prog 7 #[.agg #[.slice s.ga s.C.length s.gk, .slice s.ta s.T.length s.tk, .slice s.ia s.L.length s.ik, .int .i64 s.c0, .int .i64 s.c1, .int .i64 s.c2, .slice s.ra s.R.length s.rk, .int .i64 s.un, .int .i64 s.sh], .agg #[.string ⟨#[117, 112]⟩, .string ⟨#[103]⟩, .int .i64 1]] V fun e w' => e = .returned (.tuple #[.agg #[.slice none 0 0, .slice none 0 0, .slice none 0 0, .int .i64 0, .int .i64 0, .int .i64 0, .slice none 0 0, .int .i64 0, .int .i64 0], .int .i64 21]) ∧ Below V.heap.size V w' from kw_up2 h)
  clear hI h0 h1
  obtain ⟨W, hW⟩ : ∃ W, W = w.alloc (.cells #[.slice (some ⟨q0, 0, none⟩) 1 1, .slice (some ⟨q1, 0, none⟩) 1 1, .slice (some ⟨q2, 0, none⟩) 2 2, .int .i64 3, .int .i64 0, .int .i64 0, .slice none 0 0, .int .i64 0, .int .i64 0] 33) := ⟨_, rfl⟩
  have HX := Lib.hid (show Blk W w.heap.size 33 [.slice (some ⟨q0, 0, none⟩) 1 1, .slice (some ⟨q1, 0, none⟩) 1 1, .slice (some ⟨q2, 0, none⟩) 2 2, .int .i64 3, .int .i64 0, .int .i64 0, .slice none 0 0, .int .i64 0, .int .i64 0] by rw [hW]; exact Blk.new w _ _)
  have HW := Lib.hid (show Below w.heap.size w W by rw [hW]; exact (Below.refl _ _).alloc (Nat.le_refl _) _)
  go_enter Try.func15, Try.ntmps15
  go_upto_region 1 with (fail)
  rw [← hW]
  clear hW
  go_wp2
  go_loopw [11] (fun i wr => ∃ k : Nat, i = .int .i64 k ∧ Below w.heap.size w wr ∧ w.heap.size < wr.heap.size ∧ ((k = 0 ∧ Blk wr w.heap.size 33 [.slice (some ⟨q0, 0, none⟩) 1 1, .slice (some ⟨q1, 0, none⟩) 1 1, .slice (some ⟨q2, 0, none⟩) 2 2, .int .i64 3, .int .i64 0, .int .i64 0, .slice none 0 0, .int .i64 0, .int .i64 0]) ∨ (k = 1 ∧ ∃ C s, w.heap.size < C ∧ KU C wr s ∧ Blk wr w.heap.size 33 [.slice s.ga s.C.length s.gk, .slice s.ta s.T.length s.tk, .slice s.ia s.L.length s.ik, .int .i64 s.c0, .int .i64 s.c1, .int .i64 s.c2, .slice s.ra s.R.length s.rk, .int .i64 s.un, .int .i64 s.sh]))) (fun i _ => 2 - (intOf i).toNat)
  case atStart => exact ⟨0, rfl, HW.out, HX.out.lt, .inl ⟨rfl, HX.out⟩⟩
  case round =>
    obtain ⟨k, rfl, hbr, hlt, ⟨rfl, hx⟩ | ⟨rfl, C, s, hC, hu, hx⟩⟩ := hrel
    · have HB := Lib.hid hbr
      have HY := Lib.hid hx
      have hBr : B < wr.heap.size := Nat.lt_of_lt_of_le hB hbr.size
      clear hbr hx
      go_wp2_with (first
        | ((with_reducible refine at_load (ty := 39) ?_); refine load_cells rfl 39 (.tmp 14) rfl B 0 rfl [.string ⟨#[117, 112]⟩, .string ⟨#[103]⟩, .int .i64 1] _ Try.underlying39 rfl (by kernel_rfl) (rangeAt_mono H0.out hB HB.out) ?_)
        | ((with_reducible refine at_store (ty := 39) ?_); refine store_new rfl 39 (.tmp 6) (.tmp 15) rfl _ _ rfl rfl (by kernel_rfl) rfl (by rfl) rfl ?_)
        | ((with_reducible refine at_load (ty := 33) ?_); refine load_cells rfl 33 (.tmp 2) rfl w.heap.size 0 rfl [.slice (some ⟨q0, 0, none⟩) 1 1, .slice (some ⟨q1, 0, none⟩) 1 1, .slice (some ⟨q2, 0, none⟩) 2 2, .int .i64 3, .int .i64 0, .int .i64 0, .slice none 0 0, .int .i64 0, .int .i64 0] _ Try.underlying33 rfl (by kernel_rfl) ((HY.out.alloc _).range 0 _ rfl) ?_)
        | ((with_reducible refine at_load (ty := 39) ?_); refine load_cells rfl 39 (.tmp 6) rfl wr.heap.size 0 rfl [.string ⟨#[117, 112]⟩, .string ⟨#[103]⟩, .int .i64 1] _ Try.underlying39 rfl (by kernel_rfl) ((Blk.new wr 39 [.string ⟨#[117, 112]⟩, .string ⟨#[103]⟩, .int .i64 1]).range 0 _ rfl) ?_)
        | (go_at_call 7; (with_reducible refine (HU.out _ (HB.out.alloc HB.out.size _)).mono ?_); rintro e w2 ⟨⟨s, rfl, hu⟩, hb⟩; have HB2 := Lib.hid ((HB.out.alloc HB.out.size _).trans (hb.mono (HB.out.alloc HB.out.size _).size)); have HY2 := Lib.hid ((HY.out.alloc _).below hb); have HU3 := Lib.hid hu; have hz2 := hb.size; (try simp at hz2); have hlt2 : w.heap.size < w2.heap.size := (by omega); clear hu hb)
        | ((with_reducible refine at_store (ty := 33) ?_); refine store_new rfl 33 (.tmp 7) (.tmp 20) rfl _ _ rfl rfl (by kernel_rfl) rfl (by rfl) rfl ?_)
        | ((with_reducible refine at_load (ty := 33) ?_); refine load_cells rfl 33 (.tmp 7) rfl w2.heap.size 0 rfl [.slice s.ga s.C.length s.gk, .slice s.ta s.T.length s.tk, .slice s.ia s.L.length s.ik, .int .i64 s.c0, .int .i64 s.c1, .int .i64 s.c2, .slice s.ra s.R.length s.rk, .int .i64 s.un, .int .i64 s.sh] _ Try.underlying33 rfl (by kernel_rfl) ((Blk.new w2 33 [.slice s.ga s.C.length s.gk, .slice s.ta s.T.length s.tk, .slice s.ia s.L.length s.ik, .int .i64 s.c0, .int .i64 s.c1, .int .i64 s.c2, .slice s.ra s.R.length s.rk, .int .i64 s.un, .int .i64 s.sh]).range 0 _ rfl) ?_)
        | ((with_reducible refine at_store (ty := 33) ?_); refine wpList_store_mid rfl 33 (.tmp 2) (.tmp 25) rfl w.heap.size 0 _ rfl rfl ((HY2.out.alloc _).there 0 9 (Nat.le_of_ble_eq_true rfl)) (by kernel_rfl) (by rw [← Array.all_toList]; rfl) ?_))
      go_roundw
      case rel =>
        have hbn : Below w2.heap.size w2 (w2.alloc (.cells #[.slice s.ga s.C.length s.gk, .slice s.ta s.T.length s.tk, .slice s.ia s.L.length s.ik, .int .i64 s.c0, .int .i64 s.c1, .int .i64 s.c2, .slice s.ra s.R.length s.rk, .int .i64 s.un, .int .i64 s.sh] 33)) := (Below.refl _ _).alloc (Nat.le_refl _) _
        have ho : Only [w.heap.size] (w2.alloc (.cells #[.slice s.ga s.C.length s.gk, .slice s.ta s.T.length s.tk, .slice s.ia s.L.length s.ik, .int .i64 s.c0, .int .i64 s.c1, .int .i64 s.c2, .slice s.ra s.R.length s.rk, .int .i64 s.un, .int .i64 s.sh] 33)) ((w2.alloc (.cells #[.slice s.ga s.C.length s.gk, .slice s.ta s.T.length s.tk, .slice s.ia s.L.length s.ik, .int .i64 s.c0, .int .i64 s.c1, .int .i64 s.c2, .slice s.ra s.R.length s.rk, .int .i64 s.un, .int .i64 s.sh] 33)).setCells w.heap.size 0 [.slice s.ga s.C.length s.gk, .slice s.ta s.T.length s.tk, .slice s.ia s.L.length s.ik, .int .i64 s.c0, .int .i64 s.c1, .int .i64 s.c2, .slice s.ra s.R.length s.rk, .int .i64 s.un, .int .i64 s.sh]) := Only.setCells (.inl (by simp)) (Only.refl _ _) _ _
        have hsz := ho.size
        refine ⟨1, by go_num, ho.below (HB2.out.alloc HB2.out.size _) (HB2.out.alloc HB2.out.size _).size (by simp), ?_, .inr ⟨rfl, _, s, ?_, (HU3.out.mono hbn).only ho ?_, (HY2.out.alloc _).setCells 0 _⟩⟩
        · have := hbn.size
          exact Nat.lt_of_lt_of_le (Nat.lt_of_lt_of_le hlt2 this) hsz
        · simp
          omega
        · simp
          omega
      case measure => simp [intOf]
    · have HB := Lib.hid hbr
      have HY := Lib.hid hx
      have HK := Lib.hid hu
      have hBr : B < wr.heap.size := Nat.lt_of_lt_of_le hB hbr.size
      clear hbr hx hu
      go_wp2_with (first
        | ((with_reducible refine at_load (ty := 39) ?_); refine load_cells rfl 39 (.tmp 14) rfl B 3 rfl [.string ⟨#[117, 112]⟩, .string ⟨#[103]⟩, .int .i64 1] _ Try.underlying39 rfl (by kernel_rfl) (rangeAt_mono H1.out hB HB.out) ?_)
        | ((with_reducible refine at_store (ty := 39) ?_); refine store_new rfl 39 (.tmp 6) (.tmp 15) rfl _ _ rfl rfl (by kernel_rfl) rfl (by rfl) rfl ?_)
        | ((with_reducible refine at_load (ty := 33) ?_); refine load_cells rfl 33 (.tmp 2) rfl w.heap.size 0 rfl [.slice s.ga s.C.length s.gk, .slice s.ta s.T.length s.tk, .slice s.ia s.L.length s.ik, .int .i64 s.c0, .int .i64 s.c1, .int .i64 s.c2, .slice s.ra s.R.length s.rk, .int .i64 s.un, .int .i64 s.sh] _ Try.underlying33 rfl (by kernel_rfl) ((HY.out.alloc _).range 0 _ rfl) ?_)
        | ((with_reducible refine at_load (ty := 39) ?_); refine load_cells rfl 39 (.tmp 6) rfl wr.heap.size 0 rfl [.string ⟨#[117, 112]⟩, .string ⟨#[103]⟩, .int .i64 1] _ Try.underlying39 rfl (by kernel_rfl) ((Blk.new wr 39 [.string ⟨#[117, 112]⟩, .string ⟨#[103]⟩, .int .i64 1]).range 0 _ rfl) ?_)
        | (go_at_call 7; (with_reducible refine (HU2.out C s _ (HK.out.mono ((Below.refl _ _).alloc (Nat.le_refl _) _))).mono ?_); rintro e w2 ⟨rfl, hb⟩; have HB2 := Lib.hid ((HB.out.alloc HB.out.size _).trans (hb.mono (HB.out.alloc HB.out.size _).size)); clear hb)
        | ((with_reducible refine at_store (ty := 33) ?_); refine store_new rfl 33 (.tmp 7) (.tmp 20) rfl _ _ rfl rfl (by kernel_rfl) rfl (by rfl) rfl ?_))
      go_ret
      exact ⟨rfl, HB2.out.alloc HB2.out.size _⟩
end Go.Proofs.Ytmkdfcggjlhcpaa
