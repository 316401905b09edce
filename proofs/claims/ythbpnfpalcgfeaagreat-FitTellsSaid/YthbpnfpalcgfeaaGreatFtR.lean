/-
  Fit: which yards and pods a law speaks of.
-/
import Derived.Test.YthbpnfpalcgfeaaGreatFtK
import Derived.Test.YthbpnfpalcgfeaaGreatNJ
namespace Go.Proofs.YthbpnfpalcgfeaaGreat
open Go.RowKit
set_option linter.unusedVariables false
set_option linter.unusedSimpArgs false

def rightF (ms : List Mac) (bs : List Bd) (p : Pd) : Bool := lightY ms bs && (lightP p && (decide (checkY ms bs = 0) && rightP p))
theorem rightF_iff {ms : List Mac} {bs : List Bd} {p : Pd} (h : rightF ms bs p = true) : lightY ms bs = true ∧ lightP p = true ∧ checkY ms bs = 0 ∧ rightP p = true := by
  unfold rightF at h
  simp only [Bool.and_eq_true, decide_eq_true_eq] at h
  exact h
theorem ya_of {w : World} {a c : Option Addr} {ms : List Mac} {bs : List Bd} (hF : MacL w a ms) (hG : BndL w c bs) (hA : ∀ m ∈ ms, MacIn w m) (hB : ∀ b ∈ bs, BndIn w b) (h : lightY ms bs = true) : YA w a ms c bs := by
  obtain ⟨h1, h2, h3, h4⟩ := lightY_iff h
  exact ⟨hF, hA, hG, hB, by omega, by omega, h3, fun b hb => (h4 b hb).1, fun b hb => (h4 b hb).2⟩
set_option maxRecDepth 100000 in
set_option maxHeartbeats 4000000 in
theorem fright_any (a c : Option Addr) (ka kc : Nat) (ms : List Mac) (bs : List Bd) (p : Pd) (w : World) (hF : MacL w a ms) (hG : BndL w c bs) (hA : ∀ m ∈ ms, MacIn w m) (hB : ∀ b ∈ bs, BndIn w b) (hP : PodAt w p) (hl : ms.length ≤ maxLen) (hl2 : bs.length ≤ maxLen) :
    Calls Tryz.prog 4 #[.slice a ms.length ka, .slice c bs.length kc, .agg (prow p).toArray] w fun e w' => e = .returned (.bool (rightF ms bs p)) ∧ Below w.heap.size w w' := by
  have hLi := fun V (hV : Below w.heap.size w V) => lighty_any a ka ms c kc bs V (hF.mono hV) (hG.mono hV) (fun m hm => (hA m hm).mono hV) (fun b hb => (hB b hb).mono hV) hl hl2
  have hLp := fun V (hV : Below w.heap.size w V) => lightp_any p V (hP.mono hV)
  have hCk := fun (h : lightY ms bs = true) V (hV : Below w.heap.size w V) => rcheck_any a ka ms c kc bs V (hF.mono hV) (hG.mono hV) (fun m hm => (hA m hm).mono hV) (fun b hb => (hB b hb).mono hV) (lightY_iff h).2.2.1 (fun b hb => ((lightY_iff h).2.2.2 b hb).1) (by have := (lightY_iff h).1; omega) (by have := (lightY_iff h).2.1; omega)
  have hRt := fun (h : lightP p = true) V (hV : Below w.heap.size w V) => refrightp_any p V (hP.mono hV) h
  obtain ⟨R, hR⟩ : ∃ R, rightF ms bs p = R := ⟨_, rfl⟩
  rw [hR]
  unfold rightF at hR
  obtain ⟨b1, h1⟩ : ∃ b, lightY ms bs = b := ⟨_, rfl⟩
  obtain ⟨b2, h2⟩ : ∃ b, lightP p = b := ⟨_, rfl⟩
  obtain ⟨E, h3⟩ : ∃ b, checkY ms bs = b := ⟨_, rfl⟩
  obtain ⟨b4, h4⟩ : ∃ b, rightP p = b := ⟨_, rfl⟩
  rw [h1, h2, h3, h4] at hR
  rw [h1] at hLi
  rw [h2] at hLp
  simp only [h1, h3] at hCk
  simp only [h2, h4] at hRt
  obtain ⟨W, hW⟩ : ∃ W, W = (w.alloc (.cells #[.string (p).nm, .int .i64 (p).n0, .int .i64 (p).n1, .int .i64 (p).n2, .int .i64 (p).n3, .int .i64 (p).n4, .slice (p).la (p).labs.length (p).lk, .slice (p).sa (p).sels.length (p).sk, .slice (p).ta (p).trms.length (p).tk, .slice (p).ba (p).bers.length (p).bk, .slice (p).pa (p).prts.length (p).pk, .slice (p).aa (p).aprs.length (p).ak, .bool (p).wd, .slice (p).da (p).spds.length (p).dk, .int .i64 (p).sw, .int .i64 (p).rk, .string (p).ow, .bool (p).dm, .bool (p).pn, .bool (p).lc] 31)) := ⟨_, rfl⟩
  have hX : Box w.heap.size (prow p) W := by rw [hW]; exact (Box.new w (prow p) 31)
  have hbw : Below w.heap.size w W := by rw [hW]; (repeat' (first | with_reducible exact Below.refl _ _ | with_reducible assumption | with_reducible refine Below.drew ?_ | with_reducible refine below_drewN' ?_ _ | with_reducible refine Below.alloc ?_ ?_ _ | with_reducible refine Below.setCell ?_ ?_ _ | with_reducible refine below_step (by assumption) ?_ ?_ | omega | (simp; done) | (simp; omega)))
  have HB := Lib.hid hbw
  have HX := Lib.hid hX
  have HRp := Lib.hid (fun V (h : Box w.heap.size (prow p) V) => show V.rangeAt w.heap.size 0 [.string (p).nm, .int .i64 (p).n0, .int .i64 (p).n1, .int .i64 (p).n2, .int .i64 (p).n3, .int .i64 (p).n4, .slice (p).la (p).labs.length (p).lk, .slice (p).sa (p).sels.length (p).sk, .slice (p).ta (p).trms.length (p).tk, .slice (p).ba (p).bers.length (p).bk, .slice (p).pa (p).prts.length (p).pk, .slice (p).aa (p).aprs.length (p).ak, .bool (p).wd, .slice (p).da (p).spds.length (p).dk, .int .i64 (p).sw, .int .i64 (p).rk, .string (p).ow, .bool (p).dm, .bool (p).pn, .bool (p).lc] from h.range)
  generalize ms.length = n at hLi hCk ⊢
  generalize bs.length = N at hLi hCk ⊢
  have HLi := Lib.hid hLi
  have HLp := Lib.hid (show ∀ V, Below w.heap.size w V → Calls Tryz.prog 16 #[.agg #[.string (p).nm, .int .i64 (p).n0, .int .i64 (p).n1, .int .i64 (p).n2, .int .i64 (p).n3, .int .i64 (p).n4, .slice (p).la (p).labs.length (p).lk, .slice (p).sa (p).sels.length (p).sk, .slice (p).ta (p).trms.length (p).tk, .slice (p).ba (p).bers.length (p).bk, .slice (p).pa (p).prts.length (p).pk, .slice (p).aa (p).aprs.length (p).ak, .bool (p).wd, .slice (p).da (p).spds.length (p).dk, .int .i64 (p).sw, .int .i64 (p).rk, .string (p).ow, .bool (p).dm, .bool (p).pn, .bool (p).lc]] V fun e w' => e = .returned (.bool b2) ∧ Below V.heap.size V w' from hLp)
  show Calls Tryz.prog 4 #[.slice a n ka, .slice c N kc, .agg #[.string (p).nm, .int .i64 (p).n0, .int .i64 (p).n1, .int .i64 (p).n2, .int .i64 (p).n3, .int .i64 (p).n4, .slice (p).la (p).labs.length (p).lk, .slice (p).sa (p).sels.length (p).sk, .slice (p).ta (p).trms.length (p).tk, .slice (p).ba (p).bers.length (p).bk, .slice (p).pa (p).prts.length (p).pk, .slice (p).aa (p).aprs.length (p).ak, .bool (p).wd, .slice (p).da (p).spds.length (p).dk, .int .i64 (p).sw, .int .i64 (p).rk, .string (p).ow, .bool (p).dm, .bool (p).pn, .bool (p).lc]] w _
  clear hLi hLp hX hbw h1 h2 h3 h4 hF hG hA hB hP hl hl2
  cases b1 with
  | false =>
    obtain rfl : R = false := by rw [← hR]; rfl
    clear hR hCk hRt
    go_enter Tryz.func4, Tryz.ntmps4
    go_upto_region 1 with (fail)
    rw [← hW]
    clear hW
    go_wp2_with (first
      | (go_at_call 15; (with_reducible refine (HLi.out _ HB.out).mono ?_); rintro e w1 ⟨rfl, hb⟩; have HB1 := Lib.hid (HB.out.trans (hb.mono HB.out.size)); have HX1 := Lib.hid (HX.out.mono hb); clear hb)
        | ((with_reducible refine at_load (ty := 31) ?_); refine load_cells rfl 31 (.tmp 5) rfl w.heap.size 0 rfl [.string (p).nm, .int .i64 (p).n0, .int .i64 (p).n1, .int .i64 (p).n2, .int .i64 (p).n3, .int .i64 (p).n4, .slice (p).la (p).labs.length (p).lk, .slice (p).sa (p).sels.length (p).sk, .slice (p).ta (p).trms.length (p).tk, .slice (p).ba (p).bers.length (p).bk, .slice (p).pa (p).prts.length (p).pk, .slice (p).aa (p).aprs.length (p).ak, .bool (p).wd, .slice (p).da (p).spds.length (p).dk, .int .i64 (p).sw, .int .i64 (p).rk, .string (p).ow, .bool (p).dm, .bool (p).pn, .bool (p).lc] _ Tryz.underlying31 rfl (by kernel_rfl) (by first | exact HRp.out _ HX3.out | exact HRp.out _ HX1.out) ?_)
        | (go_at_call 16; (with_reducible refine (HLp.out _ HB1.out).mono ?_); rintro e w2 ⟨rfl, hb⟩; have HB2 := Lib.hid (HB1.out.trans (hb.mono HB1.out.size)); have HX2 := Lib.hid (HX1.out.mono hb); clear hb)
        | (go_at_call 17; (with_reducible refine (HCk.out _ HB2.out).mono ?_); rintro e w3 ⟨rfl, hb⟩; have HB3 := Lib.hid (HB2.out.trans (hb.mono HB2.out.size)); have HX3 := Lib.hid (HX2.out.mono hb); clear hb)
        | (go_at_call 18; (with_reducible refine (HRt.out _ HB3.out).mono ?_); rintro e w4 ⟨rfl, hb⟩; have HB4 := Lib.hid (HB3.out.trans (hb.mono HB3.out.size)); clear hb))
    go_ret
    exact ⟨rfl, by first | exact HB4.out | exact HB3.out | exact HB2.out | exact HB1.out⟩
  | true =>
    cases b2 with
    | false =>
      obtain rfl : R = false := by rw [← hR]; rfl
      clear hR hCk hRt
      go_enter Tryz.func4, Tryz.ntmps4
      go_upto_region 1 with (fail)
      rw [← hW]
      clear hW
      go_wp2_with (first
        | (go_at_call 15; (with_reducible refine (HLi.out _ HB.out).mono ?_); rintro e w1 ⟨rfl, hb⟩; have HB1 := Lib.hid (HB.out.trans (hb.mono HB.out.size)); have HX1 := Lib.hid (HX.out.mono hb); clear hb)
          | ((with_reducible refine at_load (ty := 31) ?_); refine load_cells rfl 31 (.tmp 5) rfl w.heap.size 0 rfl [.string (p).nm, .int .i64 (p).n0, .int .i64 (p).n1, .int .i64 (p).n2, .int .i64 (p).n3, .int .i64 (p).n4, .slice (p).la (p).labs.length (p).lk, .slice (p).sa (p).sels.length (p).sk, .slice (p).ta (p).trms.length (p).tk, .slice (p).ba (p).bers.length (p).bk, .slice (p).pa (p).prts.length (p).pk, .slice (p).aa (p).aprs.length (p).ak, .bool (p).wd, .slice (p).da (p).spds.length (p).dk, .int .i64 (p).sw, .int .i64 (p).rk, .string (p).ow, .bool (p).dm, .bool (p).pn, .bool (p).lc] _ Tryz.underlying31 rfl (by kernel_rfl) (by first | exact HRp.out _ HX3.out | exact HRp.out _ HX1.out) ?_)
          | (go_at_call 16; (with_reducible refine (HLp.out _ HB1.out).mono ?_); rintro e w2 ⟨rfl, hb⟩; have HB2 := Lib.hid (HB1.out.trans (hb.mono HB1.out.size)); have HX2 := Lib.hid (HX1.out.mono hb); clear hb)
          | (go_at_call 17; (with_reducible refine (HCk.out _ HB2.out).mono ?_); rintro e w3 ⟨rfl, hb⟩; have HB3 := Lib.hid (HB2.out.trans (hb.mono HB2.out.size)); have HX3 := Lib.hid (HX2.out.mono hb); clear hb)
          | (go_at_call 18; (with_reducible refine (HRt.out _ HB3.out).mono ?_); rintro e w4 ⟨rfl, hb⟩; have HB4 := Lib.hid (HB3.out.trans (hb.mono HB3.out.size)); clear hb))
      go_ret
      exact ⟨rfl, by first | exact HB4.out | exact HB3.out | exact HB2.out | exact HB1.out⟩
    | true =>
      have HCk := Lib.hid (hCk rfl)
      have HRt := Lib.hid (show ∀ V, Below w.heap.size w V → Calls Tryz.prog 18 #[.agg #[.string (p).nm, .int .i64 (p).n0, .int .i64 (p).n1, .int .i64 (p).n2, .int .i64 (p).n3, .int .i64 (p).n4, .slice (p).la (p).labs.length (p).lk, .slice (p).sa (p).sels.length (p).sk, .slice (p).ta (p).trms.length (p).tk, .slice (p).ba (p).bers.length (p).bk, .slice (p).pa (p).prts.length (p).pk, .slice (p).aa (p).aprs.length (p).ak, .bool (p).wd, .slice (p).da (p).spds.length (p).dk, .int .i64 (p).sw, .int .i64 (p).rk, .string (p).ow, .bool (p).dm, .bool (p).pn, .bool (p).lc]] V fun e w' => e = .returned (.bool b4) ∧ Below V.heap.size V w' from hRt rfl)
      clear hCk hRt
      by_cases he : E = 0
      · subst he
        obtain rfl : R = b4 := by rw [← hR]; rfl
        clear hR
        go_enter Tryz.func4, Tryz.ntmps4
        go_upto_region 1 with (fail)
        rw [← hW]
        clear hW
        go_wp2_with (first
          | (go_at_call 15; (with_reducible refine (HLi.out _ HB.out).mono ?_); rintro e w1 ⟨rfl, hb⟩; have HB1 := Lib.hid (HB.out.trans (hb.mono HB.out.size)); have HX1 := Lib.hid (HX.out.mono hb); clear hb)
            | ((with_reducible refine at_load (ty := 31) ?_); refine load_cells rfl 31 (.tmp 5) rfl w.heap.size 0 rfl [.string (p).nm, .int .i64 (p).n0, .int .i64 (p).n1, .int .i64 (p).n2, .int .i64 (p).n3, .int .i64 (p).n4, .slice (p).la (p).labs.length (p).lk, .slice (p).sa (p).sels.length (p).sk, .slice (p).ta (p).trms.length (p).tk, .slice (p).ba (p).bers.length (p).bk, .slice (p).pa (p).prts.length (p).pk, .slice (p).aa (p).aprs.length (p).ak, .bool (p).wd, .slice (p).da (p).spds.length (p).dk, .int .i64 (p).sw, .int .i64 (p).rk, .string (p).ow, .bool (p).dm, .bool (p).pn, .bool (p).lc] _ Tryz.underlying31 rfl (by kernel_rfl) (by first | exact HRp.out _ HX3.out | exact HRp.out _ HX1.out) ?_)
            | (go_at_call 16; (with_reducible refine (HLp.out _ HB1.out).mono ?_); rintro e w2 ⟨rfl, hb⟩; have HB2 := Lib.hid (HB1.out.trans (hb.mono HB1.out.size)); have HX2 := Lib.hid (HX1.out.mono hb); clear hb)
            | (go_at_call 17; (with_reducible refine (HCk.out _ HB2.out).mono ?_); rintro e w3 ⟨rfl, hb⟩; have HB3 := Lib.hid (HB2.out.trans (hb.mono HB2.out.size)); have HX3 := Lib.hid (HX2.out.mono hb); clear hb)
            | (go_at_call 18; (with_reducible refine (HRt.out _ HB3.out).mono ?_); rintro e w4 ⟨rfl, hb⟩; have HB4 := Lib.hid (HB3.out.trans (hb.mono HB3.out.size)); clear hb))
        go_ret
        exact ⟨rfl, by first | exact HB4.out | exact HB3.out | exact HB2.out | exact HB1.out⟩
      · have q0 : (E == 0) = false := by simpa using he
        obtain rfl : R = false := by rw [← hR, decide_eq_false he]; rfl
        clear hR he
        go_enter Tryz.func4, Tryz.ntmps4
        go_upto_region 1 with (fail)
        rw [← hW]
        clear hW
        go_wp2_with (first
          | (go_at_call 15; (with_reducible refine (HLi.out _ HB.out).mono ?_); rintro e w1 ⟨rfl, hb⟩; have HB1 := Lib.hid (HB.out.trans (hb.mono HB.out.size)); have HX1 := Lib.hid (HX.out.mono hb); clear hb)
            | ((with_reducible refine at_load (ty := 31) ?_); refine load_cells rfl 31 (.tmp 5) rfl w.heap.size 0 rfl [.string (p).nm, .int .i64 (p).n0, .int .i64 (p).n1, .int .i64 (p).n2, .int .i64 (p).n3, .int .i64 (p).n4, .slice (p).la (p).labs.length (p).lk, .slice (p).sa (p).sels.length (p).sk, .slice (p).ta (p).trms.length (p).tk, .slice (p).ba (p).bers.length (p).bk, .slice (p).pa (p).prts.length (p).pk, .slice (p).aa (p).aprs.length (p).ak, .bool (p).wd, .slice (p).da (p).spds.length (p).dk, .int .i64 (p).sw, .int .i64 (p).rk, .string (p).ow, .bool (p).dm, .bool (p).pn, .bool (p).lc] _ Tryz.underlying31 rfl (by kernel_rfl) (by first | exact HRp.out _ HX3.out | exact HRp.out _ HX1.out) ?_)
            | (go_at_call 16; (with_reducible refine (HLp.out _ HB1.out).mono ?_); rintro e w2 ⟨rfl, hb⟩; have HB2 := Lib.hid (HB1.out.trans (hb.mono HB1.out.size)); have HX2 := Lib.hid (HX1.out.mono hb); clear hb)
            | (go_at_call 17; (with_reducible refine (HCk.out _ HB2.out).mono ?_); rintro e w3 ⟨rfl, hb⟩; have HB3 := Lib.hid (HB2.out.trans (hb.mono HB2.out.size)); have HX3 := Lib.hid (HX2.out.mono hb); clear hb)
            | (go_at_call 18; (with_reducible refine (HRt.out _ HB3.out).mono ?_); rintro e w4 ⟨rfl, hb⟩; have HB4 := Lib.hid (HB3.out.trans (hb.mono HB3.out.size)); clear hb))
        go_ret
        exact ⟨rfl, by first | exact HB4.out | exact HB3.out | exact HB2.out | exact HB1.out⟩
/-- What a law over a yard and a pod has: the pod in a box. -/
structure SF (w : World) (a : Option Addr) (ms : List Mac) (c : Option Addr) (bs : List Bd) (p : Pd) (V : World) : Prop where
  ya : YA V a ms c bs
  bx : Box w.heap.size (prow p) V
  pa : PodAt V p
  bl : Below w.heap.size w V
theorem SF.mono {w V V' : World} {a c : Option Addr} {ms : List Mac} {bs : List Bd} {p : Pd} (h : SF w a ms c bs p V) (hb : Below V.heap.size V V') : SF w a ms c bs p V' := ⟨h.ya.mono hb, h.bx.mono hb, h.pa.mono hb, h.bl.trans (hb.mono h.bl.size)⟩
theorem SF.rng {w V : World} {a c : Option Addr} {ms : List Mac} {bs : List Bd} {p : Pd} (h : SF w a ms c bs p V) : V.rangeAt w.heap.size 0 [.string (p).nm, .int .i64 (p).n0, .int .i64 (p).n1, .int .i64 (p).n2, .int .i64 (p).n3, .int .i64 (p).n4, .slice (p).la (p).labs.length (p).lk, .slice (p).sa (p).sels.length (p).sk, .slice (p).ta (p).trms.length (p).tk, .slice (p).ba (p).bers.length (p).bk, .slice (p).pa (p).prts.length (p).pk, .slice (p).aa (p).aprs.length (p).ak, .bool (p).wd, .slice (p).da (p).spds.length (p).dk, .int .i64 (p).sw, .int .i64 (p).rk, .string (p).ow, .bool (p).dm, .bool (p).pn, .bool (p).lc] := h.bx.range
end Go.Proofs.YthbpnfpalcgfeaaGreat
