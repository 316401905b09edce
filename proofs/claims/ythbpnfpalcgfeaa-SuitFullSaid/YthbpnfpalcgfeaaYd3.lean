/-
  Yards: rightPods, Check.
-/
import Derived.Test.YthbpnfpalcgfeaaYd2
import Derived.Test.YthbpnfpalcgfeaaPd4
namespace Go.Proofs.Ythbpnfpalcgfeaa
open Go.RowKit
set_option linter.unusedVariables false
set_option linter.unusedSimpArgs false

def okBd (b : Bd) : Bool := rightP b.p
set_option maxRecDepth 100000 in
set_option maxHeartbeats 4000000 in
theorem rpods_any (a : Option Addr) (ka : Nat) (bs : List Bd) (w : World) (hF : BndL w a bs) (hA : ∀ b ∈ bs, BndIn w b) (hLt : ∀ b ∈ bs, lightP b.p = true) (hl : bs.length ≤ 1000000) :
    Calls Try.prog 46 #[.slice a bs.length ka] w fun e w' => e = .returned (.bool (bs.all okBd)) ∧ Below w.heap.size w w' := by
  obtain ⟨n, hn⟩ : ∃ n, bs.length = n := ⟨_, rfl⟩
  have HC := Lib.hid (fun (m : Bd) (hm : m ∈ bs) (V : World) (hV : Below w.heap.size w V) => srightp_any m.p V ((hA m hm).here.mono hV) (hLt m hm))
  have HN := Lib.hid hn
  obtain ⟨R, hR⟩ : ∃ R, bs.all okBd = R := ⟨_, rfl⟩
  have HR := Lib.hid hR
  have HF := Lib.hid hF
  rw [hn] at hl ⊢
  rw [hR]
  clear hn hR hF hA hLt
  go_enter Try.func46, Try.ntmps46
  go_wp2
  go_loopw [6] (fun vi wr => ∃ k : Nat, k ≤ n ∧ vi = .int .i64 k ∧ (bs.take k).all okBd = true ∧ Below w.heap.size w wr) (fun vi _ => n - (intOf vi).toNat)
  case atStart => exact ⟨0, Nat.zero_le _, rfl, rfl, by (repeat' (first | with_reducible exact Below.refl _ _ | with_reducible assumption | with_reducible refine Below.drew ?_ | with_reducible refine below_drewN' ?_ _ | with_reducible refine Below.alloc ?_ ?_ _ | with_reducible refine Below.setCell ?_ ?_ _ | with_reducible refine below_step (by assumption) ?_ ?_ | omega | (simp; done) | (simp; omega)))⟩
  case round =>
    obtain ⟨k, hk, rfl, hE, hB⟩ := hrel
    have HE := Lib.hid hE
    have HB := Lib.hid hB
    have hbz := hB.size
    by_cases hlt : k < n
    · obtain ⟨m, hm⟩ := mem_at (l := bs) (k := k) (by rw [HN.out]; exact hlt)
      obtain ⟨b, o, rfl, hb, hc⟩ := (HF.out.mono hB) (by rw [HN.out]; omega)
      have hrg : wr.rangeAt b (o + k * 21) (prow m.p) := fun j v hj => by
        have hj20 : j < 20 := (List.getElem?_eq_some_iff.1 hj).1
        rw [hc k m hm j (by omega)]
        show (prow m.p ++ [.string m.on])[j]? = some v
        rw [List.getElem?_append_left hj20]
        exact hj
      have HRg := Lib.hid hrg
      have Hm := Lib.hid hm
      have HCm := Lib.hid (fun V hV => HC.out m (List.mem_of_getElem? hm) V hV)
      obtain ⟨z, hz⟩ : ∃ z, rightP m.p = z := ⟨_, rfl⟩
      have HZ := Lib.hid (show okBd m = z from hz)
      rw [hz] at HCm
      obtain ⟨p, on⟩ := m
      dsimp only at HRg HCm
      obtain ⟨ag, hag⟩ : ∃ ag, (prow p).toArray = ag := ⟨_, rfl⟩
      rw [hag] at HCm
      have HAg := Lib.hid hag
      clear hE hB hc hm hz hrg hag
      cases z with
      | false =>
        obtain rfl : R = false := by rw [← HR.out]; exact all_bad (P := okBd) Hm.out HZ.out
        go_wp2_with (first
          | ((with_reducible refine at_load (ty := 47) ?_); refine load_cells rfl 47 (.tmp 12) rfl b (o + k * 21) rfl (prow p) _ Try.underlying47 rfl (by kernel_rfl) HRg.out ?_; rw [HAg.out])
          | (go_at_call 81; (with_reducible refine (HCm.out _ HB.out).mono ?_); rintro e w3 ⟨rfl, hb3⟩; have HB3 := Lib.hid (HB.out.trans (hb3.mono hbz)); clear hb3))
        go_ret
        exact ⟨rfl, HB3.out⟩
      | true =>
        have HE2 := Lib.hid (all_take1 (P := okBd) Hm.out HZ.out HE.out)
        go_wp2_with (first
          | ((with_reducible refine at_load (ty := 47) ?_); refine load_cells rfl 47 (.tmp 12) rfl b (o + k * 21) rfl (prow p) _ Try.underlying47 rfl (by kernel_rfl) HRg.out ?_; rw [HAg.out])
          | (go_at_call 81; (with_reducible refine (HCm.out _ HB.out).mono ?_); rintro e w3 ⟨rfl, hb3⟩; have HB3 := Lib.hid (HB.out.trans (hb3.mono hbz)); clear hb3))
        go_roundw
        case rel => exact ⟨k + 1, by omega, by go_num, HE2.out, HB3.out⟩
        case measure => simp [intOf]; omega
    · obtain rfl : k = n := by omega
      obtain rfl : R = true := by rw [← HR.out]; exact all_done (P := okBd) HN.out HE.out
      clear hE hB
      go_wp2
      go_ret
      exact ⟨rfl, HB.out⟩
/-- What is wrong of a yard. -/
def checkY (ms : List Mac) (bs : List Bd) : Int :=
  if 200 < ms.length ∨ 400 < bs.length then 7
  else if ¬ (ms.all okM = true ∧ bs.all okBd = true) then 12
  else if twiceN (ms.map Mac.nm) = true ∨ twiceN (bs.map pnm) = true then 15
  else if ¬ bs.all (onB (ms.map Mac.nm)) = true then 16 else 0
set_option maxRecDepth 100000 in
set_option maxHeartbeats 4000000 in
theorem check_any (a : Option Addr) (ka : Nat) (ms : List Mac) (c : Option Addr) (kc : Nat) (bs : List Bd) (w : World) (hF : MacL w a ms) (hG : BndL w c bs) (hA : ∀ m ∈ ms, MacIn w m) (hB : ∀ b ∈ bs, BndIn w b) (hLm : ∀ m ∈ ms, lightM m = true) (hLb : ∀ b ∈ bs, lightP b.p = true) (hl : ms.length ≤ 1000000) (hl2 : bs.length ≤ 1000000) :
    Calls Try.prog 14 #[.slice a ms.length ka, .slice c bs.length kc] w fun e w' => e = .returned (.int .i64 (checkY ms bs)) ∧ Below w.heap.size w w' := by
  have H1 := Lib.hid (fun V (hV : Below w.heap.size w V) => rmacs_any a ka ms V (hF.mono hV) (fun m hm => (hA m hm).mono hV) hLm hl)
  have H2 := Lib.hid (fun V (hV : Below w.heap.size w V) => rpods_any c kc bs V (hG.mono hV) (fun m hm => (hB m hm).mono hV) hLb hl2)
  have H3 := Lib.hid (fun V (hV : Below w.heap.size w V) => mtwice_any a ka ms V (hF.mono hV) hl)
  have H4 := Lib.hid (fun V (hV : Below w.heap.size w V) => ptwice_any c kc bs V (hG.mono hV) hl2)
  have H5 := Lib.hid (fun V (hV : Below w.heap.size w V) => rbind_any a ka ms c kc bs V (hF.mono hV) (hG.mono hV) hl hl2)
  obtain ⟨R, hR⟩ : ∃ R, checkY ms bs = R := ⟨_, rfl⟩
  rw [hR]
  unfold checkY at hR
  obtain ⟨m1, h1⟩ : ∃ b, ms.all okM = b := ⟨_, rfl⟩
  obtain ⟨m2, h2⟩ : ∃ b, bs.all okBd = b := ⟨_, rfl⟩
  obtain ⟨m3, h3⟩ : ∃ b, twiceN (ms.map Mac.nm) = b := ⟨_, rfl⟩
  obtain ⟨m4, h4⟩ : ∃ b, twiceN (bs.map pnm) = b := ⟨_, rfl⟩
  obtain ⟨m5, h5⟩ : ∃ b, bs.all (onB (ms.map Mac.nm)) = b := ⟨_, rfl⟩
  obtain ⟨n, hn⟩ : ∃ n, ms.length = n := ⟨_, rfl⟩
  obtain ⟨q, hq⟩ : ∃ q, bs.length = q := ⟨_, rfl⟩
  rw [h1, h2, h3, h4, h5, hn, hq] at hR
  rw [h1, hn] at H1
  rw [h2, hq] at H2
  rw [h3, hn] at H3
  rw [h4, hq] at H4
  rw [h5, hn, hq] at H5
  rw [hn, hq]
  have HR := Lib.hid hR
  clear h1 h2 h3 h4 h5 hn hq hR hF hG hA hB hLm hLb hl hl2
  have HB := Lib.hid (Below.refl w.heap.size w)
  go_enter Try.func14, Try.ntmps14
  go_wp2_with (first
    | (go_at_call 45; (with_reducible refine (H1.out _ HB.out).mono ?_); rintro e w1 ⟨rfl, hb⟩; have HB1 := Lib.hid (HB.out.trans (hb.mono (Nat.le_refl _))); clear hb)
    | (go_at_call 46; (with_reducible refine (H2.out _ HB1.out).mono ?_); rintro e w2 ⟨rfl, hb⟩; have HB2 := Lib.hid (HB1.out.trans (hb.mono HB1.out.size)); clear hb)
    | (go_at_call 47; (with_reducible refine (H3.out _ HB2.out).mono ?_); rintro e w3 ⟨rfl, hb⟩; have HB3 := Lib.hid (HB2.out.trans (hb.mono HB2.out.size)); clear hb)
    | (go_at_call 48; (with_reducible refine (H4.out _ HB3.out).mono ?_); rintro e w4 ⟨rfl, hb⟩; have HB4 := Lib.hid (HB3.out.trans (hb.mono HB3.out.size)); clear hb)
    | (go_at_call 49; (with_reducible refine (H5.out _ HB4.out).mono ?_); rintro e w5 ⟨rfl, hb⟩; have HB5 := Lib.hid (HB4.out.trans (hb.mono HB4.out.size)); clear hb))
  all_goals
    (go_ret
     refine ⟨?_, by (first | exact HB5.out | exact HB4.out | exact HB3.out | exact HB2.out | exact HB1.out | exact HB.out)⟩
     have hr := HR.out
     clear HR H1 H2 H3 H4 H5
     rw [← hr]
     clear hr
     congr 1
     congr 1
     repeat' split
     all_goals first
       | rfl
       | (exfalso; omega)
       | (exfalso; simp_all; done)
       | (exfalso; simp_all; omega))
end Go.Proofs.Ythbpnfpalcgfeaa
