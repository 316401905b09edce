/-
  The document's Suits; zone, together.
-/
import Derived.Test.YthbpnfpalcgfeaaGreatFrB
import Derived.Test.YthbpnfpalcgfeaaGreatFt5
import Derived.Test.YthbpnfpalcgfeaaGreatNJ
namespace Go.Proofs.YthbpnfpalcgfeaaGreat
open Go.RowKit
set_option linter.unusedVariables false
set_option linter.unusedSimpArgs false

set_option maxRecDepth 100000 in
set_option maxHeartbeats 4000000 in
theorem refsuits_any (m : Mac) (c : Option Addr) (kc : Nat) (bs : List Bd) (p : Pd) (w : World) (hM : MacAt w m) (hG : BndL w c bs) (hB : ∀ b ∈ bs, PodAt w b.p) (hP : PodAt w p) (hS : RS m bs p) (hl : bs.length ≤ 1000) :
    Calls Tryz.prog 24 #[.agg (mrow m).toArray, .slice c bs.length kc, .agg (prow p).toArray] w fun e w' => e = .returned (.int .i64 (suitS m bs p)) ∧ Below w.heap.size w w' := by
  obtain ⟨N, hN⟩ : ∃ N, bs.length = N := ⟨_, rfl⟩
  have HPl := Lib.hid (show ∀ V, Below w.heap.size w V → Calls Tryz.prog 46 #[.agg #[.string (m).nm, .string (m).gp, .int .i64 (m).r0, .int .i64 (m).r1, .int .i64 (m).r2, .int .i64 (m).r3, .int .i64 (m).r4, .slice (m).la (m).labs.length (m).lk, .slice (m).ta (m).tnts.length (m).tk, .bool (m).rd], .agg #[.string (p).nm, .int .i64 (p).n0, .int .i64 (p).n1, .int .i64 (p).n2, .int .i64 (p).n3, .int .i64 (p).n4, .slice (p).la (p).labs.length (p).lk, .slice (p).sa (p).sels.length (p).sk, .slice (p).ta (p).trms.length (p).tk, .slice (p).ba (p).bers.length (p).bk, .slice (p).pa (p).prts.length (p).pk, .slice (p).aa (p).aprs.length (p).ak, .bool (p).wd, .slice (p).da (p).spds.length (p).dk, .int .i64 (p).sw, .int .i64 (p).rk, .string (p).ow, .bool (p).dm, .bool (p).pn, .bool (p).lc]] V fun e w' => e = .returned (.int .i64 (placeS m p)) ∧ Below V.heap.size V w' from fun V hV => refplaces_any m p V (hM.mono hV) (hP.mono hV) hS.ps)
  have HRo := Lib.hid (show ∀ V, Below w.heap.size w V → Calls Tryz.prog 47 #[.agg #[.string (m).nm, .string (m).gp, .int .i64 (m).r0, .int .i64 (m).r1, .int .i64 (m).r2, .int .i64 (m).r3, .int .i64 (m).r4, .slice (m).la (m).labs.length (m).lk, .slice (m).ta (m).tnts.length (m).tk, .bool (m).rd], .slice c N kc, .agg #[.string (p).nm, .int .i64 (p).n0, .int .i64 (p).n1, .int .i64 (p).n2, .int .i64 (p).n3, .int .i64 (p).n4, .slice (p).la (p).labs.length (p).lk, .slice (p).sa (p).sels.length (p).sk, .slice (p).ta (p).trms.length (p).tk, .slice (p).ba (p).bers.length (p).bk, .slice (p).pa (p).prts.length (p).pk, .slice (p).aa (p).aprs.length (p).ak, .bool (p).wd, .slice (p).da (p).spds.length (p).dk, .int .i64 (p).sw, .int .i64 (p).rk, .string (p).ow, .bool (p).dm, .bool (p).pn, .bool (p).lc]] V fun e w' => e = .returned (.int .i64 (roomS m bs p)) ∧ Below V.heap.size V w' from fun V hV => by
    have h9 := refrooms_any m c kc bs p V (hM.mono hV) (hG.mono hV) (fun b hb => (hB b hb).mono hV) (hP.mono hV) hS hl
    rw [hN] at h9
    exact h9)
  obtain ⟨R, hR⟩ : ∃ R, suitS m bs p = R := ⟨_, rfl⟩
  rw [hR]
  unfold suitS at hR
  obtain ⟨x, hx⟩ : ∃ x, placeS m p = x := ⟨_, rfl⟩
  obtain ⟨y, hy⟩ : ∃ y, roomS m bs p = y := ⟨_, rfl⟩
  rw [hx] at HPl hR
  rw [hy] at HRo hR
  obtain ⟨W, hW⟩ : ∃ W, W = (w.alloc (.cells #[.string (m).nm, .string (m).gp, .int .i64 (m).r0, .int .i64 (m).r1, .int .i64 (m).r2, .int .i64 (m).r3, .int .i64 (m).r4, .slice (m).la (m).labs.length (m).lk, .slice (m).ta (m).tnts.length (m).tk, .bool (m).rd] 37)).alloc (.cells #[.string (p).nm, .int .i64 (p).n0, .int .i64 (p).n1, .int .i64 (p).n2, .int .i64 (p).n3, .int .i64 (p).n4, .slice (p).la (p).labs.length (p).lk, .slice (p).sa (p).sels.length (p).sk, .slice (p).ta (p).trms.length (p).tk, .slice (p).ba (p).bers.length (p).bk, .slice (p).pa (p).prts.length (p).pk, .slice (p).aa (p).aprs.length (p).ak, .bool (p).wd, .slice (p).da (p).spds.length (p).dk, .int .i64 (p).sw, .int .i64 (p).rk, .string (p).ow, .bool (p).dm, .bool (p).pn, .bool (p).lc] 31) := ⟨_, rfl⟩
  have HX := Lib.hid (show Box w.heap.size (mrow m) W by rw [hW]; exact (Box.new w (mrow m) 37).mono ((Below.refl _ _).alloc (Nat.le_refl _) _))
  have HY := Lib.hid (show Box (w.heap.size + 1) (prow p) W by
    rw [hW]
    have h9 := Box.new (w.alloc (.cells #[.string (m).nm, .string (m).gp, .int .i64 (m).r0, .int .i64 (m).r1, .int .i64 (m).r2, .int .i64 (m).r3, .int .i64 (m).r4, .slice (m).la (m).labs.length (m).lk, .slice (m).ta (m).tnts.length (m).tk, .bool (m).rd] 37)) (prow p) 31
    rw [World.size_alloc] at h9
    exact h9)
  have HB := Lib.hid (show Below w.heap.size w W by rw [hW]; (repeat' (first | with_reducible exact Below.refl _ _ | with_reducible assumption | with_reducible refine Below.drew ?_ | with_reducible refine below_drewN' ?_ _ | with_reducible refine Below.alloc ?_ ?_ _ | with_reducible refine Below.setCell ?_ ?_ _ | with_reducible refine below_step (by assumption) ?_ ?_ | omega | (simp; done) | (simp; omega))))
  have HRm := Lib.hid (fun V (h : Box w.heap.size (mrow m) V) => show V.rangeAt w.heap.size 0 [.string (m).nm, .string (m).gp, .int .i64 (m).r0, .int .i64 (m).r1, .int .i64 (m).r2, .int .i64 (m).r3, .int .i64 (m).r4, .slice (m).la (m).labs.length (m).lk, .slice (m).ta (m).tnts.length (m).tk, .bool (m).rd] from h.range)
  have HRp := Lib.hid (fun V (h : Box (w.heap.size + 1) (prow p) V) => show V.rangeAt (w.heap.size + 1) 0 [.string (p).nm, .int .i64 (p).n0, .int .i64 (p).n1, .int .i64 (p).n2, .int .i64 (p).n3, .int .i64 (p).n4, .slice (p).la (p).labs.length (p).lk, .slice (p).sa (p).sels.length (p).sk, .slice (p).ta (p).trms.length (p).tk, .slice (p).ba (p).bers.length (p).bk, .slice (p).pa (p).prts.length (p).pk, .slice (p).aa (p).aprs.length (p).ak, .bool (p).wd, .slice (p).da (p).spds.length (p).dk, .int .i64 (p).sw, .int .i64 (p).rk, .string (p).ow, .bool (p).dm, .bool (p).pn, .bool (p).lc] from h.range)
  rw [hN]
  show Calls Tryz.prog 24 #[.agg #[.string (m).nm, .string (m).gp, .int .i64 (m).r0, .int .i64 (m).r1, .int .i64 (m).r2, .int .i64 (m).r3, .int .i64 (m).r4, .slice (m).la (m).labs.length (m).lk, .slice (m).ta (m).tnts.length (m).tk, .bool (m).rd], .slice c N kc, .agg #[.string (p).nm, .int .i64 (p).n0, .int .i64 (p).n1, .int .i64 (p).n2, .int .i64 (p).n3, .int .i64 (p).n4, .slice (p).la (p).labs.length (p).lk, .slice (p).sa (p).sels.length (p).sk, .slice (p).ta (p).trms.length (p).tk, .slice (p).ba (p).bers.length (p).bk, .slice (p).pa (p).prts.length (p).pk, .slice (p).aa (p).aprs.length (p).ak, .bool (p).wd, .slice (p).da (p).spds.length (p).dk, .int .i64 (p).sw, .int .i64 (p).rk, .string (p).ow, .bool (p).dm, .bool (p).pn, .bool (p).lc]] w _
  clear hM hG hB hP hS hl hN hx hy
  by_cases h0 : x = 0
  · subst h0
    obtain rfl : R = y := by rw [← hR]; rfl
    clear hR
    go_enter Tryz.func24, Tryz.ntmps24
    go_upto_region 1 with (fail)
    rw [← hW]
    clear hW
    go_wp2_with (first
      | ((with_reducible refine at_load (ty := 37) ?_); refine load_cells rfl 37 (.tmp 3) rfl w.heap.size 0 rfl [.string (m).nm, .string (m).gp, .int .i64 (m).r0, .int .i64 (m).r1, .int .i64 (m).r2, .int .i64 (m).r3, .int .i64 (m).r4, .slice (m).la (m).labs.length (m).lk, .slice (m).ta (m).tnts.length (m).tk, .bool (m).rd] _ Tryz.underlying37 rfl (by kernel_rfl) (by first | exact HRm.out _ HX1.out | exact HRm.out _ HX.out) ?_)
      | ((with_reducible refine at_load (ty := 31) ?_); refine load_cells rfl 31 (.tmp 5) rfl (w.heap.size + 1) 0 rfl [.string (p).nm, .int .i64 (p).n0, .int .i64 (p).n1, .int .i64 (p).n2, .int .i64 (p).n3, .int .i64 (p).n4, .slice (p).la (p).labs.length (p).lk, .slice (p).sa (p).sels.length (p).sk, .slice (p).ta (p).trms.length (p).tk, .slice (p).ba (p).bers.length (p).bk, .slice (p).pa (p).prts.length (p).pk, .slice (p).aa (p).aprs.length (p).ak, .bool (p).wd, .slice (p).da (p).spds.length (p).dk, .int .i64 (p).sw, .int .i64 (p).rk, .string (p).ow, .bool (p).dm, .bool (p).pn, .bool (p).lc] _ Tryz.underlying31 rfl (by kernel_rfl) (by first | exact HRp.out _ HY1.out | exact HRp.out _ HY.out) ?_)
      | (go_at_call 46; (with_reducible refine (HPl.out _ HB.out).mono ?_); rintro e w1 ⟨rfl, hb⟩; have HX1 := Lib.hid (HX.out.mono hb); have HY1 := Lib.hid (HY.out.mono hb); have HB1 := Lib.hid (HB.out.trans (hb.mono HB.out.size)); clear hb)
      | (go_at_call 47; (with_reducible refine (HRo.out _ HB1.out).mono ?_); rintro e w2 ⟨rfl, hb⟩; have HB2 := Lib.hid (HB1.out.trans (hb.mono HB1.out.size)); clear hb))
    go_ret
    exact ⟨rfl, by first | exact HB2.out | exact HB1.out⟩
  · have q0 : (x == 0) = false := by simpa using h0
    obtain rfl : R = x := by rw [← hR, if_neg h0]
    clear hR h0
    go_enter Tryz.func24, Tryz.ntmps24
    go_upto_region 1 with (fail)
    rw [← hW]
    clear hW
    go_wp2_with (first
      | ((with_reducible refine at_load (ty := 37) ?_); refine load_cells rfl 37 (.tmp 3) rfl w.heap.size 0 rfl [.string (m).nm, .string (m).gp, .int .i64 (m).r0, .int .i64 (m).r1, .int .i64 (m).r2, .int .i64 (m).r3, .int .i64 (m).r4, .slice (m).la (m).labs.length (m).lk, .slice (m).ta (m).tnts.length (m).tk, .bool (m).rd] _ Tryz.underlying37 rfl (by kernel_rfl) (by first | exact HRm.out _ HX1.out | exact HRm.out _ HX.out) ?_)
      | ((with_reducible refine at_load (ty := 31) ?_); refine load_cells rfl 31 (.tmp 5) rfl (w.heap.size + 1) 0 rfl [.string (p).nm, .int .i64 (p).n0, .int .i64 (p).n1, .int .i64 (p).n2, .int .i64 (p).n3, .int .i64 (p).n4, .slice (p).la (p).labs.length (p).lk, .slice (p).sa (p).sels.length (p).sk, .slice (p).ta (p).trms.length (p).tk, .slice (p).ba (p).bers.length (p).bk, .slice (p).pa (p).prts.length (p).pk, .slice (p).aa (p).aprs.length (p).ak, .bool (p).wd, .slice (p).da (p).spds.length (p).dk, .int .i64 (p).sw, .int .i64 (p).rk, .string (p).ow, .bool (p).dm, .bool (p).pn, .bool (p).lc] _ Tryz.underlying31 rfl (by kernel_rfl) (by first | exact HRp.out _ HY1.out | exact HRp.out _ HY.out) ?_)
      | (go_at_call 46; (with_reducible refine (HPl.out _ HB.out).mono ?_); rintro e w1 ⟨rfl, hb⟩; have HX1 := Lib.hid (HX.out.mono hb); have HY1 := Lib.hid (HY.out.mono hb); have HB1 := Lib.hid (HB.out.trans (hb.mono HB.out.size)); clear hb)
      | (go_at_call 47; (with_reducible refine (HRo.out _ HB1.out).mono ?_); rintro e w2 ⟨rfl, hb⟩; have HB2 := Lib.hid (HB1.out.trans (hb.mono HB1.out.size)); clear hb))
    go_ret
    exact ⟨rfl, by first | exact HB2.out | exact HB1.out⟩
set_option maxRecDepth 100000 in
set_option maxHeartbeats 4000000 in
theorem refzone_any (a : Option Addr) (ka : Nat) (ms : List Mac) (x : ByteArray) (w : World) (hF : MacL w a ms) (hI : ∀ m ∈ ms, MacAt w m) (hl : ms.length ≤ 1000000) :
    Calls Tryz.prog 84 #[.slice a ms.length ka, .string x] w fun e w' => e = .returned (.tuple #[.string (zV ms x), .bool (zB ms x)]) ∧ Below w.heap.size w w' := by
  obtain ⟨n, hn⟩ : ∃ n, ms.length = n := ⟨_, rfl⟩
  have HN := Lib.hid hn
  have hfi := rfind_any a ka ms x w hF hl
  unfold zV zB
  rcases find_cases ms x with ⟨h1, h2⟩ | ⟨k, m, h1, h2, h3, h4⟩
  · rw [h1] at hfi
    rw [hn] at hfi
    rw [h2, hn]
    have HFi := Lib.hid hfi
    clear hfi h1 h2 hF hI hn
    dsimp only
    go_enter Tryz.func84, Tryz.ntmps84
    go_wp2_with (go_at_call 23; (with_reducible refine (HFi.out).mono ?_); rintro e w1 ⟨rfl, hb⟩; have HB := Lib.hid hb; clear hb)
    go_ret2
    exact ⟨rfl, HB.out⟩
  · rw [h1] at hfi
    rw [hn] at hfi
    rw [h4, hn]
    have HFi := Lib.hid hfi
    have hk : k < n := by rw [← hn]; exact (List.getElem?_eq_some_iff.1 h2).1
    obtain ⟨b, o, rfl, hb, hc⟩ := hF (by omega)
    have c7 : w.cell? ⟨b, o + k * 10 + 7, none⟩ = some (.slice m.la m.labs.length m.lk) := hc k m h2 7 (by decide)
    have HG := Lib.hid (fun V (hV : Below w.heap.size w V) => Lb.refget_any m.la m.lk m.labs zoneT V ((hI m (List.mem_of_getElem? h2)).labs.mono hV) (hI m (List.mem_of_getElem? h2)).ll)
    unfold zoneT at HG
    dsimp only
    obtain ⟨z, hz⟩ : ∃ z, Lb.getV m.labs zoneT = z := ⟨_, rfl⟩
    obtain ⟨g, hg⟩ : ∃ g, Lb.getB m.labs zoneT = g := ⟨_, rfl⟩
    rw [hz, hg]
    unfold zoneT at hz hg
    rw [hz, hg] at HG
    clear hfi h1 h2 h3 h4 hF hI hn hc hz hg
    go_enter Tryz.func84, Tryz.ntmps84
    go_wp2_with (first
      | (go_at_call 23; (with_reducible refine (HFi.out).mono ?_); rintro e w1 ⟨rfl, hb1⟩; have c7 : w1.cell? ⟨b, o + k * 10 + 7, none⟩ = _ := (hb1.cell (p := ⟨b, o + k * 10 + 7, none⟩) hb).trans c7; have HB := Lib.hid hb1; clear hb1)
      | (go_at_call 102; (with_reducible refine (HG.out _ HB.out).mono ?_); rintro e w2 ⟨rfl, hb2⟩; have HB2 := Lib.hid (HB.out.trans (hb2.mono HB.out.size)); clear hb2))
    go_ret2
    exact ⟨rfl, HB2.out⟩
def togB (ms : List Mac) (x y : ByteArray) (wd : Bool) : Bool := decide (x = y) || (wd && sameZ ms x y)
set_option maxRecDepth 100000 in
set_option maxHeartbeats 4000000 in
theorem reftog_any (a : Option Addr) (ka : Nat) (ms : List Mac) (x y : ByteArray) (wd : Bool) (w : World) (hF : MacL w a ms) (hI : ∀ m ∈ ms, MacAt w m) (hl : ms.length ≤ 1000000) :
    Calls Tryz.prog 83 #[.slice a ms.length ka, .string x, .string y, .bool wd] w fun e w' => e = .returned (.bool (togB ms x y wd)) ∧ Below w.heap.size w w' := by
  have hz1 := fun V (hV : Below w.heap.size w V) => refzone_any a ka ms x V (hF.mono hV) (fun m hm => (hI m hm).mono hV) hl
  have hz2 := fun V (hV : Below w.heap.size w V) => refzone_any a ka ms y V (hF.mono hV) (fun m hm => (hI m hm).mono hV) hl
  obtain ⟨R, hR⟩ : ∃ R, togB ms x y wd = R := ⟨_, rfl⟩
  rw [hR]
  unfold togB sameZ at hR
  obtain ⟨u, hu⟩ : ∃ z, zV ms x = z := ⟨_, rfl⟩
  obtain ⟨g, hg⟩ : ∃ z, zB ms x = z := ⟨_, rfl⟩
  obtain ⟨v, hv⟩ : ∃ z, zV ms y = z := ⟨_, rfl⟩
  obtain ⟨j, hj⟩ : ∃ z, zB ms y = z := ⟨_, rfl⟩
  rw [hu, hg] at hz1
  rw [hv, hj] at hz2
  rw [hu, hg, hv, hj] at hR
  obtain ⟨n, hn⟩ : ∃ n, ms.length = n := ⟨_, rfl⟩
  rw [hn] at hz1 hz2 ⊢
  have H1 := Lib.hid hz1
  have H2 := Lib.hid hz2
  clear hz1 hz2 hu hv hg hj hn hF hI hl
  by_cases hxy : x = y
  · have q0 := str_yes hxy
    obtain rfl : R = true := by rw [← hR, decide_eq_true hxy]; rfl
    clear hR hxy
    go_enter Tryz.func83, Tryz.ntmps83
    go_wp2_with (first
      | (go_at_call 84; (with_reducible refine (H2.out _ HB1.out).mono ?_); rintro e w2 ⟨rfl, hb⟩; have HB2 := Lib.hid (HB1.out.trans (hb.mono HB1.out.size)); clear hb)
      | (go_at_call 84; (with_reducible refine (H1.out _ (Below.refl _ _)).mono ?_); rintro e w1 ⟨rfl, hb⟩; have HB1 := Lib.hid hb; clear hb))
    go_ret
    exact ⟨rfl, by first | exact HB2.out | exact Below.refl _ _⟩
  · have q0 := str_no hxy
    rw [decide_eq_false hxy] at hR
    clear hxy
    cases wd with
    | false =>
      obtain rfl : R = false := by rw [← hR]; rfl
      clear hR
      go_enter Tryz.func83, Tryz.ntmps83
      go_wp2_with (first
        | (go_at_call 84; (with_reducible refine (H2.out _ HB1.out).mono ?_); rintro e w2 ⟨rfl, hb⟩; have HB2 := Lib.hid (HB1.out.trans (hb.mono HB1.out.size)); clear hb)
        | (go_at_call 84; (with_reducible refine (H1.out _ (Below.refl _ _)).mono ?_); rintro e w1 ⟨rfl, hb⟩; have HB1 := Lib.hid hb; clear hb))
      go_ret
      exact ⟨rfl, by first | exact HB2.out | exact Below.refl _ _⟩
    | true =>
      cases g with
      | false =>
        obtain rfl : R = false := by rw [← hR]; rfl
        clear hR
        go_enter Tryz.func83, Tryz.ntmps83
        go_wp2_with (first
          | (go_at_call 84; (with_reducible refine (H2.out _ HB1.out).mono ?_); rintro e w2 ⟨rfl, hb⟩; have HB2 := Lib.hid (HB1.out.trans (hb.mono HB1.out.size)); clear hb)
          | (go_at_call 84; (with_reducible refine (H1.out _ (Below.refl _ _)).mono ?_); rintro e w1 ⟨rfl, hb⟩; have HB1 := Lib.hid hb; clear hb))
        go_ret
        exact ⟨rfl, by first | exact HB2.out | exact Below.refl _ _⟩
      | true =>
        cases j with
        | false =>
          obtain rfl : R = false := by rw [← hR]; rfl
          clear hR
          go_enter Tryz.func83, Tryz.ntmps83
          go_wp2_with (first
            | (go_at_call 84; (with_reducible refine (H2.out _ HB1.out).mono ?_); rintro e w2 ⟨rfl, hb⟩; have HB2 := Lib.hid (HB1.out.trans (hb.mono HB1.out.size)); clear hb)
            | (go_at_call 84; (with_reducible refine (H1.out _ (Below.refl _ _)).mono ?_); rintro e w1 ⟨rfl, hb⟩; have HB1 := Lib.hid hb; clear hb))
          go_ret
          exact ⟨rfl, by first | exact HB2.out | exact Below.refl _ _⟩
        | true =>
          by_cases he : u = v
          · have q := str_yes he
            obtain rfl : R = true := by rw [← hR, decide_eq_true he]; rfl
            clear hR he
            go_enter Tryz.func83, Tryz.ntmps83
            go_wp2_with (first
              | (go_at_call 84; (with_reducible refine (H2.out _ HB1.out).mono ?_); rintro e w2 ⟨rfl, hb⟩; have HB2 := Lib.hid (HB1.out.trans (hb.mono HB1.out.size)); clear hb)
              | (go_at_call 84; (with_reducible refine (H1.out _ (Below.refl _ _)).mono ?_); rintro e w1 ⟨rfl, hb⟩; have HB1 := Lib.hid hb; clear hb))
            go_ret
            exact ⟨rfl, by first | exact HB2.out | exact Below.refl _ _⟩
          · have q := str_no he
            obtain rfl : R = false := by rw [← hR, decide_eq_false he]; rfl
            clear hR he
            go_enter Tryz.func83, Tryz.ntmps83
            go_wp2_with (first
              | (go_at_call 84; (with_reducible refine (H2.out _ HB1.out).mono ?_); rintro e w2 ⟨rfl, hb⟩; have HB2 := Lib.hid (HB1.out.trans (hb.mono HB1.out.size)); clear hb)
              | (go_at_call 84; (with_reducible refine (H1.out _ (Below.refl _ _)).mono ?_); rintro e w1 ⟨rfl, hb⟩; have HB1 := Lib.hid hb; clear hb))
            go_ret
            exact ⟨rfl, by first | exact HB2.out | exact Below.refl _ _⟩
end Go.Proofs.YthbpnfpalcgfeaaGreat
