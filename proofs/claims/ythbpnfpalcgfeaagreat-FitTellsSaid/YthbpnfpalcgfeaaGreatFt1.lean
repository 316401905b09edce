/-
  Apart: zoneOf, sameZone, keepsAway, matters.
-/
import Derived.Test.YthbpnfpalcgfeaaGreatFtP
namespace Go.Proofs.YthbpnfpalcgfeaaGreat
open Go.RowKit
set_option linter.unusedVariables false
set_option linter.unusedSimpArgs false

/-- A yard that lies there, of light machines and pods. -/
structure YA (w : World) (a : Option Addr) (ms : List Mac) (c : Option Addr) (bs : List Bd) : Prop where
  ml : MacL w a ms
  mi : ∀ m ∈ ms, MacIn w m
  bl : BndL w c bs
  bi : ∀ b ∈ bs, PodIn w b.p
  mm : ms.length ≤ 1000
  bb : bs.length ≤ 1000
  lm : ∀ m ∈ ms, lightM m = true
  lb : ∀ b ∈ bs, lightP b.p = true
  lo : ∀ b ∈ bs, b.on.size ≤ 300
theorem YA.mono {w w' : World} {a c : Option Addr} {ms : List Mac} {bs : List Bd} (h : YA w a ms c bs) (hb : Below w.heap.size w w') : YA w' a ms c bs :=
  ⟨h.ml.mono hb, fun m hm => (h.mi m hm).mono hb, h.bl.mono hb, fun b hx => (h.bi b hx).mono hb, h.mm, h.bb, h.lm, h.lb, h.lo⟩
theorem lightP_lens {p : Pd} (h : lightP p = true) : p.labs.length ≤ 40 ∧ p.aprs.length ≤ 40 ∧ p.spds.length ≤ 40 ∧ p.prts.length ≤ 30 := by
  have h := lightP_iff h
  exact ⟨((lightL_iff _).1 h.l0).1, ((lightL_iff _).1 h.l2).1, ((lightL_iff _).1 h.l3).1, h.pl⟩
set_option maxRecDepth 100000 in
set_option maxHeartbeats 4000000 in
theorem zone_any (a : Option Addr) (ka : Nat) (ms : List Mac) (x : ByteArray) (w : World) (hF : MacL w a ms) (hI : ∀ m ∈ ms, MacAt w m) (hl : ms.length ≤ 1000000) :
    Calls Tryz.prog 73 #[.slice a ms.length ka, .string x] w fun e w' => e = .returned (.tuple #[.string (zV ms x), .bool (zB ms x)]) ∧ Below w.heap.size w w' := by
  obtain ⟨n, hn⟩ : ∃ n, ms.length = n := ⟨_, rfl⟩
  have HN := Lib.hid hn
  have hfi := find_any a ka ms x w hF hl
  unfold zV zB
  rcases find_cases ms x with ⟨h1, h2⟩ | ⟨k, m, h1, h2, h3, h4⟩
  · rw [h1] at hfi
    rw [hn] at hfi
    rw [h2, hn]
    have HFi := Lib.hid hfi
    clear hfi h1 h2 hF hI hn
    dsimp only
    go_enter Tryz.func73, Tryz.ntmps73
    go_wp2_with (go_at_call 20; (with_reducible refine (HFi.out).mono ?_); rintro e w1 ⟨rfl, hb⟩; have HB := Lib.hid hb; clear hb)
    go_ret2
    exact ⟨rfl, HB.out⟩
  · rw [h1] at hfi
    rw [hn] at hfi
    rw [h4, hn]
    have HFi := Lib.hid hfi
    have hk : k < n := by rw [← hn]; exact (List.getElem?_eq_some_iff.1 h2).1
    obtain ⟨b, o, rfl, hb, hc⟩ := hF (by omega)
    have c7 : w.cell? ⟨b, o + k * 10 + 7, none⟩ = some (.slice m.la m.labs.length m.lk) := hc k m h2 7 (by decide)
    have HG := Lib.hid (fun V (hV : Below w.heap.size w V) => Lb.get_any m.la m.lk m.labs zoneT V ((hI m (List.mem_of_getElem? h2)).labs.mono hV) (hI m (List.mem_of_getElem? h2)).ll)
    unfold zoneT at HG
    dsimp only
    obtain ⟨z, hz⟩ : ∃ z, Lb.getV m.labs zoneT = z := ⟨_, rfl⟩
    obtain ⟨g, hg⟩ : ∃ g, Lb.getB m.labs zoneT = g := ⟨_, rfl⟩
    rw [hz, hg]
    unfold zoneT at hz hg
    rw [hz, hg] at HG
    clear hfi h1 h2 h3 h4 hF hI hn hc hz hg
    go_enter Tryz.func73, Tryz.ntmps73
    go_wp2_with (first
      | (go_at_call 20; (with_reducible refine (HFi.out).mono ?_); rintro e w1 ⟨rfl, hb1⟩; have c7 : w1.cell? ⟨b, o + k * 10 + 7, none⟩ = _ := (hb1.cell (p := ⟨b, o + k * 10 + 7, none⟩) hb).trans c7; have HB := Lib.hid hb1; clear hb1)
      | (go_at_call 100; (with_reducible refine (HG.out _ HB.out).mono ?_); rintro e w2 ⟨rfl, hb2⟩; have HB2 := Lib.hid (HB.out.trans (hb2.mono HB.out.size)); clear hb2))
    go_ret2
    exact ⟨rfl, HB2.out⟩
set_option maxRecDepth 100000 in
set_option maxHeartbeats 4000000 in
theorem samez_any (a : Option Addr) (ka : Nat) (ms : List Mac) (x y : ByteArray) (w : World) (hF : MacL w a ms) (hI : ∀ m ∈ ms, MacAt w m) (hl : ms.length ≤ 1000000) :
    Calls Tryz.prog 99 #[.slice a ms.length ka, .string x, .string y] w fun e w' => e = .returned (.bool (sameZ ms x y)) ∧ Below w.heap.size w w' := by
  have hz1 := fun V (hV : Below w.heap.size w V) => zone_any a ka ms x V (hF.mono hV) (fun m hm => (hI m hm).mono hV) hl
  have hz2 := fun V (hV : Below w.heap.size w V) => zone_any a ka ms y V (hF.mono hV) (fun m hm => (hI m hm).mono hV) hl
  obtain ⟨R, hR⟩ : ∃ R, sameZ ms x y = R := ⟨_, rfl⟩
  rw [hR]
  unfold sameZ at hR
  obtain ⟨u, hu⟩ : ∃ z, zV ms x = z := ⟨_, rfl⟩
  obtain ⟨g, hg⟩ : ∃ z, zB ms x = z := ⟨_, rfl⟩
  obtain ⟨v, hv⟩ : ∃ z, zV ms y = z := ⟨_, rfl⟩
  obtain ⟨j, hj⟩ : ∃ z, zB ms y = z := ⟨_, rfl⟩
  rw [hu, hg] at hz1
  rw [hv, hj] at hz2
  rw [hu, hg, hv, hj] at hR
  obtain ⟨n, hn⟩ : ∃ n, ms.length = n := ⟨_, rfl⟩
  rw [hn] at hz1 hz2 ⊢
  have H1 := Lib.hid hz1
  have H2 := Lib.hid hz2
  clear hz1 hz2 hu hv hg hj hn hF hI hl
  cases g with
  | false =>
    obtain rfl : R = false := by rw [← hR]; rfl
    clear hR
    go_enter Tryz.func99, Tryz.ntmps99
    go_wp2_with (first
      | (go_at_call 73; (with_reducible refine (H2.out _ HB1.out).mono ?_); rintro e w2 ⟨rfl, hb⟩; have HB2 := Lib.hid (HB1.out.trans (hb.mono HB1.out.size)); clear hb)
      | (go_at_call 73; (with_reducible refine (H1.out _ (Below.refl _ _)).mono ?_); rintro e w1 ⟨rfl, hb⟩; have HB1 := Lib.hid hb; clear hb))
    go_ret
    exact ⟨rfl, HB2.out⟩
  | true =>
    cases j with
    | false =>
      obtain rfl : R = false := by rw [← hR]; rfl
      clear hR
      go_enter Tryz.func99, Tryz.ntmps99
      go_wp2_with (first
        | (go_at_call 73; (with_reducible refine (H2.out _ HB1.out).mono ?_); rintro e w2 ⟨rfl, hb⟩; have HB2 := Lib.hid (HB1.out.trans (hb.mono HB1.out.size)); clear hb)
        | (go_at_call 73; (with_reducible refine (H1.out _ (Below.refl _ _)).mono ?_); rintro e w1 ⟨rfl, hb⟩; have HB1 := Lib.hid hb; clear hb))
      go_ret
      exact ⟨rfl, HB2.out⟩
    | true =>
      by_cases he : u = v
      · have q := str_yes he
        obtain rfl : R = true := by rw [← hR, decide_eq_true he]; rfl
        clear hR he
        go_enter Tryz.func99, Tryz.ntmps99
        go_wp2_with (first
          | (go_at_call 73; (with_reducible refine (H2.out _ HB1.out).mono ?_); rintro e w2 ⟨rfl, hb⟩; have HB2 := Lib.hid (HB1.out.trans (hb.mono HB1.out.size)); clear hb)
          | (go_at_call 73; (with_reducible refine (H1.out _ (Below.refl _ _)).mono ?_); rintro e w1 ⟨rfl, hb⟩; have HB1 := Lib.hid hb; clear hb))
        go_ret
        exact ⟨rfl, HB2.out⟩
      · have q := str_no he
        obtain rfl : R = false := by rw [← hR, decide_eq_false he]; rfl
        clear hR he
        go_enter Tryz.func99, Tryz.ntmps99
        go_wp2_with (first
          | (go_at_call 73; (with_reducible refine (H2.out _ HB1.out).mono ?_); rintro e w2 ⟨rfl, hb⟩; have HB2 := Lib.hid (HB1.out.trans (hb.mono HB1.out.size)); clear hb)
          | (go_at_call 73; (with_reducible refine (H1.out _ (Below.refl _ _)).mono ?_); rintro e w1 ⟨rfl, hb⟩; have HB1 := Lib.hid hb; clear hb))
        go_ret
        exact ⟨rfl, HB2.out⟩
set_option maxRecDepth 100000 in
set_option maxHeartbeats 4000000 in
theorem away_any (a : Option Addr) (ka : Nat) (ms : List Mac) (p q : Pd) (x y : ByteArray) (w : World) (hF : MacL w a ms) (hI : ∀ m ∈ ms, MacAt w m) (hl : ms.length ≤ 1000000) (hP : PodAt w p) (hQ : PodAt w q) (hp : p.aprs.length ≤ 1000000) (hq : q.labs.length ≤ 1000000) :
    Calls Tryz.prog 71 #[.slice a ms.length ka, .agg (prow p).toArray, .agg (prow q).toArray, .string x, .string y] w fun e w' => e = .returned (.bool (awayB ms p.aprs p.wd q.labs x y)) ∧ Below w.heap.size w w' := by
  have hc1 := fun V (hV : Below w.heap.size w V) => Lb.has_any q.la p.aa q.lk p.ak q.labs p.aprs V (hQ.labs.mono hV) (hP.aprs.mono hV) hq hp
  have hc2 := fun V (hV : Below w.heap.size w V) => samez_any a ka ms x y V (hF.mono hV) (fun m hm => (hI m hm).mono hV) hl
  obtain ⟨R, hR⟩ : ∃ R, awayB ms p.aprs p.wd q.labs x y = R := ⟨_, rfl⟩
  rw [hR]
  unfold awayB at hR
  obtain ⟨h, hh⟩ : ∃ h, Lb.hasP q.labs p.aprs = h := ⟨_, rfl⟩
  obtain ⟨s, hs⟩ : ∃ s, sameZ ms x y = s := ⟨_, rfl⟩
  obtain ⟨d, hd⟩ : ∃ d, p.wd = d := ⟨_, rfl⟩
  rw [hh] at hc1
  rw [hs] at hc2
  rw [hh, hs, hd] at hR
  obtain ⟨n, hn⟩ : ∃ n, ms.length = n := ⟨_, rfl⟩
  rw [hn] at hc2 ⊢
  have H1 := Lib.hid hc1
  have H2 := Lib.hid hc2
  obtain ⟨W, hW⟩ : ∃ W, W = (w.alloc (.cells #[.string (p).nm, .int .i64 (p).n0, .int .i64 (p).n1, .int .i64 (p).n2, .int .i64 (p).n3, .int .i64 (p).n4, .slice (p).la (p).labs.length (p).lk, .slice (p).sa (p).sels.length (p).sk, .slice (p).ta (p).trms.length (p).tk, .slice (p).ba (p).bers.length (p).bk, .slice (p).pa (p).prts.length (p).pk, .slice (p).aa (p).aprs.length (p).ak, .bool (p).wd, .slice (p).da (p).spds.length (p).dk, .int .i64 (p).sw, .int .i64 (p).rk, .string (p).ow, .bool (p).dm, .bool (p).pn, .bool (p).lc] 31)).alloc (.cells #[.string (q).nm, .int .i64 (q).n0, .int .i64 (q).n1, .int .i64 (q).n2, .int .i64 (q).n3, .int .i64 (q).n4, .slice (q).la (q).labs.length (q).lk, .slice (q).sa (q).sels.length (q).sk, .slice (q).ta (q).trms.length (q).tk, .slice (q).ba (q).bers.length (q).bk, .slice (q).pa (q).prts.length (q).pk, .slice (q).aa (q).aprs.length (q).ak, .bool (q).wd, .slice (q).da (q).spds.length (q).dk, .int .i64 (q).sw, .int .i64 (q).rk, .string (q).ow, .bool (q).dm, .bool (q).pn, .bool (q).lc] 31) := ⟨_, rfl⟩
  have hX : Box w.heap.size (prow p) W := by rw [hW]; exact (Box.new w (prow p) 31).mono ((Below.refl _ _).alloc (Nat.le_refl _) _)
  have hX2 : Box (w.heap.size + 1) (prow q) W := by
    rw [hW]
    have h9 := Box.new (w.alloc (.cells #[.string (p).nm, .int .i64 (p).n0, .int .i64 (p).n1, .int .i64 (p).n2, .int .i64 (p).n3, .int .i64 (p).n4, .slice (p).la (p).labs.length (p).lk, .slice (p).sa (p).sels.length (p).sk, .slice (p).ta (p).trms.length (p).tk, .slice (p).ba (p).bers.length (p).bk, .slice (p).pa (p).prts.length (p).pk, .slice (p).aa (p).aprs.length (p).ak, .bool (p).wd, .slice (p).da (p).spds.length (p).dk, .int .i64 (p).sw, .int .i64 (p).rk, .string (p).ow, .bool (p).dm, .bool (p).pn, .bool (p).lc] 31)) (prow q) 31
    rw [World.size_alloc] at h9
    exact h9
  have hbw : Below w.heap.size w W := by rw [hW]; (repeat' (first | with_reducible exact Below.refl _ _ | with_reducible assumption | with_reducible refine Below.drew ?_ | with_reducible refine below_drewN' ?_ _ | with_reducible refine Below.alloc ?_ ?_ _ | with_reducible refine Below.setCell ?_ ?_ _ | with_reducible refine below_step (by assumption) ?_ ?_ | omega | (simp; done) | (simp; omega)))
  have HB := Lib.hid hbw
  have hbz := hbw.size
  have c11 : W.cell? ⟨w.heap.size, 11, none⟩ = some (.slice p.aa p.aprs.length p.ak) := hX.cell 11
  have c12 : W.cell? ⟨w.heap.size, 12, none⟩ = some (.bool d) := by rw [← hd]; exact hX.cell 12
  have d6 : W.cell? ⟨w.heap.size + 1, 6, none⟩ = some (.slice q.la q.labs.length q.lk) := hX2.cell 6
  have hlp := hX.lt
  have hlq := hX2.lt
  clear hc1 hc2 hh hs hd hn hF hI hl hP hQ hp hq hX hX2 hbw
  show Calls Tryz.prog 71 #[.slice a n ka, .agg #[.string (p).nm, .int .i64 (p).n0, .int .i64 (p).n1, .int .i64 (p).n2, .int .i64 (p).n3, .int .i64 (p).n4, .slice (p).la (p).labs.length (p).lk, .slice (p).sa (p).sels.length (p).sk, .slice (p).ta (p).trms.length (p).tk, .slice (p).ba (p).bers.length (p).bk, .slice (p).pa (p).prts.length (p).pk, .slice (p).aa (p).aprs.length (p).ak, .bool (p).wd, .slice (p).da (p).spds.length (p).dk, .int .i64 (p).sw, .int .i64 (p).rk, .string (p).ow, .bool (p).dm, .bool (p).pn, .bool (p).lc], .agg #[.string (q).nm, .int .i64 (q).n0, .int .i64 (q).n1, .int .i64 (q).n2, .int .i64 (q).n3, .int .i64 (q).n4, .slice (q).la (q).labs.length (q).lk, .slice (q).sa (q).sels.length (q).sk, .slice (q).ta (q).trms.length (q).tk, .slice (q).ba (q).bers.length (q).bk, .slice (q).pa (q).prts.length (q).pk, .slice (q).aa (q).aprs.length (q).ak, .bool (q).wd, .slice (q).da (q).spds.length (q).dk, .int .i64 (q).sw, .int .i64 (q).rk, .string (q).ow, .bool (q).dm, .bool (q).pn, .bool (q).lc], .string x, .string y] w _
  by_cases h0 : p.aprs.length = 0
  · have q0 : ((p.aprs.length : Int) == 0) = true := by rw [h0]; rfl
    obtain rfl : R = false := by rw [← hR, decide_eq_true h0]; rfl
    clear hR h0
    go_enter Tryz.func71, Tryz.ntmps71
    go_upto_region 1 with (fail)
    rw [← hW]
    clear hW
    go_wp2_with (first
      | (go_at_call 63; (with_reducible refine (H1.out _ HB.out).mono ?_); rintro e w1 ⟨rfl, hb⟩; have c12 : w1.cell? ⟨w.heap.size, 12, none⟩ = _ := (hb.cell (p := ⟨w.heap.size, 12, none⟩) hlp).trans c12; have HB1 := Lib.hid (HB.out.trans (hb.mono hbz)); clear hb)
      | (go_at_call 99; (with_reducible refine (H2.out _ HB1.out).mono ?_); rintro e w2 ⟨rfl, hb⟩; have HB2 := Lib.hid (HB1.out.trans (hb.mono HB1.out.size)); clear hb))
    go_ret
    exact ⟨rfl, by first | exact HB2.out | exact HB1.out | exact HB.out⟩
  · have q0 : ((p.aprs.length : Int) == 0) = false := by rw [beq_eq_false_iff_ne]; omega
    rw [decide_eq_false h0] at hR
    clear h0
    cases h with
    | false =>
      obtain rfl : R = false := by rw [← hR]; rfl
      clear hR
      go_enter Tryz.func71, Tryz.ntmps71
      go_upto_region 1 with (fail)
      rw [← hW]
      clear hW
      go_wp2_with (first
        | (go_at_call 63; (with_reducible refine (H1.out _ HB.out).mono ?_); rintro e w1 ⟨rfl, hb⟩; have c12 : w1.cell? ⟨w.heap.size, 12, none⟩ = _ := (hb.cell (p := ⟨w.heap.size, 12, none⟩) hlp).trans c12; have HB1 := Lib.hid (HB.out.trans (hb.mono hbz)); clear hb)
        | (go_at_call 99; (with_reducible refine (H2.out _ HB1.out).mono ?_); rintro e w2 ⟨rfl, hb⟩; have HB2 := Lib.hid (HB1.out.trans (hb.mono HB1.out.size)); clear hb))
      go_ret
      exact ⟨rfl, by first | exact HB2.out | exact HB1.out | exact HB.out⟩
    | true =>
      by_cases he : x = y
      · have q1 := str_yes he
        obtain rfl : R = true := by rw [← hR, decide_eq_true he]; rfl
        clear hR he
        go_enter Tryz.func71, Tryz.ntmps71
        go_upto_region 1 with (fail)
        rw [← hW]
        clear hW
        go_wp2_with (first
          | (go_at_call 63; (with_reducible refine (H1.out _ HB.out).mono ?_); rintro e w1 ⟨rfl, hb⟩; have c12 : w1.cell? ⟨w.heap.size, 12, none⟩ = _ := (hb.cell (p := ⟨w.heap.size, 12, none⟩) hlp).trans c12; have HB1 := Lib.hid (HB.out.trans (hb.mono hbz)); clear hb)
          | (go_at_call 99; (with_reducible refine (H2.out _ HB1.out).mono ?_); rintro e w2 ⟨rfl, hb⟩; have HB2 := Lib.hid (HB1.out.trans (hb.mono HB1.out.size)); clear hb))
        go_ret
        exact ⟨rfl, by first | exact HB2.out | exact HB1.out | exact HB.out⟩
      · have q1 := str_no he
        rw [decide_eq_false he] at hR
        clear he
        cases d with
        | false =>
          obtain rfl : R = false := by rw [← hR]; rfl
          clear hR
          go_enter Tryz.func71, Tryz.ntmps71
          go_upto_region 1 with (fail)
          rw [← hW]
          clear hW
          go_wp2_with (first
            | (go_at_call 63; (with_reducible refine (H1.out _ HB.out).mono ?_); rintro e w1 ⟨rfl, hb⟩; have c12 : w1.cell? ⟨w.heap.size, 12, none⟩ = _ := (hb.cell (p := ⟨w.heap.size, 12, none⟩) hlp).trans c12; have HB1 := Lib.hid (HB.out.trans (hb.mono hbz)); clear hb)
            | (go_at_call 99; (with_reducible refine (H2.out _ HB1.out).mono ?_); rintro e w2 ⟨rfl, hb⟩; have HB2 := Lib.hid (HB1.out.trans (hb.mono HB1.out.size)); clear hb))
          go_ret
          exact ⟨rfl, by first | exact HB2.out | exact HB1.out | exact HB.out⟩
        | true =>
          obtain rfl : R = s := by rw [← hR]; rfl
          clear hR
          go_enter Tryz.func71, Tryz.ntmps71
          go_upto_region 1 with (fail)
          rw [← hW]
          clear hW
          go_wp2_with (first
            | (go_at_call 63; (with_reducible refine (H1.out _ HB.out).mono ?_); rintro e w1 ⟨rfl, hb⟩; have c12 : w1.cell? ⟨w.heap.size, 12, none⟩ = _ := (hb.cell (p := ⟨w.heap.size, 12, none⟩) hlp).trans c12; have HB1 := Lib.hid (HB.out.trans (hb.mono hbz)); clear hb)
            | (go_at_call 99; (with_reducible refine (H2.out _ HB1.out).mono ?_); rintro e w2 ⟨rfl, hb⟩; have HB2 := Lib.hid (HB1.out.trans (hb.mono HB1.out.size)); clear hb))
          go_ret
          exact ⟨rfl, by first | exact HB2.out | exact HB1.out | exact HB.out⟩
set_option maxRecDepth 100000 in
set_option maxHeartbeats 4000000 in
theorem matters_any (q o : Nat) (b : Bd) (p : Pd) (w : World) (h0 : w.cell? ⟨q, o, none⟩ = some (.string b.p.nm)) (h20 : w.cell? ⟨q, o + 20, none⟩ = some (.string b.on)) (hq : q < w.heap.size) :
    Calls Tryz.prog 70 #[.pointer (some ⟨q, o, none⟩), .agg (prow p).toArray] w fun e w' => e = .returned (.bool (matB b p)) ∧ Below w.heap.size w w' := by
  obtain ⟨R, hR⟩ : ∃ R, matB b p = R := ⟨_, rfl⟩
  rw [hR]
  unfold matB at hR
  obtain ⟨W, hW⟩ : ∃ W, W = (w.alloc (.cells #[.string (p).nm, .int .i64 (p).n0, .int .i64 (p).n1, .int .i64 (p).n2, .int .i64 (p).n3, .int .i64 (p).n4, .slice (p).la (p).labs.length (p).lk, .slice (p).sa (p).sels.length (p).sk, .slice (p).ta (p).trms.length (p).tk, .slice (p).ba (p).bers.length (p).bk, .slice (p).pa (p).prts.length (p).pk, .slice (p).aa (p).aprs.length (p).ak, .bool (p).wd, .slice (p).da (p).spds.length (p).dk, .int .i64 (p).sw, .int .i64 (p).rk, .string (p).ow, .bool (p).dm, .bool (p).pn, .bool (p).lc] 31)) := ⟨_, rfl⟩
  have hX : Box w.heap.size (prow p) W := by rw [hW]; exact (Box.new w (prow p) 31)
  have hbw : Below w.heap.size w W := by rw [hW]; (repeat' (first | with_reducible exact Below.refl _ _ | with_reducible assumption | with_reducible refine Below.drew ?_ | with_reducible refine below_drewN' ?_ _ | with_reducible refine Below.alloc ?_ ?_ _ | with_reducible refine Below.setCell ?_ ?_ _ | with_reducible refine below_step (by assumption) ?_ ?_ | omega | (simp; done) | (simp; omega)))
  have HB := Lib.hid hbw
  have hbz := hbw.size
  have hq2 : q < W.heap.size := by omega
  have c0 : W.cell? ⟨w.heap.size, 0, none⟩ = some (.string p.nm) := hX.cell 0
  have d0 : W.cell? ⟨q, o, none⟩ = some (.string b.p.nm) := (hbw.cell (p := ⟨q, o, none⟩) hq).trans h0
  have d20 : W.cell? ⟨q, o + 20, none⟩ = some (.string b.on) := (hbw.cell (p := ⟨q, o + 20, none⟩) hq).trans h20
  have hlp := hX.lt
  clear hX hbw h0 h20
  obtain ⟨x, hx⟩ : ∃ x, b.p.nm = x := ⟨_, rfl⟩
  obtain ⟨y, hy⟩ : ∃ x, b.on = x := ⟨_, rfl⟩
  rw [hx] at d0 hR
  rw [hy] at d20 hR
  clear hx hy
  show Calls Tryz.prog 70 #[.pointer (some ⟨q, o, none⟩), .agg #[.string (p).nm, .int .i64 (p).n0, .int .i64 (p).n1, .int .i64 (p).n2, .int .i64 (p).n3, .int .i64 (p).n4, .slice (p).la (p).labs.length (p).lk, .slice (p).sa (p).sels.length (p).sk, .slice (p).ta (p).trms.length (p).tk, .slice (p).ba (p).bers.length (p).bk, .slice (p).pa (p).prts.length (p).pk, .slice (p).aa (p).aprs.length (p).ak, .bool (p).wd, .slice (p).da (p).spds.length (p).dk, .int .i64 (p).sw, .int .i64 (p).rk, .string (p).ow, .bool (p).dm, .bool (p).pn, .bool (p).lc]] w _
  by_cases h1 : y = emp
  · have q1 := (emp_yes h1).2.2
    obtain rfl : R = false := by rw [← hR, decide_eq_true h1]; rfl
    clear hR h1
    go_enter Tryz.func70, Tryz.ntmps70
    go_upto_region 1 with (fail)
    rw [← hW]
    clear hW
    go_quiet (fail)
    go_wp2
    go_ret
    exact ⟨rfl, by have := HB.out; (repeat' (first | with_reducible exact Below.refl _ _ | with_reducible assumption | with_reducible refine Below.drew ?_ | with_reducible refine below_drewN' ?_ _ | with_reducible refine Below.alloc ?_ ?_ _ | with_reducible refine Below.setCell ?_ ?_ _ | with_reducible refine below_step (by assumption) ?_ ?_ | omega | (simp; done) | (simp; omega)))⟩
  · have q1 := (emp_no h1).2.2
    rw [decide_eq_false h1] at hR
    clear h1
    by_cases h2 : x = p.nm
    · have q2 := str_yes h2
      obtain rfl : R = false := by rw [← hR, decide_eq_true h2]; rfl
      clear hR h2
      go_enter Tryz.func70, Tryz.ntmps70
      go_upto_region 1 with (fail)
      rw [← hW]
      clear hW
      go_quiet (fail)
      go_wp2
      go_ret
      exact ⟨rfl, by have := HB.out; (repeat' (first | with_reducible exact Below.refl _ _ | with_reducible assumption | with_reducible refine Below.drew ?_ | with_reducible refine below_drewN' ?_ _ | with_reducible refine Below.alloc ?_ ?_ _ | with_reducible refine Below.setCell ?_ ?_ _ | with_reducible refine below_step (by assumption) ?_ ?_ | omega | (simp; done) | (simp; omega)))⟩
    · have q2 := str_no h2
      obtain rfl : R = true := by rw [← hR, decide_eq_false h2]; rfl
      clear hR h2
      go_enter Tryz.func70, Tryz.ntmps70
      go_upto_region 1 with (fail)
      rw [← hW]
      clear hW
      go_quiet (fail)
      go_wp2
      go_ret
      exact ⟨rfl, by have := HB.out; (repeat' (first | with_reducible exact Below.refl _ _ | with_reducible assumption | with_reducible refine Below.drew ?_ | with_reducible refine below_drewN' ?_ _ | with_reducible refine Below.alloc ?_ ?_ _ | with_reducible refine Below.setCell ?_ ?_ _ | with_reducible refine below_step (by assumption) ?_ ?_ | omega | (simp; done) | (simp; omega)))⟩
end Go.Proofs.YthbpnfpalcgfeaaGreat
