/-
  The document's provider: Increase.
-/
import Derived.Test.YtcfdejlbchdciaaGreatDoorClRi
namespace Go.Proofs.YtcfdejlbchdciaaGreatDoor
open Go.RowKit
set_option linter.unusedVariables false
set_option linter.unusedSimpArgs false

theorem mor_part (s : CS) (j : Nat) (g : Gk) (p : Pl) (n k : Nat) (st lf : Int) : (s.part j g p ⟨emp, emp, st, lf, s.nw⟩ n k).mor j g ⟨p.t + n, p.la + k, p.br⟩ st lf = s.part j g p ⟨emp, emp, st, lf, s.nw⟩ n (k + 1) := by
  rw [← part_next]
  unfold CS.mor
  have e : (⟨mnm g.nm (p.la + (k : Int) + 1), g.nm, st, lf, (s.part j g p ⟨emp, emp, st, lf, s.nw⟩ n k).nw⟩ : Ins) = likeK g p ⟨emp, emp, st, lf, s.nw⟩ (k + 1) := by
    show (⟨mnm g.nm (p.la + (k : Int) + 1), g.nm, st, lf, s.nw⟩ : Ins) = ⟨mnm g.nm (p.la + 1 + (k : Int)), g.nm, st, lf, s.nw⟩
    rw [show p.la + (k : Int) + 1 = p.la + 1 + (k : Int) by omega]
  rw [e]

set_option maxRecDepth 100000 in
set_option maxHeartbeats 8000000 in
theorem rinc_any (w0 : World) (b : Nat) (ga : Option Addr) (gka : Nat) (G : List Gp) (s : CS) (tv lav bv lv : Value) (key : ByteArray) (n : Int) (w : World) (h : RT w0 w b ga gka G s tv lav bv lv) (m : Nat) (hO : s.Ok m) (hm : m ≤ 100) (hn0 : -9223372036854775808 ≤ n) (hn1 : n ≤ 9223372036854775807) :
    Calls Tryz.prog 25 #[.pointer (some ⟨b, 0, none⟩), .string key, .int .i64 n] w fun e w' => e = .returned (.int .i64 (s.inc key n).2) ∧ ∃ lv', RT w0 w' b ga gka G (s.inc key n).1 tv lav bv lv' ∧ Only (rblocks b tv lav bv lv) w w' ∧ NewB w.heap.size lv lv' := by
  have hz : G.length = s.G.length := by rw [← h.gk, List.length_map]
  have hG16 := hO.g16
  have hL9 : s.L.length ≤ 1000000 := by have := hO.lb; omega
  have c0 := h.row.cell 0
  have c1 := h.row.cell 1
  have c3 := h.row.cell 3
  dsimp only [List.getElem?_cons_zero, List.getElem?_cons_succ] at c0 c1 c3
  have hbl := h.row.lt
  have HF := Lib.hid (reffind_any ga G gka key w h.groups (by unfold maxLen; omega))
  have Hh := Lib.hid h
  have hgk := h.gk
  have hP := hO.ln
  obtain ⟨_, _, n0, n1⟩ := hO.nb
  have hgn16 : G.length ≤ 16 := by omega
  obtain ⟨gn, hgn⟩ : ∃ gn, G.length = gn := ⟨_, rfl⟩
  have Hgn := Lib.hid hgn
  rw [hgn] at c0 HF hgn16 hz
  cases hf : fndK s.G key with
  | none =>
    have hT : s.inc key n = (s, 16) := by unfold CS.inc; rw [hf]
    have hA : findA G key 0 = -1 := findA_none (by rw [hgk]; exact hf)
    rw [hA] at HF
    rw [hT]
    clear hf hgk h hgn hz hP hO hT hA
    go_enter Tryz.func25, Tryz.ntmps25
    go_wp2_with (go_at_call 50; (with_reducible refine HF.out.mono ?_); rintro e w2 ⟨rfl, hb2⟩; have HB2 := Lib.hid hb2; clear hb2)
    go_ret
    exact ⟨rfl, lv, Hh.out.below HB2.out, Only.of_below HB2.out, .refl⟩
  | some j =>
    obtain ⟨g, hg, _⟩ := fndK_lt hf
    obtain ⟨p, qt, kt, ql, kl, qb, kb, gb, go, hp, rfl, rfl, rfl, rfl, d0, d1, d2, _, _, x2, l1, l2, l3, l4⟩ := h.at hP hg
    have hgbl : gb < w.heap.size := Nat.lt_of_lt_of_le l4 h.bl.size
    obtain ⟨t0, t1, la0, la1⟩ := hO.tb j g p hg hp
    obtain ⟨b0, b1, b2, b3, b4⟩ := hO.gb g (List.mem_of_getElem? hg)
    have hjG : j < G.length := by have := lt_at hg; omega
    obtain ⟨g', hg'⟩ := mem_at (l := G) (k := j) hjG
    have hgg : gkOf g' = g := by
      have h9 : (G.map gkOf)[j]? = some (gkOf g') := by rw [List.getElem?_map, hg']; rfl
      rw [hgk, hg] at h9
      exact (Option.some.inj h9).symm
    have hT : s.inc key n = if n < 1 then (s, 1) else if g.mx - p.t < n then (s, 21) else if p.br then (s, 26) else ({ s.req j g p ⟨emp, emp, 1, s.dl, s.nw⟩ n.toNat with ca := s.ca + 1 }, 0) := by
      unfold CS.inc
      rw [hf]
      dsimp only
      rw [hg, hp]
    obtain ⟨R, hR⟩ : ∃ R, s.inc key n = R := ⟨_, rfl⟩
    have HRT := Lib.hid (hR.symm.trans hT)
    rw [hR]
    have hA : findA G key 0 = (j : Int) := findA_some (by rw [hgk]; exact hf)
    rw [hA] at HF
    have hjn : j < s.P.length := lt_at hp
    have HjP := Lib.hid hjn
    obtain ⟨N, hN⟩ : ∃ N, s.P.length = N := ⟨_, rfl⟩
    rw [hN] at c1 c3 hjn
    have HN := Lib.hid hN
    have Hp := Lib.hid hp
    have Hg' := Lib.hid hg'
    have Hgg := Lib.hid hgg
    have HPG := Lib.hid hP
    have hn4 : g'.nm.size ≤ 300 := by
      have e4 : g'.nm = g.nm := by rw [← hgg]; rfl
      rw [e4]
      exact b4
    have hjg : j < gn := by omega
    have k1 : decide ((j : Int) < 0) = false := decide_eq_false (by omega)
    have hji : (j : Int) < (N : Int) := by omega
    have hjg2 : (j : Int) < (gn : Int) := by omega
    have hj0 : (0 : Int) ≤ (j : Int) := by omega
    have hwm : IntKind.i64.wrap (g.mx - p.t) = g.mx - p.t := cwrap_in (by omega) (by omega)
    obtain ⟨SB, hSB⟩ : ∃ SB, SB = rblocks b (.slice (some ⟨qt, 0, none⟩) s.P.length kt) (.slice (some ⟨ql, 0, none⟩) s.P.length kl) (.slice (some ⟨qb, 0, none⟩) s.P.length kb) lv := ⟨_, rfl⟩
    have hbm : b ∈ SB := by rw [hSB]; unfold rblocks; simp
    have htm : qt ∈ SB := by rw [hSB]; unfold rblocks; simp [Value.ownBlock]
    have HSB := Lib.hid hSB
    rw [← hSB]
    clear hf hgk hg hp hN h hgn hP d1 hT hA hz hO hg' hgg hR hSB
    have HB2' := Lib.hid (Below.refl w.heap.size w)
    by_cases h1 : n < 1
    · have k2 : decide (n < 1) = true := decide_eq_true h1
      have H1 := Lib.hid h1
      clear h1
      go_enter Tryz.func25, Tryz.ntmps25
      go_wp2_with (go_at_call 50; (with_reducible refine HF.out.mono ?_); rintro e w2 ⟨rfl, hb2⟩; have HB2 := Lib.hid hb2; obtain ⟨hc2, hf2⟩ := bcell hb2; clear hb2)
      go_ret
      rw [HRT.out, if_pos H1.out]
      exact ⟨rfl, lv, Hh.out.below HB2.out, Only.of_below HB2.out, .refl⟩
    · have k2 : decide (n < 1) = false := decide_eq_false h1
      have H1 := Lib.hid h1
      by_cases h2 : g.mx - p.t < n
      · have k3 : decide (g.mx - p.t < n) = true := decide_eq_true h2
        have H2 := Lib.hid h2
        clear h1 h2
        have C1 := Lib.hid c1
        have C3 := Lib.hid c3
        have D0 := Lib.hid d0
        have D2 := Lib.hid d2
        go_enter Tryz.func25, Tryz.ntmps25
        go_wp2_with (go_at_call 50; (with_reducible refine HF.out.mono ?_); rintro e w2 ⟨rfl, hb2⟩; have HB2 := Lib.hid hb2; have hz2 := hb2.size; obtain ⟨hc2, hf2⟩ := bcell hb2; clear hb2)
        have y0 : w2.cell? ⟨b, 0, none⟩ = _ := (hc2 b 0 hbl).trans c0
        have y1 : w2.cell? ⟨b, 1, none⟩ = _ := (hc2 b 1 hbl).trans c1
        have e0 : w2.cell? ⟨qt, j, none⟩ = _ := (hc2 qt j l1).trans d0
        have e1 : w2.cell? ⟨gb, go + j * 15 + 2, none⟩ = _ := (hc2 gb (go + j * 15 + 2) hgbl).trans x2
        have g1 : b < w2.heap.size := Nat.lt_of_lt_of_le hbl hz2
        have g2 : qt < w2.heap.size := Nat.lt_of_lt_of_le l1 hz2
        have g3 : gb < w2.heap.size := Nat.lt_of_lt_of_le hgbl hz2
        clear c0 c1 c3 d0 d2 x2 hc2 hf2 hz2
        have hcH := held_cell
        refine region_rel (by kernel_rfl) (by kernel_rfl) ?_
        repeat
          ((with_reducible refine relStep (fun K hK => ?_))
           (have HK := Lib.hid hK)
           clear hK
           (apply relInl
            · intro r n hf
              have Hf := Lib.hid hf
              clear hf
              (first
                | (fail)
                | (unfold relAt
                   go_simp
                   (first | (refine relUpon_val ?_ (Below.refl _ _); exact rfl) | exact rfl | (refine relUpon_enter ?_; fail))))
            (simp only [Act.put, List.setIfInBounds_toArray, List.set_cons_zero, List.set_cons_succ])
            (with_reducible refine HK.out _ _ ?_)
            clear HK K))
        refine relNil ?_
        intro r5 n5 hx5
        clear hcH
        (try simp only [List.nil_append, List.cons_append, List.mem_cons, List.not_mem_nil, or_false, forall_eq_or_imp, forall_eq, false_implies, implies_true] at hx5)
        obtain ⟨w5, hb5⟩ := n5
        (try dsimp only)
        obtain ⟨hc5, hf5⟩ := bcell hb5
        have hz5 := hb5.size
        (try simp at hz5)
        have HB5 := Lib.hid (HB2.out.trans (hb5.mono HB2.out.size))
        clear y0 y1 e0 e1 g1 g2 g3 hc5 hf5 hb5 hz5
        go_wp2
        go_ret
        rw [HRT.out, if_neg (by have := H1.out; omega), if_pos (by have := H2.out; omega)]
        exact ⟨rfl, lv, Hh.out.below HB5.out, Only.of_below HB5.out, .refl⟩
      · have k3 : decide (g.mx - p.t < n) = false := decide_eq_false h2
        have H2 := Lib.hid h2
        cases hbr : p.br
        · obtain ⟨nn, rfl⟩ : ∃ nn : Nat, n = (nn : Int) := ⟨n.toNat, by omega⟩
          have hnb : nn ≤ 200 := by omega
          rw [hbr] at d2
          have Hbr := Lib.hid hbr
          have hw2 : IntKind.i64.wrap (s.ca + 1) = s.ca + 1 := cwrap_in (by omega) (by omega)
          have hw : IntKind.i64.wrap (p.t + (nn : Int)) = p.t + (nn : Int) := cwrap_in (by omega) (by omega)
          clear h1 h2 hbr
          have C1 := Lib.hid c1
          have C3 := Lib.hid c3
          have D0 := Lib.hid d0
          have D2 := Lib.hid d2
          go_enter Tryz.func25, Tryz.ntmps25
          go_wp2_with (go_at_call 50; (with_reducible refine HF.out.mono ?_); rintro e w2 ⟨rfl, hb2⟩; have HB2 := Lib.hid hb2; have hz2 := hb2.size; obtain ⟨hc2, hf2⟩ := bcell hb2; clear hb2)
          have y0 : w2.cell? ⟨b, 0, none⟩ = _ := (hc2 b 0 hbl).trans c0
          have y1 : w2.cell? ⟨b, 1, none⟩ = _ := (hc2 b 1 hbl).trans c1
          have e0 : w2.cell? ⟨qt, j, none⟩ = _ := (hc2 qt j l1).trans d0
          have e1 : w2.cell? ⟨gb, go + j * 15 + 2, none⟩ = _ := (hc2 gb (go + j * 15 + 2) hgbl).trans x2
          have g1 : b < w2.heap.size := Nat.lt_of_lt_of_le hbl hz2
          have g2 : qt < w2.heap.size := Nat.lt_of_lt_of_le l1 hz2
          have g3 : gb < w2.heap.size := Nat.lt_of_lt_of_le hgbl hz2
          clear c0 c1 c3 d0 d2 x2 hc2 hf2 hz2
          have hcH := held_cell
          refine region_rel (by kernel_rfl) (by kernel_rfl) ?_
          repeat
            ((with_reducible refine relStep (fun K hK => ?_))
             (have HK := Lib.hid hK)
             clear hK
             (apply relInl
              · intro r n hf
                have Hf := Lib.hid hf
                clear hf
                (first
                  | (fail)
                  | (unfold relAt
                     go_simp
                     (first | (refine relUpon_val ?_ (Below.refl _ _); exact rfl) | exact rfl | (refine relUpon_enter ?_; fail))))
              (simp only [Act.put, List.setIfInBounds_toArray, List.set_cons_zero, List.set_cons_succ])
              (with_reducible refine HK.out _ _ ?_)
              clear HK K))
          refine relNil ?_
          intro r5 n5 hx5
          clear hcH
          (try simp only [List.nil_append, List.cons_append, List.mem_cons, List.not_mem_nil, or_false, forall_eq_or_imp, forall_eq, false_implies, implies_true] at hx5)
          obtain ⟨w5, hb5⟩ := n5
          (try dsimp only)
          obtain ⟨hc5, hf5⟩ := bcell hb5
          have hz5 := hb5.size
          (try simp at hz5)
          have HB5 := Lib.hid (HB2.out.trans (hb5.mono HB2.out.size))
          clear y0 y1 e0 e1 g1 g2 g3 hc5 hf5 hb5 hz5
          have z3 : w5.cell? ⟨b, 3, none⟩ = _ := (HB5.out.cell (p := ⟨b, 3, none⟩) hbl).trans C3.out
          have zb : w5.cell? ⟨qb, j, none⟩ = some (.bool false) := (HB5.out.cell (p := ⟨qb, j, none⟩) l3).trans D2.out
          have z0 : w5.cell? ⟨qt, j, none⟩ = _ := (HB5.out.cell (p := ⟨qt, j, none⟩) l1).trans D0.out
          have z1 : w5.cell? ⟨b, 1, none⟩ = _ := (HB5.out.cell (p := ⟨b, 1, none⟩) hbl).trans C1.out
          have l5 : qt < w5.heap.size := Nat.lt_of_lt_of_le l1 HB5.out.size
          have l5b : qb < w5.heap.size := Nat.lt_of_lt_of_le l3 HB5.out.size
          have hb5l : b < w5.heap.size := Nat.lt_of_lt_of_le hbl HB5.out.size
          go_wp2
          have hcH := held_cell
          refine region_rel_tail 15 (by kernel_rfl) (by kernel_rfl) (by kernel_rfl) ?_
          dsimp only [List.take, List.drop]
          repeat
            ((with_reducible refine relStep (fun K hK => ?_))
             (have HK := Lib.hid hK)
             clear hK
             (apply relInl
              · intro r n hf
                have Hf := Lib.hid hf
                clear hf
                (first
                  | (fail)
                  | (unfold relAt
                     go_simp
                     (first | (refine relUpon_val ?_ (Below.refl _ _); exact rfl) | exact rfl | (refine relUpon_enter ?_; fail))))
              (simp only [Act.put, List.setIfInBounds_toArray, List.set_cons_zero, List.set_cons_succ])
              (with_reducible refine HK.out _ _ ?_)
              clear HK K))
          refine relNil ?_
          intro r6 n6 hx6
          clear hcH
          (try simp only [List.nil_append, List.cons_append, List.mem_cons, List.not_mem_nil, or_false, forall_eq_or_imp, forall_eq, false_implies, implies_true] at hx6)
          obtain ⟨w6, hb6⟩ := n6
          (try dsimp only)
          obtain ⟨hc6, hf6⟩ := bcell hb6
          have hz6 := hb6.size
          (try simp at hz6)
          have HB6 := Lib.hid (HB5.out.trans (hb6.mono HB5.out.size))
          have HT6 := Lib.hid (Hh.out.below HB6.out)
          have u0 := HT6.out.to.frozenAt j
          have v0 : w6.cell? ⟨qt, j, none⟩ = _ := (hc6 qt j l5).trans z0
          clear hc6 hf6 hb6 z0 z1 z3 zb
          go_wp2
          obtain ⟨W, hW⟩ : ∃ W, W = w6.setCell ⟨qt, j, none⟩ (.int .i64 (p.t + nn)) := ⟨_, rfl⟩
          rw [← hW]
          have HTW := Lib.hid (show RT w0 W b (some ⟨gb, go, none⟩) gka G (s.part j g p ⟨emp, emp, 1, s.dl, s.nw⟩ nn 0) (.slice (some ⟨qt, 0, none⟩) s.P.length kt) (.slice (some ⟨ql, 0, none⟩) s.P.length kl) (.slice (some ⟨qb, 0, none⟩) s.P.length kb) lv from by
            rw [part_zero, hW]
            exact HT6.out.tset rfl _ Hp.out)
          have HOW := Lib.hid (show Only SB w W from by rw [hW]; exact (Only.of_below HB6.out).setCell (p := ⟨qt, j, none⟩) (.inl htm) _)
          clear hW u0 v0
          have HLb := Lib.hid hL9
          go_loopw [8] (fun i wr => ∃ (k : Nat) (v : Value), k ≤ nn ∧ i = .int .i64 k ∧ RT w0 wr b (some ⟨gb, go, none⟩) gka G (s.part j g p ⟨emp, emp, 1, s.dl, s.nw⟩ nn k) (.slice (some ⟨qt, 0, none⟩) s.P.length kt) (.slice (some ⟨ql, 0, none⟩) s.P.length kl) (.slice (some ⟨qb, 0, none⟩) s.P.length kb) v ∧ Only SB w wr ∧ ∀ z, v.ownBlock = some z → lv.ownBlock = some z ∨ w.heap.size ≤ z) (fun i _ => nn - (intOf i).toNat)
          case atStart => exact ⟨0, _, Nat.zero_le _, rfl, HTW.out, HOW.out, fun z hz => .inl hz⟩
          case round =>
            clear HTW HOW
            obtain ⟨k, v, hk, rfl, hT, hO, hV⟩ := hrel
            have HTr := Lib.hid hT
            have HOr := Lib.hid hO
            have HVr := Lib.hid hV
            have c5 : wr.cell? ⟨b, 5, none⟩ = some (.int .i64 s.dl) := hT.row.cell 5
            by_cases hlt : k < nn
            · have hpk := part_pool (s := s) (j := j) (g := g) (p := p) (like := ⟨emp, emp, 1, s.dl, s.nw⟩) (n := nn) (k := k) HjP.out
              have hLk : (s.part j g p ⟨emp, emp, 1, s.dl, s.nw⟩ nn k).L.length ≤ 10000000 := by
                show (s.L ++ moreI _ _ _ k).length ≤ _
                rw [List.length_append, moreI_len]
                have := HLb.out
                omega
              have hPk : (s.part j g p ⟨emp, emp, 1, s.dl, s.nw⟩ nn k).P.length = (s.part j g p ⟨emp, emp, 1, s.dl, s.nw⟩ nn k).G.length := by
                show (s.P.set j _).length = s.G.length
                rw [List.length_set]
                exact HPG.out
              have HMo := Lib.hid (show Calls Tryz.prog 24 #[.pointer (some ⟨b, 0, none⟩), .int .i64 j, .int .i64 1, .int .i64 s.dl] wr fun e w' => e = .returned (.tuple #[]) ∧ ∃ v', RT w0 w' b (some ⟨gb, go, none⟩) gka G (s.part j g p ⟨emp, emp, 1, s.dl, s.nw⟩ nn (k + 1)) (.slice (some ⟨qt, 0, none⟩) s.P.length kt) (.slice (some ⟨ql, 0, none⟩) s.P.length kl) (.slice (some ⟨qb, 0, none⟩) s.P.length kb) v' ∧ Only (rblocks b (.slice (some ⟨qt, 0, none⟩) s.P.length kt) (.slice (some ⟨ql, 0, none⟩) s.P.length kl) (.slice (some ⟨qb, 0, none⟩) s.P.length kb) v) wr w' ∧ NewB wr.heap.size v v' from by
                have h9 := rmore_any w0 b _ gka G _ _ _ _ v j g' _ 1 s.dl wr hT hPk Hg'.out hpk hn4 ⟨by show 0 ≤ p.la + (k : Int); omega, by show p.la + (k : Int) ≤ _; omega⟩ hLk (by rw [Hgn.out]; exact hgn16)
                rw [Hgg.out, mor_part] at h9
                exact h9)
              clear hT hO hV hpk hLk hPk
              go_wp2_with (go_at_call 24; (with_reducible refine HMo.out.mono ?_); rintro e w9 ⟨rfl, v', hT9, hO9, hN9⟩; have HT9 := Lib.hid hT9; have HO9 := Lib.hid hO9; have HN9 := Lib.hid hN9; clear hT9 hO9 hN9)
              have HO10 := Lib.hid (HOr.out.trans2 HO9.out fun y hy => by
                unfold rblocks at hy
                by_cases hyv : v.ownBlock = some y
                · rcases HVr.out y hyv with h9 | h9
                  · exact .inl (by rw [HSB.out]; unfold rblocks; rw [h9]; simp)
                  · exact .inr h9
                · refine .inl ?_
                  rw [HSB.out]
                  unfold rblocks
                  simp only [List.mem_cons, List.mem_append, Option.mem_toList] at hy ⊢
                  rcases hy with hy | hy | hy | hy | hy
                  · exact .inl hy
                  · exact .inr (.inl hy)
                  · exact .inr (.inr (.inl hy))
                  · exact .inr (.inr (.inr (.inl hy)))
                  · exact absurd hy hyv)
              go_roundw
              case rel => exact ⟨k + 1, v', by omega, by go_num, HT9.out, HO10.out, fun z hz => (HN9.out z hz).elim (fun h9 => HVr.out z h9) fun h9 => .inr (Nat.le_trans HOr.out.size h9)⟩
              case measure => simp [intOf]; omega
            · obtain rfl : k = nn := by omega
              have c7 : wr.cell? ⟨b, 7, none⟩ = some (.int .i64 s.ca) := hT.row.cell 7
              have f7 := hT.row.frozen 7
              have hb7 := hT.row.lt
              clear hT hO hV
              go_wp2
              go_ret
              have h9 := HTr.out.rset (s' := { s.req j g p ⟨emp, emp, 1, s.dl, s.nw⟩ k with ca := s.ca + 1 }) 7 (.int .i64 (s.ca + 1)) rfl rfl rfl rfl
              rw [HRT.out, if_neg (by have := H1.out; omega), if_neg (by have := H2.out; omega), Hbr.out, if_neg (by decide), Int.toNat_natCast]
              exact ⟨rfl, v, h9, HOr.out.setCell (p := ⟨b, 7, none⟩) (.inl hbm) _, fun z hz => HVr.out z hz⟩
        · have Hbr := Lib.hid hbr
          rw [hbr] at d2
          clear h1 h2 hbr
          have C1 := Lib.hid c1
          have C3 := Lib.hid c3
          have D0 := Lib.hid d0
          have D2 := Lib.hid d2
          go_enter Tryz.func25, Tryz.ntmps25
          go_wp2_with (go_at_call 50; (with_reducible refine HF.out.mono ?_); rintro e w2 ⟨rfl, hb2⟩; have HB2 := Lib.hid hb2; have hz2 := hb2.size; obtain ⟨hc2, hf2⟩ := bcell hb2; clear hb2)
          have y0 : w2.cell? ⟨b, 0, none⟩ = _ := (hc2 b 0 hbl).trans c0
          have y1 : w2.cell? ⟨b, 1, none⟩ = _ := (hc2 b 1 hbl).trans c1
          have e0 : w2.cell? ⟨qt, j, none⟩ = _ := (hc2 qt j l1).trans d0
          have e1 : w2.cell? ⟨gb, go + j * 15 + 2, none⟩ = _ := (hc2 gb (go + j * 15 + 2) hgbl).trans x2
          have g1 : b < w2.heap.size := Nat.lt_of_lt_of_le hbl hz2
          have g2 : qt < w2.heap.size := Nat.lt_of_lt_of_le l1 hz2
          have g3 : gb < w2.heap.size := Nat.lt_of_lt_of_le hgbl hz2
          clear c0 c1 c3 d0 d2 x2 hc2 hf2 hz2
          have hcH := held_cell
          refine region_rel (by kernel_rfl) (by kernel_rfl) ?_
          repeat
            ((with_reducible refine relStep (fun K hK => ?_))
             (have HK := Lib.hid hK)
             clear hK
             (apply relInl
              · intro r n hf
                have Hf := Lib.hid hf
                clear hf
                (first
                  | (fail)
                  | (unfold relAt
                     go_simp
                     (first | (refine relUpon_val ?_ (Below.refl _ _); exact rfl) | exact rfl | (refine relUpon_enter ?_; fail))))
              (simp only [Act.put, List.setIfInBounds_toArray, List.set_cons_zero, List.set_cons_succ])
              (with_reducible refine HK.out _ _ ?_)
              clear HK K))
          refine relNil ?_
          intro r5 n5 hx5
          clear hcH
          (try simp only [List.nil_append, List.cons_append, List.mem_cons, List.not_mem_nil, or_false, forall_eq_or_imp, forall_eq, false_implies, implies_true] at hx5)
          obtain ⟨w5, hb5⟩ := n5
          (try dsimp only)
          obtain ⟨hc5, hf5⟩ := bcell hb5
          have hz5 := hb5.size
          (try simp at hz5)
          have HB5 := Lib.hid (HB2.out.trans (hb5.mono HB2.out.size))
          clear y0 y1 e0 e1 g1 g2 g3 hc5 hf5 hb5 hz5
          have z3 : w5.cell? ⟨b, 3, none⟩ = _ := (HB5.out.cell (p := ⟨b, 3, none⟩) hbl).trans C3.out
          have zb : w5.cell? ⟨qb, j, none⟩ = some (.bool true) := (HB5.out.cell (p := ⟨qb, j, none⟩) l3).trans D2.out
          have l5b : qb < w5.heap.size := Nat.lt_of_lt_of_le l3 HB5.out.size
          go_wp2
          go_ret
          rw [HRT.out, if_neg (by have := H1.out; omega), if_neg (by have := H2.out; omega), if_pos Hbr.out]
          exact ⟨rfl, lv, Hh.out.below HB5.out, Only.of_below HB5.out, .refl⟩
end Go.Proofs.YtcfdejlbchdciaaGreatDoor
