/-
  Regions whose last operations stand behind all others, but for parts of tuples that may be taken late: 'x, y := f()' where x lies in memory.
-/
import Derived.Test.YtmkdfcggjlhcpaaGreatDoorClRx
import Derived.Test.YtmkdfcggjlhcpaaGreatDoorMAx
import Derived.Test.YtmkdfcggjlhcpaaGreatDoorClPx
namespace Go.Proofs.YtmkdfcggjlhcpaaGreatDoor
open Go.RowKit
set_option linter.unusedVariables false
set_option linter.unusedSimpArgs false
def GL (G : List Gp) : Prop := ∀ g ∈ G, g.like.labs.length ≤ 1000000 ∧ g.like.tnts.length ≤ 1000000
set_option maxRecDepth 100000 in
set_option maxHeartbeats 8000000 in
theorem incr_any (b : Nat) (G : List Gp) (s : CS) (gv pv lv : Value) (key : ByteArray) (n : Int) (w0 w : World) (h : CT w w0.heap.size b G s gv pv lv) (hB0 : Below w0.heap.size w0 w) (hT : Tab10 w0) (m : Nat) (hO : s.Ok m) (hm : m ≤ 100) (hgl : GL G) (hn0 : -9223372036854775808 ≤ n) (hn1 : n ≤ 9223372036854775807) :
    Calls Tryz.prog 8 #[.pointer (some ⟨b, 0, none⟩), .string key, .int .i64 n] w fun e w' => e = .returned (.int .i64 (s.inc key n).2) ∧ ∃ lv', CT w' w0.heap.size b G (s.inc key n).1 gv pv lv' ∧ Only (blocksOf b pv lv) w w' ∧ NewB w.heap.size lv lv' := by
  have hz : G.length = s.G.length := by rw [← h.gk, List.length_map]
  have hG16 := hO.g16
  have hL9 : s.L.length ≤ 1000000 := by have := hO.lb; omega
  have c0 := h.row.cell 0
  have c1 := h.row.cell 1
  have c2 := h.row.cell 2
  have c4 := h.row.cell 4
  have c5 := h.row.cell 5
  dsimp only [List.getElem?_cons_zero, List.getElem?_cons_succ] at c0 c1 c2 c4 c5
  have HL := Lib.hid (fun V (hb : Below w.heap.size w V) => place_any w0.heap.size b G s gv pv lv key V (h.below hb) (by unfold maxLen; omega))
  have hpo : ∀ g, pv.ownBlock = some g → g ∈ blocksOf b pv lv := fun g e => by unfold blocksOf; rw [e]; simp
  have hbo : b ∈ blocksOf b pv lv := by unfold blocksOf; simp
  obtain ⟨a, k, hpv, hR⟩ := h.pools
  obtain ⟨ga, gk, hgv, hGr⟩ := h.groups
  have hbl := h.row.lt
  have HR := Lib.hid hR
  have HGr := Lib.hid hGr
  have Hh := Lib.hid h
  have hgk := h.gk
  have hP := hO.ln
  obtain ⟨N, hN⟩ : ∃ N, s.P.length = N := ⟨_, rfl⟩
  have HN := Lib.hid hN
  have HO := Lib.hid hO
  have HB0 := Lib.hid hB0
  have HT := Lib.hid hT
  have HGL := Lib.hid hgl
  obtain ⟨SB, hSB⟩ : ∃ SB, SB = blocksOf b pv lv := ⟨_, rfl⟩
  have HSB := Lib.hid hSB
  rw [← hSB] at hpo hbo ⊢
  rw [hpv] at c2
  rw [hgv] at c1
  rw [hN] at c2 hP
  clear h hR hN hO hGr hB0 hT hgl hSB
  cases hf : fndK s.G key with
  | none =>
    have hT : s.inc key n = (s, 16) := by unfold CS.inc; rw [hf]
    have hA : findA G key 0 = -1 := findA_none (by rw [hgk]; exact hf)
    rw [hA] at HL
    rw [hT]
    clear hf hgk hpv hgv
    go_enter Tryz.func8, Tryz.ntmps8
    go_wp2_with (first
      | (go_at_call 29; (with_reducible refine (made_yes b _ c0).mono ?_); rintro e w1 ⟨rfl, rfl⟩)
      | (go_at_call 30; (with_reducible refine (HL.out _ (by (repeat' (first | with_reducible exact Below.refl _ _ | with_reducible assumption | with_reducible refine Below.drew ?_ | with_reducible refine below_drewN' ?_ _ | with_reducible refine Below.alloc ?_ ?_ _ | with_reducible refine Below.setCell ?_ ?_ _ | with_reducible refine below_step (by assumption) ?_ ?_ | omega | (simp; done) | (simp; omega))))).mono ?_); rintro e w2 ⟨rfl, hb2⟩; have HB2 := Lib.hid hb2))
    go_ret
    exact ⟨rfl, lv, Hh.out.below HB2.out, Only.of_below HB2.out, .refl⟩
  | some j =>
    obtain ⟨g, hg, _⟩ := fndK_lt hf
    have hjn : j < N := by have := lt_at hg; omega
    obtain ⟨p, hp⟩ := mem_at (l := s.P) (k := j) (by rw [HN.out]; exact hjn)
    obtain ⟨g', hg'⟩ := mem_at (l := G) (k := j) (by omega)
    have hgg : gkOf g' = g := by
      have h9 : (G.map gkOf)[j]? = some (gkOf g') := by rw [List.getElem?_map, hg']; rfl
      rw [hgk, hg] at h9
      exact (Option.some.inj h9).symm
    have hA : findA G key 0 = (j : Int) := findA_some (by rw [hgk]; exact hf)
    rw [hA] at HL
    have hT : s.inc key n = if n < 1 then (s, 1) else if g.mx - p.t < n then (s, 21) else if p.br then (s, 26) else ({ s.req j g p ⟨emp, emp, 1, s.dl, s.nw⟩ n.toNat with ca := s.ca + 1 }, 0) := by
      unfold CS.inc
      rw [hf]
      dsimp only
      rw [hg, hp]
    obtain ⟨q, hqa, _, hq, hc⟩ := HR.out (by rw [HN.out]; omega)
    obtain ⟨d0, _, d2⟩ := hc j p hp
    obtain ⟨gb, go, hga, hgb, hgc⟩ := HGr.out (by omega)
    obtain ⟨_, _, x2, _⟩ := grow_cells (hgc j g' hg')
    have hmx : g'.mx = g.mx := by rw [← hgg]; rfl
    rw [hmx] at x2
    rw [hqa] at c2
    rw [hga] at c1
    obtain ⟨t0, t1, l0, l1⟩ := HO.out.tb j g p hg hp
    obtain ⟨b0, b1, b2, b3, b4⟩ := HO.out.gb g (List.mem_of_getElem? hg)
    have hn4 : g'.nm.size ≤ 300 := by
      have e4 : g'.nm = g.nm := by rw [← hgg]; rfl
      rw [e4]
      exact b4
    have hG9 : G.length ≤ 16 := by omega
    have hN9 : N ≤ 16 := by omega
    obtain ⟨_, _, n0, n1⟩ := HO.out.nb
    have k1 : decide ((j : Int) < 0) = false := decide_eq_false (by omega)
    have Hp := Lib.hid hp
    have Hg' := Lib.hid hg'
    have Hgg := Lib.hid hgg
    rw [hT]
    have hjG : j < G.length := by omega
    have hji : (j : Int) < (N : Int) := by omega
    have hjI : (j : Int) < (G.length : Int) := by omega
    have hj0 : (0 : Int) ≤ (j : Int) := by omega
    have hgl' := HGL.out g' (List.mem_of_getElem? hg')
    have hwm : IntKind.i64.wrap (g.mx - p.t) = g.mx - p.t := cwrap_in (by omega) (by omega)
    clear hf hgk hg hp hc hgc hT hgg hg' hz hP
    by_cases h1 : n < 1
    · have k2 : decide (n < 1) = true := decide_eq_true h1
      rw [if_pos h1]
      go_enter Tryz.func8, Tryz.ntmps8
      go_wp2_with (first
        | (go_at_call 29; (with_reducible refine (made_yes b _ c0).mono ?_); rintro e w1 ⟨rfl, rfl⟩)
        | (go_at_call 30; (with_reducible refine (HL.out _ (by (repeat' (first | with_reducible exact Below.refl _ _ | with_reducible assumption | with_reducible refine Below.drew ?_ | with_reducible refine below_drewN' ?_ _ | with_reducible refine Below.alloc ?_ ?_ _ | with_reducible refine Below.setCell ?_ ?_ _ | with_reducible refine below_step (by assumption) ?_ ?_ | omega | (simp; done) | (simp; omega))))).mono ?_); rintro e w2 ⟨rfl, hb2⟩; have HB2 := Lib.hid hb2; obtain ⟨hc2, hf2⟩ := bcell hb2))
      go_ret
      exact ⟨rfl, lv, Hh.out.below HB2.out, Only.of_below HB2.out, .refl⟩
    · have k2 : decide (n < 1) = false := decide_eq_false h1
      rw [if_neg h1]
      by_cases h2 : g.mx - p.t < n
      · rw [if_pos h2]
        have k3 : decide (g.mx - p.t < n) = true := decide_eq_true h2
        go_enter Tryz.func8, Tryz.ntmps8
        go_wp2_with (first
          | (go_at_call 29; (with_reducible refine (made_yes b _ c0).mono ?_); rintro e w1 ⟨rfl, rfl⟩)
          | (go_at_call 30; (with_reducible refine (HL.out _ (by (repeat' (first | with_reducible exact Below.refl _ _ | with_reducible assumption | with_reducible refine Below.drew ?_ | with_reducible refine below_drewN' ?_ _ | with_reducible refine Below.alloc ?_ ?_ _ | with_reducible refine Below.setCell ?_ ?_ _ | with_reducible refine below_step (by assumption) ?_ ?_ | omega | (simp; done) | (simp; omega))))).mono ?_); rintro e w2 ⟨rfl, hb2⟩; have HB2 := Lib.hid hb2; have hz2 := hb2.size; obtain ⟨hc2, hf2⟩ := bcell hb2))
        have HT2 := Lib.hid (Hh.out.below HB2.out)
        have y1 : w2.cell? ⟨b, 1, none⟩ = _ := (hc2 b 1 hbl).trans c1
        have y2 : w2.cell? ⟨b, 2, none⟩ = _ := (hc2 b 2 hbl).trans c2
        have y4 : w2.cell? ⟨b, 4, none⟩ = _ := (hc2 b 4 hbl).trans c4
        have y5 : w2.cell? ⟨b, 5, none⟩ = _ := (hc2 b 5 hbl).trans c5
        have e0 : w2.cell? ⟨q, j * 3, none⟩ = _ := (hc2 q (j * 3) hq).trans d0
        have e2 : w2.cell? ⟨q, j * 3 + 2, none⟩ = _ := (hc2 q (j * 3 + 2) hq).trans d2
        have e1 : w2.cell? ⟨gb, go + j * 15 + 2, none⟩ = _ := (hc2 gb (go + j * 15 + 2) hgb).trans x2
        have hbl2 : b < w2.heap.size := HT2.out.row.lt
        have hq2 : q < w2.heap.size := Nat.lt_of_lt_of_le hq hz2
        have hg2 : gb < w2.heap.size := Nat.lt_of_lt_of_le hgb hz2
        clear c1 c2 c4 c5 d0 d2 x2 hc2 hf2 hb2 hz2
        have hcH := held_cell
        refine region_below (by kernel_rfl) (by kernel_rfl) ?_
        repeat
          ((with_reducible refine wpQuiet_step (fun K hK => ?_))
           go_simp
           first
             | ((with_reducible refine hK _ ?_); clear hK K)
             | (apply Exists.intro
                (with_reducible refine ⟨fun n => ?_, hK _ ?_⟩)
                (fail)
                clear hK K))
        with_reducible refine wpQuiet_nil ?_
        intro w5 hw2
        clear hcH
        obtain ⟨⟨_, hb5⟩, rfl⟩ := hw2
        (try dsimp only)
        obtain ⟨hc5, hf5⟩ := bcell hb5
        have hz5 := hb5.size
        (try simp at hz5)
        have HB5 := Lib.hid (HB2.out.trans (hb5.mono HB2.out.size))
        have y2' : w5.cell? ⟨b, 2, none⟩ = _ := (hc5 b 2 hbl2).trans y2
        have y4' : w5.cell? ⟨b, 4, none⟩ = _ := (hc5 b 4 hbl2).trans y4
        have y5' : w5.cell? ⟨b, 5, none⟩ = _ := (hc5 b 5 hbl2).trans y5
        have e2' : w5.cell? ⟨q, j * 3 + 2, none⟩ = _ := (hc5 q (j * 3 + 2) hq2).trans e2
        have hbl5 : b < w5.heap.size := Nat.lt_of_lt_of_le hbl2 hb5.size
        have hq5 : q < w5.heap.size := Nat.lt_of_lt_of_le hq2 hb5.size
        clear y1 y2 y4 y5 e0 e1 e2 hc5 hf5
        go_wp2
        go_ret
        exact ⟨rfl, lv, HT2.out.below hb5, Only.of_below (HB2.out.trans (hb5.mono HB2.out.size)), .refl⟩
      · rw [if_neg h2]
        have k3 : decide (g.mx - p.t < n) = false := decide_eq_false h2
        have hw2 : IntKind.i64.wrap (s.ca + 1) = s.ca + 1 := cwrap_in (by omega) (by omega)
        cases hbr : p.br
        · rw [if_neg (by decide)]
          obtain ⟨nn, rfl⟩ : ∃ nn : Nat, n = (nn : Int) := ⟨n.toNat, by omega⟩
          rw [Int.toNat_natCast]
          rw [hbr] at d2
          have HRq := Lib.hid (fun V (hV : Below w.heap.size w V) => show Calls Tryz.prog 28 #[.pointer (some ⟨b, 0, none⟩), .int .i64 j, .int .i64 nn, .agg #[.string ⟨#[]⟩, .string ⟨#[]⟩, .int .i64 1, .int .i64 s.dl, .int .i64 s.nw]] V fun e w' => e = .returned (.tuple #[]) ∧ ∃ lv', CT w' w0.heap.size b G (s.req j g p ⟨emp, emp, 1, s.dl, s.nw⟩ nn) gv pv lv' ∧ Only (blocksOf b pv lv) V w' ∧ NewB V.heap.size lv lv' from by
            have h9 := request_any b G s gv pv lv j g' p ⟨emp, emp, 1, s.dl, s.nw⟩ nn m w0 V (Hh.out.below hV) (HB0.out.trans (hV.mono HB0.out.size)) HT.out Hg'.out Hp.out hG9 hn4 hgl'.1 hgl'.2 (by omega) (by omega) (by omega) (by omega) (by rw [HN.out]; exact hN9)
            rw [Hgg.out] at h9
            exact h9)
          clear hpv hgv hbr hL9 hgl'
          go_enter Tryz.func8, Tryz.ntmps8
          go_wp2_with (first
            | (go_at_call 29; (with_reducible refine (made_yes b _ c0).mono ?_); rintro e w1 ⟨rfl, rfl⟩)
            | (go_at_call 30; (with_reducible refine (HL.out _ (by (repeat' (first | with_reducible exact Below.refl _ _ | with_reducible assumption | with_reducible refine Below.drew ?_ | with_reducible refine below_drewN' ?_ _ | with_reducible refine Below.alloc ?_ ?_ _ | with_reducible refine Below.setCell ?_ ?_ _ | with_reducible refine below_step (by assumption) ?_ ?_ | omega | (simp; done) | (simp; omega))))).mono ?_); rintro e w2 ⟨rfl, hb2⟩; have HB2 := Lib.hid hb2; have hz2 := hb2.size; obtain ⟨hc2, hf2⟩ := bcell hb2))
          have HT2 := Lib.hid (Hh.out.below HB2.out)
          have y1 : w2.cell? ⟨b, 1, none⟩ = _ := (hc2 b 1 hbl).trans c1
          have y2 : w2.cell? ⟨b, 2, none⟩ = _ := (hc2 b 2 hbl).trans c2
          have y4 : w2.cell? ⟨b, 4, none⟩ = _ := (hc2 b 4 hbl).trans c4
          have y5 : w2.cell? ⟨b, 5, none⟩ = _ := (hc2 b 5 hbl).trans c5
          have e0 : w2.cell? ⟨q, j * 3, none⟩ = _ := (hc2 q (j * 3) hq).trans d0
          have e2 : w2.cell? ⟨q, j * 3 + 2, none⟩ = _ := (hc2 q (j * 3 + 2) hq).trans d2
          have e1 : w2.cell? ⟨gb, go + j * 15 + 2, none⟩ = _ := (hc2 gb (go + j * 15 + 2) hgb).trans x2
          have hbl2 : b < w2.heap.size := HT2.out.row.lt
          have hq2 : q < w2.heap.size := Nat.lt_of_lt_of_le hq hz2
          have hg2 : gb < w2.heap.size := Nat.lt_of_lt_of_le hgb hz2
          clear c1 c2 c4 c5 d0 d2 x2 hc2 hf2 hb2 hz2
          have hcH := held_cell
          refine region_below (by kernel_rfl) (by kernel_rfl) ?_
          repeat
            ((with_reducible refine wpQuiet_step (fun K hK => ?_))
             go_simp
             first
               | ((with_reducible refine hK _ ?_); clear hK K)
               | (apply Exists.intro
                  (with_reducible refine ⟨fun n => ?_, hK _ ?_⟩)
                  (fail)
                  clear hK K))
          with_reducible refine wpQuiet_nil ?_
          intro w5 hw2
          clear hcH
          obtain ⟨⟨_, hb5⟩, rfl⟩ := hw2
          (try dsimp only)
          obtain ⟨hc5, hf5⟩ := bcell hb5
          have hz5 := hb5.size
          (try simp at hz5)
          have HB5 := Lib.hid (HB2.out.trans (hb5.mono HB2.out.size))
          have y2' : w5.cell? ⟨b, 2, none⟩ = _ := (hc5 b 2 hbl2).trans y2
          have y4' : w5.cell? ⟨b, 4, none⟩ = _ := (hc5 b 4 hbl2).trans y4
          have y5' : w5.cell? ⟨b, 5, none⟩ = _ := (hc5 b 5 hbl2).trans y5
          have e2' : w5.cell? ⟨q, j * 3 + 2, none⟩ = _ := (hc5 q (j * 3 + 2) hq2).trans e2
          have hbl5 : b < w5.heap.size := Nat.lt_of_lt_of_le hbl2 hb5.size
          have hq5 : q < w5.heap.size := Nat.lt_of_lt_of_le hq2 hb5.size
          clear y1 y2 y4 y5 e0 e1 e2 hc5 hf5
          go_wp2
          have hcH := held_cell
          refine region_rel_tail 12 (by kernel_rfl) (by kernel_rfl) (by kernel_rfl) ?_
          dsimp only [List.take, List.drop]
          repeat
            ((with_reducible refine relStep (fun K hK => ?_))
             (have HK := Lib.hid hK)
             clear hK
             (apply relInl
              · intro r n hf
                have Hf := Lib.hid hf
                clear hf
                (first
                  | (fail)
                  | (unfold relAt
                     go_simp
                     (first | (refine relUpon_val ?_ (Below.refl _ _); exact rfl) | exact rfl | (refine relUpon_enter ?_; fail))))
              (simp only [Act.put, List.setIfInBounds_toArray, List.set_cons_zero, List.set_cons_succ])
              (with_reducible refine HK.out _ _ ?_)
              clear HK K))
          refine relNil ?_
          intro r8 n8 hx8
          clear hcH
          (try simp only [List.nil_append, List.cons_append, List.mem_cons, List.not_mem_nil, or_false, forall_eq_or_imp, forall_eq, false_implies, implies_true] at hx8)
          obtain ⟨w8, hb8⟩ := n8
          (try dsimp only)
          obtain ⟨hc8, hf8⟩ := bcell hb8
          have hz8 := hb8.size
          (try simp at hz8)
          go_wp2_with (go_at_call 28; (with_reducible refine (HRq.out _ (HB5.out.trans (hb8.mono HB5.out.size))).mono ?_); rintro e w9 ⟨rfl, lv', hT9, hO9, hN9⟩; have HT9 := Lib.hid hT9; have HO9 := Lib.hid hO9; have HN9 := Lib.hid hN9; have z6 := hT9.row.cell 6; dsimp only [List.getElem?_cons_zero, List.getElem?_cons_succ, CS.req] at z6; have u6 := hT9.row.frozen 6; have hbl9 := hT9.row.lt; clear hT9 hO9 hN9)
          go_ret
          have h9 := HT9.out.rset (s' := { s.req j g p ⟨emp, emp, 1, s.dl, s.nw⟩ nn with ca := s.ca + 1 }) 6 (.int .i64 (s.ca + 1)) rfl rfl rfl rfl
          have hB8 := HB5.out.trans (hb8.mono HB5.out.size)
          exact ⟨rfl, lv', h9, (((Only.of_below hB8).trans (HSB.out ▸ HO9.out)).setCell (p := ⟨b, 6, none⟩) (.inl hbo) _), fun q hq => (HN9.out q hq).imp_right fun h => Nat.le_trans hB8.size h⟩
        · rw [if_pos rfl]
          rw [hbr] at d2
          clear hpv hgv hbr hL9 hgl'
          go_enter Tryz.func8, Tryz.ntmps8
          go_wp2_with (first
            | (go_at_call 29; (with_reducible refine (made_yes b _ c0).mono ?_); rintro e w1 ⟨rfl, rfl⟩)
            | (go_at_call 30; (with_reducible refine (HL.out _ (by (repeat' (first | with_reducible exact Below.refl _ _ | with_reducible assumption | with_reducible refine Below.drew ?_ | with_reducible refine below_drewN' ?_ _ | with_reducible refine Below.alloc ?_ ?_ _ | with_reducible refine Below.setCell ?_ ?_ _ | with_reducible refine below_step (by assumption) ?_ ?_ | omega | (simp; done) | (simp; omega))))).mono ?_); rintro e w2 ⟨rfl, hb2⟩; have HB2 := Lib.hid hb2; have hz2 := hb2.size; obtain ⟨hc2, hf2⟩ := bcell hb2))
          have HT2 := Lib.hid (Hh.out.below HB2.out)
          have y1 : w2.cell? ⟨b, 1, none⟩ = _ := (hc2 b 1 hbl).trans c1
          have y2 : w2.cell? ⟨b, 2, none⟩ = _ := (hc2 b 2 hbl).trans c2
          have y4 : w2.cell? ⟨b, 4, none⟩ = _ := (hc2 b 4 hbl).trans c4
          have y5 : w2.cell? ⟨b, 5, none⟩ = _ := (hc2 b 5 hbl).trans c5
          have e0 : w2.cell? ⟨q, j * 3, none⟩ = _ := (hc2 q (j * 3) hq).trans d0
          have e2 : w2.cell? ⟨q, j * 3 + 2, none⟩ = _ := (hc2 q (j * 3 + 2) hq).trans d2
          have e1 : w2.cell? ⟨gb, go + j * 15 + 2, none⟩ = _ := (hc2 gb (go + j * 15 + 2) hgb).trans x2
          have hbl2 : b < w2.heap.size := HT2.out.row.lt
          have hq2 : q < w2.heap.size := Nat.lt_of_lt_of_le hq hz2
          have hg2 : gb < w2.heap.size := Nat.lt_of_lt_of_le hgb hz2
          clear c1 c2 c4 c5 d0 d2 x2 hc2 hf2 hb2 hz2
          have hcH := held_cell
          refine region_below (by kernel_rfl) (by kernel_rfl) ?_
          repeat
            ((with_reducible refine wpQuiet_step (fun K hK => ?_))
             go_simp
             first
               | ((with_reducible refine hK _ ?_); clear hK K)
               | (apply Exists.intro
                  (with_reducible refine ⟨fun n => ?_, hK _ ?_⟩)
                  (fail)
                  clear hK K))
          with_reducible refine wpQuiet_nil ?_
          intro w5 hw2
          clear hcH
          obtain ⟨⟨_, hb5⟩, rfl⟩ := hw2
          (try dsimp only)
          obtain ⟨hc5, hf5⟩ := bcell hb5
          have hz5 := hb5.size
          (try simp at hz5)
          have HB5 := Lib.hid (HB2.out.trans (hb5.mono HB2.out.size))
          have y2' : w5.cell? ⟨b, 2, none⟩ = _ := (hc5 b 2 hbl2).trans y2
          have y4' : w5.cell? ⟨b, 4, none⟩ = _ := (hc5 b 4 hbl2).trans y4
          have y5' : w5.cell? ⟨b, 5, none⟩ = _ := (hc5 b 5 hbl2).trans y5
          have e2' : w5.cell? ⟨q, j * 3 + 2, none⟩ = _ := (hc5 q (j * 3 + 2) hq2).trans e2
          have hbl5 : b < w5.heap.size := Nat.lt_of_lt_of_le hbl2 hb5.size
          have hq5 : q < w5.heap.size := Nat.lt_of_lt_of_le hq2 hb5.size
          clear y1 y2 y4 y5 e0 e1 e2 hc5 hf5
          go_wp2
          go_ret
          exact ⟨rfl, lv, HT2.out.below hb5, Only.of_below (HB2.out.trans (hb5.mono HB2.out.size)), .refl⟩
end Go.Proofs.YtmkdfcggjlhcpaaGreatDoor
namespace Go.Proofs.YtmkdfcggjlhcpaaGreatDoor
open Go.RowKit
set_option linter.unusedVariables false
set_option linter.unusedSimpArgs false
def stT (st : Int) : TypeId := if st = 1 then 105 else if st = 3 then 106 else if st = 4 then 107 else 108
set_option maxRecDepth 100000 in
set_option maxHeartbeats 1000000 in
theorem stateof_any (nm gp : ByteArray) (st lf si : Int) (w : World) :
    Calls Tryz.prog 33 #[.agg #[.string nm, .string gp, .int .i64 st, .int .i64 lf, .int .i64 si]] w fun e w' => e = .returned (.iface (stT st) (.agg #[])) ∧ Below w.heap.size w w' := by
  unfold stT
  by_cases h1 : st = 1
  · have k1 : (st == 1) = true := by rw [h1]; rfl
    rw [if_pos h1]
    go_enter Tryz.func33, Tryz.ntmps33
    go_wp2
    go_ret
    exact ⟨rfl, by (repeat' (first | with_reducible exact Below.refl _ _ | with_reducible assumption | with_reducible refine Below.drew ?_ | with_reducible refine below_drewN' ?_ _ | with_reducible refine Below.alloc ?_ ?_ _ | with_reducible refine Below.setCell ?_ ?_ _ | with_reducible refine below_step (by assumption) ?_ ?_ | omega | (simp; done) | (simp; omega)))⟩
  · have k1 : (st == 1) = false := by simpa using h1
    rw [if_neg h1]
    by_cases h3 : st = 3
    · have k3 : (st == 3) = true := by rw [h3]; rfl
      rw [if_pos h3]
      go_enter Tryz.func33, Tryz.ntmps33
      go_wp2
      go_ret
      exact ⟨rfl, by (repeat' (first | with_reducible exact Below.refl _ _ | with_reducible assumption | with_reducible refine Below.drew ?_ | with_reducible refine below_drewN' ?_ _ | with_reducible refine Below.alloc ?_ ?_ _ | with_reducible refine Below.setCell ?_ ?_ _ | with_reducible refine below_step (by assumption) ?_ ?_ | omega | (simp; done) | (simp; omega)))⟩
    · have k3 : (st == 3) = false := by simpa using h3
      rw [if_neg h3]
      by_cases h4 : st = 4
      · have k4 : (st == 4) = true := by rw [h4]; rfl
        rw [if_pos h4]
        go_enter Tryz.func33, Tryz.ntmps33
        go_wp2
        go_ret
        exact ⟨rfl, by (repeat' (first | with_reducible exact Below.refl _ _ | with_reducible assumption | with_reducible refine Below.drew ?_ | with_reducible refine below_drewN' ?_ _ | with_reducible refine Below.alloc ?_ ?_ _ | with_reducible refine Below.setCell ?_ ?_ _ | with_reducible refine below_step (by assumption) ?_ ?_ | omega | (simp; done) | (simp; omega)))⟩
      · have k4 : (st == 4) = false := by simpa using h4
        rw [if_neg h4]
        go_enter Tryz.func33, Tryz.ntmps33
        go_wp2
        go_ret
        exact ⟨rfl, by (repeat' (first | with_reducible exact Below.refl _ _ | with_reducible assumption | with_reducible refine Below.drew ?_ | with_reducible refine below_drewN' ?_ _ | with_reducible refine Below.alloc ?_ ?_ _ | with_reducible refine Below.setCell ?_ ?_ _ | with_reducible refine below_step (by assumption) ?_ ?_ | omega | (simp; done) | (simp; omega)))⟩
set_option maxRecDepth 100000 in
set_option maxHeartbeats 1000000 in
theorem leavingtick_any (nm gp : ByteArray) (st lf si : Int) (br : Bool) (w : World) :
    Calls Tryz.prog 133 #[.agg #[], .agg #[.string nm, .string gp, .int .i64 st, .int .i64 lf, .int .i64 si], .bool br] w fun e w' => e = .returned (.tuple #[.agg #[.string ⟨#[]⟩, .string ⟨#[]⟩, .int .i64 0, .int .i64 0, .int .i64 0], .bool false]) ∧ Below w.heap.size w w' := by
  go_enter Tryz.func133, Tryz.ntmps133
  go_wp2
  refine bodyPost_ret (by simp [results, Tryz.results133, go_sem]; rfl) rfl ?_
  exact ⟨rfl, by (repeat' (first | with_reducible exact Below.refl _ _ | with_reducible assumption | with_reducible refine Below.drew ?_ | with_reducible refine below_drewN' ?_ _ | with_reducible refine Below.alloc ?_ ?_ _ | with_reducible refine Below.setCell ?_ ?_ _ | with_reducible refine below_step (by assumption) ?_ ?_ | omega | (simp; done) | (simp; omega)))⟩
set_option maxRecDepth 100000 in
set_option maxHeartbeats 1000000 in
theorem runningtick_any (nm gp : ByteArray) (st lf si : Int) (br : Bool) (w : World) :
    Calls Tryz.prog 135 #[.agg #[], .agg #[.string nm, .string gp, .int .i64 st, .int .i64 lf, .int .i64 si], .bool br] w fun e w' => e = .returned (.tuple #[.agg #[.string nm, .string gp, .int .i64 st, .int .i64 lf, .int .i64 si], .bool true]) ∧ Below w.heap.size w w' := by
  go_enter Tryz.func135, Tryz.ntmps135
  go_wp2
  refine bodyPost_ret (by simp [results, Tryz.results135, go_sem]; rfl) rfl ?_
  exact ⟨rfl, by (repeat' (first | with_reducible exact Below.refl _ _ | with_reducible assumption | with_reducible refine Below.drew ?_ | with_reducible refine below_drewN' ?_ _ | with_reducible refine Below.alloc ?_ ?_ _ | with_reducible refine Below.setCell ?_ ?_ _ | with_reducible refine below_step (by assumption) ?_ ?_ | omega | (simp; done) | (simp; omega)))⟩
set_option maxRecDepth 100000 in
set_option maxHeartbeats 1000000 in
theorem failedtick_any (nm gp : ByteArray) (st lf si : Int) (br : Bool) (w : World) :
    Calls Tryz.prog 134 #[.agg #[], .agg #[.string nm, .string gp, .int .i64 st, .int .i64 lf, .int .i64 si], .bool br] w fun e w' => e = .returned (.tuple #[.agg #[.string nm, .string gp, .int .i64 st, .int .i64 lf, .int .i64 si], .bool true]) ∧ Below w.heap.size w w' := by
  go_enter Tryz.func134, Tryz.ntmps134
  go_wp2
  refine bodyPost_ret (by simp [results, Tryz.results134, go_sem]; rfl) rfl ?_
  exact ⟨rfl, by (repeat' (first | with_reducible exact Below.refl _ _ | with_reducible assumption | with_reducible refine Below.drew ?_ | with_reducible refine below_drewN' ?_ _ | with_reducible refine Below.alloc ?_ ?_ _ | with_reducible refine Below.setCell ?_ ?_ _ | with_reducible refine below_step (by assumption) ?_ ?_ | omega | (simp; done) | (simp; omega)))⟩
def crS (lf : Int) (br : Bool) : Int := if 0 < lf - 1 then 1 else if br then 4 else 2
set_option maxRecDepth 100000 in
set_option maxHeartbeats 2000000 in
theorem creatingtick_any (nm gp : ByteArray) (lf si : Int) (br : Bool) (w : World) (h0 : 0 ≤ lf) (h1 : lf ≤ 1000000) :
    Calls Tryz.prog 132 #[.agg #[], .agg #[.string nm, .string gp, .int .i64 1, .int .i64 lf, .int .i64 si], .bool br] w fun e w' => e = .returned (.tuple #[.agg #[.string nm, .string gp, .int .i64 (crS lf br), .int .i64 (lf - 1), .int .i64 si], .bool true]) ∧ Below w.heap.size w w' := by
  have hw : IntKind.i64.wrap (lf - 1) = lf - 1 := by simp [IntKind.wrap, IntKind.bits, IntKind.signed]; omega
  unfold crS
  by_cases h : 0 < lf - 1
  · have k : decide (0 < lf - 1) = true := decide_eq_true h
    rw [if_pos h]
    go_enter Tryz.func132, Tryz.ntmps132
    go_wp2
    refine bodyPost_ret (by simp [results, Tryz.results132, go_sem]; rfl) rfl ?_
    exact ⟨rfl, by (repeat' (first | with_reducible exact Below.refl _ _ | with_reducible assumption | with_reducible refine Below.drew ?_ | with_reducible refine below_drewN' ?_ _ | with_reducible refine Below.alloc ?_ ?_ _ | with_reducible refine Below.setCell ?_ ?_ _ | with_reducible refine below_step (by assumption) ?_ ?_ | omega | (simp; done) | (simp; omega)))⟩
  · have k : decide (0 < lf - 1) = false := decide_eq_false h
    rw [if_neg h]
    cases br
    all_goals
      go_enter Tryz.func132, Tryz.ntmps132
      go_wp2
      refine bodyPost_ret (by simp [results, Tryz.results132, go_sem]; rfl) rfl ?_
      exact ⟨rfl, by (repeat' (first | with_reducible exact Below.refl _ _ | with_reducible assumption | with_reducible refine Below.drew ?_ | with_reducible refine below_drewN' ?_ _ | with_reducible refine Below.alloc ?_ ?_ _ | with_reducible refine Below.setCell ?_ ?_ _ | with_reducible refine below_step (by assumption) ?_ ?_ | omega | (simp; done) | (simp; omega)))⟩
theorem met_creating (n : Nat) (w : World) : (method (n + 1) 105 (.agg #[]) "trireme/cloud.tick").run Tryz.prog w = .ok (132, .agg #[]) w := by kernel_rfl
theorem met_running (n : Nat) (w : World) : (method (n + 1) 108 (.agg #[]) "trireme/cloud.tick").run Tryz.prog w = .ok (135, .agg #[]) w := by kernel_rfl
theorem met_leaving (n : Nat) (w : World) : (method (n + 1) 106 (.agg #[]) "trireme/cloud.tick").run Tryz.prog w = .ok (133, .agg #[]) w := by kernel_rfl
theorem met_failed (n : Nat) (w : World) : (method (n + 1) 107 (.agg #[]) "trireme/cloud.tick").run Tryz.prog w = .ok (134, .agg #[]) w := by kernel_rfl
theorem ent_creating (args : Array Value) (w : World) : (callFunc 132 args).run Tryz.prog w = .ok (.enter 132 args) w := by kernel_rfl
theorem ent_running (args : Array Value) (w : World) : (callFunc 135 args).run Tryz.prog w = .ok (.enter 135 args) w := by kernel_rfl
theorem ent_leaving (args : Array Value) (w : World) : (callFunc 133 args).run Tryz.prog w = .ok (.enter 133 args) w := by kernel_rfl
theorem ent_failed (args : Array Value) (w : World) : (callFunc 134 args).run Tryz.prog w = .ok (.enter 134 args) w := by kernel_rfl
theorem tick_of (x : Ins) (br : Bool) (h1 : x.st = 1 → 1 ≤ x.lf ∧ x.lf ≤ 1000) : ∃ (T : TypeId) (fT : FuncId) (y : Ins) (ok : Bool),
    (∀ V : World, Calls Tryz.prog 33 #[.agg #[.string x.nm, .string x.gp, .int .i64 x.st, .int .i64 x.lf, .int .i64 x.si]] V fun e w' => e = .returned (.iface T (.agg #[])) ∧ Below V.heap.size V w') ∧
    (∀ (n : Nat) (V : World), (method (n + 1) T (.agg #[]) "trireme/cloud.tick").run Tryz.prog V = .ok (fT, .agg #[]) V) ∧
    (∀ V : World, Calls Tryz.prog fT #[.agg #[], .agg #[.string x.nm, .string x.gp, .int .i64 x.st, .int .i64 x.lf, .int .i64 x.si], .bool br] V fun e w' => e = .returned (.tuple #[.agg #[.string y.nm, .string y.gp, .int .i64 y.st, .int .i64 y.lf, .int .i64 y.si], .bool ok]) ∧ Below V.heap.size V w') ∧
    tickI br x = (if ok = true then some y else none) ∧
    (∀ (args : Array Value) (V : World), (callFunc fT args).run Tryz.prog V = .ok (.enter fT args) V) := by
  have hS := fun V => stateof_any x.nm x.gp x.st x.lf x.si V
  by_cases e1 : x.st = 1
  · have ht : stT x.st = 105 := by unfold stT; rw [if_pos e1]
    rw [ht] at hS
    obtain ⟨h2, h3⟩ := h1 e1
    refine ⟨_, _, { x with st := crS x.lf br, lf := x.lf - 1 }, true, hS, met_creating, fun V => ?_, ?_⟩
    · rw [e1]
      exact creatingtick_any x.nm x.gp x.lf x.si br V (by omega) (by omega)
    · refine ⟨?_, ent_creating⟩
      unfold tickI crS
      rw [if_neg (by omega), if_pos e1, if_pos rfl]
      by_cases h4 : x.lf - 1 = 0
      · rw [if_pos h4, if_neg (show ¬ (0 < x.lf - 1) by omega), h4]
      · rw [if_neg h4, if_pos (show 0 < x.lf - 1 by omega), ← e1]
  · by_cases e3 : x.st = 3
    · have ht : stT x.st = 106 := by unfold stT; rw [if_neg e1, if_pos e3]
      rw [ht] at hS
      refine ⟨_, _, ⟨emp, emp, 0, 0, 0⟩, false, hS, met_leaving, fun V => leavingtick_any x.nm x.gp x.st x.lf x.si br V, ?_, ent_leaving⟩
      unfold tickI
      rw [if_pos e3]
      rfl
    · have hk : tickI br x = some x := by
        unfold tickI
        rw [if_neg e3, if_neg e1]
      by_cases e4 : x.st = 4
      · have ht : stT x.st = 107 := by unfold stT; rw [if_neg e1, if_neg e3, if_pos e4]
        rw [ht] at hS
        exact ⟨_, _, x, true, hS, met_failed, fun V => failedtick_any x.nm x.gp x.st x.lf x.si br V, hk, ent_failed⟩
      · have ht : stT x.st = 108 := by unfold stT; rw [if_neg e1, if_neg e3, if_neg e4]
        rw [ht] at hS
        exact ⟨_, _, x, true, hS, met_running, fun V => runningtick_any x.nm x.gp x.st x.lf x.si br V, hk, ent_running⟩
end Go.Proofs.YtmkdfcggjlhcpaaGreatDoor
namespace Go.Proofs.YtmkdfcggjlhcpaaGreatDoor
open Go.RowKit
set_option linter.unusedVariables false
set_option linter.unusedSimpArgs false
def partB (o : Oper) : Bool := match o.op with
  | .extract _ _ => true
  | .move _ => true
  | _ => false
def lateB (l : List Oper) (m : Nat) (ps : List Nat) : Bool :=
  decide (m ≤ l.length) && (ps.all fun p => decide (p < m) && (match l[p]? with | some o => partB o | none => false) && Region.free .any l.toArray ((List.range l.length).map fun j => ((masks l []).getD p 0).testBit j).toArray p) &&
  (List.range l.length).all fun i => decide (i < m) || (List.range i).all fun j => ((masks l []).getD i 0).testBit j ||
    (ps.contains j && match l[j]? with | some oj => oj.after.toList.all fun e => !Region.binds .any e || ((masks l []).getD i 0).testBit e.on | none => false)
def FreeAt (ops : Array Oper) (p : Nat) : Prop := ∀ (L : Nat → Prop) (o : Oper), Closed ops L → ops[p]? = some o → (∀ e ∈ o.after, Region.binds .any e = true → L e.on) →
  ∀ j oj, ops[j]? = some oj → j ≠ p → ¬ L j → (∀ e ∈ oj.after, Region.binds .any e = true → e.on ≠ p) → o.apart ops oj = true
section
variable {P : Program} {ops : Array Oper} {W : World}
theorem part_op {o : Oper} (hp : partB o = true) : (∃ x, o.op = .move x) ∨ ∃ t ix, o.op = .extract t ix := by
  unfold partB at hp
  cases ho : o.op <;> rw [ho] at hp <;> first | exact absurd hp Bool.false_ne_true | exact .inl ⟨_, rfl⟩ | exact .inr ⟨_, _, rfl⟩
theorem move_run {o : Oper} {x : Operand} (ho : o.op = .move x) (a : Act) (w : World) : (execOp a.eval o).run P w = .ok (.value (a.eval x)) w := by
  unfold execOp
  rw [ho]
  rfl
theorem part_run {o : Oper} {t : Operand} {ix : Nat} (ho : o.op = .extract t ix) (a : Act) : (∃ v, ∀ w : World, (execOp a.eval o).run P w = .ok (.value v) w) ∨ ∀ (R : Value → World → Prop) (w : World), ¬ relUpon P R w ((execOp a.eval o).run P w) := by
  have e : execOp a.eval o = (do pure (.value (← Instr.extract (a.eval t) ix)) : Sem Next) := by
    unfold execOp
    rw [ho]
  rw [e]
  cases hx : a.eval t with
  | tuple vs =>
    cases hv : vs[ix]? with
    | some v => exact .inl ⟨v, fun w => by simp [Instr.extract, hv]⟩
    | none => exact .inr fun R w h => by simp [Instr.extract, hv, relUpon, stuck] at h
  | _ => exact .inr fun R w h => by simp [Instr.extract, relUpon, stuck] at h
theorem part_yields {o : Oper} (hp : partB o = true) {a : Act} {w : World} {R : Value → World → Prop} (h : relAt P ops o a w R) : ∃ v, Yields P ops o v a ∧ R v w := by
  unfold relAt at h
  unfold Yields
  by_cases hw : Region.wanted o (yielded ops a.tmps) = true
  · rw [if_pos hw] at h
    rcases part_op hp with ⟨x, ho⟩ | ⟨t, ix, ho⟩
    · rw [move_run ho a w] at h
      exact ⟨_, .inl ⟨hw, move_run ho a⟩, h.1⟩
    · rcases part_run (P := P) ho a with ⟨v, hv⟩ | hn
      · rw [hv w] at h
        exact ⟨v, .inl ⟨hw, hv⟩, h.1⟩
      · exact absurd h (hn R w)
  · rw [if_neg hw] at h
    exact ⟨undef, .inr ⟨by simpa using hw, rfl⟩, h⟩
theorem part_take (hB : relB ops = true) {a0 : Act} {Q : Exit → Act → World → Prop} (hQ : ∀ c a (d : Nat) v w, Q (.panic c) (a.put (some d) v) w → Q (.panic c) a w) {Rs : List Rel} {i : Nat} {o : Oper} (ho : ops[i]? = some o) (hp : partB o = true)
    (hfr : FreeAt ops i) (hop : opSpec P ops W a0 Rs i o) {fuel : Nat}
    {listed : Array Bool} {a : Act} {n : Held W} {r : Nat → Value} (hsz : listed.size = ops.size) (ha : Agree ops a0 a (fun j => listed.getD j false = true) r)
    (hr : ∀ j, listed.getD j false = true → (Rs.getD j fun _ _ => True) (r j) n.w) (hi : i ∈ Region.ready .any ops listed) (hcl : ∀ j o, ops[j]? = some o → listed.getD j false = true → ∀ e ∈ o.after, Region.binds .any e = true → listed.getD e.on false = true)
    (hK : ∀ a' (n' : Held W) r', Agree ops a0 a' (fun j => (listed.setIfInBounds i true).getD j false = true) r' → (∀ j, (listed.setIfInBounds i true).getD j false = true → (Rs.getD j fun _ _ => True) (r' j) n'.w) → wpAny P .any ops Q fuel (listed.setIfInBounds i true) a' n'.w) : wpAny P .any ops Q (fuel + 1) listed a n.w := by
  obtain ⟨hl, o', ho', hall⟩ := mem_ready.1 hi
  obtain rfl : o' = o := Option.some.inj (ho'.symm.trans ho)
  have hio : i < ops.size := (Array.getElem?_eq_some_iff.1 ho).1
  have hlf : ¬ listed.getD i false = true := by
    have hil : i < listed.size := by omega
    simp [hil] at hl ⊢
    exact hl
  have hspec := hop a _ r n ha (fun j hb => by
    obtain ⟨e, he, h1, h2⟩ := behind_iff.1 hb
    subst h1
    exact ⟨hall e he h2, hr _ (hall e he h2)⟩) (fun j oj hoj hb hlj => by
    obtain ⟨e, he, h1, h2⟩ := behind_iff.1 hb
    have := hcl j oj hoj hlj e he h2
    rw [h1] at this
    exact hlf this)
  obtain ⟨v, hy, hR⟩ := part_yields hp hspec
  have hset : ∀ j, ((listed.setIfInBounds i true).getD j false = true) ↔ (listed.getD j false = true ∨ j = i) := fun j => by
    by_cases e : i = j
    · subst e
      have hil : i < listed.size := by omega
      simp [hil]
    · rw [getD_set_ne false e]
      exact ⟨.inl, fun h => h.resolve_right (Ne.symm e)⟩
  have hfr' : ∀ j oj, ops[j]? = some oj → j ≠ i → listed.getD j true = false → (∀ e ∈ oj.after, Region.binds .any e = true → e.on ≠ i) → o'.apart ops oj = true := fun j oj hj hne hun hno =>
    hfr (fun j => listed.getD j false = true) o' hcl ho hall j oj hj hne (fun h => by
      have hjl : j < listed.size := by have := (Array.getElem?_eq_some_iff.1 hj).1; omega
      simp [hjl] at hun h
      rw [hun] at h
      cases h) hno
  refine wpAny_first ho (Region.noSelect_spec (relB_spec hB).1) (fun c a w h => ?_) fuel listed a n.w hfr' hi hy (hK _ n (fun j => if j = i then v else r j) ?_ fun j hj => ?_)
  · cases hd : o'.dst with
    | none => rw [hd] at h; exact h
    | some d => rw [hd] at h; exact hQ c a d v w h
  · have := ha.put hB ho hlf v
    have e : (fun j => listed.getD j false = true ∨ j = i) = (fun j => (listed.setIfInBounds i true).getD j false = true) := funext fun j => propext (hset j).symm
    rw [e] at this
    exact this
  · by_cases e : j = i
    · subst e; simp only [if_true]; exact hR
    · simp only [if_neg e]
      exact hr j (((hset j).1 hj).resolve_right e)
theorem anyRelL (hB : relB ops = true) {m : Nat} (hmn : m ≤ ops.size) (ps : List Nat) (hps : ∀ p ∈ ps, p < m ∧ (∃ o, ops[p]? = some o ∧ partB o = true) ∧ FreeAt ops p)
    (hT : ∀ L : Nat → Prop, Closed ops L → ∀ i o, m ≤ i → ops[i]? = some o → (∀ e ∈ o.after, Region.binds .any e = true → L e.on) → ∀ j, j < i → L j ∨ (j ∈ ps ∧ ∀ oj, ops[j]? = some oj → ∀ e ∈ oj.after, Region.binds .any e = true → L e.on))
    {a0 : Act} {Q : Exit → Act → World → Prop} (hQP : ∀ c a (d : Nat) v w, Q (.panic c) (a.put (some d) v) w → Q (.panic c) a w) {Rs : List Rel} (hst : ∀ R ∈ Rs, Stays R)
    (hop : ∀ i o, i < m → ops[i]? = some o → opSpec P ops W a0 Rs i o)
    (hQ : ∀ r (n : Held W) a, Agree ops a0 a (· < m) r → (∀ j, j < m → (Rs.getD j fun _ _ => True) (r j) n.w) → wpOps P ops Q (List.range' m (ops.size - m)) a n.w) :
    ∀ (fuel : Nat) (listed : Array Bool) (a : Act) (n : Held W) (r : Nat → Value), listed.size = ops.size → fuel + (List.range ops.size).countP (fun i => listed.getD i false) = ops.size →
      (∀ j, m ≤ j → listed.getD j false = false) → Closed ops (fun j => listed.getD j false = true) →
      Agree ops a0 a (fun j => listed.getD j false = true) r → (∀ j, listed.getD j false = true → (Rs.getD j fun _ _ => True) (r j) n.w) → wpAny P .any ops Q fuel listed a n.w := by
  have hunl : ∀ (listed : Array Bool) (i : Nat), listed.size = ops.size → i < ops.size → listed.getD i true = false → listed.getD i false = false := fun listed i hsz hi h => by
    have hil : i < listed.size := by omega
    simp [hil] at h ⊢
    exact h
  have hone : ∀ k listed, (∀ j, listed.getD j false = decide (j < k)) → listed.size = ops.size → m ≤ k → ∀ i ∈ Region.ready .any ops listed, i = k := by
    intro k listed hl hsz hmk i hi
    obtain ⟨h0, o, ho, hall⟩ := mem_ready.1 hi
    have hio : i < ops.size := (Array.getElem?_eq_some_iff.1 ho).1
    have h1 := hunl listed i hsz hio h0
    rw [hl] at h1
    have hki : ¬ i < k := by simpa using h1
    by_cases e : i = k
    · exact e
    · have hcl : Closed ops (fun j => listed.getD j false = true) := fun j o ho hj e he hb => by
        show listed.getD e.on false = true
        have hj : listed.getD j false = true := hj
        rw [hl] at hj ⊢
        have := ((relB_spec hB).2 j o ho).1 e he hb
        simp at hj ⊢
        omega
      rcases hT _ hcl i o (by omega) ho hall k (by omega) with this | this
      · rw [hl] at this
        simp at this
      · have := (hps k this.1).1
        omega
  have hall' : ∀ k' (listed' : Array Bool), k' < ops.size → listed'.size = ops.size → (∀ j, listed'.getD j false = decide (j < k')) → k' ∈ Region.ready .any ops listed' := by
    intro k listed hk hsz hl
    have hkl : k < listed.size := by omega
    refine mem_ready.2 ⟨?_, ops[k], Array.getElem?_eq_getElem hk, fun e he hb => ?_⟩
    · have := hl k
      simp [hkl] at this ⊢
      exact this
    · have := ((relB_spec hB).2 k _ (Array.getElem?_eq_getElem hk)).1 e he hb
      rw [hl]
      exact decide_eq_true this
  have hfin : ∀ (fuel : Nat) (listed : Array Bool) (a : Act) (n : Held W) (r : Nat → Value), listed.size = ops.size → fuel + (List.range ops.size).countP (fun i => listed.getD i false) = ops.size →
      (∀ j, listed.getD j false = decide (j < m)) → Agree ops a0 a (fun j => listed.getD j false = true) r → (∀ j, listed.getD j false = true → (Rs.getD j fun _ _ => True) (r j) n.w) → wpAny P .any ops Q fuel listed a n.w := by
    intro fuel listed a n r hsz hc hl ha hr
    have e1 : (fun i => listed.getD i false) = fun i => decide (i < m) := funext hl
    rw [e1, cnt_first m ops.size hmn] at hc
    have e2 : (fun j => listed.getD j false = true) = (· < m) := funext fun j => propext (by rw [hl]; simp)
    rw [e2] at ha
    have hq := hQ r n a ha fun j hj => hr j (by rw [hl]; exact decide_eq_true hj)
    obtain rfl : fuel = ops.size - m := by omega
    refine any_tail hone _ m listed a n.w (Nat.le_refl m) (by omega) hsz hl ?_ (fun k' l' _ h2 h3 h4 => hall' k' l' h2 h3 h4) hq
    by_cases e : ops.size - m = 0
    · exact .inl e
    · exact .inr (hall' m listed (by omega) hsz hl)
  intro fuel
  induction fuel with
  | zero =>
    intro listed a n r hsz hc hno hcl ha hr
    have hfull : ∀ j, j < ops.size → listed.getD j false = true := fun j hj => by
      have : (List.range ops.size).countP (fun i => listed.getD i false) = (List.range ops.size).length := by simpa using hc
      exact List.countP_eq_length.1 this j (List.mem_range.2 hj)
    refine hfin 0 listed a n r hsz hc (fun j => ?_) ha hr
    by_cases e : j < m
    · rw [hfull j (by omega)]; simp [e]
    · rw [hno j (by omega)]; simp [e]
  | succ fuel ih =>
    intro listed a n r hsz hc hno hcl ha hr
    by_cases hpre : ∀ j, j < m → listed.getD j false = true
    · refine hfin (fuel + 1) listed a n r hsz hc (fun j => ?_) ha hr
      by_cases e : j < m
      · rw [hpre j e]; simp [e]
      · rw [hno j (by omega)]; simp [e]
    · have hcnt : ∀ i, i ∈ Region.ready .any ops listed → fuel + (List.range ops.size).countP (fun j => (listed.setIfInBounds i true).getD j false) = ops.size := fun i hi => by
        obtain ⟨h0, o, ho, _⟩ := mem_ready.1 hi
        have hio : i < ops.size := (Array.getElem?_eq_some_iff.1 ho).1
        have hil : i < listed.size := by omega
        have h1 := hunl listed i hsz hio h0
        have e : (fun j => (listed.setIfInBounds i true).getD j false) = fun j => decide (j = i) || listed.getD j false := funext fun j => by
          by_cases e : i = j
          · subst e; simp [hil]
          · rw [getD_set_ne false e]; simp [Ne.symm e]
        rw [e, cnt_set _ i h1, if_pos hio]
        omega
      have hclo : ∀ i, i ∈ Region.ready .any ops listed → Closed ops (fun j => (listed.setIfInBounds i true).getD j false = true) := fun i hi j o ho hj e he hb => by
        by_cases e1 : i = j
        · subst e1
          obtain ⟨_, o', ho', hall⟩ := mem_ready.1 hi
          obtain rfl : o = o' := Option.some.inj (ho.symm.trans ho')
          exact getD_set_true (hall e he hb)
        · have hj : (listed.setIfInBounds i true).getD j false = true := hj
          rw [getD_set_ne false e1] at hj
          exact getD_set_true (hcl j o ho hj e he hb)
      by_cases hpr : ∃ p ∈ ps, p ∈ Region.ready .any ops listed
      · obtain ⟨p, hpm, hpi⟩ := hpr
        obtain ⟨hplt, ⟨o, ho, hpo⟩, hfr⟩ := hps p hpm
        exact part_take hB hQP ho hpo hfr (hop p o hplt ho) hsz ha hr hpi hcl fun a' n' r' ha' hr' => ih _ a' n' r' (by simpa using hsz) (hcnt p hpi) (fun j hj => by rw [getD_set_ne false (by omega)]; exact hno j hj) (hclo p hpi) ha' hr'
      · have hlow : ∀ i ∈ Region.ready .any ops listed, i < m := fun i hi => by
          obtain ⟨h0, o, ho, hall⟩ := mem_ready.1 hi
          rcases Nat.lt_or_ge i m with h | h
          · exact h
          · refine absurd (fun j hj => ?_) hpre
            rcases hT _ hcl i o h ho hall j (by omega) with h2 | ⟨h2, h3⟩
            · exact h2
            · by_cases hlj : listed.getD j false = true
              · exact hlj
              · refine absurd ⟨j, h2, mem_ready.2 ⟨?_, ops[j]'(by omega), Array.getElem?_eq_getElem (by omega), h3 _ (Array.getElem?_eq_getElem (by omega))⟩⟩ hpr
                have hil : j < listed.size := by omega
                simp [hil] at hlj ⊢
                exact hlj
        refine ⟨fun hnil => ?_, fun i hi => ?_⟩
        · exfalso
          refine hpre fun j hj => ?_
          have hall : ∀ q i, i < q → i < m → listed.getD i false = true := by
            intro q
            induction q with
            | zero => intro i h; omega
            | succ q ihq =>
              intro i hiq him
              by_cases hl : listed.getD i false = true
              · exact hl
              · exfalso
                have : i ∈ Region.ready .any ops listed := by
                  refine mem_ready.2 ⟨?_, ops[i], Array.getElem?_eq_getElem (by omega), fun e he hb => ?_⟩
                  · have hil : i < listed.size := by omega
                    simp [hil] at hl ⊢
                    exact hl
                  · have h1 := ((relB_spec hB).2 i ops[i] (Array.getElem?_eq_getElem (by omega))).1 e he hb
                    exact ihq e.on (by omega) (by omega)
                rw [hnil] at this
                cases this
          exact hall (j + 1) j (by omega) hj
        · have him := hlow i hi
          exact rel_step hB hst (fun o ho => hop i o him ho) hsz ha hr hi hcl fun a' n' r' ha' hr' => ih _ a' n' r' (by simpa using hsz) (hcnt i hi) (fun j hj => by rw [getD_set_ne false (by omega)]; exact hno j hj) (hclo i hi) ha' hr'
theorem region_rel_late {id : Nat} {Q : Exit → Act → World → Prop} {a : Act} {w : World} {l : List Oper} {b : Bool} (m : Nat) (ps : List Nat) (hm : P.follows .mixedOrders = true) (hB : relB l.toArray = true) (hT : lateB l m ps = true) (hQP : ∀ c a (d : Nat) v w, Q (.panic c) (a.put (some d) v) w → Q (.panic c) a w)
    (h : wpRel P l.toArray w (fun a' w' => wpList P l.toArray Q (l.drop m) a' w') (l.take m) 0 (fun _ => a) []) : (Code.region id l.toArray b).wp P Q a w := by
  unfold lateB at hT
  rw [Bool.and_eq_true, Bool.and_eq_true, decide_eq_true_eq, List.all_eq_true, List.all_eq_true] at hT
  obtain ⟨⟨hml, hps⟩, hT⟩ := hT
  have hps' : ∀ p ∈ ps, p < m ∧ (∃ o, l.toArray[p]? = some o ∧ partB o = true) ∧ FreeAt l.toArray p := fun p hp => by
    have h1 := hps p hp
    rw [Bool.and_eq_true, Bool.and_eq_true, decide_eq_true_eq] at h1
    refine ⟨h1.1.1, ?_, fun L o hc ho hL j oj hj hne hnl hno => Region.free_spec ho h1.2 j oj hj hne ?_ hno⟩
    rotate_left
    · have hpl : p < l.length := by simpa using (Array.getElem?_eq_some_iff.1 ho).1
      have hjl : j < l.length := by simpa using (Array.getElem?_eq_some_iff.1 hj).1
      have hM := masks_ok hc l [] (fun j => by simp) (fun i o h => absurd h (by simp)) p o (by simpa using hpl) ho hL j
      cases hb : ((masks l []).getD p 0).testBit j
      · simpa [hjl] using hb
      · exact absurd (hM hb) hnl
    have h2 := h1.1.2
    cases ho : l[p]? with
    | none => rw [ho] at h2; exact absurd h2 Bool.false_ne_true
    | some o => rw [ho] at h2; exact ⟨o, by simpa using ho, h2⟩
  have hlen : (l.take m).length = m := by rw [List.length_take]; omega
  have hsub : ∀ j, j < m → (l.take m)[j]? = l[j]? := fun j hj => by rw [List.getElem?_take, if_pos hj]
  obtain ⟨Rs, e1, e2, _, e4, e5⟩ := plan hB a _ (l.take m) 0 (fun _ => a) [] [] (fun r => r) (fun j hj => by rw [hsub j (by omega)]; simp) rfl (fun _ h => by cases h) (fun r => ⟨rfl, rfl, fun _ _ _ h => absurd h (by omega), fun _ _ => rfl⟩) (fun _ _ _ h => absurd h (by omega)) (fun _ h => by cases h) h
  rw [hlen, Nat.zero_add] at e1 e4 e5
  have hcl : ∀ L : Nat → Prop, Closed l.toArray L → ∀ i o, m ≤ i → l.toArray[i]? = some o → (∀ e ∈ o.after, Region.binds .any e = true → L e.on) → ∀ j, j < i → L j ∨ (j ∈ ps ∧ ∀ oj, l.toArray[j]? = some oj → ∀ e ∈ oj.after, Region.binds .any e = true → L e.on) := by
    intro L hc i o hmi ho hL j hj
    have hil : i < l.length := by simpa using (Array.getElem?_eq_some_iff.1 ho).1
    have h1 := hT i (List.mem_range.2 hil)
    rw [Bool.or_eq_true, decide_eq_true_eq, List.all_eq_true] at h1
    have h2 := (h1.resolve_left (by omega)) j (List.mem_range.2 hj)
    have hM := fun j h2 => masks_ok hc l [] (fun j => by simp) (fun i o h => absurd h (by simp)) i o (by simpa using hil) ho hL j h2
    rw [Bool.or_eq_true, Bool.and_eq_true] at h2
    rcases h2 with h2 | ⟨h2, h3⟩
    · exact .inl (hM j h2)
    · refine .inr ⟨by simpa using h2, fun oj hoj e he hb => ?_⟩
      have hoj' : l[j]? = some oj := by simpa using hoj
      rw [hoj'] at h3
      have h4 := List.all_eq_true.1 h3 e (by simpa using he)
      rw [Bool.or_eq_true, Bool.not_eq_true'] at h4
      rcases h4 with h4 | h4
      · rw [hb] at h4; cases h4
      · exact hM e.on h4
  have hany : ∀ n : Held w, wpAny P .any l.toArray Q l.toArray.size (Array.replicate l.toArray.size false) a n.w := fun n => by
    have hrep : ∀ j, (Array.replicate l.toArray.size false).getD j false = false := fun j => by
      rcases Nat.lt_or_ge j l.length with h' | h'
      · simp [h']
      · simp [Array.getElem?_eq_none, h']
    refine anyRelL (W := w) (a0 := a) (Rs := Rs) hB (by simpa using hml) ps hps' hcl hQP e2 (fun i o hi ho => e4 i o (Nat.zero_le _) ho hi) (fun r n a ha hr => ?_) _ _ _ n (fun _ => undef) (by simp) ?_ (fun j _ => hrep j) (fun j o ho hj => ?_) ?_ ?_
    · have := e5 r n a ha hr
      have hx := wpOps_eq_wpList (P := P) (ops := l.toArray) (Q := Q) (l.drop m) m (fun j => by simp [List.getElem?_drop])
      have hz : l.toArray.size - m = (l.drop m).length := by simp
      rw [hz, hx]
      exact this
    · have : (List.range l.toArray.size).countP (fun i => (Array.replicate l.toArray.size false).getD i false) = 0 := by
        rw [List.countP_eq_zero]
        intro j _
        rw [hrep j]; simp
      rw [this, Nat.add_zero]
    · exact absurd (show (Array.replicate l.toArray.size false).getD j false = true from hj) (by rw [hrep j]; simp)
    · exact ⟨rfl, rfl, fun j d _ h => absurd (show (Array.replicate l.toArray.size false).getD j false = true from h) (by rw [hrep j]; simp), fun _ _ => rfl⟩
    · exact fun j h => absurd h (by rw [hrep j]; simp)
  cases b
  · refine wp_region ?_
    rw [List.range_eq_range']
    exact any_lex hB _ 0 _ a w (by simp) (by simp) (fun j => by
      rcases Nat.lt_or_ge j l.length with h' | h'
      · simp [h']
      · simp [Array.getElem?_eq_none, h']) (hany ⟨w, Below.refl _ _⟩)
  · exact wp_region_any hm (hany ⟨w.drew, (Below.refl _ _).drew⟩)
end
end Go.Proofs.YtmkdfcggjlhcpaaGreatDoor
