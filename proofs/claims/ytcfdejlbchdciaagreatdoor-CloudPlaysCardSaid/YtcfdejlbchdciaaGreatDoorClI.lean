/-
  The program's provider: Increase.
-/
import Derived.Test.YtcfdejlbchdciaaGreatDoorClR
namespace Go.Proofs.YtcfdejlbchdciaaGreatDoor
open Go.RowKit
set_option linter.unusedVariables false
set_option linter.unusedSimpArgs false

/-- The groups' machines have no more labels and taints than this. -/
def GL (G : List Gp) : Prop := ∀ g ∈ G, g.like.labs.length ≤ 1000000 ∧ g.like.tnts.length ≤ 1000000

set_option maxRecDepth 100000 in
set_option maxHeartbeats 8000000 in
theorem incr_any (b : Nat) (G : List Gp) (s : CS) (gv pv lv : Value) (key : ByteArray) (n : Int) (w0 w : World) (h : CT w w0.heap.size b G s gv pv lv) (hB0 : Below w0.heap.size w0 w) (hT : Tab10 w0) (m : Nat) (hO : s.Ok m) (hm : m ≤ 100) (hgl : GL G) (hn0 : -9223372036854775808 ≤ n) (hn1 : n ≤ 9223372036854775807) :
    Calls Tryz.prog 13 #[.pointer (some ⟨b, 0, none⟩), .string key, .int .i64 n] w fun e w' => e = .returned (.int .i64 (s.inc key n).2) ∧ ∃ lv', CT w' w0.heap.size b G (s.inc key n).1 gv pv lv' ∧ Only (blocksOf b pv lv) w w' ∧ NewB w.heap.size lv lv' := by
  have hz : G.length = s.G.length := by rw [← h.gk, List.length_map]
  have hG16 := hO.g16
  have hL9 : s.L.length ≤ 1000000 := by have := hO.lb; omega
  have c0 := h.row.cell 0
  have c1 := h.row.cell 1
  have c2 := h.row.cell 2
  have c4 := h.row.cell 4
  have c5 := h.row.cell 5
  dsimp only [List.getElem?_cons_zero, List.getElem?_cons_succ] at c0 c1 c2 c4 c5
  have HL := Lib.hid (fun V (hb : Below w.heap.size w V) => place_any w0.heap.size b G s gv pv lv key V (h.below hb) (by unfold maxLen; omega))
  have hpo : ∀ g, pv.ownBlock = some g → g ∈ blocksOf b pv lv := fun g e => by unfold blocksOf; rw [e]; simp
  have hbo : b ∈ blocksOf b pv lv := by unfold blocksOf; simp
  obtain ⟨a, k, hpv, hR⟩ := h.pools
  obtain ⟨ga, gk, hgv, hGr⟩ := h.groups
  have hbl := h.row.lt
  have HR := Lib.hid hR
  have HGr := Lib.hid hGr
  have Hh := Lib.hid h
  have hgk := h.gk
  have hP := hO.ln
  obtain ⟨N, hN⟩ : ∃ N, s.P.length = N := ⟨_, rfl⟩
  have HN := Lib.hid hN
  have HO := Lib.hid hO
  have HB0 := Lib.hid hB0
  have HT := Lib.hid hT
  have HGL := Lib.hid hgl
  obtain ⟨SB, hSB⟩ : ∃ SB, SB = blocksOf b pv lv := ⟨_, rfl⟩
  have HSB := Lib.hid hSB
  rw [← hSB] at hpo hbo ⊢
  rw [hpv] at c2
  rw [hgv] at c1
  rw [hN] at c2 hP
  clear h hR hN hO hGr hB0 hT hgl hSB
  cases hf : fndK s.G key with
  | none =>
    have hT : s.inc key n = (s, 16) := by unfold CS.inc; rw [hf]
    have hA : findA G key 0 = -1 := findA_none (by rw [hgk]; exact hf)
    rw [hA] at HL
    rw [hT]
    clear hf hgk hpv hgv
    go_enter Tryz.func13, Tryz.ntmps13
    go_wp2_with (first
      | (go_at_call 35; (with_reducible refine (made_yes b _ c0).mono ?_); rintro e w1 ⟨rfl, rfl⟩)
      | (go_at_call 39; (with_reducible refine (HL.out _ (by (repeat' (first | with_reducible exact Below.refl _ _ | with_reducible assumption | with_reducible refine Below.drew ?_ | with_reducible refine below_drewN' ?_ _ | with_reducible refine Below.alloc ?_ ?_ _ | with_reducible refine Below.setCell ?_ ?_ _ | with_reducible refine below_step (by assumption) ?_ ?_ | omega | (simp; done) | (simp; omega))))).mono ?_); rintro e w2 ⟨rfl, hb2⟩; have HB2 := Lib.hid hb2))
    go_ret
    exact ⟨rfl, lv, Hh.out.below HB2.out, Only.of_below HB2.out, .refl⟩
  | some j =>
    obtain ⟨g, hg, _⟩ := fndK_lt hf
    have hjn : j < N := by have := lt_at hg; omega
    obtain ⟨p, hp⟩ := mem_at (l := s.P) (k := j) (by rw [HN.out]; exact hjn)
    obtain ⟨g', hg'⟩ := mem_at (l := G) (k := j) (by omega)
    have hgg : gkOf g' = g := by
      have h9 : (G.map gkOf)[j]? = some (gkOf g') := by rw [List.getElem?_map, hg']; rfl
      rw [hgk, hg] at h9
      exact (Option.some.inj h9).symm
    have hA : findA G key 0 = (j : Int) := findA_some (by rw [hgk]; exact hf)
    rw [hA] at HL
    have hT : s.inc key n = if n < 1 then (s, 1) else if g.mx - p.t < n then (s, 21) else if p.br then (s, 26) else ({ s.req j g p ⟨emp, emp, 1, s.dl, s.nw⟩ n.toNat with ca := s.ca + 1 }, 0) := by
      unfold CS.inc
      rw [hf]
      dsimp only
      rw [hg, hp]
    obtain ⟨q, hqa, _, hq, hc⟩ := HR.out (by rw [HN.out]; omega)
    obtain ⟨d0, _, d2⟩ := hc j p hp
    obtain ⟨gb, go, hga, hgb, hgc⟩ := HGr.out (by omega)
    obtain ⟨_, _, x2, _⟩ := grow_cells (hgc j g' hg')
    have hmx : g'.mx = g.mx := by rw [← hgg]; rfl
    rw [hmx] at x2
    rw [hqa] at c2
    rw [hga] at c1
    obtain ⟨t0, t1, l0, l1⟩ := HO.out.tb j g p hg hp
    obtain ⟨b0, b1, b2, b3, b4⟩ := HO.out.gb g (List.mem_of_getElem? hg)
    have hn4 : g'.nm.size ≤ 300 := by
      have e4 : g'.nm = g.nm := by rw [← hgg]; rfl
      rw [e4]
      exact b4
    have hG9 : G.length ≤ 16 := by omega
    have hN9 : N ≤ 16 := by omega
    obtain ⟨_, _, n0, n1⟩ := HO.out.nb
    have k1 : decide ((j : Int) < 0) = false := decide_eq_false (by omega)
    have Hp := Lib.hid hp
    have Hg' := Lib.hid hg'
    have Hgg := Lib.hid hgg
    rw [hT]
    have hjG : j < G.length := by omega
    have hji : (j : Int) < (N : Int) := by omega
    have hjI : (j : Int) < (G.length : Int) := by omega
    have hj0 : (0 : Int) ≤ (j : Int) := by omega
    have hgl' := HGL.out g' (List.mem_of_getElem? hg')
    have hwm : IntKind.i64.wrap (g.mx - p.t) = g.mx - p.t := cwrap_in (by omega) (by omega)
    clear hf hgk hg hp hc hgc hT hgg hg' hz hP
    by_cases h1 : n < 1
    · have k2 : decide (n < 1) = true := decide_eq_true h1
      rw [if_pos h1]
      go_enter Tryz.func13, Tryz.ntmps13
      go_wp2_with (first
        | (go_at_call 35; (with_reducible refine (made_yes b _ c0).mono ?_); rintro e w1 ⟨rfl, rfl⟩)
        | (go_at_call 39; (with_reducible refine (HL.out _ (by (repeat' (first | with_reducible exact Below.refl _ _ | with_reducible assumption | with_reducible refine Below.drew ?_ | with_reducible refine below_drewN' ?_ _ | with_reducible refine Below.alloc ?_ ?_ _ | with_reducible refine Below.setCell ?_ ?_ _ | with_reducible refine below_step (by assumption) ?_ ?_ | omega | (simp; done) | (simp; omega))))).mono ?_); rintro e w2 ⟨rfl, hb2⟩; have HB2 := Lib.hid hb2; obtain ⟨hc2, hf2⟩ := bcell hb2))
      go_ret
      exact ⟨rfl, lv, Hh.out.below HB2.out, Only.of_below HB2.out, .refl⟩
    · have k2 : decide (n < 1) = false := decide_eq_false h1
      rw [if_neg h1]
      by_cases h2 : g.mx - p.t < n
      · rw [if_pos h2]
        have k3 : decide (g.mx - p.t < n) = true := decide_eq_true h2
        go_enter Tryz.func13, Tryz.ntmps13
        go_wp2_with (first
          | (go_at_call 35; (with_reducible refine (made_yes b _ c0).mono ?_); rintro e w1 ⟨rfl, rfl⟩)
          | (go_at_call 39; (with_reducible refine (HL.out _ (by (repeat' (first | with_reducible exact Below.refl _ _ | with_reducible assumption | with_reducible refine Below.drew ?_ | with_reducible refine below_drewN' ?_ _ | with_reducible refine Below.alloc ?_ ?_ _ | with_reducible refine Below.setCell ?_ ?_ _ | with_reducible refine below_step (by assumption) ?_ ?_ | omega | (simp; done) | (simp; omega))))).mono ?_); rintro e w2 ⟨rfl, hb2⟩; have HB2 := Lib.hid hb2; have hz2 := hb2.size; obtain ⟨hc2, hf2⟩ := bcell hb2))
        have HT2 := Lib.hid (Hh.out.below HB2.out)
        have y1 : w2.cell? ⟨b, 1, none⟩ = _ := (hc2 b 1 hbl).trans c1
        have y2 : w2.cell? ⟨b, 2, none⟩ = _ := (hc2 b 2 hbl).trans c2
        have y4 : w2.cell? ⟨b, 4, none⟩ = _ := (hc2 b 4 hbl).trans c4
        have y5 : w2.cell? ⟨b, 5, none⟩ = _ := (hc2 b 5 hbl).trans c5
        have e0 : w2.cell? ⟨q, j * 3, none⟩ = _ := (hc2 q (j * 3) hq).trans d0
        have e2 : w2.cell? ⟨q, j * 3 + 2, none⟩ = _ := (hc2 q (j * 3 + 2) hq).trans d2
        have e1 : w2.cell? ⟨gb, go + j * 15 + 2, none⟩ = _ := (hc2 gb (go + j * 15 + 2) hgb).trans x2
        have hbl2 : b < w2.heap.size := HT2.out.row.lt
        have hq2 : q < w2.heap.size := Nat.lt_of_lt_of_le hq hz2
        have hg2 : gb < w2.heap.size := Nat.lt_of_lt_of_le hgb hz2
        clear c1 c2 c4 c5 d0 d2 x2 hc2 hf2 hb2 hz2
        have hcH := held_cell
        refine region_below (by kernel_rfl) (by kernel_rfl) ?_
        repeat
          ((with_reducible refine wpQuiet_step (fun K hK => ?_))
           go_simp
           first
             | ((with_reducible refine hK _ ?_); clear hK K)
             | (apply Exists.intro
                (with_reducible refine ⟨fun n => ?_, hK _ ?_⟩)
                (fail)
                clear hK K))
        with_reducible refine wpQuiet_nil ?_
        intro w5 hw2
        clear hcH
        obtain ⟨⟨_, hb5⟩, rfl⟩ := hw2
        (try dsimp only)
        obtain ⟨hc5, hf5⟩ := bcell hb5
        have hz5 := hb5.size
        (try simp at hz5)
        have HB5 := Lib.hid (HB2.out.trans (hb5.mono HB2.out.size))
        have y2' : w5.cell? ⟨b, 2, none⟩ = _ := (hc5 b 2 hbl2).trans y2
        have y4' : w5.cell? ⟨b, 4, none⟩ = _ := (hc5 b 4 hbl2).trans y4
        have y5' : w5.cell? ⟨b, 5, none⟩ = _ := (hc5 b 5 hbl2).trans y5
        have e2' : w5.cell? ⟨q, j * 3 + 2, none⟩ = _ := (hc5 q (j * 3 + 2) hq2).trans e2
        have hbl5 : b < w5.heap.size := Nat.lt_of_lt_of_le hbl2 hb5.size
        have hq5 : q < w5.heap.size := Nat.lt_of_lt_of_le hq2 hb5.size
        clear y1 y2 y4 y5 e0 e1 e2 hc5 hf5
        go_wp2
        go_ret
        exact ⟨rfl, lv, HT2.out.below hb5, Only.of_below (HB2.out.trans (hb5.mono HB2.out.size)), .refl⟩
      · rw [if_neg h2]
        have k3 : decide (g.mx - p.t < n) = false := decide_eq_false h2
        have hw2 : IntKind.i64.wrap (s.ca + 1) = s.ca + 1 := cwrap_in (by omega) (by omega)
        cases hbr : p.br
        · rw [if_neg (by decide)]
          obtain ⟨nn, rfl⟩ : ∃ nn : Nat, n = (nn : Int) := ⟨n.toNat, by omega⟩
          rw [Int.toNat_natCast]
          rw [hbr] at d2
          have HRq := Lib.hid (fun V (hV : Below w.heap.size w V) => show Calls Tryz.prog 22 #[.pointer (some ⟨b, 0, none⟩), .int .i64 j, .int .i64 nn, .agg #[.string ⟨#[]⟩, .string ⟨#[]⟩, .int .i64 1, .int .i64 s.dl, .int .i64 s.nw]] V fun e w' => e = .returned (.tuple #[]) ∧ ∃ lv', CT w' w0.heap.size b G (s.req j g p ⟨emp, emp, 1, s.dl, s.nw⟩ nn) gv pv lv' ∧ Only (blocksOf b pv lv) V w' ∧ NewB V.heap.size lv lv' from by
            have h9 := request_any b G s gv pv lv j g' p ⟨emp, emp, 1, s.dl, s.nw⟩ nn m w0 V (Hh.out.below hV) (HB0.out.trans (hV.mono HB0.out.size)) HT.out Hg'.out Hp.out hG9 hn4 hgl'.1 hgl'.2 (by omega) (by omega) (by omega) (by omega) (by rw [HN.out]; exact hN9)
            rw [Hgg.out] at h9
            exact h9)
          clear hpv hgv hbr hL9 hgl'
          go_enter Tryz.func13, Tryz.ntmps13
          go_wp2_with (first
            | (go_at_call 35; (with_reducible refine (made_yes b _ c0).mono ?_); rintro e w1 ⟨rfl, rfl⟩)
            | (go_at_call 39; (with_reducible refine (HL.out _ (by (repeat' (first | with_reducible exact Below.refl _ _ | with_reducible assumption | with_reducible refine Below.drew ?_ | with_reducible refine below_drewN' ?_ _ | with_reducible refine Below.alloc ?_ ?_ _ | with_reducible refine Below.setCell ?_ ?_ _ | with_reducible refine below_step (by assumption) ?_ ?_ | omega | (simp; done) | (simp; omega))))).mono ?_); rintro e w2 ⟨rfl, hb2⟩; have HB2 := Lib.hid hb2; have hz2 := hb2.size; obtain ⟨hc2, hf2⟩ := bcell hb2))
          have HT2 := Lib.hid (Hh.out.below HB2.out)
          have y1 : w2.cell? ⟨b, 1, none⟩ = _ := (hc2 b 1 hbl).trans c1
          have y2 : w2.cell? ⟨b, 2, none⟩ = _ := (hc2 b 2 hbl).trans c2
          have y4 : w2.cell? ⟨b, 4, none⟩ = _ := (hc2 b 4 hbl).trans c4
          have y5 : w2.cell? ⟨b, 5, none⟩ = _ := (hc2 b 5 hbl).trans c5
          have e0 : w2.cell? ⟨q, j * 3, none⟩ = _ := (hc2 q (j * 3) hq).trans d0
          have e2 : w2.cell? ⟨q, j * 3 + 2, none⟩ = _ := (hc2 q (j * 3 + 2) hq).trans d2
          have e1 : w2.cell? ⟨gb, go + j * 15 + 2, none⟩ = _ := (hc2 gb (go + j * 15 + 2) hgb).trans x2
          have hbl2 : b < w2.heap.size := HT2.out.row.lt
          have hq2 : q < w2.heap.size := Nat.lt_of_lt_of_le hq hz2
          have hg2 : gb < w2.heap.size := Nat.lt_of_lt_of_le hgb hz2
          clear c1 c2 c4 c5 d0 d2 x2 hc2 hf2 hb2 hz2
          have hcH := held_cell
          refine region_below (by kernel_rfl) (by kernel_rfl) ?_
          repeat
            ((with_reducible refine wpQuiet_step (fun K hK => ?_))
             go_simp
             first
               | ((with_reducible refine hK _ ?_); clear hK K)
               | (apply Exists.intro
                  (with_reducible refine ⟨fun n => ?_, hK _ ?_⟩)
                  (fail)
                  clear hK K))
          with_reducible refine wpQuiet_nil ?_
          intro w5 hw2
          clear hcH
          obtain ⟨⟨_, hb5⟩, rfl⟩ := hw2
          (try dsimp only)
          obtain ⟨hc5, hf5⟩ := bcell hb5
          have hz5 := hb5.size
          (try simp at hz5)
          have HB5 := Lib.hid (HB2.out.trans (hb5.mono HB2.out.size))
          have y2' : w5.cell? ⟨b, 2, none⟩ = _ := (hc5 b 2 hbl2).trans y2
          have y4' : w5.cell? ⟨b, 4, none⟩ = _ := (hc5 b 4 hbl2).trans y4
          have y5' : w5.cell? ⟨b, 5, none⟩ = _ := (hc5 b 5 hbl2).trans y5
          have e2' : w5.cell? ⟨q, j * 3 + 2, none⟩ = _ := (hc5 q (j * 3 + 2) hq2).trans e2
          have hbl5 : b < w5.heap.size := Nat.lt_of_lt_of_le hbl2 hb5.size
          have hq5 : q < w5.heap.size := Nat.lt_of_lt_of_le hq2 hb5.size
          clear y1 y2 y4 y5 e0 e1 e2 hc5 hf5
          go_wp2
          have hcH := held_cell
          refine region_rel_tail 12 (by kernel_rfl) (by kernel_rfl) (by kernel_rfl) ?_
          dsimp only [List.take, List.drop]
          repeat
            ((with_reducible refine relStep (fun K hK => ?_))
             (have HK := Lib.hid hK)
             clear hK
             (apply relInl
              · intro r n hf
                have Hf := Lib.hid hf
                clear hf
                (first
                  | (fail)
                  | (unfold relAt
                     go_simp
                     (first | (refine relUpon_val ?_ (Below.refl _ _); exact rfl) | exact rfl | (refine relUpon_enter ?_; fail))))
              (simp only [Act.put, List.setIfInBounds_toArray, List.set_cons_zero, List.set_cons_succ])
              (with_reducible refine HK.out _ _ ?_)
              clear HK K))
          refine relNil ?_
          intro r8 n8 hx8
          clear hcH
          (try simp only [List.nil_append, List.cons_append, List.mem_cons, List.not_mem_nil, or_false, forall_eq_or_imp, forall_eq, false_implies, implies_true] at hx8)
          obtain ⟨w8, hb8⟩ := n8
          (try dsimp only)
          obtain ⟨hc8, hf8⟩ := bcell hb8
          have hz8 := hb8.size
          (try simp at hz8)
          go_wp2_with (go_at_call 22; (with_reducible refine (HRq.out _ (HB5.out.trans (hb8.mono HB5.out.size))).mono ?_); rintro e w9 ⟨rfl, lv', hT9, hO9, hN9⟩; have HT9 := Lib.hid hT9; have HO9 := Lib.hid hO9; have HN9 := Lib.hid hN9; have z6 := hT9.row.cell 6; dsimp only [List.getElem?_cons_zero, List.getElem?_cons_succ, CS.req] at z6; have u6 := hT9.row.frozen 6; have hbl9 := hT9.row.lt; clear hT9 hO9 hN9)
          go_ret
          have h9 := HT9.out.rset (s' := { s.req j g p ⟨emp, emp, 1, s.dl, s.nw⟩ nn with ca := s.ca + 1 }) 6 (.int .i64 (s.ca + 1)) rfl rfl rfl rfl
          have hB8 := HB5.out.trans (hb8.mono HB5.out.size)
          exact ⟨rfl, lv', h9, (((Only.of_below hB8).trans (HSB.out ▸ HO9.out)).setCell (p := ⟨b, 6, none⟩) (.inl hbo) _), fun q hq => (HN9.out q hq).imp_right fun h => Nat.le_trans hB8.size h⟩
        · rw [if_pos rfl]
          rw [hbr] at d2
          clear hpv hgv hbr hL9 hgl'
          go_enter Tryz.func13, Tryz.ntmps13
          go_wp2_with (first
            | (go_at_call 35; (with_reducible refine (made_yes b _ c0).mono ?_); rintro e w1 ⟨rfl, rfl⟩)
            | (go_at_call 39; (with_reducible refine (HL.out _ (by (repeat' (first | with_reducible exact Below.refl _ _ | with_reducible assumption | with_reducible refine Below.drew ?_ | with_reducible refine below_drewN' ?_ _ | with_reducible refine Below.alloc ?_ ?_ _ | with_reducible refine Below.setCell ?_ ?_ _ | with_reducible refine below_step (by assumption) ?_ ?_ | omega | (simp; done) | (simp; omega))))).mono ?_); rintro e w2 ⟨rfl, hb2⟩; have HB2 := Lib.hid hb2; have hz2 := hb2.size; obtain ⟨hc2, hf2⟩ := bcell hb2))
          have HT2 := Lib.hid (Hh.out.below HB2.out)
          have y1 : w2.cell? ⟨b, 1, none⟩ = _ := (hc2 b 1 hbl).trans c1
          have y2 : w2.cell? ⟨b, 2, none⟩ = _ := (hc2 b 2 hbl).trans c2
          have y4 : w2.cell? ⟨b, 4, none⟩ = _ := (hc2 b 4 hbl).trans c4
          have y5 : w2.cell? ⟨b, 5, none⟩ = _ := (hc2 b 5 hbl).trans c5
          have e0 : w2.cell? ⟨q, j * 3, none⟩ = _ := (hc2 q (j * 3) hq).trans d0
          have e2 : w2.cell? ⟨q, j * 3 + 2, none⟩ = _ := (hc2 q (j * 3 + 2) hq).trans d2
          have e1 : w2.cell? ⟨gb, go + j * 15 + 2, none⟩ = _ := (hc2 gb (go + j * 15 + 2) hgb).trans x2
          have hbl2 : b < w2.heap.size := HT2.out.row.lt
          have hq2 : q < w2.heap.size := Nat.lt_of_lt_of_le hq hz2
          have hg2 : gb < w2.heap.size := Nat.lt_of_lt_of_le hgb hz2
          clear c1 c2 c4 c5 d0 d2 x2 hc2 hf2 hb2 hz2
          have hcH := held_cell
          refine region_below (by kernel_rfl) (by kernel_rfl) ?_
          repeat
            ((with_reducible refine wpQuiet_step (fun K hK => ?_))
             go_simp
             first
               | ((with_reducible refine hK _ ?_); clear hK K)
               | (apply Exists.intro
                  (with_reducible refine ⟨fun n => ?_, hK _ ?_⟩)
                  (fail)
                  clear hK K))
          with_reducible refine wpQuiet_nil ?_
          intro w5 hw2
          clear hcH
          obtain ⟨⟨_, hb5⟩, rfl⟩ := hw2
          (try dsimp only)
          obtain ⟨hc5, hf5⟩ := bcell hb5
          have hz5 := hb5.size
          (try simp at hz5)
          have HB5 := Lib.hid (HB2.out.trans (hb5.mono HB2.out.size))
          have y2' : w5.cell? ⟨b, 2, none⟩ = _ := (hc5 b 2 hbl2).trans y2
          have y4' : w5.cell? ⟨b, 4, none⟩ = _ := (hc5 b 4 hbl2).trans y4
          have y5' : w5.cell? ⟨b, 5, none⟩ = _ := (hc5 b 5 hbl2).trans y5
          have e2' : w5.cell? ⟨q, j * 3 + 2, none⟩ = _ := (hc5 q (j * 3 + 2) hq2).trans e2
          have hbl5 : b < w5.heap.size := Nat.lt_of_lt_of_le hbl2 hb5.size
          have hq5 : q < w5.heap.size := Nat.lt_of_lt_of_le hq2 hb5.size
          clear y1 y2 y4 y5 e0 e1 e2 hc5 hf5
          go_wp2
          go_ret
          exact ⟨rfl, lv, HT2.out.below hb5, Only.of_below (HB2.out.trans (hb5.mono HB2.out.size)), .refl⟩
end Go.Proofs.YtcfdejlbchdciaaGreatDoor
