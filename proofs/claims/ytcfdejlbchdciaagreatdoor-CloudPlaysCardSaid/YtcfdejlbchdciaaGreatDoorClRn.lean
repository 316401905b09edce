/-
  The document's provider: Fail, Decrease, Delete.
-/
import Derived.Test.YtcfdejlbchdciaaGreatDoorClRm
namespace Go.Proofs.YtcfdejlbchdciaaGreatDoor
open Go.RowKit
set_option linter.unusedVariables false
set_option linter.unusedSimpArgs false

set_option maxRecDepth 100000 in
set_option maxHeartbeats 4000000 in
theorem rfail_any (w0 : World) (b : Nat) (ga : Option Addr) (gka : Nat) (G : List Gp) (s : CS) (tv lav bv lv : Value) (key : ByteArray) (w : World) (h : RT w0 w b ga gka G s tv lav bv lv) (hL : s.L.length ≤ 1000000) :
    Calls Tryz.prog 31 #[.pointer (some ⟨b, 0, none⟩), .string key] w fun e w' => e = .returned (.int .i64 (s.fail key).2) ∧ RT w0 w' b ga gka G (s.fail key).1 tv lav bv lv ∧ Only lv.ownBlock.toList w w' := by
  have c4 := h.row.cell 4
  dsimp only [List.getElem?_cons_zero, List.getElem?_cons_succ] at c4
  have hbl := h.row.lt
  have HF := Lib.hid (rplace_any w0 b ga gka G s tv lav bv lv key w h hL)
  have Hh := Lib.hid h
  obtain ⟨a, k0, rfl, hI⟩ := h.iAt
  obtain ⟨n, hn⟩ : ∃ n, s.L.length = n := ⟨_, rfl⟩
  have Hn := Lib.hid hn
  rw [hn] at c4
  cases hf : fndI s.L key with
  | none =>
    have hT : s.fail key = (s, 16) := by unfold CS.fail; rw [hf]
    rw [plI_none hf] at HF
    rw [hT]
    clear hf h hI hn
    go_enter Tryz.func31, Tryz.ntmps31
    go_wp2_with (go_at_call 52; (with_reducible refine HF.out.mono ?_); rintro e w2 ⟨rfl, hb2⟩; have HB2 := Lib.hid hb2; clear hb2)
    go_ret
    exact ⟨rfl, Hh.out.below HB2.out, Only.of_below HB2.out⟩
  | some j =>
    obtain ⟨x, hx, _⟩ := fndI_lt hf
    have hjn : j < n := by have := lt_at hx; rw [Hn.out] at this; exact this
    obtain ⟨q, rfl, hq, hc⟩ := hI (by rw [Hn.out]; omega)
    have d2 : w.cell? ⟨q, j * 5 + 2, none⟩ = some (.int .i64 x.st) := hc j x hx 2 (by decide)
    have d3 : w.cell? ⟨q, j * 5 + 3, none⟩ = some (.int .i64 x.lf) := hc j x hx 3 (by decide)
    have f2 := h.lo.frozenAt (j * 5 + 2)
    have f3 := h.lo.frozenAt (j * 5 + 3)
    have k1 : decide ((j : Int) < 0) = false := decide_eq_false (by omega)
    have hji : (j : Int) < (n : Int) := by omega
    have hj0 : (0 : Int) ≤ (j : Int) := by omega
    have hbq : b ≠ q := (blk_ty h.row).ne (own_ty h.lo rfl) (by decide)
    have Hx := Lib.hid hx
    rw [plI_some hf] at HF
    by_cases h1 : x.st = 1
    · have hT : s.fail key = ({ s with L := s.L.set j { x with st := 4, lf := 0 } }, 0) := by
        unfold CS.fail
        rw [hf]
        dsimp only
        rw [hx]
        dsimp only
        rw [if_pos h1]
      have k2 : (x.st != 1) = false := by rw [h1]; rfl
      rw [hT]
      clear hf hx hc h1 h hI hn hT
      go_enter Tryz.func31, Tryz.ntmps31
      go_wp2_with (go_at_call 52; (with_reducible refine HF.out.mono ?_); rintro e w2 ⟨rfl, hb2⟩; have HB2 := Lib.hid hb2; obtain ⟨hc2, hf2⟩ := bcell hb2; clear hb2)
      go_ret
      have h9 := ((Hh.out.below HB2.out).iset (v := .int .i64 4) (y := { x with st := 4 }) rfl Hx.out (r := 2) (by decide) rfl).iset (j := j) (x := { x with st := 4 }) (y := { x with st := 4, lf := 0 }) (v := .int .i64 0) (r := 3) rfl (by dsimp only; rw [List.getElem?_set_self (by rw [Hn.out]; exact hjn)]) (by decide) rfl
      dsimp only at h9
      rw [list_set_same] at h9
      exact ⟨rfl, h9, ((Only.of_below HB2.out).setCell (p := ⟨q, j * 5 + 2, none⟩) (.inl (List.mem_singleton.2 rfl)) _).setCell (p := ⟨q, j * 5 + 3, none⟩) (.inl (List.mem_singleton.2 rfl)) _⟩
    · have hT : s.fail key = (s, 22) := by
        unfold CS.fail
        rw [hf]
        dsimp only
        rw [hx]
        dsimp only
        rw [if_neg h1]
      have k2 : (x.st != 1) = true := by simpa using h1
      rw [hT]
      clear hf hx hc h1 h hI hn hT
      go_enter Tryz.func31, Tryz.ntmps31
      go_wp2_with (go_at_call 52; (with_reducible refine HF.out.mono ?_); rintro e w2 ⟨rfl, hb2⟩; have HB2 := Lib.hid hb2; obtain ⟨hc2, hf2⟩ := bcell hb2; clear hb2)
      go_ret
      exact ⟨rfl, Hh.out.below HB2.out, Only.of_below HB2.out⟩

set_option maxRecDepth 100000 in
set_option maxHeartbeats 8000000 in
theorem rdec_any (w0 : World) (b : Nat) (ga : Option Addr) (gka : Nat) (G : List Gp) (s : CS) (tv lav bv lv : Value) (key : ByteArray) (n : Int) (w : World) (h : RT w0 w b ga gka G s tv lav bv lv) (m : Nat) (hO : s.Ok m) (hm : m ≤ 100) (hn0 : -9223372036854775808 ≤ n) (hn1 : n ≤ 9223372036854775807) :
    Calls Tryz.prog 27 #[.pointer (some ⟨b, 0, none⟩), .string key, .int .i64 n] w fun e w' => e = .returned (.int .i64 (s.dec key n).2) ∧ RT w0 w' b ga gka G (s.dec key n).1 tv lav bv lv ∧ Only (b :: tv.ownBlock.toList) w w' := by
  have hz : G.length = s.G.length := by rw [← h.gk, List.length_map]
  have hG16 := hO.g16
  have hL9 : s.L.length ≤ 1000000 := by have := hO.lb; omega
  have c0 := h.row.cell 0
  have c1 := h.row.cell 1
  have c7 := h.row.cell 7
  have f7 := h.row.frozen 7
  dsimp only [List.getElem?_cons_zero, List.getElem?_cons_succ] at c0 c1 c7
  have hbl := h.row.lt
  have HF := Lib.hid (reffind_any ga G gka key w h.groups (by unfold maxLen; omega))
  have Hh := Lib.hid h
  have hgk := h.gk
  have hP := hO.ln
  obtain ⟨_, _, n0, n1⟩ := hO.nb
  have hgn16 : G.length ≤ 16 := by omega
  obtain ⟨gn, hgn⟩ : ∃ gn, G.length = gn := ⟨_, rfl⟩
  rw [hgn] at c0 HF hgn16 hz
  cases hf : fndK s.G key with
  | none =>
    have hT : s.dec key n = (s, 16) := by unfold CS.dec; rw [hf]
    have hA : findA G key 0 = -1 := findA_none (by rw [hgk]; exact hf)
    rw [hA] at HF
    rw [hT]
    clear hf hgk h hgn hz hP hO hT hA
    go_enter Tryz.func27, Tryz.ntmps27
    go_wp2_with (go_at_call 50; (with_reducible refine HF.out.mono ?_); rintro e w2 ⟨rfl, hb2⟩; have HB2 := Lib.hid hb2; clear hb2)
    go_ret
    exact ⟨rfl, Hh.out.below HB2.out, Only.of_below HB2.out⟩
  | some j =>
    obtain ⟨g, hg, _⟩ := fndK_lt hf
    obtain ⟨p, qt, kt, ql, kl, qb, kb, gb, go, hp, rfl, rfl, rfl, rfl, d0, d1, d2, _, x1, _, l1, l2, l3, l4⟩ := h.at hP hg
    have hgbl : gb < w.heap.size := Nat.lt_of_lt_of_le l4 h.bl.size
    obtain ⟨t0, t1, _, _⟩ := hO.tb j g p hg hp
    obtain ⟨b0, b1, b2, b3, _⟩ := hO.gb g (List.mem_of_getElem? hg)
    have hT : s.dec key n = if n < 1 then (s, 1) else if p.t - n < g.mn ∨ p.t - n < sizeI s.L key then (s, 20) else ({ s with P := s.P.set j ⟨p.t - n, p.la, p.br⟩, ca := s.ca + 1 }, 0) := by
      unfold CS.dec
      rw [hf]
      dsimp only
      rw [hg, hp]
    have hA : findA G key 0 = (j : Int) := findA_some (by rw [hgk]; exact hf)
    rw [hA] at HF
    have hjn : j < s.P.length := lt_at hp
    obtain ⟨N, hN⟩ : ∃ N, s.P.length = N := ⟨_, rfl⟩
    rw [hN] at c1 hjn
    have HN := Lib.hid hN
    have Hp := Lib.hid hp
    have hjg : j < gn := by omega
    have k1 : decide ((j : Int) < 0) = false := decide_eq_false (by omega)
    have hji : (j : Int) < (N : Int) := by omega
    have hjg2 : (j : Int) < (gn : Int) := by omega
    have hj0 : (0 : Int) ≤ (j : Int) := by omega
    have HS := Lib.hid (fun V (hb : Below w.heap.size w V) => rsize_any w0 b _ gka G s _ _ _ lv key V (h.below hb) hL9)
    obtain ⟨z, hz9⟩ : ∃ z, sizeI s.L key = z := ⟨_, rfl⟩
    have hzb : z ≤ 1000000 := by have := sizeI_le s.L key; omega
    rw [hz9] at HS hT
    rw [hT]
    have hbq : b ≠ qt := (blk_ty h.row).ne (own_ty h.to rfl) (by decide)
    clear hf hgk hg hp hN h hgn hP d1 d2 hT hA hz9 hz hO
    by_cases h1 : n < 1
    · have k2 : decide (n < 1) = true := decide_eq_true h1
      rw [if_pos h1]
      go_enter Tryz.func27, Tryz.ntmps27
      go_wp2_with (go_at_call 50; (with_reducible refine HF.out.mono ?_); rintro e w2 ⟨rfl, hb2⟩; have HB2 := Lib.hid hb2; obtain ⟨hc2, hf2⟩ := bcell hb2; clear hb2)
      go_ret
      exact ⟨rfl, Hh.out.below HB2.out, Only.of_below HB2.out⟩
    · have k2 : decide (n < 1) = false := decide_eq_false h1
      have hwA : IntKind.i64.wrap (p.t - g.mn) = p.t - g.mn := cwrap_in (by omega) (by omega)
      have hwB : IntKind.i64.wrap (p.t - (z : Int)) = p.t - (z : Int) := cwrap_in (by omega) (by omega)
      have hw : IntKind.i64.wrap (p.t - n) = p.t - n := cwrap_in (by omega) (by omega)
      have hw2 : IntKind.i64.wrap (s.ca + 1) = s.ca + 1 := cwrap_in (by omega) (by omega)
      rw [if_neg h1]
      by_cases hA : p.t - g.mn < n
      · have kA : decide (p.t - g.mn < n) = true := decide_eq_true hA
        rw [if_pos (.inl (by omega))]
        clear h1 hA
        have C1 := Lib.hid c1
        have D0 := Lib.hid d0
        go_enter Tryz.func27, Tryz.ntmps27
        go_wp2_with (go_at_call 50; (with_reducible refine HF.out.mono ?_); rintro e w2 ⟨rfl, hb2⟩; have HB2 := Lib.hid hb2; have hz2 := hb2.size; obtain ⟨hc2, hf2⟩ := bcell hb2; clear hb2)
        have y0 : w2.cell? ⟨b, 0, none⟩ = _ := (hc2 b 0 hbl).trans c0
        have y1 : w2.cell? ⟨b, 1, none⟩ = _ := (hc2 b 1 hbl).trans c1
        have e0 : w2.cell? ⟨qt, j, none⟩ = _ := (hc2 qt j l1).trans d0
        have e1 : w2.cell? ⟨gb, go + j * 15 + 1, none⟩ = _ := (hc2 gb (go + j * 15 + 1) hgbl).trans x1
        have g1 : b < w2.heap.size := Nat.lt_of_lt_of_le hbl hz2
        have g2 : qt < w2.heap.size := Nat.lt_of_lt_of_le l1 hz2
        have g3 : gb < w2.heap.size := Nat.lt_of_lt_of_le hgbl hz2
        clear c0 c1 d0 x1 hc2 hf2 hz2 c7 f7
        have hcH := held_cell
        refine region_rel (by kernel_rfl) (by kernel_rfl) ?_
        repeat
          ((with_reducible refine relStep (fun K hK => ?_))
           (have HK := Lib.hid hK)
           clear hK
           (apply relInl
            · intro r n hf
              have Hf := Lib.hid hf
              clear hf
              (first
                | (fail)
                | (unfold relAt
                   go_simp
                   (first | (refine relUpon_val ?_ (Below.refl _ _); exact rfl) | exact rfl | (refine relUpon_enter ?_; (go_at_call 53; (with_reducible refine (HS.out _ (HB2.out.trans (Below.mono n.below HB2.out.size))).mono ?_); rintro e w9 ⟨rfl, hb⟩; exact ⟨⟨_, rfl, rfl⟩, hb⟩)))))
            (simp only [Act.put, List.setIfInBounds_toArray, List.set_cons_zero, List.set_cons_succ])
            (with_reducible refine HK.out _ _ ?_)
            clear HK K))
        refine relNil ?_
        intro r5 n5 hx5
        clear hcH
        (try simp only [List.nil_append, List.cons_append, List.mem_cons, List.not_mem_nil, or_false, forall_eq_or_imp, forall_eq, false_implies, implies_true] at hx5)
        obtain ⟨w5, hb5⟩ := n5
        (try dsimp only)
        obtain ⟨hc5, hf5⟩ := bcell hb5
        have hz5 := hb5.size
        (try simp at hz5)
        have HB5 := Lib.hid (HB2.out.trans (hb5.mono HB2.out.size))
        clear y0 y1 e0 e1 g1 g2 g3 hc5 hf5 hb5 hz5
        go_wp2
        go_ret
        exact ⟨rfl, Hh.out.below HB5.out, Only.of_below HB5.out⟩
      · have kA : decide (p.t - g.mn < n) = false := decide_eq_false hA
        by_cases hB : p.t - (z : Int) < n
        · have kB : decide (p.t - (z : Int) < n) = true := decide_eq_true hB
          rw [if_pos (.inr (by omega))]
          clear h1 hA hB
          have C1 := Lib.hid c1
          have D0 := Lib.hid d0
          go_enter Tryz.func27, Tryz.ntmps27
          go_wp2_with (go_at_call 50; (with_reducible refine HF.out.mono ?_); rintro e w2 ⟨rfl, hb2⟩; have HB2 := Lib.hid hb2; have hz2 := hb2.size; obtain ⟨hc2, hf2⟩ := bcell hb2; clear hb2)
          have y0 : w2.cell? ⟨b, 0, none⟩ = _ := (hc2 b 0 hbl).trans c0
          have y1 : w2.cell? ⟨b, 1, none⟩ = _ := (hc2 b 1 hbl).trans c1
          have e0 : w2.cell? ⟨qt, j, none⟩ = _ := (hc2 qt j l1).trans d0
          have e1 : w2.cell? ⟨gb, go + j * 15 + 1, none⟩ = _ := (hc2 gb (go + j * 15 + 1) hgbl).trans x1
          have g1 : b < w2.heap.size := Nat.lt_of_lt_of_le hbl hz2
          have g2 : qt < w2.heap.size := Nat.lt_of_lt_of_le l1 hz2
          have g3 : gb < w2.heap.size := Nat.lt_of_lt_of_le hgbl hz2
          clear c0 c1 d0 x1 hc2 hf2 hz2 c7 f7
          have hcH := held_cell
          refine region_rel (by kernel_rfl) (by kernel_rfl) ?_
          repeat
            ((with_reducible refine relStep (fun K hK => ?_))
             (have HK := Lib.hid hK)
             clear hK
             (apply relInl
              · intro r n hf
                have Hf := Lib.hid hf
                clear hf
                (first
                  | (fail)
                  | (unfold relAt
                     go_simp
                     (first | (refine relUpon_val ?_ (Below.refl _ _); exact rfl) | exact rfl | (refine relUpon_enter ?_; (go_at_call 53; (with_reducible refine (HS.out _ (HB2.out.trans (Below.mono n.below HB2.out.size))).mono ?_); rintro e w9 ⟨rfl, hb⟩; exact ⟨⟨_, rfl, rfl⟩, hb⟩)))))
              (simp only [Act.put, List.setIfInBounds_toArray, List.set_cons_zero, List.set_cons_succ])
              (with_reducible refine HK.out _ _ ?_)
              clear HK K))
          refine relNil ?_
          intro r5 n5 hx5
          clear hcH
          (try simp only [List.nil_append, List.cons_append, List.mem_cons, List.not_mem_nil, or_false, forall_eq_or_imp, forall_eq, false_implies, implies_true] at hx5)
          obtain ⟨w5, hb5⟩ := n5
          (try dsimp only)
          obtain ⟨hc5, hf5⟩ := bcell hb5
          have hz5 := hb5.size
          (try simp at hz5)
          have HB5 := Lib.hid (HB2.out.trans (hb5.mono HB2.out.size))
          clear y0 y1 e0 e1 g1 g2 g3 hc5 hf5 hb5 hz5
          go_wp2
          go_ret
          exact ⟨rfl, Hh.out.below HB5.out, Only.of_below HB5.out⟩
        · have kB : decide (p.t - (z : Int) < n) = false := decide_eq_false hB
          rw [if_neg (by omega)]
          clear h1 hA hB
          have C1 := Lib.hid c1
          have D0 := Lib.hid d0
          go_enter Tryz.func27, Tryz.ntmps27
          go_wp2_with (go_at_call 50; (with_reducible refine HF.out.mono ?_); rintro e w2 ⟨rfl, hb2⟩; have HB2 := Lib.hid hb2; have hz2 := hb2.size; obtain ⟨hc2, hf2⟩ := bcell hb2; clear hb2)
          have y0 : w2.cell? ⟨b, 0, none⟩ = _ := (hc2 b 0 hbl).trans c0
          have y1 : w2.cell? ⟨b, 1, none⟩ = _ := (hc2 b 1 hbl).trans c1
          have e0 : w2.cell? ⟨qt, j, none⟩ = _ := (hc2 qt j l1).trans d0
          have e1 : w2.cell? ⟨gb, go + j * 15 + 1, none⟩ = _ := (hc2 gb (go + j * 15 + 1) hgbl).trans x1
          have g1 : b < w2.heap.size := Nat.lt_of_lt_of_le hbl hz2
          have g2 : qt < w2.heap.size := Nat.lt_of_lt_of_le l1 hz2
          have g3 : gb < w2.heap.size := Nat.lt_of_lt_of_le hgbl hz2
          clear c0 c1 d0 x1 hc2 hf2 hz2 c7 f7
          have hcH := held_cell
          refine region_rel (by kernel_rfl) (by kernel_rfl) ?_
          repeat
            ((with_reducible refine relStep (fun K hK => ?_))
             (have HK := Lib.hid hK)
             clear hK
             (apply relInl
              · intro r n hf
                have Hf := Lib.hid hf
                clear hf
                (first
                  | (fail)
                  | (unfold relAt
                     go_simp
                     (first | (refine relUpon_val ?_ (Below.refl _ _); exact rfl) | exact rfl | (refine relUpon_enter ?_; (go_at_call 53; (with_reducible refine (HS.out _ (HB2.out.trans (Below.mono n.below HB2.out.size))).mono ?_); rintro e w9 ⟨rfl, hb⟩; exact ⟨⟨_, rfl, rfl⟩, hb⟩)))))
              (simp only [Act.put, List.setIfInBounds_toArray, List.set_cons_zero, List.set_cons_succ])
              (with_reducible refine HK.out _ _ ?_)
              clear HK K))
          refine relNil ?_
          intro r5 n5 hx5
          clear hcH
          (try simp only [List.nil_append, List.cons_append, List.mem_cons, List.not_mem_nil, or_false, forall_eq_or_imp, forall_eq, false_implies, implies_true] at hx5)
          obtain ⟨w5, hb5⟩ := n5
          (try dsimp only)
          obtain ⟨hc5, hf5⟩ := bcell hb5
          have hz5 := hb5.size
          (try simp at hz5)
          have HB5 := Lib.hid (HB2.out.trans (hb5.mono HB2.out.size))
          clear y0 y1 e0 e1 g1 g2 g3 hc5 hf5 hb5 hz5
          have HT5 := Lib.hid (Hh.out.below HB5.out)
          have z0 : w5.cell? ⟨qt, j, none⟩ = _ := (HB5.out.cell (p := ⟨qt, j, none⟩) l1).trans D0.out
          have z1 : w5.cell? ⟨b, 1, none⟩ = _ := (HB5.out.cell (p := ⟨b, 1, none⟩) hbl).trans C1.out
          have l5 : qt < w5.heap.size := Nat.lt_of_lt_of_le l1 HB5.out.size
          have hb5l : b < w5.heap.size := Nat.lt_of_lt_of_le hbl HB5.out.size
          go_wp2
          have hcH := held_cell
          refine region_rel_tail 15 (by kernel_rfl) (by kernel_rfl) (by kernel_rfl) ?_
          dsimp only [List.take, List.drop]
          repeat
            ((with_reducible refine relStep (fun K hK => ?_))
             (have HK := Lib.hid hK)
             clear hK
             (apply relInl
              · intro r n hf
                have Hf := Lib.hid hf
                clear hf
                (first
                  | (fail)
                  | (unfold relAt
                     go_simp
                     (first | (refine relUpon_val ?_ (Below.refl _ _); exact rfl) | exact rfl | (refine relUpon_enter ?_; fail))))
              (simp only [Act.put, List.setIfInBounds_toArray, List.set_cons_zero, List.set_cons_succ])
              (with_reducible refine HK.out _ _ ?_)
              clear HK K))
          refine relNil ?_
          intro r6 n6 hx6
          clear hcH
          (try simp only [List.nil_append, List.cons_append, List.mem_cons, List.not_mem_nil, or_false, forall_eq_or_imp, forall_eq, false_implies, implies_true] at hx6)
          obtain ⟨w6, hb6⟩ := n6
          (try dsimp only)
          obtain ⟨hc6, hf6⟩ := bcell hb6
          have hz6 := hb6.size
          (try simp at hz6)
          have HB6 := Lib.hid (HB5.out.trans (hb6.mono HB5.out.size))
          have HT6 := Lib.hid (Hh.out.below HB6.out)
          have u0 := HT6.out.to.frozenAt j
          have v0 : w6.cell? ⟨qt, j, none⟩ = _ := (hc6 qt j l5).trans z0
          have v7 : w6.cell? ⟨b, 7, none⟩ = some (.int .i64 s.ca) := HT6.out.row.cell 7
          have u7 := HT6.out.row.frozen 7
          clear hc6 hf6 hb6 z0 z1
          go_wp2
          go_ret
          have h9 := (HT6.out.tset rfl (p.t - n) Hp.out).rset (s' := { s with P := s.P.set j ⟨p.t - n, p.la, p.br⟩, ca := s.ca + 1 }) 7 (.int .i64 (s.ca + 1)) rfl rfl rfl rfl
          exact ⟨rfl, h9, ((Only.of_below HB6.out).setCell (p := ⟨qt, j, none⟩) (.inl (List.mem_cons_of_mem _ (List.mem_singleton.2 rfl))) _).setCell (p := ⟨b, 7, none⟩) (.inl (List.mem_cons_self ..)) _⟩
end Go.Proofs.YtcfdejlbchdciaaGreatDoor
