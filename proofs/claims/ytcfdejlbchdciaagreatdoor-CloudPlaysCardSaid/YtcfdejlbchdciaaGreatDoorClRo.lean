/-
  The document's provider: Delete.
-/
import Derived.Test.YtcfdejlbchdciaaGreatDoorClRn
namespace Go.Proofs.YtcfdejlbchdciaaGreatDoor
open Go.RowKit
set_option linter.unusedVariables false
set_option linter.unusedSimpArgs false

set_option maxRecDepth 100000 in
set_option maxHeartbeats 8000000 in
theorem rdel_any (w0 : World) (b : Nat) (ga : Option Addr) (gka : Nat) (G : List Gp) (s : CS) (tv lav bv lv : Value) (key : ByteArray) (w : World) (h : RT w0 w b ga gka G s tv lav bv lv) (m : Nat) (hO : s.Ok m) (hm : m ≤ 100) :
    Calls Tryz.prog 26 #[.pointer (some ⟨b, 0, none⟩), .string key] w fun e w' => e = .returned (.int .i64 (s.del key).2) ∧ RT w0 w' b ga gka G (s.del key).1 tv lav bv lv ∧ Only (b :: (tv.ownBlock.toList ++ lv.ownBlock.toList)) w w' := by
  have hz : G.length = s.G.length := by rw [← h.gk, List.length_map]
  have hG16 := hO.g16
  have hL9 : s.L.length ≤ 1000000 := by have := hO.lb; omega
  have c0 := h.row.cell 0
  have c1 := h.row.cell 1
  have c4 := h.row.cell 4
  dsimp only [List.getElem?_cons_zero, List.getElem?_cons_succ] at c0 c1 c4
  have hbl := h.row.lt
  have HPl := Lib.hid (rplace_any w0 b ga gka G s tv lav bv lv key w h hL9)
  have Hh := Lib.hid h
  have hgk := h.gk
  have hP := hO.ln
  obtain ⟨_, _, n0, n1⟩ := hO.nb
  have HF := Lib.hid (fun (t : ByteArray) V (hb : Below w.heap.size w V) => reffind_any ga G gka t V (h.groups.mono hb) (by unfold maxLen; omega))
  obtain ⟨a, k0, rfl, hI⟩ := h.iAt
  obtain ⟨M, hM⟩ : ∃ M, s.L.length = M := ⟨_, rfl⟩
  have HM := Lib.hid hM
  rw [hM] at c4
  obtain ⟨gn, hgn⟩ : ∃ gn, G.length = gn := ⟨_, rfl⟩
  have hgn16 : gn ≤ 16 := by omega
  have HGn := Lib.hid hgn
  rw [hgn] at c0 HF
  cases hf : fndI s.L key with
  | none =>
    have hT : s.del key = (s, 16) := by unfold CS.del; rw [hf]
    rw [plI_none hf] at HPl
    rw [hT]
    clear hf hgk h hI hM hgn hz hP hO hT
    go_enter Tryz.func26, Tryz.ntmps26
    go_wp2_with (go_at_call 52; (with_reducible refine HPl.out.mono ?_); rintro e w2 ⟨rfl, hb2⟩; have HB2 := Lib.hid hb2; clear hb2)
    go_ret
    exact ⟨rfl, Hh.out.below HB2.out, Only.of_below HB2.out⟩
  | some i =>
    obtain ⟨x, hx, hxk⟩ := fndI_lt hf
    clear hxk
    have hiM : i < M := by have := lt_at hx; omega
    obtain ⟨⟨j, hfj⟩, _⟩ := hO.ib x (List.mem_of_getElem? hx)
    obtain ⟨g, hg, _⟩ := fndK_lt hfj
    obtain ⟨p, qt, kt, ql, kl, qb, kb, gb, go, hp, rfl, rfl, rfl, rfl, d0, d1, d2, _, x1, _, l1, l2, l3, l4⟩ := h.at hP hg
    have hgbl : gb < w.heap.size := Nat.lt_of_lt_of_le l4 h.bl.size
    obtain ⟨t0, t1, _, _⟩ := hO.tb j g p hg hp
    obtain ⟨b0, b1, b2, b3, _⟩ := hO.gb g (List.mem_of_getElem? hg)
    obtain ⟨q, rfl, hq, hc⟩ := hI (by rw [hM]; omega)
    have v0 : w.cell? ⟨q, i * 5, none⟩ = some (.string x.nm) := hc i x hx 0 (by decide)
    have v1 : w.cell? ⟨q, i * 5 + 1, none⟩ = some (.string x.gp) := hc i x hx 1 (by decide)
    have v2 : w.cell? ⟨q, i * 5 + 2, none⟩ = some (.int .i64 x.st) := hc i x hx 2 (by decide)
    have v3 : w.cell? ⟨q, i * 5 + 3, none⟩ = some (.int .i64 x.lf) := hc i x hx 3 (by decide)
    have v4 : w.cell? ⟨q, i * 5 + 4, none⟩ = some (.int .i64 x.si) := hc i x hx 4 (by decide)
    have hT : s.del key = if x.st = 3 then (s, 22) else if x.st = 2 ∧ p.t ≤ g.mn then (s, 20) else ({ s with L := s.L.set i { x with st := 3, lf := 1 }, P := s.P.set j ⟨max g.mn (p.t - 1), p.la, p.br⟩, ca := s.ca + 1 }, 0) := by
      unfold CS.del
      rw [hf]
      dsimp only
      rw [hx]
      dsimp only
      rw [hfj]
      dsimp only
      rw [hg, hp]
    have hA : findA G x.gp 0 = (j : Int) := findA_some (by rw [hgk]; exact hfj)
    have HF := Lib.hid (HF.out x.gp)
    rw [hA] at HF
    rw [plI_some hf] at HPl
    obtain ⟨R, hR⟩ : ∃ R, s.del key = R := ⟨_, rfl⟩
    have HRT := Lib.hid (hR.symm.trans hT)
    rw [hR]
    clear hR
    have hjn : j < s.P.length := lt_at hp
    obtain ⟨N, hN⟩ : ∃ N, s.P.length = N := ⟨_, rfl⟩
    rw [hN] at c1 hjn
    have HN := Lib.hid hN
    have Hp := Lib.hid hp
    have Hx := Lib.hid hx
    have k1 : decide ((i : Int) < 0) = false := decide_eq_false (by omega)
    have hji : (j : Int) < (N : Int) := by omega
    have hjg2 : (j : Int) < (gn : Int) := by omega
    have hj0 : (0 : Int) ≤ (j : Int) := by omega
    have hii : (i : Int) < (M : Int) := by omega
    have hi0 : (0 : Int) ≤ (i : Int) := by omega
    have hqt : qt ≠ q := (own_ty h.to rfl).ne (own_ty h.lo rfl) (by decide)
    have hbq : b ≠ q := (blk_ty h.row).ne (own_ty h.lo rfl) (by decide)
    have hbt : b ≠ qt := (blk_ty h.row).ne (own_ty h.to rfl) (by decide)
    have hq0 : w0.heap.size ≤ q := (own_lt h.lo rfl).1
    have C0 := Lib.hid c0
    have C1 := Lib.hid c1
    have C4 := Lib.hid c4
    have D0 := Lib.hid d0
    have X1 := Lib.hid x1
    clear hf hfj hgk hg hp hN h hgn hz hP hO hT hA hI hM hc hx d1 d2
    go_enter Tryz.func26, Tryz.ntmps26
    go_wp2_with (go_at_call 52; (with_reducible refine HPl.out.mono ?_); rintro e w2 ⟨rfl, hb2⟩; have HB2 := Lib.hid hb2; obtain ⟨hc2, hf2⟩ := bcell hb2; clear hb2)
    obtain ⟨W1, hW1⟩ : ∃ W1, W1 = w2.alloc (.cells #[.string x.nm, .string x.gp, .int .i64 x.st, .int .i64 x.lf, .int .i64 x.si] 41) := ⟨_, rfl⟩
    obtain ⟨X, hX⟩ : ∃ X, X = w2.heap.size := ⟨_, rfl⟩
    rw [← hW1, ← hX]
    have HB1 := Lib.hid (show Below w.heap.size w W1 from by rw [hW1]; exact HB2.out.trans (((Below.refl _ _).alloc (Nat.le_refl _) _).mono HB2.out.size))
    have HX1 := Lib.hid (show Blk W1 X 41 (irow x) from by rw [hW1, hX]; exact Blk.new w2 41 (irow x))
    have y0 : W1.cell? ⟨b, 0, none⟩ = _ := (HB1.out.cell (p := ⟨b, 0, none⟩) hbl).trans C0.out
    have z1 : W1.cell? ⟨X, 1, none⟩ = some (.string x.gp) := HX1.out.cell 1
    have hXl := HX1.out.lt
    have hb1 : b < W1.heap.size := Nat.lt_of_lt_of_le hbl HB1.out.size
    clear hW1 hX c0 c1 c4 d0 x1 v0 v1 v2 v3 v4 hc2 hf2
    have hcH := held_cell
    refine region_rel (by kernel_rfl) (by kernel_rfl) ?_
    repeat
      ((with_reducible refine relStep (fun K hK => ?_))
       (have HK := Lib.hid hK)
       clear hK
       (apply relInl
        · intro r n hf
          have Hf := Lib.hid hf
          clear hf
          (first
            | (fail)
            | (unfold relAt
               go_simp
               (first | (refine relUpon_val ?_ (Below.refl _ _); exact rfl) | exact rfl | (refine relUpon_enter ?_; (go_at_call 50; (with_reducible refine (HF.out _ (HB1.out.trans (Below.mono n.below HB1.out.size))).mono ?_); rintro e w9 ⟨rfl, hb⟩; exact ⟨⟨_, rfl, rfl⟩, hb⟩)))))
        (simp only [Act.put, List.setIfInBounds_toArray, List.set_cons_zero, List.set_cons_succ])
        (with_reducible refine HK.out _ _ ?_)
        clear HK K))
    refine relNil ?_
    intro r5 n5 hx5
    clear hcH
    (try simp only [List.nil_append, List.cons_append, List.mem_cons, List.not_mem_nil, or_false, forall_eq_or_imp, forall_eq, false_implies, implies_true] at hx5)
    obtain ⟨w5, hb5⟩ := n5
    (try dsimp only)
    obtain ⟨hc5, hf5⟩ := bcell hb5
    have hz5 := hb5.size
    (try simp at hz5)
    have HB5 := Lib.hid (HB1.out.trans (hb5.mono HB1.out.size))
    have HX5 := Lib.hid (HX1.out.below hb5)
    have z2 : w5.cell? ⟨X, 2, none⟩ = some (.int .i64 x.st) := HX5.out.cell 2
    have hX5l := HX5.out.lt
    have hb5l : b < w5.heap.size := Nat.lt_of_lt_of_le hbl HB5.out.size
    have l5 : qt < w5.heap.size := Nat.lt_of_lt_of_le l1 HB5.out.size
    have g5 : gb < w5.heap.size := Nat.lt_of_lt_of_le hgbl HB5.out.size
    have y1 : w5.cell? ⟨b, 1, none⟩ = _ := (HB5.out.cell (p := ⟨b, 1, none⟩) hbl).trans C1.out
    have y0' : w5.cell? ⟨b, 0, none⟩ = _ := (HB5.out.cell (p := ⟨b, 0, none⟩) hbl).trans C0.out
    have e0 : w5.cell? ⟨qt, j, none⟩ = _ := (HB5.out.cell (p := ⟨qt, j, none⟩) l1).trans D0.out
    have e1 : w5.cell? ⟨gb, go + j * 15 + 1, none⟩ = _ := (HB5.out.cell (p := ⟨gb, go + j * 15 + 1, none⟩) hgbl).trans X1.out
    clear y0 z1 hXl hb1 hc5 hf5 hb5 hz5 HX1
    by_cases h3 : x.st = 3
    · have k3 : (x.st == 3) = true := by rw [h3]; rfl
      have H3 := Lib.hid h3
      clear h3
      go_wp2
      go_ret
      rw [HRT.out, if_pos H3.out]
      exact ⟨rfl, Hh.out.below HB5.out, Only.of_below HB5.out⟩
    · have k3 : (x.st == 3) = false := by simpa using h3
      have H3 := Lib.hid h3
      clear h3
      by_cases h2 : x.st = 2 ∧ p.t ≤ g.mn
      · have k2 : (x.st == 2) = true := by rw [h2.1]; rfl
        have hl : decide (p.t ≤ g.mn) = true := decide_eq_true h2.2
        have H2 := Lib.hid h2
        clear h2
        go_wp2
        have hcH := held_cell
        refine region_rel (by kernel_rfl) (by kernel_rfl) ?_
        repeat
          ((with_reducible refine relStep (fun K hK => ?_))
           (have HK := Lib.hid hK)
           clear hK
           (apply relInl
            · intro r n hf
              have Hf := Lib.hid hf
              clear hf
              (first
                | (fail)
                | (unfold relAt
                   go_simp
                   (first | (refine relUpon_val ?_ (Below.refl _ _); exact rfl) | exact rfl | (refine relUpon_enter ?_; fail))))
            (simp only [Act.put, List.setIfInBounds_toArray, List.set_cons_zero, List.set_cons_succ])
            (with_reducible refine HK.out _ _ ?_)
            clear HK K))
        refine relNil ?_
        intro r6 n6 hx6
        clear hcH
        (try simp only [List.nil_append, List.cons_append, List.mem_cons, List.not_mem_nil, or_false, forall_eq_or_imp, forall_eq, false_implies, implies_true] at hx6)
        obtain ⟨w6, hb6⟩ := n6
        (try dsimp only)
        obtain ⟨hc6, hf6⟩ := bcell hb6
        have hz6 := hb6.size
        (try simp at hz6)
        have HB6 := Lib.hid (HB5.out.trans (hb6.mono HB5.out.size))
        clear hc6 hf6 hb6
        go_wp2
        go_ret
        rw [HRT.out, if_neg H3.out, if_pos H2.out]
        exact ⟨rfl, Hh.out.below HB6.out, Only.of_below HB6.out⟩
      · have H2 := Lib.hid h2
        have hw2 : IntKind.i64.wrap (s.ca + 1) = s.ca + 1 := cwrap_in (by omega) (by omega)
        have hw3 : IntKind.i64.wrap (p.t - 1) = p.t - 1 := cwrap_in (by omega) (by omega)
        have hsp : ((x.st == 2) = false) ∨ ((x.st == 2) = true ∧ decide (p.t ≤ g.mn) = false) := by
          by_cases e : x.st = 2
          · exact .inr ⟨by rw [e]; rfl, decide_eq_false fun e2 => h2 ⟨e, e2⟩⟩
          · exact .inl (by simpa using e)
        clear h2
        have hmx : (g.mn < p.t - 1 ∧ max g.mn (p.t - 1) = p.t - 1) ∨ (¬ g.mn < p.t - 1 ∧ max g.mn (p.t - 1) = g.mn) := by omega
        rcases hsp with k2 | ⟨k2, hl⟩
        all_goals
          go_wp2
          have hcH := held_cell
          refine region_rel (by kernel_rfl) (by kernel_rfl) ?_
          repeat
            ((with_reducible refine relStep (fun K hK => ?_))
             (have HK := Lib.hid hK)
             clear hK
             (apply relInl
              · intro r n hf
                have Hf := Lib.hid hf
                clear hf
                (first
                  | (fail)
                  | (unfold relAt
                     go_simp
                     (first | (refine relUpon_val ?_ (Below.refl _ _); exact rfl) | exact rfl | (refine relUpon_enter ?_; fail))))
              (simp only [Act.put, List.setIfInBounds_toArray, List.set_cons_zero, List.set_cons_succ])
              (with_reducible refine HK.out _ _ ?_)
              clear HK K))
          refine relNil ?_
          intro r6 n6 hx6
          clear hcH
          (try simp only [List.nil_append, List.cons_append, List.mem_cons, List.not_mem_nil, or_false, forall_eq_or_imp, forall_eq, false_implies, implies_true] at hx6)
          obtain ⟨w6, hb6⟩ := n6
          (try dsimp only)
          obtain ⟨hc6, hf6⟩ := bcell hb6
          have hz6 := hb6.size
          (try simp at hz6)
          have HB6 := Lib.hid (HB5.out.trans (hb6.mono HB5.out.size))
          have HT6 := Lib.hid (Hh.out.below HB6.out)
          have y4 : w6.cell? ⟨b, 4, none⟩ = _ := (HB6.out.cell (p := ⟨b, 4, none⟩) hbl).trans C4.out
          have q6 : q < w6.heap.size := Nat.lt_of_lt_of_le hq HB6.out.size
          obtain ⟨a6, ka6, e6, hI6⟩ := HT6.out.iAt
          obtain ⟨q6', e7, _, hc6'⟩ := hI6 (by rw [HM.out]; omega)
          obtain rfl : q = q6' := by rw [e7] at e6; injection e6 with e8; injection e8 with e8; injection e8
          have v2 : w6.cell? ⟨q, i * 5 + 2, none⟩ = some (.int .i64 x.st) := hc6' i x Hx.out 2 (by decide)
          have v3 : w6.cell? ⟨q, i * 5 + 3, none⟩ = some (.int .i64 x.lf) := hc6' i x Hx.out 3 (by decide)
          have f2 := HT6.out.lo.frozenAt (i * 5 + 2)
          have f3 := HT6.out.lo.frozenAt (i * 5 + 3)
          have hb6l : b < w6.heap.size := Nat.lt_of_lt_of_le hbl HB6.out.size
          clear hc6 hf6 hb6 hI6 hc6' e6 e7 y0' y1 e0 e1 z2
          go_wp2
          obtain ⟨W7, hW7⟩ : ∃ W7, W7 = (w6.setCell ⟨q, i * 5 + 2, none⟩ (.int .i64 3)).setCell ⟨q, i * 5 + 3, none⟩ (.int .i64 1) := ⟨_, rfl⟩
          rw [← hW7]
          have HT7 := Lib.hid (show RT w0 W7 b _ gka G { s with L := s.L.set i { x with st := 3, lf := 1 } } _ _ _ _ from by
            have h9 := (HT6.out.iset (v := .int .i64 3) (y := { x with st := 3 }) rfl Hx.out (r := 2) (by decide) rfl).iset (j := i) (x := { x with st := 3 }) (y := { x with st := 3, lf := 1 }) (v := .int .i64 1) (r := 3) rfl (by dsimp only; rw [List.getElem?_set_self (by rw [HM.out]; exact hiM)]) (by decide) rfl
            dsimp only at h9
            rw [list_set_same] at h9
            rw [hW7]
            exact h9)
          have HO7 := Lib.hid (show Only [q] w6 W7 from by
            rw [hW7]
            exact ((Only.refl [q] w6).setCell (p := ⟨q, i * 5 + 2, none⟩) (.inl (List.mem_singleton.2 rfl)) _).setCell (p := ⟨q, i * 5 + 3, none⟩) (.inl (List.mem_singleton.2 rfl)) _)
          have l6 : qt < w6.heap.size := Nat.lt_of_lt_of_le l1 HB6.out.size
          have l7 : qt < W7.heap.size := Nat.lt_of_lt_of_le l6 HO7.out.size
          have g7 : gb < W7.heap.size := Nat.lt_of_lt_of_le (Nat.lt_of_lt_of_le hgbl HB6.out.size) HO7.out.size
          have b7 : b < W7.heap.size := Nat.lt_of_lt_of_le hb6l HO7.out.size
          have m0 : W7.cell? ⟨b, 0, none⟩ = _ := HT7.out.row.cell 0
          have m1 : W7.cell? ⟨b, 1, none⟩ = _ := HT7.out.row.cell 1
          dsimp only [List.getElem?_cons_zero, List.getElem?_cons_succ] at m0 m1
          rw [HGn.out] at m0
          rw [HN.out] at m1
          have m2 : W7.cell? ⟨qt, j, none⟩ = some (.int .i64 p.t) := (World.cell?_of_block (HO7.out.block qt l6 (by simpa using hqt))).trans ((HB6.out.cell (p := ⟨qt, j, none⟩) l1).trans D0.out)
          have m3 : W7.cell? ⟨gb, go + j * 15 + 1, none⟩ = some (.int .i64 g.mn) := (World.cell?_of_block (HO7.out.block gb (Nat.lt_of_lt_of_le hgbl HB6.out.size) (by simp; omega))).trans ((HB6.out.cell (p := ⟨gb, go + j * 15 + 1, none⟩) hgbl).trans X1.out)
          clear hW7 y4 v2 v3 f2 f3
          rcases hmx with ⟨hm1, hm2⟩ | ⟨hm1, hm2⟩
          all_goals
            have HM2 := Lib.hid hm2
            clear hm2
            have hcH := held_cell
            refine region_rel_tail 23 (by kernel_rfl) (by kernel_rfl) (by kernel_rfl) ?_
            dsimp only [List.take, List.drop]
            repeat
              ((with_reducible refine relStep (fun K hK => ?_))
               (have HK := Lib.hid hK)
               clear hK
               (apply relInl
                · intro r n hf
                  have Hf := Lib.hid hf
                  clear hf
                  (first
                    | (fail)
                    | (unfold relAt
                       go_simp
                       (first | (refine relUpon_val ?_ (Below.refl _ _); exact rfl) | exact rfl | (refine relUpon_enter ?_; fail))))
                (simp only [Act.put, List.setIfInBounds_toArray, List.set_cons_zero, List.set_cons_succ])
                (with_reducible refine HK.out _ _ ?_)
                clear HK K))
            refine relNil ?_
            intro r8 n8 hx8
            clear hcH
            (try simp only [List.nil_append, List.cons_append, List.mem_cons, List.not_mem_nil, or_false, forall_eq_or_imp, forall_eq, false_implies, implies_true] at hx8)
            obtain ⟨w8, hb8⟩ := n8
            (try dsimp only)
            obtain ⟨hc8, hf8⟩ := bcell hb8
            have hz8 := hb8.size
            (try simp at hz8)
            have HT8 := Lib.hid (HT7.out.below hb8)
            have u0 := HT8.out.to.frozenAt j
            have n0' : w8.cell? ⟨qt, j, none⟩ = _ := (hc8 qt j l7).trans m2
            have n7 : w8.cell? ⟨b, 7, none⟩ = some (.int .i64 s.ca) := HT8.out.row.cell 7
            have u7 := HT8.out.row.frozen 7
            have HB8 := Lib.hid hb8
            clear hc8 hf8 hb8 m0 m1 m2 m3
            go_wp2
            go_ret
            rw [HRT.out, if_neg H3.out, if_neg H2.out, HM2.out]
            first
              | exact ⟨rfl, (HT8.out.tset rfl (p.t - 1) Hp.out).rset (s' := { s with L := s.L.set i { x with st := 3, lf := 1 }, P := s.P.set j ⟨p.t - 1, p.la, p.br⟩, ca := s.ca + 1 }) 7 (.int .i64 (s.ca + 1)) rfl rfl rfl rfl, ((((Only.of_below HB6.out).trans (HO7.out.mono (T := b :: ([qt] ++ [q])) (by simp))).step (HB8.out.mono (Nat.le_trans HB6.out.size HO7.out.size))).setCell (p := ⟨qt, j, none⟩) (.inl (by simp [Value.ownBlock])) _).setCell (p := ⟨b, 7, none⟩) (.inl (List.mem_cons_self ..)) _⟩
              | exact ⟨rfl, (HT8.out.tset rfl g.mn Hp.out).rset (s' := { s with L := s.L.set i { x with st := 3, lf := 1 }, P := s.P.set j ⟨g.mn, p.la, p.br⟩, ca := s.ca + 1 }) 7 (.int .i64 (s.ca + 1)) rfl rfl rfl rfl, ((((Only.of_below HB6.out).trans (HO7.out.mono (T := b :: ([qt] ++ [q])) (by simp))).step (HB8.out.mono (Nat.le_trans HB6.out.size HO7.out.size))).setCell (p := ⟨qt, j, none⟩) (.inl (by simp [Value.ownBlock])) _).setCell (p := ⟨b, 7, none⟩) (.inl (List.mem_cons_self ..)) _⟩
end Go.Proofs.YtcfdejlbchdciaaGreatDoor
