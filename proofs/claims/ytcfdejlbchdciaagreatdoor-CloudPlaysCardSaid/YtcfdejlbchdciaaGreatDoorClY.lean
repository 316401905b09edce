/-
  The program's provider: Tick.
-/
import Derived.Test.YtcfdejlbchdciaaGreatDoorClI
import Derived.Test.YtcfdejlbchdciaaGreatDoorClS
import Derived.Test.YtcfdejlbchdciaaGreatDoorLate
namespace Go.Proofs.YtcfdejlbchdciaaGreatDoor
open Go.RowKit
set_option linter.unusedVariables false
set_option linter.unusedSimpArgs false

theorem fmap_next {L : List Ins} {f : Ins → Option Ins} {k : Nat} {x : Ins} (hx : L[k]? = some x) : (L.take (k + 1)).filterMap f = (L.take k).filterMap f ++ (f x).toList := by
  rw [take_at hx, List.filterMap_append]
  cases h : f x <;> simp [h]
theorem fmap_len (L : List Ins) (f : Ins → Option Ins) (k : Nat) : ((L.take k).filterMap f).length ≤ k := Nat.le_trans (List.length_filterMap_le _ _) (by rw [List.length_take]; omega)
def NewX (N : Nat) (u : Value) (w : World) : Prop := ∃ X, u = .pointer (some ⟨X, 0, none⟩) ∧ N ≤ X ∧ Blk w X 41 [.string ⟨#[]⟩, .string ⟨#[]⟩, .int .i64 0, .int .i64 0, .int .i64 0]
theorem NewX.mk {W : World} (n : Held W) : NewX W.heap.size (.pointer (some ⟨n.w.heap.size, 0, none⟩)) (n.w.alloc (.cells #[.string ⟨#[]⟩, .string ⟨#[]⟩, .int .i64 0, .int .i64 0, .int .i64 0] 41)) := ⟨_, rfl, n.below.size, Blk.new _ 41 [.string ⟨#[]⟩, .string ⟨#[]⟩, .int .i64 0, .int .i64 0, .int .i64 0]⟩
theorem NewX.stays (N : Nat) : Stays (NewX N) := fun v w w' hb ⟨X, e, h, hB⟩ => ⟨X, e, h, hB.below hb⟩

set_option maxRecDepth 100000 in
set_option maxHeartbeats 8000000 in
theorem tick_any (base b : Nat) (G : List Gp) (s : CS) (gv pv lv : Value) (w : World) (h : CT w base b G s gv pv lv) (m : Nat) (hO : s.Ok m) (hm : m ≤ 100) :
    Calls Tryz.prog 14 #[.pointer (some ⟨b, 0, none⟩)] w fun e w' => e = .returned (.tuple #[]) ∧ ∃ lv', CT w' base b G s.tick gv pv lv' ∧ Only (blocksOf b pv lv) w w' ∧ NewB w.heap.size lv lv' := by
  have hz : G.length = s.G.length := by rw [← h.gk, List.length_map]
  have hG9 : G.length ≤ 16 := by have := hO.g16; omega
  have hL9 : s.L.length ≤ 1000000 := by have := hO.lb; omega
  obtain ⟨n0, n1, _, _⟩ := hO.nb
  have c0 := h.row.cell 0
  have c3 := h.row.cell 3
  have c5 := h.row.cell 5
  have f5 := h.row.frozen 5
  dsimp only [List.getElem?_cons_zero, List.getElem?_cons_succ] at c0 c3 c5
  have hbl := h.row.lt
  have hbm : b ∈ blocksOf b pv lv := by unfold blocksOf; simp
  obtain ⟨SB, hSBe⟩ : ∃ SB, SB = blocksOf b pv lv := ⟨_, rfl⟩
  rw [← hSBe] at hbm ⊢
  have Hh := Lib.hid h
  have HO := Lib.hid hO
  obtain ⟨la, lk, hlv, hI⟩ := h.insts
  obtain ⟨n, hn⟩ : ∃ n, s.L.length = n := ⟨_, rfl⟩
  have Hn := Lib.hid hn
  rw [hlv, hn] at c3
  rw [hn] at hL9
  have Hlv := Lib.hid hlv
  have hw1 : IntKind.i64.wrap (s.nw + 1) = s.nw + 1 := cwrap_in (by omega) (by omega)
  have HM := Lib.hid (fun V (hc : V.cell? ⟨b, 0, none⟩ = some (.pointer (some ⟨b, 0, none⟩))) => made_yes b V hc)
  clear h hO hI hn hlv hz hSBe
  go_enter Tryz.func14, Tryz.ntmps14
  go_wp2_with (go_at_call 35; (with_reducible refine (HM.out _ c0).mono ?_); rintro e w1 ⟨rfl, hw9⟩; subst w1)
  obtain ⟨W, hW⟩ : ∃ W, W = w.setCell ⟨b, 5, none⟩ (.int .i64 (s.nw + 1)) := ⟨_, rfl⟩
  rw [← hW]
  have HCW := Lib.hid (show CT W base b G { s with nw := s.nw + 1 } gv pv lv from by rw [hW]; exact Hh.out.rset (s' := { s with nw := s.nw + 1 }) 5 _ rfl rfl rfl rfl)
  have HOW := Lib.hid (show Only SB w W from by rw [hW]; exact (Only.refl SB w).setCell (p := ⟨b, 5, none⟩) (.inl hbm) _)
  have hWz : W.heap.size = w.heap.size := by rw [hW]; exact World.size_setCell _ _ _
  obtain ⟨f, hf⟩ : ∃ f : Ins → Option Ins, f = fun x => tickI (brOf s x.gp) x := ⟨_, rfl⟩
  have Hf := Lib.hid hf
  have hbase : base ≤ W.heap.size := by have := Hh.out.hb; omega
  obtain ⟨i0, hi, hz0, hz1, hz2⟩ := info_parts Tryz.info41
  have Hi := Lib.hid hi
  have Hz0 := Lib.hid hz0
  have Hz1 := Lib.hid hz1
  have Hz2 := Lib.hid hz2
  clear hi hz0 hz1 hz2
  clear hW hf c0 c3 c5 f5 HM
  go_loopw [2, 4, 5, 6, 7, 23] (fun v _ _ _ _ i wr => ∃ k : Nat, k ≤ n ∧ i = .int .i64 k ∧ wr.ownsRow W.heap.size 41 5 v ((s.L.take k).filterMap f).length (((s.L.take k).filterMap f).flatMap irow) ∧ Below W.heap.size W wr) (fun _ _ _ _ _ i _ => n - (intOf i).toNat)
  case atStart => exact ⟨0, Nat.zero_le _, rfl, World.ownsRow_nil _ _ _ _, Below.refl _ _⟩
  case round =>
    obtain ⟨k, hk, rfl, hown, hB⟩ := hrel
    have Hown := Lib.hid hown
    have HB := Lib.hid hB
    have hbz := hB.size
    have HCr := Lib.hid (HCW.out.below hB)
    clear hown
    by_cases hlt : k < n
    · obtain ⟨x, hx⟩ := mem_at (l := s.L) (k := k) (by rw [Hn.out]; exact hlt)
      have Hx := Lib.hid hx
      obtain ⟨⟨j, hj⟩, l0, l1, l2, _, _, _, _, _, _⟩ := HO.out.ib x (List.mem_of_getElem? hx)
      obtain ⟨g, hg, _⟩ := fndK_lt hj
      have hjl := lt_at hg
      obtain ⟨p, hp⟩ := mem_at (l := s.P) (k := j) (by rw [HO.out.ln]; exact hjl)
      have hbr : brOf s x.gp = p.br := by
        unfold brOf
        rw [hj]
        dsimp only
        rw [hp]
      have Hbr := Lib.hid hbr
      have hA : findA G x.gp 0 = (j : Int) := findA_some (by rw [Hh.out.gk]; exact hj)
      obtain ⟨pa, pk, hpv, hR⟩ := HCr.out.pools
      obtain ⟨q, hpa, _, hq, hc⟩ := hR (by show 0 < s.P.length; have := lt_at hp; omega)
      obtain ⟨_, _, d2⟩ := hc j p hp
      obtain ⟨la', lk', hlv', hI⟩ := HCr.out.insts
      obtain ⟨ql, hla, _, hql, hic⟩ := hI (by show 0 < s.L.length; have := lt_at hx; omega)
      obtain ⟨e0, e1, e2, e3, e4⟩ := hic k x hx
      have hlv9 := Hlv.out
      rw [hlv'] at hlv9
      injection hlv9 with hq1 hq2 hq3
      have hjP : (j : Int) < (s.P.length : Int) := by have := lt_at hp; omega
      obtain ⟨N, hN⟩ : ∃ N, s.P.length = N := ⟨_, rfl⟩
      have b2 := HCr.out.row.cell 2
      dsimp only [List.getElem?_cons_zero, List.getElem?_cons_succ] at b2
      rw [hpv, hpa] at b2
      have hla2 : la = some ⟨ql, 0, none⟩ := hq1.symm.trans hla
      dsimp only at b2
      rw [hN] at b2 hjP
      have hblr := HCr.out.row.lt
      have HL := Lib.hid (fun V (hV : Below wr.heap.size wr V) => place_any base b G { s with nw := s.nw + 1 } gv pv lv x.gp V (HCr.out.below hV) (by unfold maxLen; omega))
      rw [hA] at HL
      obtain ⟨T, fT, y, ok, t1, t2, t3, t4, t5⟩ := tick_of x p.br (fun e => ⟨l2 e, l1⟩)
      have T1 := Lib.hid t1
      have T2 := Lib.hid t2
      have T3 := Lib.hid t3
      have T4 := Lib.hid t4
      have T5 := Lib.hid t5
      subst hla2
      have hj0 : (0 : Int) ≤ (j : Int) := by omega
      clear hx hg hp hbr hA hpv hR hpa hc hlv' hI hic hq1 hq2 hq3 hla t1 t2 t3 t4 t5 hN hj hjl hB
      go_wp2
      obtain ⟨W1, hW1⟩ : ∃ W1, W1 = wr.alloc (.cells #[.string x.nm, .string x.gp, .int .i64 x.st, .int .i64 x.lf, .int .i64 x.si] 41) := ⟨_, rfl⟩
      obtain ⟨X, hX⟩ : ∃ X, X = wr.heap.size := ⟨_, rfl⟩
      rw [← hW1, ← hX]
      have hB1 : Below wr.heap.size wr W1 := by rw [hW1]; exact (Below.refl _ _).alloc (Nat.le_refl _) _
      have HB1 := Lib.hid hB1
      have HX1 := Lib.hid (show Blk W1 X 41 (irow x) from by rw [hW1, hX]; exact Blk.new wr 41 (irow x))
      have b2' : W1.cell? ⟨b, 2, none⟩ = some (.slice (some ⟨q, 0, none⟩) N pk) := (hB1.cell (p := ⟨b, 2, none⟩) hblr).trans b2
      have d2' : W1.cell? ⟨q, j * 3 + 2, none⟩ = some (.bool p.br) := (hB1.cell (p := ⟨q, j * 3 + 2, none⟩) hq).trans d2
      have x1 : W1.cell? ⟨X, 1, none⟩ = some (.string x.gp) := HX1.out.cell 1
      have hXl := HX1.out.lt
      have hq1 : q < W1.heap.size := Nat.lt_of_lt_of_le hq hB1.size
      have hb1 : b < W1.heap.size := Nat.lt_of_lt_of_le hblr hB1.size
      clear hW1 hX hB1 b2 d2 e0 e1 e2 e3 e4 hblr hq hql
      have hcH := held_cell
      refine region_below (by kernel_rfl) (by kernel_rfl) ?_
      repeat
        ((with_reducible refine wpQuiet_step (fun K hK => ?_))
         go_simp
         first
           | ((with_reducible refine hK _ ?_); clear hK K)
           | (apply Exists.intro
              (with_reducible refine ⟨fun n => ?_, hK _ ?_⟩)
              ((go_at_call 39; exact held_calls (HL.out _ (HB1.out.trans (n.below.mono HB1.out.size)))))
              clear hK K))
      with_reducible refine wpQuiet_nil ?_
      intro w6 hw2
      clear hcH
      obtain ⟨⟨_, hb6⟩, rfl⟩ := hw2
      (try dsimp only)
      obtain ⟨hc6, hf6⟩ := bcell hb6
      have hz6 := hb6.size
      (try simp at hz6)
      have HX6 := Lib.hid (HX1.out.below hb6)
      have HB6 := Lib.hid (HB1.out.trans (hb6.mono HB1.out.size))
      have y0 : w6.cell? ⟨X, 0, none⟩ = some (.string x.nm) := HX6.out.cell 0
      have y1 : w6.cell? ⟨X, 1, none⟩ = some (.string x.gp) := HX6.out.cell 1
      have y2 : w6.cell? ⟨X, 2, none⟩ = some (.int .i64 x.st) := HX6.out.cell 2
      have y3 : w6.cell? ⟨X, 3, none⟩ = some (.int .i64 x.lf) := HX6.out.cell 3
      have y4 : w6.cell? ⟨X, 4, none⟩ = some (.int .i64 x.si) := HX6.out.cell 4
      have hX6l := HX6.out.lt
      have t2 := T2.out
      have t5 := T5.out
      clear hc6 hf6 hz6 b2' d2' x1 hXl hq1 hb1 hb6
      clear HB1 HL HX1
      go_wp2
      have hcH := held_cell
      refine region_rel_late 9 [7] (by kernel_rfl) (by kernel_rfl) (by kernel_rfl) ?_ ?_
      · exact fun _ _ _ _ _ h => h
      dsimp only [List.take, List.drop]
      repeat
        ((with_reducible refine relStep (fun K hK => ?_))
         (have HK := Lib.hid hK)
         clear hK
         (apply relInl
          · intro r n hf
            have Hf := Lib.hid hf
            clear hf
            (first
              | (fail)
              | (unfold relAt
                 go_simp
                 (first | (refine relUpon_val ?_ (Below.refl _ _); exact rfl) | exact rfl | (refine relUpon_enter ?_; (first | (go_at_call 40; (with_reducible refine (T1.out _).mono ?_); rintro e w9 ⟨rfl, hb⟩; exact ⟨⟨_, rfl, rfl⟩, hb⟩) | ((with_reducible refine (T3.out _).mono ?_); rintro e w9 ⟨rfl, hb⟩; exact ⟨⟨_, rfl, rfl⟩, hb⟩))))))
          (simp only [Act.put, List.setIfInBounds_toArray, List.set_cons_zero, List.set_cons_succ])
          (with_reducible refine HK.out _ _ ?_)
          clear HK K))
      (with_reducible refine relStep (fun K hK => ?_))
      (have HK := Lib.hid hK)
      clear hK
      refine relInr (NewX w6.heap.size) (NewX.stays _) (fun r n hf => ?_) ?_
      · have Hf := Lib.hid hf
        clear hf HK K
        unfold relAt
        (skip)
        go_simp
        ((refine relUpon_val ?_ ?_; exact NewX.mk n; exact (Below.refl _ _).alloc (Nat.le_refl _) _))
      (simp only [Act.put, List.setIfInBounds_toArray, List.set_cons_zero, List.set_cons_succ])
      (with_reducible refine HK.out _ _ ?_)
      clear HK K
      refine relNil ?_
      intro r9 n9 hx9
      clear hcH
      (try simp only [List.nil_append, List.cons_append, List.mem_cons, List.not_mem_nil, or_false, forall_eq_or_imp, forall_eq, false_implies, implies_true] at hx9)
      obtain ⟨w9, hb9⟩ := n9
      (try dsimp only)
      obtain ⟨hc9, hf9⟩ := bcell hb9
      have hz9 := hb9.size
      (try simp at hz9)
      obtain ⟨X9, e9, hX9, hB9⟩ := hx9
      have e9 : r9 8 = _ := e9
      dsimp only at hB9
      rw [e9]
      have HX9 := Lib.hid hB9
      have q0 := hB9.cell 0
      have q1 := hB9.cell 1
      have q2 := hB9.cell 2
      have q3 := hB9.cell 3
      have q4 := hB9.cell 4
      have f0 := hB9.frozen 0
      have f1 := hB9.frozen 1
      have f2 := hB9.frozen 2
      have f3 := hB9.frozen 3
      have f4 := hB9.frozen 4
      have hl9 := hB9.lt
      have HB9 := Lib.hid (HB6.out.trans (hb9.mono HB6.out.size))
      have HX9b := Lib.hid (Nat.le_trans HB6.out.size hX9)
      dsimp only [List.getElem?_cons_zero, List.getElem?_cons_succ] at q0 q1 q2 q3 q4
      clear hB9 e9 hb9 hc9 hf9 hz9 hX9 y0 y1 y2 y3 y4 hX6l t2 t5 HX6 HB6
      obtain ⟨WY, hWY⟩ : ∃ WY, WY = ((((w9.setCell ⟨X9, 0, none⟩ (.string y.nm)).setCell ⟨X9, 1, none⟩ (.string y.gp)).setCell ⟨X9, 2, none⟩ (.int .i64 y.st)).setCell ⟨X9, 3, none⟩ (.int .i64 y.lf)).setCell ⟨X9, 4, none⟩ (.int .i64 y.si) := ⟨_, rfl⟩
      have hWYb : Below wr.heap.size wr WY := by
        rw [hWY]
        exact ((((HB9.out.setCell HX9b.out _).setCell HX9b.out _).setCell HX9b.out _).setCell HX9b.out _).setCell HX9b.out _
      have hWYz : WY.heap.size = w9.heap.size := by rw [hWY]; simp [World.size_setCell]
      have HO9 := Lib.hid (own_kept Hown.out hWYb)
      have HBx := Lib.hid (HB.out.trans (hWYb.mono hbz))
      have hbx : W.heap.size ≤ WY.heap.size := Nat.le_trans hbz hWYb.size
      have Hbx := Lib.hid hbx
      have Hnew := Lib.hid (show ∀ (j : Nat) (u : Value), [Value.string y.nm, .string y.gp, .int .i64 y.st, .int .i64 y.lf, .int .i64 y.si][j]? = some u → (WY.alloc (.cells #[.string y.nm, .string y.gp, .int .i64 y.st, .int .i64 y.lf, .int .i64 y.si] 41)).cell? ((⟨w9.heap.size, 0, none⟩ : Addr).add j) = some u from by
        rw [← hWYz]
        exact news_at WY _ _)
      subst hWY
      clear hWYb hWYz hbx
      cases ok
      · have Hs := Lib.hid (show (s.L.take (k + 1)).filterMap f = (s.L.take k).filterMap f from by
          rw [fmap_next Hx.out, Hf.out]
          dsimp only
          rw [Hbr.out, T4.out]
          simp)
        go_wp2
        go_roundw
        case rel => exact ⟨k + 1, by omega, by go_num, by rw [Hs.out]; exact HO9.out, HBx.out⟩
        case measure => simp [intOf]; omega
      · have Hs := Lib.hid (show (s.L.take (k + 1)).filterMap f = (s.L.take k).filterMap f ++ [y] from by
          rw [fmap_next Hx.out, Hf.out]
          dsimp only
          rw [Hbr.out, T4.out]
          simp)
        have hln := fmap_len s.L f k
        obtain ⟨q, hq⟩ : ∃ q, ((s.L.take k).filterMap f).length = q := ⟨_, rfl⟩
        have hc3 : q + 1 ≤ maxLen := by unfold maxLen; omega
        have hc4 : (q + 1) * 56 ≤ 140737488355328 := by omega
        have Hrow := Lib.hid (show ((s.L.take k).filterMap f).flatMap irow ++ irow y = ((s.L.take (k + 1)).filterMap f).flatMap irow from by rw [Hs.out]; simp)
        have Hlen := Lib.hid (show q + 1 = ((s.L.take (k + 1)).filterMap f).length from by rw [Hs.out, List.length_append, hq]; rfl)
        rw [hq] at HO9
        clear hq hln
        go_wp2_with (at_builtin; refine wpList_append_own _ rfl (.tmp 47) (.tmp 49) 38 rfl W.heap.size 41 i0 _ 5 56 Tryz.underlying38 Hi.out Hz0.out Hz1.out Hz2.out rfl (by decide) _ q _ rfl (HO9.out.alloc _) ⟨w9.heap.size, 0, none⟩ 1 1 [.string y.nm, .string y.gp, .int .i64 y.st, .int .i64 y.lf, .int .i64 y.si] rfl rfl Hnew.out (irow_one y) hc3 hc4 (le_alloc Hbx.out _) ?_; intro v1 w1 hown1 hgrow1 _; have hB1 := own_below (HO9.out.alloc _) (HBx.out.alloc Hbx.out _) (le_alloc Hbx.out _) hgrow1; have HO1 := Lib.hid (show w1.ownsRow W.heap.size 41 5 v1 _ _ from (show _ from (Hlen.out ▸ Hrow.out ▸ hown1))); have HB1 := Lib.hid hB1; clear hown1 hgrow1 hB1)
        go_roundw
        case rel => exact ⟨k + 1, by omega, by go_num, HO1.out, HB1.out⟩
        case measure => simp [intOf]; omega
    · obtain rfl : k = n := by omega
      have hall : (s.L.take k).filterMap f = s.L.filterMap f := by rw [List.take_of_length_le (Nat.le_of_eq Hn.out)]
      have hown := Hown.out
      rw [hall] at hown
      obtain ⟨sp, cap, hv, -⟩ := own_rows irow_len hown (by decide)
      obtain ⟨q, hq⟩ : ∃ q, (s.L.filterMap f).length = q := ⟨_, rfl⟩
      have Hq := Lib.hid hq
      rw [hq] at hv
      subst hv
      have z3 := HCr.out.row.cell 3
      have f3 := HCr.out.row.frozen 3
      have hbr := HCr.out.row.lt
      dsimp only [List.getElem?_cons_zero, List.getElem?_cons_succ] at z3
      have hlv9 := Hlv.out
      rw [hlv9] at z3
      have HO := Lib.hid (OwnL.mono (enc := irow) (K := 5) (l := s.L.filterMap f) hown hbase)
      have HN := Lib.hid (show NewB w.heap.size lv (.slice sp q cap) from fun z hz => .inr (by have := (own_lt hown hz).1; omega))
      clear hall hown hlv9 HCr hq Hown
      go_wp2
      go_end0
      have hT := HCW.out.newList (S := []) (Only.of_below HB.out) (fun _ h => by cases h) HO.out
      have e : s.tick = { { s with nw := s.nw + 1 } with L := s.L.filterMap f } := by unfold CS.tick; rw [Hf.out]
      rw [e]
      exact ⟨rfl, _, hT, (HOW.out.step (HB.out.mono (Nat.le_of_eq hWz.symm))).setCell (p := ⟨b, 3, none⟩) (.inl hbm) _, HN.out⟩
end Go.Proofs.YtcfdejlbchdciaaGreatDoor
