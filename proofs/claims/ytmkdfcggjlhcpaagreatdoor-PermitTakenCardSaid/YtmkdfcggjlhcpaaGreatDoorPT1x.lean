/-
  The state of a provider, in plain words: what is permitted in it the provider takes.
-/
import Derived.Test.YtmkdfcggjlhcpaaGreatDoorLatex
import Derived.Test.YtmkdfcggjlhcpaaGreatDoorClRx
import Derived.Test.YtmkdfcggjlhcpaaGreatDoorClPx
import Derived.Test.YtmkdfcggjlhcpaaGreatDoorPeCx
import Derived.Laws.MakeOwn
import Derived.Laws.OwnMore
import Derived.Test.YtmkdfcggjlhcpaaGreatDoorGItox
namespace Go.Proofs.YtmkdfcggjlhcpaaGreatDoor
open Go.RowKit
set_option linter.unusedVariables false
set_option linter.unusedSimpArgs false
theorem fmap_next {L : List Ins} {f : Ins → Option Ins} {k : Nat} {x : Ins} (hx : L[k]? = some x) : (L.take (k + 1)).filterMap f = (L.take k).filterMap f ++ (f x).toList := by
  rw [take_at hx, List.filterMap_append]
  cases h : f x <;> simp [h]
theorem fmap_len (L : List Ins) (f : Ins → Option Ins) (k : Nat) : ((L.take k).filterMap f).length ≤ k := Nat.le_trans (List.length_filterMap_le _ _) (by rw [List.length_take]; omega)
def NewX (N : Nat) (u : Value) (w : World) : Prop := ∃ X, u = .pointer (some ⟨X, 0, none⟩) ∧ N ≤ X ∧ Blk w X 62 [.string ⟨#[]⟩, .string ⟨#[]⟩, .int .i64 0, .int .i64 0, .int .i64 0]
theorem NewX.mk {W : World} (n : Held W) : NewX W.heap.size (.pointer (some ⟨n.w.heap.size, 0, none⟩)) (n.w.alloc (.cells #[.string ⟨#[]⟩, .string ⟨#[]⟩, .int .i64 0, .int .i64 0, .int .i64 0] 62)) := ⟨_, rfl, n.below.size, Blk.new _ 62 [.string ⟨#[]⟩, .string ⟨#[]⟩, .int .i64 0, .int .i64 0, .int .i64 0]⟩
theorem NewX.stays (N : Nat) : Stays (NewX N) := fun v w w' hb ⟨X, e, h, hB⟩ => ⟨X, e, h, hB.below hb⟩
set_option maxRecDepth 100000 in
set_option maxHeartbeats 8000000 in
theorem tick_any (base b : Nat) (G : List Gp) (s : CS) (gv pv lv : Value) (w : World) (h : CT w base b G s gv pv lv) (m : Nat) (hO : s.Ok m) (hm : m ≤ 100) :
    Calls Tryz.prog 12 #[.pointer (some ⟨b, 0, none⟩)] w fun e w' => e = .returned (.tuple #[]) ∧ ∃ lv', CT w' base b G s.tick gv pv lv' ∧ Only (blocksOf b pv lv) w w' ∧ NewB w.heap.size lv lv' := by
  have hz : G.length = s.G.length := by rw [← h.gk, List.length_map]
  have hG9 : G.length ≤ 16 := by have := hO.g16; omega
  have hL9 : s.L.length ≤ 1000000 := by have := hO.lb; omega
  obtain ⟨n0, n1, _, _⟩ := hO.nb
  have c0 := h.row.cell 0
  have c3 := h.row.cell 3
  have c5 := h.row.cell 5
  have f5 := h.row.frozen 5
  dsimp only [List.getElem?_cons_zero, List.getElem?_cons_succ] at c0 c3 c5
  have hbl := h.row.lt
  have hbm : b ∈ blocksOf b pv lv := by unfold blocksOf; simp
  obtain ⟨SB, hSBe⟩ : ∃ SB, SB = blocksOf b pv lv := ⟨_, rfl⟩
  rw [← hSBe] at hbm ⊢
  have Hh := Lib.hid h
  have HO := Lib.hid hO
  obtain ⟨la, lk, hlv, hI⟩ := h.insts
  obtain ⟨n, hn⟩ : ∃ n, s.L.length = n := ⟨_, rfl⟩
  have Hn := Lib.hid hn
  rw [hlv, hn] at c3
  rw [hn] at hL9
  have Hlv := Lib.hid hlv
  have hw1 : IntKind.i64.wrap (s.nw + 1) = s.nw + 1 := cwrap_in (by omega) (by omega)
  have HM := Lib.hid (fun V (hc : V.cell? ⟨b, 0, none⟩ = some (.pointer (some ⟨b, 0, none⟩))) => made_yes b V hc)
  clear h hO hI hn hlv hz hSBe
  go_enter Tryz.func12, Tryz.ntmps12
  go_wp2_with (go_at_call 29; (with_reducible refine (HM.out _ c0).mono ?_); rintro e w1 ⟨rfl, hw9⟩; subst w1)
  obtain ⟨W, hW⟩ : ∃ W, W = w.setCell ⟨b, 5, none⟩ (.int .i64 (s.nw + 1)) := ⟨_, rfl⟩
  rw [← hW]
  have HCW := Lib.hid (show CT W base b G { s with nw := s.nw + 1 } gv pv lv from by rw [hW]; exact Hh.out.rset (s' := { s with nw := s.nw + 1 }) 5 _ rfl rfl rfl rfl)
  have HOW := Lib.hid (show Only SB w W from by rw [hW]; exact (Only.refl SB w).setCell (p := ⟨b, 5, none⟩) (.inl hbm) _)
  have hWz : W.heap.size = w.heap.size := by rw [hW]; exact World.size_setCell _ _ _
  obtain ⟨f, hf⟩ : ∃ f : Ins → Option Ins, f = fun x => tickI (brOf s x.gp) x := ⟨_, rfl⟩
  have Hf := Lib.hid hf
  have hbase : base ≤ W.heap.size := by have := Hh.out.hb; omega
  obtain ⟨i0, hi, hz0, hz1, hz2⟩ := info_parts Tryz.info62
  have Hi := Lib.hid hi
  have Hz0 := Lib.hid hz0
  have Hz1 := Lib.hid hz1
  have Hz2 := Lib.hid hz2
  clear hi hz0 hz1 hz2
  clear hW hf c0 c3 c5 f5 HM
  go_loopw [2, 4, 5, 6, 7, 23] (fun v _ _ _ _ i wr => ∃ k : Nat, k ≤ n ∧ i = .int .i64 k ∧ wr.ownsRow W.heap.size 62 5 v ((s.L.take k).filterMap f).length (((s.L.take k).filterMap f).flatMap irow) ∧ Below W.heap.size W wr) (fun _ _ _ _ _ i _ => n - (intOf i).toNat)
  case atStart => exact ⟨0, Nat.zero_le _, rfl, World.ownsRow_nil _ _ _ _, Below.refl _ _⟩
  case round =>
    obtain ⟨k, hk, rfl, hown, hB⟩ := hrel
    have Hown := Lib.hid hown
    have HB := Lib.hid hB
    have hbz := hB.size
    have HCr := Lib.hid (HCW.out.below hB)
    clear hown
    by_cases hlt : k < n
    · obtain ⟨x, hx⟩ := mem_at (l := s.L) (k := k) (by rw [Hn.out]; exact hlt)
      have Hx := Lib.hid hx
      obtain ⟨⟨j, hj⟩, l0, l1, l2, _, _, _, _, _, _⟩ := HO.out.ib x (List.mem_of_getElem? hx)
      obtain ⟨g, hg, _⟩ := fndK_lt hj
      have hjl := lt_at hg
      obtain ⟨p, hp⟩ := mem_at (l := s.P) (k := j) (by rw [HO.out.ln]; exact hjl)
      have hbr : brOf s x.gp = p.br := by
        unfold brOf
        rw [hj]
        dsimp only
        rw [hp]
      have Hbr := Lib.hid hbr
      have hA : findA G x.gp 0 = (j : Int) := findA_some (by rw [Hh.out.gk]; exact hj)
      obtain ⟨pa, pk, hpv, hR⟩ := HCr.out.pools
      obtain ⟨q, hpa, _, hq, hc⟩ := hR (by show 0 < s.P.length; have := lt_at hp; omega)
      obtain ⟨_, _, d2⟩ := hc j p hp
      obtain ⟨la', lk', hlv', hI⟩ := HCr.out.insts
      obtain ⟨ql, hla, _, hql, hic⟩ := hI (by show 0 < s.L.length; have := lt_at hx; omega)
      obtain ⟨e0, e1, e2, e3, e4⟩ := hic k x hx
      have hlv9 := Hlv.out
      rw [hlv'] at hlv9
      injection hlv9 with hq1 hq2 hq3
      have hjP : (j : Int) < (s.P.length : Int) := by have := lt_at hp; omega
      obtain ⟨N, hN⟩ : ∃ N, s.P.length = N := ⟨_, rfl⟩
      have b2 := HCr.out.row.cell 2
      dsimp only [List.getElem?_cons_zero, List.getElem?_cons_succ] at b2
      rw [hpv, hpa] at b2
      have hla2 : la = some ⟨ql, 0, none⟩ := hq1.symm.trans hla
      dsimp only at b2
      rw [hN] at b2 hjP
      have hblr := HCr.out.row.lt
      have HL := Lib.hid (fun V (hV : Below wr.heap.size wr V) => place_any base b G { s with nw := s.nw + 1 } gv pv lv x.gp V (HCr.out.below hV) (by unfold maxLen; omega))
      rw [hA] at HL
      obtain ⟨T, fT, y, ok, t1, t2, t3, t4, t5⟩ := tick_of x p.br (fun e => ⟨l2 e, l1⟩)
      have T1 := Lib.hid t1
      have T2 := Lib.hid t2
      have T3 := Lib.hid t3
      have T4 := Lib.hid t4
      have T5 := Lib.hid t5
      subst hla2
      have hj0 : (0 : Int) ≤ (j : Int) := by omega
      clear hx hg hp hbr hA hpv hR hpa hc hlv' hI hic hq1 hq2 hq3 hla t1 t2 t3 t4 t5 hN hj hjl hB
      go_wp2
      obtain ⟨W1, hW1⟩ : ∃ W1, W1 = wr.alloc (.cells #[.string x.nm, .string x.gp, .int .i64 x.st, .int .i64 x.lf, .int .i64 x.si] 62) := ⟨_, rfl⟩
      obtain ⟨X, hX⟩ : ∃ X, X = wr.heap.size := ⟨_, rfl⟩
      rw [← hW1, ← hX]
      have hB1 : Below wr.heap.size wr W1 := by rw [hW1]; exact (Below.refl _ _).alloc (Nat.le_refl _) _
      have HB1 := Lib.hid hB1
      have HX1 := Lib.hid (show Blk W1 X 62 (irow x) from by rw [hW1, hX]; exact Blk.new wr 62 (irow x))
      have b2' : W1.cell? ⟨b, 2, none⟩ = some (.slice (some ⟨q, 0, none⟩) N pk) := (hB1.cell (p := ⟨b, 2, none⟩) hblr).trans b2
      have d2' : W1.cell? ⟨q, j * 3 + 2, none⟩ = some (.bool p.br) := (hB1.cell (p := ⟨q, j * 3 + 2, none⟩) hq).trans d2
      have x1 : W1.cell? ⟨X, 1, none⟩ = some (.string x.gp) := HX1.out.cell 1
      have hXl := HX1.out.lt
      have hq1 : q < W1.heap.size := Nat.lt_of_lt_of_le hq hB1.size
      have hb1 : b < W1.heap.size := Nat.lt_of_lt_of_le hblr hB1.size
      clear hW1 hX hB1 b2 d2 e0 e1 e2 e3 e4 hblr hq hql
      have hcH := held_cell
      refine region_below (by kernel_rfl) (by kernel_rfl) ?_
      repeat
        ((with_reducible refine wpQuiet_step (fun K hK => ?_))
         go_simp
         first
           | ((with_reducible refine hK _ ?_); clear hK K)
           | (apply Exists.intro
              (with_reducible refine ⟨fun n => ?_, hK _ ?_⟩)
              ((go_at_call 30; exact held_calls (HL.out _ (HB1.out.trans (n.below.mono HB1.out.size)))))
              clear hK K))
      with_reducible refine wpQuiet_nil ?_
      intro w6 hw2
      clear hcH
      obtain ⟨⟨_, hb6⟩, rfl⟩ := hw2
      (try dsimp only)
      obtain ⟨hc6, hf6⟩ := bcell hb6
      have hz6 := hb6.size
      (try simp at hz6)
      have HX6 := Lib.hid (HX1.out.below hb6)
      have HB6 := Lib.hid (HB1.out.trans (hb6.mono HB1.out.size))
      have y0 : w6.cell? ⟨X, 0, none⟩ = some (.string x.nm) := HX6.out.cell 0
      have y1 : w6.cell? ⟨X, 1, none⟩ = some (.string x.gp) := HX6.out.cell 1
      have y2 : w6.cell? ⟨X, 2, none⟩ = some (.int .i64 x.st) := HX6.out.cell 2
      have y3 : w6.cell? ⟨X, 3, none⟩ = some (.int .i64 x.lf) := HX6.out.cell 3
      have y4 : w6.cell? ⟨X, 4, none⟩ = some (.int .i64 x.si) := HX6.out.cell 4
      have hX6l := HX6.out.lt
      have t2 := T2.out
      have t5 := T5.out
      clear hc6 hf6 hz6 b2' d2' x1 hXl hq1 hb1 hb6
      clear HB1 HL HX1
      go_wp2
      have hcH := held_cell
      refine region_rel_late 9 [7] (by kernel_rfl) (by kernel_rfl) (by kernel_rfl) ?_ ?_
      · exact fun _ _ _ _ _ h => h
      dsimp only [List.take, List.drop]
      repeat
        ((with_reducible refine relStep (fun K hK => ?_))
         (have HK := Lib.hid hK)
         clear hK
         (apply relInl
          · intro r n hf
            have Hf := Lib.hid hf
            clear hf
            (first
              | (fail)
              | (unfold relAt
                 go_simp
                 (first | (refine relUpon_val ?_ (Below.refl _ _); exact rfl) | exact rfl | (refine relUpon_enter ?_; (first | (go_at_call 33; (with_reducible refine (T1.out _).mono ?_); rintro e w9 ⟨rfl, hb⟩; exact ⟨⟨_, rfl, rfl⟩, hb⟩) | ((with_reducible refine (T3.out _).mono ?_); rintro e w9 ⟨rfl, hb⟩; exact ⟨⟨_, rfl, rfl⟩, hb⟩))))))
          (simp only [Act.put, List.setIfInBounds_toArray, List.set_cons_zero, List.set_cons_succ])
          (with_reducible refine HK.out _ _ ?_)
          clear HK K))
      (with_reducible refine relStep (fun K hK => ?_))
      (have HK := Lib.hid hK)
      clear hK
      refine relInr (NewX w6.heap.size) (NewX.stays _) (fun r n hf => ?_) ?_
      · have Hf := Lib.hid hf
        clear hf HK K
        unfold relAt
        (skip)
        go_simp
        ((refine relUpon_val ?_ ?_; exact NewX.mk n; exact (Below.refl _ _).alloc (Nat.le_refl _) _))
      (simp only [Act.put, List.setIfInBounds_toArray, List.set_cons_zero, List.set_cons_succ])
      (with_reducible refine HK.out _ _ ?_)
      clear HK K
      refine relNil ?_
      intro r9 n9 hx9
      clear hcH
      (try simp only [List.nil_append, List.cons_append, List.mem_cons, List.not_mem_nil, or_false, forall_eq_or_imp, forall_eq, false_implies, implies_true] at hx9)
      obtain ⟨w9, hb9⟩ := n9
      (try dsimp only)
      obtain ⟨hc9, hf9⟩ := bcell hb9
      have hz9 := hb9.size
      (try simp at hz9)
      obtain ⟨X9, e9, hX9, hB9⟩ := hx9
      have e9 : r9 8 = _ := e9
      dsimp only at hB9
      rw [e9]
      have HX9 := Lib.hid hB9
      have q0 := hB9.cell 0
      have q1 := hB9.cell 1
      have q2 := hB9.cell 2
      have q3 := hB9.cell 3
      have q4 := hB9.cell 4
      have f0 := hB9.frozen 0
      have f1 := hB9.frozen 1
      have f2 := hB9.frozen 2
      have f3 := hB9.frozen 3
      have f4 := hB9.frozen 4
      have hl9 := hB9.lt
      have HB9 := Lib.hid (HB6.out.trans (hb9.mono HB6.out.size))
      have HX9b := Lib.hid (Nat.le_trans HB6.out.size hX9)
      dsimp only [List.getElem?_cons_zero, List.getElem?_cons_succ] at q0 q1 q2 q3 q4
      clear hB9 e9 hb9 hc9 hf9 hz9 hX9 y0 y1 y2 y3 y4 hX6l t2 t5 HX6 HB6
      obtain ⟨WY, hWY⟩ : ∃ WY, WY = ((((w9.setCell ⟨X9, 0, none⟩ (.string y.nm)).setCell ⟨X9, 1, none⟩ (.string y.gp)).setCell ⟨X9, 2, none⟩ (.int .i64 y.st)).setCell ⟨X9, 3, none⟩ (.int .i64 y.lf)).setCell ⟨X9, 4, none⟩ (.int .i64 y.si) := ⟨_, rfl⟩
      have hWYb : Below wr.heap.size wr WY := by
        rw [hWY]
        exact ((((HB9.out.setCell HX9b.out _).setCell HX9b.out _).setCell HX9b.out _).setCell HX9b.out _).setCell HX9b.out _
      have hWYz : WY.heap.size = w9.heap.size := by rw [hWY]; simp [World.size_setCell]
      have HO9 := Lib.hid (own_kept Hown.out hWYb)
      have HBx := Lib.hid (HB.out.trans (hWYb.mono hbz))
      have hbx : W.heap.size ≤ WY.heap.size := Nat.le_trans hbz hWYb.size
      have Hbx := Lib.hid hbx
      have Hnew := Lib.hid (show ∀ (j : Nat) (u : Value), [Value.string y.nm, .string y.gp, .int .i64 y.st, .int .i64 y.lf, .int .i64 y.si][j]? = some u → (WY.alloc (.cells #[.string y.nm, .string y.gp, .int .i64 y.st, .int .i64 y.lf, .int .i64 y.si] 62)).cell? ((⟨w9.heap.size, 0, none⟩ : Addr).add j) = some u from by
        rw [← hWYz]
        exact news_at WY _ _)
      subst hWY
      clear hWYb hWYz hbx
      cases ok
      · have Hs := Lib.hid (show (s.L.take (k + 1)).filterMap f = (s.L.take k).filterMap f from by
          rw [fmap_next Hx.out, Hf.out]
          dsimp only
          rw [Hbr.out, T4.out]
          simp)
        go_wp2
        go_roundw
        case rel => exact ⟨k + 1, by omega, by go_num, by rw [Hs.out]; exact HO9.out, HBx.out⟩
        case measure => simp [intOf]; omega
      · have Hs := Lib.hid (show (s.L.take (k + 1)).filterMap f = (s.L.take k).filterMap f ++ [y] from by
          rw [fmap_next Hx.out, Hf.out]
          dsimp only
          rw [Hbr.out, T4.out]
          simp)
        have hln := fmap_len s.L f k
        obtain ⟨q, hq⟩ : ∃ q, ((s.L.take k).filterMap f).length = q := ⟨_, rfl⟩
        have hc3 : q + 1 ≤ maxLen := by unfold maxLen; omega
        have hc4 : (q + 1) * 56 ≤ 140737488355328 := by omega
        have Hrow := Lib.hid (show ((s.L.take k).filterMap f).flatMap irow ++ irow y = ((s.L.take (k + 1)).filterMap f).flatMap irow from by rw [Hs.out]; simp)
        have Hlen := Lib.hid (show q + 1 = ((s.L.take (k + 1)).filterMap f).length from by rw [Hs.out, List.length_append, hq]; rfl)
        rw [hq] at HO9
        clear hq hln
        go_wp2_with (at_builtin; refine wpList_append_own _ rfl (.tmp 47) (.tmp 49) 47 rfl W.heap.size 62 i0 _ 5 56 Tryz.underlying47 Hi.out Hz0.out Hz1.out Hz2.out rfl (by decide) _ q _ rfl (HO9.out.alloc _) ⟨w9.heap.size, 0, none⟩ 1 1 [.string y.nm, .string y.gp, .int .i64 y.st, .int .i64 y.lf, .int .i64 y.si] rfl rfl Hnew.out (irow_one y) hc3 hc4 (le_alloc Hbx.out _) ?_; intro v1 w1 hown1 hgrow1 _; have hB1 := own_below (HO9.out.alloc _) (HBx.out.alloc Hbx.out _) (le_alloc Hbx.out _) hgrow1; have HO1 := Lib.hid (show w1.ownsRow W.heap.size 62 5 v1 _ _ from (show _ from (Hlen.out ▸ Hrow.out ▸ hown1))); have HB1 := Lib.hid hB1; clear hown1 hgrow1 hB1)
        go_roundw
        case rel => exact ⟨k + 1, by omega, by go_num, HO1.out, HB1.out⟩
        case measure => simp [intOf]; omega
    · obtain rfl : k = n := by omega
      have hall : (s.L.take k).filterMap f = s.L.filterMap f := by rw [List.take_of_length_le (Nat.le_of_eq Hn.out)]
      have hown := Hown.out
      rw [hall] at hown
      obtain ⟨sp, cap, hv, -⟩ := own_rows irow_len hown (by decide)
      obtain ⟨q, hq⟩ : ∃ q, (s.L.filterMap f).length = q := ⟨_, rfl⟩
      have Hq := Lib.hid hq
      rw [hq] at hv
      subst hv
      have z3 := HCr.out.row.cell 3
      have f3 := HCr.out.row.frozen 3
      have hbr := HCr.out.row.lt
      dsimp only [List.getElem?_cons_zero, List.getElem?_cons_succ] at z3
      have hlv9 := Hlv.out
      rw [hlv9] at z3
      have HO := Lib.hid (OwnL.mono (enc := irow) (K := 5) (l := s.L.filterMap f) hown hbase)
      have HN := Lib.hid (show NewB w.heap.size lv (.slice sp q cap) from fun z hz => .inr (by have := (own_lt hown hz).1; omega))
      clear hall hown hlv9 HCr hq Hown
      go_wp2
      go_end0
      have hT := HCW.out.newList (S := []) (Only.of_below HB.out) (fun _ h => by cases h) HO.out
      have e : s.tick = { { s with nw := s.nw + 1 } with L := s.L.filterMap f } := by unfold CS.tick; rw [Hf.out]
      rw [e]
      exact ⟨rfl, _, hT, (HOW.out.step (HB.out.mono (Nat.le_of_eq hWz.symm))).setCell (p := ⟨b, 3, none⟩) (.inl hbm) _, HN.out⟩
end Go.Proofs.YtmkdfcggjlhcpaaGreatDoor
namespace Go.Proofs.YtmkdfcggjlhcpaaGreatDoor
open Go.RowKit
set_option linter.unusedVariables false
set_option linter.unusedSimpArgs false
structure Prov (w0 : World) (b : Nat) (s : CS) (m : Nat) (F : List Nat) (w : World) : Prop where
  ex : ∃ G gv pv lv, CT w w0.heap.size b G s gv pv lv ∧ GL G ∧ ∀ z ∈ F, z < w.heap.size ∧ z ∉ blocksOf b pv lv
  bl : Below w0.heap.size w0 w
  ok : s.Ok m
def Kept (F : List Nat) (w w' : World) : Prop := w.heap.size ≤ w'.heap.size ∧ ∀ z ∈ F, w'.heap[z]? = w.heap[z]?
section
variable {w0 w w' : World} {b m : Nat} {s s' : CS} {F : List Nat}
theorem Prov.below (h : Prov w0 b s m F w) (hb : Below w.heap.size w w') : Prov w0 b s m F w' := by
  obtain ⟨⟨G, gv, pv, lv, h1, h2, h3⟩, h4, h5⟩ := h
  exact ⟨⟨G, gv, pv, lv, h1.below hb, h2, fun z hz => ⟨Nat.lt_of_lt_of_le (h3 z hz).1 hb.size, (h3 z hz).2⟩⟩, h4.trans (hb.mono h4.size), h5⟩
theorem Prov.up (h : Prov w0 b s m F w) {n : Nat} (hn : m ≤ n) : Prov w0 b s n F w := ⟨h.ex, h.bl, h.ok.up hn⟩
theorem Prov.sub (h : Prov w0 b s m F w) {F' : List Nat} (hF : ∀ z ∈ F', z ∈ F) : Prov w0 b s m F' w := by
  obtain ⟨⟨G, gv, pv, lv, h1, h2, h3⟩, h4, h5⟩ := h
  exact ⟨⟨G, gv, pv, lv, h1, h2, fun z hz => h3 z (hF z hz)⟩, h4, h5⟩
theorem Prov.add (h : Prov w0 b s m F w) (hb : Below w.heap.size w w') {F' : List Nat} (hF : ∀ z ∈ F', w.heap.size ≤ z ∧ z < w'.heap.size) : Prov w0 b s m (F' ++ F) w' := by
  have h9 := h.below hb
  obtain ⟨⟨G, gv, pv, lv, h1, h2, h3⟩, h4, h5⟩ := h
  refine ⟨⟨G, gv, pv, lv, h1.below hb, h2, fun z hz => ?_⟩, h9.bl, h5⟩
  rcases List.mem_append.1 hz with hz | hz
  · refine ⟨(hF z hz).2, fun hm => ?_⟩
    have := (h1.blocks z hm).2
    have := (hF z hz).1
    omega
  · exact ⟨Nat.lt_of_lt_of_le (h3 z hz).1 hb.size, (h3 z hz).2⟩
theorem Kept.trans {w2 : World} (h : Kept F w w') (h' : Kept F w' w2) : Kept F w w2 := ⟨Nat.le_trans h.1 h'.1, fun z hz => (h'.2 z hz).trans (h.2 z hz)⟩
theorem Kept.below (h : Prov w0 b s m F w) (hb : Below w.heap.size w w') : Kept F w w' := by
  obtain ⟨⟨G, gv, pv, lv, h1, h2, h3⟩, h4, h5⟩ := h
  exact ⟨hb.size, fun z hz => hb.block z (h3 z hz).1⟩
theorem Kept.own (h : Kept F w w') {B : Nat} {v : Value} {n k : Nat} {e : TypeId} {xs : List Value} (ho : w.ownsRow B e k v n xs) (hv : ∀ z, v.ownBlock = some z → z ∈ F) : w'.ownsRow B e k v n xs := own_same ho fun g e => h.2 g (hv g e)
theorem Prov.run {G : List Gp} {gv pv lv : Value} (h1 : CT w w0.heap.size b G s gv pv lv) (h2 : GL G) (h3 : ∀ z ∈ F, z < w.heap.size ∧ z ∉ blocksOf b pv lv) (h4 : Below w0.heap.size w0 w) {m' : Nat} (ok : s'.Ok m')
    (hr : ∃ lv', CT w' w0.heap.size b G s' gv pv lv' ∧ Only (blocksOf b pv lv) w w' ∧ NewB w.heap.size lv lv') : Prov w0 b s' m' F w' ∧ Kept F w w' := by
  obtain ⟨lv', r1, r2, r3⟩ := hr
  refine ⟨⟨⟨G, gv, pv, lv', r1, h2, fun z hz => ⟨Nat.lt_of_lt_of_le (h3 z hz).1 r2.size, fun hm => ?_⟩⟩, r2.below h4 h4.size fun k hk => (h1.blocks k hk).1, ok⟩, ⟨r2.size, fun z hz => r2.block z (h3 z hz).1 (h3 z hz).2⟩⟩
  have h5 := (h3 z hz).2
  unfold blocksOf at hm h5
  rcases List.mem_cons.1 hm with e | hm
  · exact h5 (by rw [e]; simp)
  · rcases List.mem_append.1 hm with hm | hm
    · exact h5 (List.mem_cons_of_mem _ (List.mem_append.2 (.inl hm)))
    · rcases r3 z (by simpa using hm) with h6 | h6
      · exact h5 (List.mem_cons_of_mem _ (List.mem_append.2 (.inr (by simpa using h6))))
      · have := (h3 z hz).1
        omega
theorem Prov.g16 (h : Prov w0 b s m F w) {G : List Gp} {gv pv lv : Value} (h1 : CT w w0.heap.size b G s gv pv lv) : G.length ≤ 1000 := by
  have h2 : G.length = s.G.length := by rw [← h1.gk, List.length_map]
  have := h.ok.g16
  omega
theorem Prov.l6 (h : Prov w0 b s m F w) (hm : m ≤ 100) : s.L.length ≤ 1000000 := by
  have := h.ok.lb
  omega
end
theorem pv_inc (w0 : World) (b m : Nat) (s : CS) (F : List Nat) (w : World) (h : Prov w0 b s m F w) (hm : m ≤ 100) (hT : Tab10 w0) (key : ByteArray) (n : Int) (hn0 : -9223372036854775808 ≤ n) (hn1 : n ≤ 9223372036854775807) :
    Calls Tryz.prog 8 #[.pointer (some ⟨b, 0, none⟩), .string key, .int .i64 n] w fun e w' => e = .returned (.int .i64 (s.inc key n).2) ∧ Prov w0 b (s.inc key n).1 (m + 1) F w' ∧ Kept F w w' := by
  obtain ⟨⟨G, gv, pv, lv, h1, h2, h3⟩, h4, h5⟩ := h
  refine (incr_any b G s gv pv lv key n w0 w h1 h4 hT m h5 hm h2 hn0 hn1).mono ?_
  rintro e w' ⟨rfl, hr⟩
  exact ⟨rfl, Prov.run h1 h2 h3 h4 (h5.inc key n) hr⟩
theorem pv_del (w0 : World) (b m : Nat) (s : CS) (F : List Nat) (w : World) (h : Prov w0 b s m F w) (hm : m ≤ 100) (key : ByteArray) :
    Calls Tryz.prog 9 #[.pointer (some ⟨b, 0, none⟩), .string key] w fun e w' => e = .returned (.int .i64 (s.del key).2) ∧ Prov w0 b (s.del key).1 (m + 1) F w' ∧ Kept F w w' := by
  obtain ⟨⟨G, gv, pv, lv, h1, h2, h3⟩, h4, h5⟩ := h
  refine (del_any w0.heap.size b G s gv pv lv key w h1 m h5 hm).mono ?_
  rintro e w' ⟨rfl, hr⟩
  exact ⟨rfl, Prov.run h1 h2 h3 h4 (h5.del key) ⟨lv, hr.1, hr.2, .refl⟩⟩
theorem pv_dec (w0 : World) (b m : Nat) (s : CS) (F : List Nat) (w : World) (h : Prov w0 b s m F w) (hm : m ≤ 100) (key : ByteArray) (n : Int) (hn0 : -9223372036854775808 ≤ n) (hn1 : n ≤ 9223372036854775807) :
    Calls Tryz.prog 10 #[.pointer (some ⟨b, 0, none⟩), .string key, .int .i64 n] w fun e w' => e = .returned (.int .i64 (s.dec key n).2) ∧ Prov w0 b (s.dec key n).1 (m + 1) F w' ∧ Kept F w w' := by
  obtain ⟨⟨G, gv, pv, lv, h1, h2, h3⟩, h4, h5⟩ := h
  refine (decr_any w0.heap.size b G s gv pv lv key n w h1 m h5 hm hn0 hn1).mono ?_
  rintro e w' ⟨rfl, hr⟩
  exact ⟨rfl, Prov.run h1 h2 h3 h4 (h5.dec key n) ⟨lv, hr.1, hr.2.mono (fun k hk => by unfold blocksOf; rcases List.mem_cons.1 hk with e | hk; (rw [e]; simp); exact List.mem_cons_of_mem _ (List.mem_append.2 (.inl hk))), .refl⟩⟩
theorem pv_fail (w0 : World) (b m : Nat) (s : CS) (F : List Nat) (w : World) (h : Prov w0 b s m F w) (hm : m ≤ 100) (key : ByteArray) :
    Calls Tryz.prog 11 #[.pointer (some ⟨b, 0, none⟩), .string key] w fun e w' => e = .returned (.int .i64 (s.fail key).2) ∧ Prov w0 b (s.fail key).1 (m + 1) F w' ∧ Kept F w w' := by
  have h9 := h
  obtain ⟨⟨G, gv, pv, lv, h1, h2, h3⟩, h4, h5⟩ := h
  refine (fail_any w0.heap.size b G s gv pv lv key w h1 (h9.l6 hm)).mono ?_
  rintro e w' ⟨rfl, hr⟩
  exact ⟨rfl, Prov.run h1 h2 h3 h4 ((h5.fail key).up (Nat.le_succ m)) ⟨lv, hr.1, hr.2.mono (fun k hk => by unfold blocksOf; exact List.mem_cons_of_mem _ (List.mem_append.2 (.inr hk))), .refl⟩⟩
theorem pv_tick (w0 : World) (b m : Nat) (s : CS) (F : List Nat) (w : World) (h : Prov w0 b s m F w) (hm : m ≤ 100) :
    Calls Tryz.prog 12 #[.pointer (some ⟨b, 0, none⟩)] w fun e w' => e = .returned (.tuple #[]) ∧ Prov w0 b s.tick (m + 1) F w' ∧ Kept F w w' := by
  obtain ⟨⟨G, gv, pv, lv, h1, h2, h3⟩, h4, h5⟩ := h
  refine (tick_any w0.heap.size b G s gv pv lv w h1 m h5 hm).mono ?_
  rintro e w' ⟨rfl, hr⟩
  exact ⟨rfl, Prov.run h1 h2 h3 h4 h5.tick hr⟩
theorem pv_insts (w0 : World) (b m : Nat) (s : CS) (F : List Nat) (w : World) (h : Prov w0 b s m F w) (hm : m ≤ 100) :
    Calls Tryz.prog 15 #[.pointer (some ⟨b, 0, none⟩)] w (Gives w (OwnL irow 5 w.heap.size 62 s.L)) := by
  have h9 := h
  obtain ⟨⟨G, gv, pv, lv, h1, h2, h3⟩, h4, h5⟩ := h
  exact insts_any w0.heap.size b G s gv pv lv w h1 (h9.l6 hm)
theorem pv_tgt (w0 : World) (b m : Nat) (s : CS) (F : List Nat) (w : World) (h : Prov w0 b s m F w) (key : ByteArray) :
    Calls Tryz.prog 19 #[.pointer (some ⟨b, 0, none⟩), .string key] w fun e w' => e = .returned (.int .i64 (s.tgt key)) ∧ Below w.heap.size w w' := by
  have h9 := h
  obtain ⟨⟨G, gv, pv, lv, h1, h2, h3⟩, h4, h5⟩ := h
  exact target_any w0.heap.size b G s gv pv lv key w h1 (h9.g16 h1) h5.ln
end Go.Proofs.YtmkdfcggjlhcpaaGreatDoor
namespace Go.Proofs.YtmkdfcggjlhcpaaGreatDoor
open Go.RowKit
set_option linter.unusedVariables false
set_option linter.unusedSimpArgs false
def pl0 : Pl := ⟨0, 0, false⟩
def plN (g : Gk) : Pl := ⟨g.mn, g.mn, false⟩
def insN (g : Gk) : List Ins := moreI g.nm 0 ⟨emp, emp, 2, 0, 0⟩ g.mn.toNat
def CS.at (G : List Gk) (dl : Int) (i : Nat) : CS := ⟨G, (G.take i).map plN ++ (G.drop i).map fun _ => pl0, (G.take i).flatMap insN, dl, 0, 0⟩
def CS.new (G : List Gk) (dl : Int) : CS := ⟨G, G.map plN, G.flatMap insN, dl, 0, 0⟩
theorem at_zero (G : List Gk) (dl : Int) : CS.at G dl 0 = ⟨G, G.map fun _ => pl0, [], dl, 0, 0⟩ := rfl
theorem at_all (G : List Gk) (dl : Int) {i : Nat} (h : G.length ≤ i) : CS.at G dl i = CS.new G dl := by
  unfold CS.at CS.new
  rw [List.take_of_length_le h, List.drop_of_length_le h, List.map_nil, List.append_nil]
theorem at_pool {G : List Gk} {dl : Int} {i : Nat} (h : i < G.length) : (CS.at G dl i).P[i]? = some pl0 := by
  unfold CS.at
  dsimp only
  have hl : ((G.take i).map plN).length = i := by rw [List.length_map, List.length_take]; omega
  rw [List.getElem?_append_right (by omega), hl, Nat.sub_self, List.getElem?_map, List.getElem?_drop, Nat.add_zero, List.getElem?_eq_getElem h]
  rfl
theorem at_next {G : List Gk} {dl : Int} {i : Nat} {g : Gk} (hg : G[i]? = some g) (h0 : 0 ≤ g.mn) : (CS.at G dl i).req i g pl0 ⟨emp, emp, 2, 0, 0⟩ g.mn.toNat = CS.at G dl (i + 1) := by
  obtain ⟨hl, he⟩ := List.getElem?_eq_some_iff.1 hg
  have hlen : ((G.take i).map plN).length = i := by rw [List.length_map, List.length_take]; omega
  have ht : G.take (i + 1) = G.take i ++ [g] := by rw [List.take_add_one, hg]; rfl
  have hd : G.drop i = g :: G.drop (i + 1) := by rw [List.drop_eq_getElem_cons hl, he]
  have hn : ((g.mn.toNat : Nat) : Int) = g.mn := by omega
  unfold CS.req CS.at
  dsimp only
  have e1 : (List.map plN (List.take i G) ++ List.map (fun _ => pl0) (List.drop i G)).set i ⟨pl0.t + (g.mn.toNat : Int), pl0.la + (g.mn.toNat : Int), pl0.br⟩ = List.map plN (List.take (i + 1) G) ++ List.map (fun _ => pl0) (List.drop (i + 1) G) := by
    rw [List.set_append_right _ _ (by omega), hlen, Nat.sub_self, hd, List.map_cons, List.set_cons_zero, ht, List.map_append, List.append_assoc]
    congr 1
    show _ :: _ = plN g :: _
    congr 1
    unfold plN
    rw [hn]
    show (⟨0 + g.mn, 0 + g.mn, false⟩ : Pl) = _
    rw [Int.zero_add]
  have e2 : List.flatMap insN (List.take i G) ++ moreI g.nm pl0.la ⟨emp, emp, 2, 0, 0⟩ g.mn.toNat = List.flatMap insN (List.take (i + 1) G) := by
    rw [ht, List.flatMap_append]
    congr 1
    show _ = insN g ++ []
    rw [List.append_nil]
    rfl
  rw [e1, e2]
structure GOk (G : List Gk) : Prop where
  g16 : G.length ≤ 16
  nd : (G.map Gk.nm).Nodup
  gb : ∀ g ∈ G, 0 ≤ g.mn ∧ g.mn ≤ g.mx ∧ 1 ≤ g.mx ∧ g.mx ≤ 200 ∧ g.nm.size ≤ 300
theorem insN_len : ∀ (G : List Gk), (∀ g ∈ G, 0 ≤ g.mn ∧ g.mn ≤ 200) → (G.flatMap insN).length ≤ 200 * G.length
  | [], _ => Nat.zero_le _
  | g :: G, h => by
    have ih := insN_len G fun x hx => h x (List.mem_cons_of_mem _ hx)
    have h1 := h g (List.mem_cons_self ..)
    rw [List.flatMap_cons, List.length_append, List.length_cons]
    unfold insN
    rw [moreI_len]
    have h2 : g.mn.toNat ≤ 200 := by omega
    have h3 : (List.flatMap (fun g => moreI g.nm 0 ⟨emp, emp, 2, 0, 0⟩ g.mn.toNat) G).length ≤ 200 * G.length := ih
    omega
theorem at_ins {G : List Gk} {dl : Int} (h : GOk G) (hd : 1 ≤ dl ∧ dl ≤ 1000) {x : Ins} (hx : x ∈ G.flatMap insN) : ∃ (j : Nat) (g : Gk) (k : Int), G[j]? = some g ∧ 1 ≤ k ∧ k ≤ g.mn ∧ x = ⟨mnm g.nm k, g.nm, 2, 0, 0⟩ := by
  obtain ⟨g, hg, hx⟩ := List.mem_flatMap.1 hx
  obtain ⟨k, hk, rfl⟩ := mem_moreI hx
  obtain ⟨j, hj⟩ := List.mem_iff_getElem?.1 hg
  obtain ⟨h0, h1, h2, h3, _⟩ := h.gb g hg
  exact ⟨j, g, 0 + 1 + (k : Int), hj, by omega, by omega, rfl⟩
theorem CS.Ok.new {G : List Gk} {dl : Int} (h : GOk G) (hd : 1 ≤ dl ∧ dl ≤ 1000) : (CS.new G dl).Ok 1 := by
  refine ⟨by unfold CS.new; rw [List.length_map], h.g16, h.nd, h.gb, ?_, ?_, ?_, hd, by unfold CS.new; dsimp only; omega⟩
  · intro j g p hg hp
    unfold CS.new at hg hp
    dsimp only at hg hp
    rw [List.getElem?_map, hg] at hp
    obtain rfl := Option.some.inj hp
    obtain ⟨h0, h1, h2, h3, _⟩ := h.gb g (List.mem_of_getElem? hg)
    unfold plN
    dsimp only
    omega
  · intro x hx
    obtain ⟨j, g, k, hg, hk1, hk2, rfl⟩ := at_ins h hd hx
    obtain ⟨h0, h1, h2, h3, h4⟩ := h.gb g (List.mem_of_getElem? hg)
    refine ⟨⟨j, fndK_nd h.nd hg⟩, Int.le_refl _, by dsimp only; omega, fun e => by dsimp only at e; omega, by dsimp only; omega, by dsimp only; omega, mnm_size _ _ h4, fun _ => rfl, by unfold CS.new; exact Int.le_refl _, Int.le_refl _⟩
  · have h1 := insN_len G fun g hg => by
      obtain ⟨h0, h1, h2, h3, _⟩ := h.gb g hg
      omega
    have := h.g16
    show (G.flatMap insN).length ≤ 3200 * 1
    omega
theorem okG_all {l : List Gp} (h : rightGs l = true) {k : Nat} {g : Gp} (hg : l[k]? = some g) : rightG g = true ∧ g.nm.size ≤ 48 ∧ findA l g.nm 0 = (k : Int) := by
  unfold rightGs at h
  rw [Bool.and_eq_true, List.all_eq_true] at h
  have h1 := h.2 k (List.mem_range.2 (List.getElem?_eq_some_iff.1 hg).1)
  rw [okG_at hg, Bool.and_eq_true, Bool.and_eq_true] at h1
  exact ⟨h1.1.1, of_decide_eq_true h1.1.2, of_decide_eq_true h1.2⟩
theorem nodup_of_find : ∀ {l : List Gk}, (∀ (k : Nat) (g : Gk), l[k]? = some g → fndK l g.nm = some k) → (l.map Gk.nm).Nodup
  | [], _ => List.nodup_nil
  | x :: l, h => by
    rw [List.map_cons, List.nodup_cons]
    have hne : ∀ (k : Nat) (g : Gk), l[k]? = some g → ¬ x.nm = g.nm ∧ fndK l g.nm = some k := fun k g hg => by
      have h1 := h (k + 1) g (by simpa using hg)
      unfold fndK at h1
      by_cases e : x.nm = g.nm
      · rw [if_pos e] at h1
        have := Option.some.inj h1
        omega
      · rw [if_neg e] at h1
        cases h2 : fndK l g.nm with
        | none => rw [h2] at h1; cases h1
        | some i =>
          rw [h2] at h1
          have e2 : i + 1 = k + 1 := Option.some.inj h1
          exact ⟨e, by congr 1; omega⟩
    refine ⟨fun hm => ?_, nodup_of_find fun k g hg => (hne k g hg).2⟩
    obtain ⟨g, hg, e⟩ := List.mem_map.1 hm
    obtain ⟨k, hk⟩ := List.mem_iff_getElem?.1 hg
    exact (hne k g hk).1 e.symm
theorem inB_iff {x a b : Int} (h : inB x a b = true) : a ≤ x ∧ x ≤ b := by
  unfold inB at h
  simpa using h
theorem rightGs_ok {l : List Gp} (h : rightGs l = true) : GOk (l.map gkOf) := by
  have h16 : l.length ≤ 16 := by
    unfold rightGs at h
    rw [Bool.and_eq_true] at h
    exact of_decide_eq_true h.1
  refine ⟨by rw [List.length_map]; exact h16, nodup_of_find fun k g hg => ?_, fun g hg => ?_⟩
  · rw [List.getElem?_map] at hg
    cases hx : l[k]? with
    | none => rw [hx] at hg; cases hg
    | some x =>
      rw [hx] at hg
      obtain rfl := Option.some.inj hg
      obtain ⟨_, _, h3⟩ := okG_all h hx
      cases hf : fndK (l.map gkOf) x.nm with
      | none => rw [findA_none hf] at h3; omega
      | some j =>
        rw [findA_some hf] at h3
        show fndK (l.map gkOf) x.nm = _
        rw [hf]
        congr 1
        omega
  · obtain ⟨x, hx, rfl⟩ := List.mem_map.1 hg
    obtain ⟨k, hk⟩ := List.mem_iff_getElem?.1 hx
    obtain ⟨h1, h2, _⟩ := okG_all h hk
    unfold rightG at h1
    simp only [Bool.and_eq_true] at h1
    obtain ⟨⟨⟨⟨⟨⟨⟨⟨_, hmx⟩, hmn⟩, _⟩, _⟩, _⟩, _⟩, _⟩, _⟩ := h1
    have h3 := inB_iff hmx
    have h4 := inB_iff hmn
    show 0 ≤ x.mn ∧ x.mn ≤ x.mx ∧ 1 ≤ x.mx ∧ x.mx ≤ 200 ∧ x.nm.size ≤ 300
    omega
end Go.Proofs.YtmkdfcggjlhcpaaGreatDoor
namespace Go.Proofs.YtmkdfcggjlhcpaaGreatDoor
open Go.RowKit
set_option linter.unusedVariables false
set_option linter.unusedSimpArgs false
theorem GL.nrm {G C : List Gp} (h : GL G) (e : C.map nrm = G.map nrm) : GL C := fun g hg => by
  obtain ⟨j, hj⟩ := List.mem_iff_getElem?.1 hg
  obtain ⟨g', hg', e'⟩ := nrm_at e hj
  obtain ⟨e1, e2, _⟩ := nrm_like e'
  rw [e1, e2]
  exact h g' (List.mem_of_getElem? hg')
def RG (B : Nat) (l : List Gp) (v : Value) (w : World) : Prop := ∃ C : List Gp, C.map nrm = l.map nrm ∧ w.ownsRow B 37 15 v C.length (C.flatMap grow) ∧ ∀ g ∈ C, MO w B g.like
theorem RG.stays (B : Nat) (l : List Gp) : Stays (RG B l) := fun v w w' hb ⟨C, h1, h2, h3⟩ => ⟨C, h1, own_kept h2 hb, fun g hg => (h3 g hg).kept hb⟩
def RP (B N : Nat) (v : Value) (w : World) : Prop := w.ownsRow B 78 3 v N ((List.replicate N pl0).flatMap prow)
theorem RP.stays (B N : Nat) : Stays (RP B N) := fun v w w' hb h => own_kept h hb
theorem RG.slice {B : Nat} {l : List Gp} {v : Value} {w : World} (h : RG B l v w) : ∃ a n k, v = .slice a n k := by
  obtain ⟨C, _, h, _⟩ := h
  obtain ⟨a, k, e, _⟩ := own_rows grow_len h (by decide)
  exact ⟨a, _, k, e⟩
theorem RP.slice {B N : Nat} {v : Value} {w : World} (h : RP B N v w) : ∃ a k, v = .slice a N k := by
  have h' : w.ownsRow B 78 3 v (List.replicate N pl0).length ((List.replicate N pl0).flatMap prow) := by rw [List.length_replicate]; exact h
  obtain ⟨a, k, e, _⟩ := own_rows prow_len h' (by decide)
  rw [List.length_replicate] at e
  exact ⟨a, k, e⟩
def RB (B : Nat) (l : List Gp) (N : Nat) (d : Int) (v : Value) (w : World) : Prop := ∃ vg vp, v = .agg #[.pointer none, vg, vp, .slice none 0 0, .int .i64 d, .int .i64 0, .int .i64 0] ∧ RG B l vg w ∧ RP B N vp w
theorem RB.stays (B : Nat) (l : List Gp) (N : Nat) (d : Int) : Stays (RB B l N d) := fun v w w' hb ⟨vg, vp, e, h1, h2⟩ => ⟨vg, vp, e, RG.stays B l _ _ _ hb h1, RP.stays B N _ _ _ hb h2⟩
def RX (B : Nat) (l : List Gp) (N : Nat) (d : Int) (v : Value) (w : World) : Prop := ∃ X vg vp, v = .pointer (some ⟨X, 0, none⟩) ∧ B ≤ X ∧ Blk w X 75 [.pointer none, vg, vp, .slice none 0 0, .int .i64 d, .int .i64 0, .int .i64 0] ∧ RG B l vg w ∧ RP B N vp w
theorem RX.stays (B : Nat) (l : List Gp) (N : Nat) (d : Int) : Stays (RX B l N d) := fun v w w' hb ⟨X, vg, vp, e, h, hB, h1, h2⟩ => ⟨X, vg, vp, e, h, hB.below hb, RG.stays B l _ _ _ hb h1, RP.stays B N _ _ _ hb h2⟩
theorem Tryz.info78 : (Tryz.prog.info? 78).map (fun i => (i.zero, i.size, i.bytes)) = some (some (.agg #[.int .i64 0, .int .i64 0, .bool false]), 3, 24) := by kernel_rfl
theorem made_flat {α : Type} (enc : α → List Value) (z : Array Value) (x : α) (K : Nat) (hz : z.toList = enc x) (hK : z.size = K) (h0 : 0 < K) (n : Nat) : (madeCells z (n * K)).toList = (List.replicate n x).flatMap enc := by
  have hl : (enc x).length = K := by rw [← hz, Array.length_toList, hK]
  have hlen : ((List.replicate n x).flatMap enc).length = n * K := by
    rw [List.length_flatMap, List.map_replicate, hl, List.sum_replicate_nat]
  refine List.ext_getElem? fun j => ?_
  by_cases hj : j < n * K
  · have hi : j / K < n := Nat.div_lt_of_lt_mul (by rw [Nat.mul_comm]; exact hj)
    have h2 : j % K < K := Nat.mod_lt _ h0
    have h1 : ((List.replicate n x).flatMap enc)[j]? = (enc x)[j % K]? := by
      have h3 : ∀ (m i : Nat), i < m → ∀ r, r < K → ((List.replicate m x).flatMap enc)[i * K + r]? = (enc x)[r]? := by
        intro m
        induction m with
        | zero => intro i h; omega
        | succ m ih =>
          intro i hi r hr
          rw [List.replicate_succ, List.flatMap_cons]
          cases i with
          | zero => rw [Nat.zero_mul, Nat.zero_add, List.getElem?_append_left (by omega)]
          | succ i =>
            rw [List.getElem?_append_right (by rw [hl, Nat.succ_mul]; omega), hl, Nat.succ_mul, show i * K + K + r - K = i * K + r by omega]
            exact ih i (by omega) r hr
      have h4 := h3 n (j / K) hi (j % K) h2
      rw [show j / K * K + j % K = j from by rw [Nat.mul_comm]; exact Nat.div_add_mod j K] at h4
      exact h4
    rw [h1, ← hz]
    have h5 : j % z.size < z.size := by rw [hK]; exact h2
    simp only [madeCells, Array.toList_map, Array.toList_range, List.getElem?_map, List.getElem?_range hj, Option.map_some, Array.getElem?_toList]
    rw [hK] at h5 ⊢
    simp [hK, h2]
  · rw [List.getElem?_eq_none (by rw [Array.length_toList, size_madeCells]; omega), List.getElem?_eq_none (by rw [hlen]; omega)]
theorem made_pools (N : Nat) : (madeCells (Value.agg #[.int .i64 0, .int .i64 0, .bool false]).cells (N * 3)).toList = (List.replicate N pl0).flatMap prow := made_flat prow _ pl0 3 rfl rfl (by decide) N
theorem make_pools (B N : Nat) (h : N ≤ 16) (V : World) (hB : B ≤ V.heap.size) : ∃ w' v, (Instr.makeSlice 73 (.int .i64 (N : Int)) (.int .i64 (N : Int))).run Tryz.prog V = .ok v w' ∧ RP B N v w' ∧ Below V.heap.size V w' := by
  obtain ⟨i0, hi, hz0, hz1, hz2⟩ := info_parts Tryz.info78
  obtain ⟨w', h1, h2, h3⟩ := run_makeSlice_full V B 73 78 i0 _ 3 Tryz.underlying73 hi hz0 hz1 .i64 .i64 N (by omega) (by rw [hz2]; omega) (by unfold maxLen; omega) hB
  rw [made_pools N] at h2
  exact ⟨w', _, h1, h2, (Only.refl [] V).grown h3 (fun k hk => by cases hk) |>.below (Below.refl _ _) (Nat.le_refl _) (fun k hk => by cases hk)⟩
set_option maxRecDepth 100000 in
set_option maxHeartbeats 8000000 in
theorem cnew_yes (a : Option Addr) (l : List Gp) (ka : Nat) (d : Int) (w : World) (hF : GpL w a l) (hI : ∀ g ∈ l, MacIn w g.like) (hL : lightGs l = true) (hr : rightGs l = true) (hd : 1 ≤ d ∧ d ≤ 1000) (hT : Tab10 w) (hgl : GL l) :
    Calls Tryz.prog 7 #[.slice a l.length ka, .int .i64 d] w fun e w' => (∃ b G gv pv lv, e = .returned (.tuple #[.pointer (some ⟨b, 0, none⟩), .int .i64 0]) ∧ CT w' w.heap.size b G (CS.new (l.map gkOf) d) gv pv lv ∧ GL G) ∧ Below w.heap.size w w' := by
  have hok := rightGs_ok hr
  have h16 : l.length ≤ 16 := by have := hok.g16; rwa [List.length_map] at this
  have HR := Lib.hid (rightgs_any a l ka w hF hI hL)
  rw [hr] at HR
  have HG := Lib.hid (fun V (hV : Below w.heap.size w V) => groups_any a ka l V (hF.mono hV) (fun g hg => (hI g hg).mono hV) hgl (by omega))
  obtain ⟨N, hN⟩ : ∃ N, l.length = N := ⟨_, rfl⟩
  have HN := Lib.hid hN
  rw [hN] at HR h16 HG ⊢
  have k1 : decide (d < 1) = false := decide_eq_false (by omega)
  have k2 : decide (1000 < d) = false := decide_eq_false (by omega)
  have Hok := Lib.hid hok
  have HT := Lib.hid hT
  have Hgl := Lib.hid hgl
  have HM := Lib.hid (fun V (hV : w.heap.size ≤ V.heap.size) => make_pools w.heap.size N h16 V hV)
  clear hF hI hL hr hN hok hT hgl
  go_enter Tryz.func7, Tryz.ntmps7
  go_wp2_with (go_at_call 26; (with_reducible refine HR.out.mono ?_); rintro e w1 ⟨rfl, hb1⟩; have HB1 := Lib.hid hb1; have hz1 := hb1.size; clear hb1)
  have hcH := held_cell
  refine region_rel (by kernel_rfl) (by kernel_rfl) ?_
  repeat
    ((with_reducible refine relStep (fun K hK => ?_))
     (have HK := Lib.hid hK)
     clear hK
     (apply relInl
      · intro r n hf
        have Hf := Lib.hid hf
        clear hf
        (first
          | (fail)
          | (unfold relAt
             go_simp
             (first | (refine relUpon_val ?_ (Below.refl _ _); exact rfl) | exact rfl | (refine relUpon_enter ?_; fail))))
      (simp only [Act.put, List.setIfInBounds_toArray, List.set_cons_zero, List.set_cons_succ])
      (with_reducible refine HK.out _ _ ?_)
      clear HK K))
  (with_reducible refine relStep (fun K hK => ?_))
  (have HK := Lib.hid hK)
  clear hK
  refine relInr (RG w.heap.size l) (RG.stays _ _) (fun r n hf => ?_) ?_
  · have Hf := Lib.hid hf
    clear hf HK K
    unfold relAt
    (skip)
    go_simp
    ((refine relUpon_enter ?_; go_at_call 27; (with_reducible refine (HG.out _ (HB1.out.trans (Below.mono n.below HB1.out.size))).mono ?_); rintro e w9 ⟨⟨v, C, rfl, h1, h2, h3⟩, hb⟩; exact ⟨⟨v, rfl, ⟨C, h1, OwnL.mono h2 (Nat.le_trans HB1.out.size n.below.size), fun g hg => (h3 g hg).less (Nat.le_trans HB1.out.size n.below.size)⟩⟩, hb⟩))
  (simp only [Act.put, List.setIfInBounds_toArray, List.set_cons_zero, List.set_cons_succ])
  (with_reducible refine HK.out _ _ ?_)
  clear HK K
  repeat
    ((with_reducible refine relStep (fun K hK => ?_))
     (have HK := Lib.hid hK)
     clear hK
     (apply relInl
      · intro r n hf
        have Hf := Lib.hid hf
        clear hf
        (first
          | (fail)
          | (unfold relAt
             go_simp
             (first | (refine relUpon_val ?_ (Below.refl _ _); exact rfl) | exact rfl | (refine relUpon_enter ?_; fail))))
      (simp only [Act.put, List.setIfInBounds_toArray, List.set_cons_zero, List.set_cons_succ])
      (with_reducible refine HK.out _ _ ?_)
      clear HK K))
  (with_reducible refine relStep (fun K hK => ?_))
  (have HK := Lib.hid hK)
  clear hK
  refine relInr (RP w.heap.size N) (RP.stays _ _) (fun r n hf => ?_) ?_
  · have Hf := Lib.hid hf
    clear hf HK K
    unfold relAt
    ((obtain ⟨wm, vm, hrun, hRP, hbm⟩ := HM.out n.w (Nat.le_trans HB1.out.size n.below.size)))
    go_simp
    ((exact relUpon_val hRP hbm))
  (simp only [Act.put, List.setIfInBounds_toArray, List.set_cons_zero, List.set_cons_succ])
  (with_reducible refine HK.out _ _ ?_)
  clear HK K
  repeat
    ((with_reducible refine relStep (fun K hK => ?_))
     (have HK := Lib.hid hK)
     clear hK
     (apply relInl
      · intro r n hf
        have Hf := Lib.hid hf
        clear hf
        (first
          | (fail)
          | (unfold relAt
             go_simp
             (first | (refine relUpon_val ?_ (Below.refl _ _); exact rfl) | exact rfl | (refine relUpon_enter ?_; fail))))
      (simp only [Act.put, List.setIfInBounds_toArray, List.set_cons_zero, List.set_cons_succ])
      (with_reducible refine HK.out _ _ ?_)
      clear HK K))
  (with_reducible refine relStep (fun K hK => ?_))
  (have HK := Lib.hid hK)
  clear hK
  refine relInr (RB w.heap.size l N d) (RB.stays _ _ _ _) (fun r n hf => ?_) ?_
  · have Hf := Lib.hid hf
    clear hf HK K
    unfold relAt
    ((have h1 := given_at Hf.out 0 rfl (by dsimp only; decide +kernel); have h4 := given_at Hf.out 1 rfl (by dsimp only; decide +kernel); (try dsimp only at h1 h4); obtain ⟨ag, ng, kg, eg⟩ := h1.slice; obtain ⟨ap, kp, ep⟩ := h4.slice; rw [eg, ep]; rw [eg] at h1; rw [ep] at h4; have H1 := Lib.hid h1; have H4 := Lib.hid h4; clear h1 h4 eg ep))
    go_simp
    ((refine relUpon_val ⟨_, _, ?_, H1.out, H4.out⟩ (Below.refl _ _); rfl))
  (simp only [Act.put, List.setIfInBounds_toArray, List.set_cons_zero, List.set_cons_succ])
  (with_reducible refine HK.out _ _ ?_)
  clear HK K
  (with_reducible refine relStep (fun K hK => ?_))
  (have HK := Lib.hid hK)
  clear hK
  refine relInr (RX w.heap.size l N d) (RX.stays _ _ _ _) (fun r n hf => ?_) ?_
  · have Hf := Lib.hid hf
    clear hf HK K
    unfold relAt
    ((have h1 := given_at Hf.out 2 rfl (by dsimp only; decide +kernel); (try dsimp only at h1); obtain ⟨vg, vp, e1, h1, h4⟩ := h1; rw [e1]; have H1 := Lib.hid h1; have H4 := Lib.hid h4; clear h1 h4 e1))
    go_simp
    ((refine relUpon_val ⟨_, vg, vp, rfl, ?_, Blk.new _ _ _, ?_, ?_⟩ ((Below.refl _ _).alloc (Nat.le_refl _) _); exact Nat.le_trans HB1.out.size n.below.size; exact RG.stays _ _ _ _ _ ((Below.refl _ _).alloc (Nat.le_refl _) _) H1.out; exact RP.stays _ _ _ _ _ ((Below.refl _ _).alloc (Nat.le_refl _) _) H4.out))
  (simp only [Act.put, List.setIfInBounds_toArray, List.set_cons_zero, List.set_cons_succ])
  (with_reducible refine HK.out _ _ ?_)
  clear HK K
  (with_reducible refine relStep (fun K hK => ?_))
  (have HK := Lib.hid hK)
  clear hK
  refine relInr (RX w.heap.size l N d) (RX.stays _ _ _ _) (fun r n hf => ?_) ?_
  · have Hf := Lib.hid hf
    clear hf HK K
    unfold relAt
    ((have h1 := given_at Hf.out 3 rfl (by dsimp only; decide +kernel); (try dsimp only at h1)))
    go_simp
    ((exact relUpon_val h1 (Below.refl _ _)))
  (simp only [Act.put, List.setIfInBounds_toArray, List.set_cons_zero, List.set_cons_succ])
  (with_reducible refine HK.out _ _ ?_)
  clear HK K
  refine relNil ?_
  intro r9 n9 hx9
  clear hcH
  (try simp only [List.nil_append, List.cons_append, List.mem_cons, List.not_mem_nil, or_false, forall_eq_or_imp, forall_eq, false_implies, implies_true] at hx9)
  obtain ⟨w9, hb9⟩ := n9
  (try dsimp only)
  obtain ⟨hc9, hf9⟩ := bcell hb9
  have hz9 := hb9.size
  (try simp at hz9)
  obtain ⟨y1, y2, y3, y4, X, vg, vp, eX, hX, hBX, hG, hP⟩ := hx9
  clear y1 y2 y3 y4
  have eX : r9 8 = _ := eX
  dsimp only at hBX hG hP
  rw [eX]
  obtain ⟨C, hC, hown, hmo⟩ := hG
  have hCl : C.length = N := by rw [nrm_len hC, HN.out]
  have HB9 := Lib.hid (HB1.out.trans (hb9.mono HB1.out.size))
  have hgk : C.map gkOf = l.map gkOf := nrm_gk hC
  have hgl := Hgl.out.nrm hC
  have hPs : (CS.at (l.map gkOf) d 0).P = List.replicate N pl0 := by
    rw [at_zero]
    show (l.map gkOf).map (fun _ => pl0) = _
    rw [List.map_const', List.length_map, HN.out]
  obtain ⟨ga, gka, hgv, -⟩ := own_rows grow_len hown (by decide)
  have HCT := Lib.hid (show CT (w9.setCell ⟨X, 0, none⟩ (.pointer (some ⟨X, 0, none⟩))) w.heap.size X C (CS.at (l.map gkOf) d 0) vg vp (.slice none 0 0) from by
    have tb := blk_ty hBX
    have D : ∀ {q : Nat} {t : TypeId}, TyAt w9 q t → t ≠ 75 → q ≠ X := fun hq ht => hq.ne tb ht
    refine ⟨hBX.set 0 _, own_same hown fun q e => Below.heap_setCell _ _ _ _ (D (own_ty hown e) (by decide)), ?_, World.ownsRow_nil _ _ _ _, fun g hg => ⟨own_same (hmo g hg).l fun q e => Below.heap_setCell _ _ _ _ (D (own_ty (hmo g hg).l e) (by decide)), own_same (hmo g hg).t fun q e => Below.heap_setCell _ _ _ _ (D (own_ty (hmo g hg).t e) (by decide))⟩, hgk, hX⟩
    rw [hPs, List.length_replicate]
    exact own_same hP fun q e => Below.heap_setCell _ _ _ _ (D (own_ty hP e) (by decide)))
  have HB := Lib.hid (HB9.out.setCell (p := ⟨X, 0, none⟩) hX (.pointer (some ⟨X, 0, none⟩)))
  have b0 := hBX.cell 0
  have b1 := hBX.cell 1
  have g0 := hBX.frozen 0
  have hXl := hBX.lt
  dsimp only [List.getElem?_cons_zero, List.getElem?_cons_succ] at b0 b1
  rw [hgv, hCl] at b1
  have hgv' : vg = .slice ga N gka := by rw [hgv, hCl]
  subst hgv'
  have HCl := Lib.hid hCl
  have Hgl' := Lib.hid hgl
  clear hBX hP hown hmo hC hCl hgk hgl hPs hgv hX hb9 hc9 hf9 hz9 HB9 HM HG HR Hgl hz1 HB1
  go_wp2
  obtain ⟨W, hW⟩ : ∃ W, W = w9.setCell ⟨X, 0, none⟩ (.pointer (some ⟨X, 0, none⟩)) := ⟨_, rfl⟩
  rw [← hW] at HCT HB ⊢
  clear hW b0 b1 g0 hXl eX
  generalize r9 (0 + 1) = q1
  generalize r9 (0 + 1 + 1 + 1 + 1) = q4
  generalize r9 (0 + 1 + 1 + 1 + 1 + 1 + 1) = q6
  generalize r9 (0 + 1 + 1 + 1 + 1 + 1 + 1 + 1) = q7
  go_loopw [7, 8, 35] (fun _ _ i wr => ∃ (k : Nat) (lv : Value), k ≤ N ∧ i = .int .i64 k ∧ CT wr w.heap.size X C (CS.at (l.map gkOf) d k) (.slice ga N gka) vp lv ∧ Below w.heap.size w wr) (fun _ _ i _ => N - (intOf i).toNat)
  case atStart => exact ⟨0, _, Nat.zero_le _, rfl, HCT.out, HB.out⟩
  case round =>
    clear HCT HB
    obtain ⟨k, lv, hk, rfl, hT, hB⟩ := hrel
    have HTr := Lib.hid hT
    have HBr := Lib.hid hB
    by_cases hlt : k < N
    · obtain ⟨g', hg'⟩ := mem_at (l := C) (k := k) (by rw [HCl.out]; exact hlt)
      obtain ⟨a', k', e', hGr⟩ := hT.groups
      injection e' with e1 e2 e3
      obtain ⟨gb, go, e4, hgb, hgc⟩ := hGr (by rw [HCl.out]; omega)
      have e5 := e1.trans e4
      subst e5
      obtain ⟨c0, c1, c2, c3, c4, c5, c6, c7, c8, c9, c10, c11, c12, c13, c14⟩ := grow_cells (hgc k g' hg')
      have hGk : (l.map gkOf)[k]? = some (gkOf g') := by
        have h9 : (C.map gkOf)[k]? = some (gkOf g') := by rw [List.getElem?_map, hg']; rfl
        rw [hT.gk] at h9
        exact h9
      obtain ⟨m0, m1, m2, m3, m4⟩ := Hok.out.gb _ (List.mem_of_getElem? hGk)
      have m0 : 0 ≤ g'.mn := m0
      have m1 : g'.mn ≤ g'.mx := m1
      have m3 : g'.mx ≤ 200 := m3
      have m4 : g'.nm.size ≤ 300 := m4
      obtain ⟨nn, hnn⟩ : ∃ nn : Nat, g'.mn = (nn : Int) := ⟨g'.mn.toNat, by omega⟩
      have hGl := Hgl'.out g' (List.mem_of_getElem? hg')
      have hkl : k < (l.map gkOf).length := lt_at hGk
      have hpk : (CS.at (l.map gkOf) d k).P[k]? = some pl0 := at_pool hkl
      have hPl : (CS.at (l.map gkOf) d k).P.length = N := by
        show ((((l.map gkOf).take k).map plN) ++ ((l.map gkOf).drop k).map fun _ => pl0).length = N
        rw [List.length_append, List.length_map, List.length_map, List.length_take, List.length_drop, List.length_map, HN.out]
        omega
      have hLl : (CS.at (l.map gkOf) d k).L.length ≤ 10000000 := by
        have h9 := insN_len ((l.map gkOf).take k) fun g hg => by
          obtain ⟨q0, q1, q2, q3, _⟩ := Hok.out.gb g (List.mem_of_mem_take hg)
          omega
        rw [List.length_take] at h9
        show (((l.map gkOf).take k).flatMap insN).length ≤ _
        omega
      have HRq := Lib.hid (fun V (hV : Below wr.heap.size wr V) => show Calls Tryz.prog 28 #[.pointer (some ⟨X, 0, none⟩), .int .i64 k, .int .i64 nn, .agg #[.string ⟨#[]⟩, .string ⟨#[]⟩, .int .i64 2, .int .i64 0, .int .i64 0]] V fun e w' => e = .returned (.tuple #[]) ∧ ∃ lv', CT w' w.heap.size X C ((CS.at (l.map gkOf) d k).req k (gkOf g') pl0 ⟨emp, emp, 2, 0, 0⟩ nn) (.slice (some ⟨gb, go, none⟩) N gka) vp lv' ∧ Only (blocksOf X vp lv) V w' ∧ NewB V.heap.size lv lv' from request_any X C (CS.at (l.map gkOf) d k) (.slice (some ⟨gb, go, none⟩) N gka) vp lv k g' pl0 ⟨emp, emp, 2, 0, 0⟩ nn 0 w V (hT.below hV) (hB.trans (hV.mono hB.size)) HT.out hg' hpk (by rw [HCl.out]; exact h16) m4 hGl.1 hGl.2 (by omega) (by decide) (by decide) hLl (by rw [hPl]; exact h16))
      have Hnx := Lib.hid (show (CS.at (l.map gkOf) d k).req k (gkOf g') pl0 ⟨emp, emp, 2, 0, 0⟩ nn = CS.at (l.map gkOf) d (k + 1) from by
        have h9 := at_next (dl := d) hGk m0
        rw [show (gkOf g').mn.toNat = nn from by show g'.mn.toNat = nn; omega] at h9
        exact h9)
      rw [hnn] at c1
      have hrow := hT.row
      have hbz := hB.size
      have hki : (k : Int) < (N : Int) := by omega
      have hk0 : (0 : Int) ≤ (k : Int) := by omega
      clear hg' hGr e1 e2 e3 e4 hgc hGk hnn hpk hPl hLl hT hB m1 m3 m4 hGl hkl
      go_wp2_with (go_at_call 28; (with_reducible refine (HRq.out _ (by (repeat' (first | with_reducible exact Below.refl _ _ | with_reducible assumption | with_reducible refine Below.drew ?_ | with_reducible refine below_drewN' ?_ _ | with_reducible refine Below.alloc ?_ ?_ _ | with_reducible refine Below.setCell ?_ ?_ _ | with_reducible refine below_step (by assumption) ?_ ?_ | omega | (simp; done) | (simp; omega))))).mono ?_); rintro e w5 ⟨rfl, lv', hT5, hO5, hN5⟩; have HT5 := Lib.hid hT5; have HO5 := Lib.hid hO5; clear hT5 hO5 hN5)
      have HB5 := Lib.hid (HO5.out.below (HBr.out.trans (((Below.refl _ wr).alloc (Nat.le_refl _) _).mono hbz)) (by simp; omega) fun z hz => (HTr.out.blocks z hz).1)
      go_roundw
      case rel => exact ⟨k + 1, lv', by omega, by go_num, Hnx.out ▸ HT5.out, HB5.out⟩
      case measure => simp [intOf]; omega
    · obtain rfl : k = N := by omega
      have hall : CS.at (l.map gkOf) d k = CS.new (l.map gkOf) d := at_all _ _ (by rw [List.length_map, HN.out]; exact Nat.le_refl _)
      rw [hall] at HTr
      clear hT hB hall
      go_wp2
      go_ret2
      exact ⟨⟨X, C, _, _, lv, rfl, HTr.out, Hgl'.out⟩, HBr.out⟩
end Go.Proofs.YtmkdfcggjlhcpaaGreatDoor
namespace Go.Proofs.YtmkdfcggjlhcpaaGreatDoor
open Go.RowKit
set_option linter.unusedVariables false
set_option linter.unusedSimpArgs false
def CS.NoBr (s : CS) : Prop := ∀ p ∈ s.P, p.br = false
theorem nobr_set {P : List Pl} (h : ∀ p ∈ P, p.br = false) {j : Nat} {y : Pl} (hy : y.br = false) : ∀ p ∈ P.set j y, p.br = false := fun p hp => by
  rcases List.mem_or_eq_of_mem_set hp with h1 | h1
  · exact h p h1
  · rw [h1]; exact hy
def CS.Kp (s s' : CS) : Prop := s'.G = s.G ∧ (s.NoBr → s'.NoBr)
theorem CS.Kp.refl (s : CS) : CS.Kp s s := ⟨rfl, id⟩
theorem kp_inc (s : CS) (nm : ByteArray) (n : Int) : CS.Kp s (s.inc nm n).1 := by
  unfold CS.inc
  split
  · exact .refl s
  · split
    · split
      · exact .refl s
      · split
        · exact .refl s
        · split
          · exact .refl s
          · rename_i j hj _ _ g p hg hp h1 h2 h3
            exact ⟨rfl, fun h => nobr_set h (by simpa using h3)⟩
    · exact .refl s
theorem kp_dec (s : CS) (nm : ByteArray) (n : Int) : CS.Kp s (s.dec nm n).1 := by
  unfold CS.dec
  split
  · exact .refl s
  · split
    · split
      · exact .refl s
      · split
        · exact .refl s
        · rename_i j hj _ _ g p hg hp h1 h2
          exact ⟨rfl, fun h => nobr_set h (h p (List.mem_of_getElem? hp))⟩
    · exact .refl s
theorem kp_del (s : CS) (nm : ByteArray) : CS.Kp s (s.del nm).1 := by
  unfold CS.del
  split
  · exact .refl s
  · split
    · exact .refl s
    · split
      · exact .refl s
      · split
        · split
          · exact .refl s
          · split
            · exact .refl s
            · rename_i g p hg hp h1 h2
              exact ⟨rfl, fun h => nobr_set h (h p (List.mem_of_getElem? hp))⟩
        · exact .refl s
theorem kp_fail (s : CS) (nm : ByteArray) : CS.Kp s (s.fail nm).1 := by
  unfold CS.fail
  split
  · exact .refl s
  · split
    · exact .refl s
    · split <;> exact ⟨rfl, id⟩
theorem kp_tick (s : CS) : CS.Kp s s.tick := ⟨rfl, id⟩
theorem nobr_new (G : List Gk) (d : Int) : (CS.new G d).NoBr := fun p hp => by
  obtain ⟨g, -, rfl⟩ := List.mem_map.1 hp
  rfl
def stOf (l : List Gp) (cs : CS) : St := ⟨none, l, 0, none, cs.P.map Pl.t, 0, none, cs.L, 0, 0, 0, 0, none, [], 0, 0, 1000⟩
theorem stOf_ok {l : List Gp} {cs : CS} {m : Nat} (h : cs.Ok m) (hG : cs.G = l.map gkOf) (hg : GrOk l) (hm : m ≤ 60) : StOk (stOf l cs) := by
  have hln : cs.P.length = l.length := by rw [h.ln, hG, List.length_map]
  refine ⟨by show (cs.P.map Pl.t).length = l.length; rw [List.length_map, hln], hg.g16, fun x hx => ?_, fun x hx => ?_, fun j x t hx ht => ?_, ?_, Nat.zero_le _, by show rightC 0 0 0 = true; decide +kernel⟩
  · have := hg.gl x hx
    omega
  · have := hg.gb x hx
    exact ⟨this.1, this.2.2.1, this.2.2.2⟩
  · have hx : l[j]? = some x := hx
    have ht : (cs.P.map Pl.t)[j]? = some t := ht
    rw [List.getElem?_map] at ht
    cases hp : cs.P[j]? with
    | none => rw [hp] at ht; cases ht
    | some p =>
      rw [hp] at ht
      obtain rfl := Option.some.inj ht
      have := h.tb j (gkOf x) p (by rw [hG, List.getElem?_map, hx]; rfl) hp
      exact ⟨this.1, this.2.1⟩
  · have := h.lb
    show cs.L.length ≤ 200000
    omega
section
variable {l : List Gp} {cs : CS} {m : Nat} {s1 : St} {what nm : ByteArray} {n : Int}
theorem PAl.g1 (hA : PAl (stOf l cs) s1) (hG : cs.G = l.map gkOf) : s1.G = cs.G := by rw [hA.gk, hG]; rfl
theorem at_state (hA : PAl (stOf l cs) s1) (hG : cs.G = l.map gkOf) {j : Nat} {g : Gp} {t : Int} (hg : s1.C[j]? = some g) (ht : s1.T[j]? = some t) :
    ∃ p, cs.G[j]? = some (gkOf g) ∧ cs.P[j]? = some p ∧ p.t = t := by
  have h1 : s1.G[j]? = some (gkOf g) := by
    unfold St.G
    rw [List.getElem?_map, hg]
    rfl
  rw [hA.g1 hG] at h1
  have h2 : (cs.P.map Pl.t)[j]? = some t := by
    have := hA.t
    rw [this] at ht
    exact ht
  rw [List.getElem?_map] at h2
  cases hp : cs.P[j]? with
  | none => rw [hp] at h2; cases h2
  | some p =>
    rw [hp] at h2
    exact ⟨p, h1, rfl, Option.some.inj h2⟩
theorem taken_more (hO : cs.Ok m) (hb : cs.NoBr) (hA : PAl (stOf l cs) s1) (hG : cs.G = l.map gkOf) {j : Nat} {g : Gp} {t : Int} (Y : YesG s1 what nm n j g t) (hf : what ≠ sFix) :
    (cs.inc nm n).2 = 0 ∧ (cs.inc nm n).1.P.map Pl.t = (aft s1 what nm n).T := by
  obtain ⟨p, hg, hp, ht⟩ := at_state hA hG Y.hg Y.ht
  have hj : fndK cs.G nm = some j := by rw [← hA.g1 hG]; exact Y.hj
  have hm := (Y.mr hf).2.2
  have hn := Y.hn
  have hbr := hb p (List.mem_of_getElem? hp)
  have hT : s1.T = cs.P.map Pl.t := hA.t
  have hx : g.mx - p.t < n ↔ False := by constructor; (intro h; omega); (intro h; cases h)
  unfold CS.inc
  rw [hj]
  dsimp only
  rw [hg, hp]
  dsimp only
  rw [if_neg (by omega), if_neg (by show ¬ (gkOf g).mx - p.t < n; unfold gkOf; dsimp only; omega), if_neg (by rw [hbr]; decide)]
  refine ⟨rfl, ?_⟩
  rw [Y.aft, if_neg hf]
  show (cs.P.set j ⟨p.t + n.toNat, p.la + n.toNat, p.br⟩).map Pl.t = s1.T.set j (t + n)
  rw [hT, List.map_set, ← ht]
  congr 1
  show p.t + (n.toNat : Int) = p.t + n
  omega
theorem taken_fix (hO : cs.Ok m) (hA : PAl (stOf l cs) s1) (hG : cs.G = l.map gkOf) {j : Nat} {g : Gp} {t : Int} (Y : YesG s1 what nm n j g t) (hf : what = sFix) :
    (cs.dec nm n).2 = 0 ∧ (cs.dec nm n).1.P.map Pl.t = (aft s1 what nm n).T := by
  obtain ⟨p, hg, hp, ht⟩ := at_state hA hG Y.hg Y.ht
  have hj : fndK cs.G nm = some j := by rw [← hA.g1 hG]; exact Y.hj
  obtain ⟨hm, hs⟩ := Y.fx hf
  have hn := Y.hn
  have hT : s1.T = cs.P.map Pl.t := hA.t
  have hL : s1.L = cs.L := hA.l
  rw [hL] at hs
  unfold CS.dec
  rw [hj]
  dsimp only
  rw [hg, hp]
  dsimp only
  rw [if_neg (by omega), if_neg (by show ¬ (p.t - n < (gkOf g).mn ∨ p.t - n < (sizeI cs.L nm : Int)); unfold gkOf; dsimp only; omega)]
  refine ⟨rfl, ?_⟩
  rw [Y.aft, if_pos hf]
  show (cs.P.set j ⟨p.t - n, p.la, p.br⟩).map Pl.t = s1.T.set j (t + -n)
  rw [hT, List.map_set, ← ht]
  rfl
theorem taken_del (hO : cs.Ok m) (hA : PAl (stOf l cs) s1) (hG : cs.G = l.map gkOf) {k : Nat} {x : Ins} {j : Nat} {g : Gp} {t : Int} (Y : YesI s1 what nm k x j g t) (hno : ¬ (x.st = 2 ∧ t ≤ g.mn)) :
    (cs.del nm).2 = 0 ∧ (cs.del nm).1.P.map Pl.t = (aft s1 what nm n).T := by
  obtain ⟨p, hg, hp, ht⟩ := at_state hA hG Y.hg Y.ht
  have hL : s1.L = cs.L := hA.l
  have hk : fndI cs.L nm = some k := by rw [← hL]; exact Y.hk
  have hx : cs.L[k]? = some x := by rw [← hL]; exact Y.hx
  have hj : fndK cs.G x.gp = some j := by rw [← hA.g1 hG]; exact Y.hj
  have hT : s1.T = cs.P.map Pl.t := hA.t
  have htb := (hO.tb j (gkOf g) p hg hp).1
  unfold CS.del
  rw [hk]
  dsimp only
  rw [hx]
  dsimp only
  rw [hj]
  dsimp only
  rw [hg, hp]
  dsimp only
  rw [if_neg Y.n3, if_neg (by show ¬ (x.st = 2 ∧ p.t ≤ (gkOf g).mn); unfold gkOf; dsimp only; rw [ht]; exact hno)]
  refine ⟨rfl, ?_⟩
  rw [Y.aft n]
  show (cs.P.set j ⟨max g.mn (p.t - 1), p.la, p.br⟩).map Pl.t = if g.mn < t then s1.T.set j (t + -1) else s1.T
  have htb : g.mn ≤ p.t := htb
  rw [List.map_set, hT]
  by_cases h : g.mn < t
  · rw [if_pos h]
    congr 1
    show max g.mn (p.t - 1) = t + -1
    omega
  · rw [if_neg h]
    refine (List.ext_getElem? fun i => ?_)
    by_cases e : j = i
    · subst e
      rw [List.getElem?_set_self (by rw [List.length_map]; exact lt_at hp), List.getElem?_map, hp]
      show some (max g.mn (p.t - 1)) = some p.t
      congr 1
      omega
    · rw [List.getElem?_set_ne e]
end
theorem Prov.apart {w0 w w' : World} {b m : Nat} {s : CS} {F S : List Nat} (h : Prov w0 b s m F w) (ho : Only S w w') (hS : ∀ z ∈ S, w0.heap.size ≤ z ∧ (TyAt w z 3 ∨ TyAt w z 52)) : Prov w0 b s m F w' := by
  obtain ⟨⟨G, gv, pv, lv, h1, h2, h3⟩, h4, h5⟩ := h
  have D : ∀ {q : Nat} {u : TypeId}, TyAt w q u → u ≠ 3 → u ≠ 52 → q ∉ S := fun hq e1 e2 hm => by
    rcases (hS _ hm).2 with ht | ht
    · exact hq.ne ht e1 rfl
    · exact hq.ne ht e2 rfl
  refine ⟨⟨G, gv, pv, lv, h1.only ho (D (blk_ty h1.row) (by decide) (by decide)) (fun g e => D (own_ty h1.go e) (by decide) (by decide)) (fun g e => D (own_ty h1.po e) (by decide) (by decide)) (fun g e => D (own_ty h1.lo e) (by decide) (by decide)) (fun x hx g e => ?_), h2, fun z hz => ⟨Nat.lt_of_lt_of_le (h3 z hz).1 ho.size, (h3 z hz).2⟩⟩, ho.below h4 h4.size fun k hk => (hS k hk).1, h5⟩
  rcases e with e | e
  · exact D (own_ty (h1.ms x hx).l e) (by decide) (by decide)
  · exact D (own_ty (h1.ms x hx).t e) (by decide) (by decide)
end Go.Proofs.YtmkdfcggjlhcpaaGreatDoor
