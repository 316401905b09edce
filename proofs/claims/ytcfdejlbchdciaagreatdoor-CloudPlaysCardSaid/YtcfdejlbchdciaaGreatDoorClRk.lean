/-
  The document's provider: Tick.
-/
import Derived.Test.YtcfdejlbchdciaaGreatDoorClRm
namespace Go.Proofs.YtcfdejlbchdciaaGreatDoor
open Go.RowKit
set_option linter.unusedVariables false
set_option linter.unusedSimpArgs false

set_option maxRecDepth 100000 in
set_option maxHeartbeats 8000000 in
theorem rtick_any (w0 : World) (b : Nat) (ga : Option Addr) (gka : Nat) (G : List Gp) (s : CS) (tv lav bv lv : Value) (w : World) (h : RT w0 w b ga gka G s tv lav bv lv) (m : Nat) (hO : s.Ok m) (hm : m ≤ 100) :
    Calls Tryz.prog 32 #[.pointer (some ⟨b, 0, none⟩)] w fun e w' => e = .returned (.tuple #[]) ∧ ∃ lv', RT w0 w' b ga gka G s.tick tv lav bv lv' ∧ Only (rblocks b tv lav bv lv) w w' ∧ NewB w.heap.size lv lv' := by
  have hL9 : s.L.length ≤ 1000000 := by have := hO.lb; omega
  obtain ⟨n0, n1, _, _⟩ := hO.nb
  have c6 := h.row.cell 6
  have f6 := h.row.frozen 6
  dsimp only [List.getElem?_cons_zero, List.getElem?_cons_succ] at c6
  have hbl := h.row.lt
  have hbm : b ∈ rblocks b tv lav bv lv := by unfold rblocks; simp
  obtain ⟨SB, hSBe⟩ : ∃ SB, SB = rblocks b tv lav bv lv := ⟨_, rfl⟩
  rw [← hSBe] at hbm ⊢
  have Hh := Lib.hid h
  have HO := Lib.hid hO
  obtain ⟨n, hn⟩ : ∃ n, s.L.length = n := ⟨_, rfl⟩
  have Hn := Lib.hid hn
  rw [hn] at hL9
  have hw1 : IntKind.i64.wrap (s.nw + 1) = s.nw + 1 := cwrap_in (by omega) (by omega)
  clear h hO hn hSBe
  go_enter Tryz.func32, Tryz.ntmps32
  go_wp2
  obtain ⟨W, hW⟩ : ∃ W, W = w.setCell ⟨b, 6, none⟩ (.int .i64 (s.nw + 1)) := ⟨_, rfl⟩
  rw [← hW]
  have HCW := Lib.hid (show RT w0 W b ga gka G { s with nw := s.nw + 1 } tv lav bv lv from by rw [hW]; exact Hh.out.rset (s' := { s with nw := s.nw + 1 }) 6 _ rfl rfl rfl rfl)
  have HOW := Lib.hid (show Only SB w W from by rw [hW]; exact (Only.refl SB w).setCell (p := ⟨b, 6, none⟩) (.inl hbm) _)
  have hWz : W.heap.size = w.heap.size := by rw [hW]; exact World.size_setCell _ _ _
  obtain ⟨f, hf⟩ : ∃ f : Ins → Option Ins, f = fun x => tickI (brOf s x.gp) x := ⟨_, rfl⟩
  have Hf := Lib.hid hf
  obtain ⟨i0, hi, hz0, hz1, hz2⟩ := info_parts Tryz.info41
  have Hi := Lib.hid hi
  have Hz0 := Lib.hid hz0
  have Hz1 := Lib.hid hz1
  have Hz2 := Lib.hid hz2
  clear hi hz0 hz1 hz2
  clear hW hf c6 f6
  go_loopw [2, 3, 4] (fun v i _ wr => ∃ k : Nat, k ≤ n ∧ i = .int .i64 k ∧ wr.ownsRow W.heap.size 41 5 v ((s.L.take k).filterMap f).length (((s.L.take k).filterMap f).flatMap irow) ∧ Below W.heap.size W wr) (fun _ i _ _ => n - (intOf i).toNat)
  case atStart => exact ⟨0, Nat.zero_le _, rfl, World.ownsRow_nil _ _ _ _, Below.refl _ _⟩
  case round =>
    obtain ⟨k, hk, rfl, hown, hB⟩ := hrel
    have Hown := Lib.hid hown
    have HB := Lib.hid hB
    have hbz := hB.size
    have HCr := Lib.hid (HCW.out.below hB)
    have c4 := HCr.out.row.cell 4
    have hblr := HCr.out.row.lt
    dsimp only [List.getElem?_cons_zero, List.getElem?_cons_succ] at c4
    clear hown
    by_cases hlt : k < n
    · obtain ⟨x, hx⟩ := mem_at (l := s.L) (k := k) (by rw [Hn.out]; exact hlt)
      have Hx := Lib.hid hx
      obtain ⟨⟨j, hj⟩, l0, l1, l2, _, _, _, _, _, _⟩ := HO.out.ib x (List.mem_of_getElem? hx)
      obtain ⟨g, hg, _⟩ := fndK_lt hj
      obtain ⟨p, qt, kt, ql, kl, qb, kb, gb, go, hp, htv, hlv, hbv, hga, _, _, d2, _, _, _, _, _, lb, lg⟩ := HCr.out.at HO.out.ln hg
      have hbr : brOf s x.gp = p.br := by
        unfold brOf
        rw [hj]
        dsimp only
        rw [hp]
      have hA : findA G x.gp 0 = (j : Int) := findA_some (by rw [HCr.out.gk]; exact hj)
      obtain ⟨ia, ik, hiv, hI⟩ := HCr.out.iAt
      obtain ⟨qi, hia, hqi, hic⟩ := hI (by show 0 < s.L.length; rw [Hn.out]; omega)
      have v0 : wr.cell? ⟨qi, k * 5, none⟩ = some (.string x.nm) := hic k x hx 0 (by decide)
      have v1 : wr.cell? ⟨qi, k * 5 + 1, none⟩ = some (.string x.gp) := hic k x hx 1 (by decide)
      have v2 : wr.cell? ⟨qi, k * 5 + 2, none⟩ = some (.int .i64 x.st) := hic k x hx 2 (by decide)
      have v3 : wr.cell? ⟨qi, k * 5 + 3, none⟩ = some (.int .i64 x.lf) := hic k x hx 3 (by decide)
      have v4 : wr.cell? ⟨qi, k * 5 + 4, none⟩ = some (.int .i64 x.si) := hic k x hx 4 (by decide)
      have hLn : ({ s with nw := s.nw + 1 } : CS).L.length = n := Hn.out
      rw [hiv, hia, hLn] at c4
      have c0 := HCr.out.row.cell 0
      have c3 := HCr.out.row.cell 3
      dsimp only [List.getElem?_cons_zero, List.getElem?_cons_succ] at c0 c3
      obtain ⟨N, hN⟩ : ∃ N, ({ s with nw := s.nw + 1 } : CS).P.length = N := ⟨_, rfl⟩
      obtain ⟨gn, hgn⟩ : ∃ gn, G.length = gn := ⟨_, rfl⟩
      have hjN : j < N := by rw [← hN]; exact lt_at hp
      have hgn16 : gn ≤ 16 := by
        have h1 := HO.out.g16
        have h2 : G.length = s.G.length := by rw [← HCr.out.gk, List.length_map]
        omega
      rw [hbv, hN] at c3
      rw [hga, hgn] at c0
      have HFn := Lib.hid (fun V (hb : Below wr.heap.size wr V) => reffind_any ga G gka x.gp V (HCr.out.groups.mono hb) (by rw [hgn]; unfold maxLen; omega))
      rw [hA, hgn, hga] at HFn
      have hji : (j : Int) < (N : Int) := by omega
      have hj0 : (0 : Int) ≤ (j : Int) := by omega
      have hki : (k : Int) < (n : Int) := by omega
      have hk0 : (0 : Int) ≤ (k : Int) := by omega
      have hwl : IntKind.i64.wrap (x.lf - 1) = x.lf - 1 := cwrap_in (by omega) (by omega)
      have hNx := Lib.hid (fmap_next (f := f) hx)
      have HOw := Lib.hid (fun (V : World) (hb : Below wr.heap.size wr V) => own_kept Hown.out hb)
      have hfl := fmap_len s.L f k
      obtain ⟨q, hq⟩ : ∃ q, ((s.L.take k).filterMap f).length = q := ⟨_, rfl⟩
      rw [hq] at hfl
      have Hq := Lib.hid hq
      have HFx := Lib.hid (show f x = tickI p.br x from by rw [Hf.out]; dsimp only; rw [hbr])
      clear hx hg hp hj hA hI hic hia hiv hbr hN hgn htv hlv hbv hga hB hLn hq
      by_cases e3 : x.st = 3
      · have k3 : (x.st == 3) = true := by rw [e3]; rfl
        have HS := Lib.hid (show (s.L.take (k + 1)).filterMap f = (s.L.take k).filterMap f from by rw [hNx.out, HFx.out]; unfold tickI; rw [if_pos e3]; simp)
        clear e3
        go_wp2
        go_roundw
        case rel => exact ⟨k + 1, by omega, by go_num, by rw [HS.out]; exact HOw.out _ (by (repeat' (first | with_reducible exact Below.refl _ _ | with_reducible assumption | with_reducible refine Below.drew ?_ | with_reducible refine below_drewN' ?_ _ | with_reducible refine Below.alloc ?_ ?_ _ | with_reducible refine Below.setCell ?_ ?_ _ | with_reducible refine below_step (by assumption) ?_ ?_ | omega | (simp; done) | (simp; omega)))), HB.out.trans ((show Below wr.heap.size wr _ by (repeat' (first | with_reducible exact Below.refl _ _ | with_reducible assumption | with_reducible refine Below.drew ?_ | with_reducible refine below_drewN' ?_ _ | with_reducible refine Below.alloc ?_ ?_ _ | with_reducible refine Below.setCell ?_ ?_ _ | with_reducible refine below_step (by assumption) ?_ ?_ | omega | (simp; done) | (simp; omega)))).mono hbz)⟩
        case measure => simp [intOf]; omega
      · have k3 : (x.st == 3) = false := by simpa using e3
        by_cases e1 : x.st = 1
        · rw [e1] at v2
          by_cases el : x.lf - 1 = 0
          · have el1 : x.lf = 1 := by omega
            have HE := Lib.hid (show ∀ br, tickI br x = some { x with st := (if br then 4 else 2), lf := 0 } from fun br => by unfold tickI; rw [if_neg e3, if_pos e1, if_pos el])
            rw [el1] at v3
            clear e3 e1 el el1 k3 hwl
            go_wp2
            obtain ⟨W1, hW1⟩ : ∃ W1, W1 = wr.alloc (.cells #[.string x.nm, .string x.gp, .int .i64 2, .int .i64 0, .int .i64 x.si] 41) := ⟨_, rfl⟩
            obtain ⟨X, hX⟩ : ∃ X, X = wr.heap.size := ⟨_, rfl⟩
            rw [← hW1, ← hX]
            have HB1 := Lib.hid (show Below wr.heap.size wr W1 from by rw [hW1]; exact (Below.refl _ _).alloc (Nat.le_refl _) _)
            have HX1 := Lib.hid (show Blk W1 X 41 (irow { x with st := 2, lf := 0 }) from by rw [hW1, hX]; exact Blk.new wr 41 (irow { x with st := 2, lf := 0 }))
            have HXz := Lib.hid (show wr.heap.size ≤ X by omega)
            have y0 : W1.cell? ⟨b, 0, none⟩ = _ := (HB1.out.cell (p := ⟨b, 0, none⟩) hblr).trans c0
            have y3 : W1.cell? ⟨b, 3, none⟩ = _ := (HB1.out.cell (p := ⟨b, 3, none⟩) hblr).trans c3
            have yb : W1.cell? ⟨qb, j, none⟩ = _ := (HB1.out.cell (p := ⟨qb, j, none⟩) lb).trans d2
            have z1 : W1.cell? ⟨X, 1, none⟩ = some (.string x.gp) := HX1.out.cell 1
            have hXl := HX1.out.lt
            have hb1 : b < W1.heap.size := Nat.lt_of_lt_of_le hblr HB1.out.size
            have hq1 : qb < W1.heap.size := Nat.lt_of_lt_of_le lb HB1.out.size
            clear hW1 hX v0 v1 v2 v3 v4 c0 c3 c4 d2
            have hcH := held_cell
            refine region_rel (by kernel_rfl) (by kernel_rfl) ?_
            repeat
              ((with_reducible refine relStep (fun K hK => ?_))
               (have HK := Lib.hid hK)
               clear hK
               (apply relInl
                · intro r n hf
                  have Hf := Lib.hid hf
                  clear hf
                  (first
                    | (fail)
                    | (unfold relAt
                       go_simp
                       (first | (refine relUpon_val ?_ (Below.refl _ _); exact rfl) | exact rfl | (refine relUpon_enter ?_; (go_at_call 50; (with_reducible refine (HFn.out _ (HB1.out.trans (Below.mono n.below HB1.out.size))).mono ?_); rintro e w9 ⟨rfl, hb⟩; exact ⟨⟨_, rfl, rfl⟩, hb⟩)))))
                (simp only [Act.put, List.setIfInBounds_toArray, List.set_cons_zero, List.set_cons_succ])
                (with_reducible refine HK.out _ _ ?_)
                clear HK K))
            refine relNil ?_
            intro r6 n6 hx6
            clear hcH
            (try simp only [List.nil_append, List.cons_append, List.mem_cons, List.not_mem_nil, or_false, forall_eq_or_imp, forall_eq, false_implies, implies_true] at hx6)
            obtain ⟨w6, hb6⟩ := n6
            (try dsimp only)
            obtain ⟨hc6, hf6⟩ := bcell hb6
            have hz6 := hb6.size
            (try simp at hz6)
            have HB6 := Lib.hid (HB1.out.trans (hb6.mono HB1.out.size))
            have HX6 := Lib.hid (HX1.out.below hb6)
            have x0 : w6.cell? ⟨X, 0, none⟩ = some (.string x.nm) := HX6.out.cell 0
            have x1 : w6.cell? ⟨X, 1, none⟩ = some (.string x.gp) := HX6.out.cell 1
            have x2 : w6.cell? ⟨X, 2, none⟩ = some (.int .i64 2) := HX6.out.cell 2
            have x3 : w6.cell? ⟨X, 3, none⟩ = some (.int .i64 0) := HX6.out.cell 3
            have x4 : w6.cell? ⟨X, 4, none⟩ = some (.int .i64 x.si) := HX6.out.cell 4
            have xf := HX6.out.frozen 2
            have hX6l := HX6.out.lt
            clear y0 y3 yb z1 hXl hb1 hq1 hc6 hf6 hz6 hb6
            cases hbp : p.br
            · have Hbp := Lib.hid hbp
              obtain ⟨WY, hWY⟩ : ∃ WY, w6 = WY := ⟨_, rfl⟩
              have hWYb : Below wr.heap.size wr WY := by
                rw [← hWY]
                exact HB6.out
              have hWYz : WY.heap.size = w6.heap.size := by subst hWY; simp [World.size_setCell]
              have HO9 := Lib.hid (HOw.out WY hWYb)
              rw [Hq.out] at HO9
              have HBx := Lib.hid (HB.out.trans (hWYb.mono hbz))
              have Hbx := Lib.hid (Nat.le_trans hbz hWYb.size)
              have Hnew := Lib.hid (show ∀ (j : Nat) (u : Value), ([.string x.nm, .string x.gp, .int .i64 2, .int .i64 0, .int .i64 x.si] : List Value)[j]? = some u → (WY.alloc (.cells #[.string x.nm, .string x.gp, .int .i64 2, .int .i64 0, .int .i64 x.si] 41)).cell? ((⟨w6.heap.size, 0, none⟩ : Addr).add j) = some u from by
                rw [← hWYz]
                exact news_at WY [.string x.nm, .string x.gp, .int .i64 2, .int .i64 0, .int .i64 x.si] _)
              have HSn := Lib.hid (show (s.L.take (k + 1)).filterMap f = (s.L.take k).filterMap f ++ [(⟨x.nm, x.gp, 2, 0, x.si⟩ : Ins)] from by
                rw [hNx.out, HFx.out]
                rw [show tickI p.br x = some (⟨x.nm, x.gp, 2, 0, x.si⟩ : Ins) from ((HE.out p.br).trans (by rw [Hbp.out]; rfl))]
                rfl)
              have hc3 : q + 1 ≤ maxLen := by unfold maxLen; omega
              have hc4 : (q + 1) * 56 ≤ 140737488355328 := by omega
              have Hrow := Lib.hid (show ((s.L.take k).filterMap f).flatMap irow ++ [.string x.nm, .string x.gp, .int .i64 2, .int .i64 0, .int .i64 x.si] = ((s.L.take (k + 1)).filterMap f).flatMap irow from by rw [HSn.out, List.flatMap_append]; rfl)
              have Hlen := Lib.hid (show q + 1 = ((s.L.take (k + 1)).filterMap f).length from by rw [HSn.out, List.length_append, Hq.out]; rfl)
              subst hWY
              clear hWYb hWYz
              go_wp2_with (at_builtin; refine wpList_append_own _ rfl (.tmp 56) (.tmp 58) 38 rfl W.heap.size 41 i0 _ 5 56 Tryz.underlying38 Hi.out Hz0.out Hz1.out Hz2.out rfl (by decide) _ q _ rfl (HO9.out.alloc _) ⟨w6.heap.size, 0, none⟩ 1 1 [.string x.nm, .string x.gp, .int .i64 2, .int .i64 0, .int .i64 x.si] rfl rfl Hnew.out (irow_one (⟨x.nm, x.gp, 2, 0, x.si⟩ : Ins)) hc3 hc4 (le_alloc Hbx.out _) ?_; intro v1 w1 hown1 hgrow1 _; have hB1 := own_below (HO9.out.alloc _) (HBx.out.alloc Hbx.out _) (le_alloc Hbx.out _) hgrow1; have HO1 := Lib.hid (show w1.ownsRow W.heap.size 41 5 v1 ((s.L.take (k + 1)).filterMap f).length (((s.L.take (k + 1)).filterMap f).flatMap irow) from (by have h9 := hown1; rw [Hrow.out, Hlen.out] at h9; exact h9)); have HB1 := Lib.hid hB1; clear hown1 hgrow1 hB1)
              go_roundw
              case rel => exact ⟨k + 1, by omega, by go_num, HO1.out, HB1.out⟩
              case measure => simp [intOf]; omega
            · have Hbp := Lib.hid hbp
              obtain ⟨WY, hWY⟩ : ∃ WY, w6.setCell ⟨X, 2, none⟩ (.int .i64 4) = WY := ⟨_, rfl⟩
              have hWYb : Below wr.heap.size wr WY := by
                rw [← hWY]
                exact HB6.out.setCell (p := ⟨X, 2, none⟩) HXz.out _
              have hWYz : WY.heap.size = w6.heap.size := by subst hWY; simp [World.size_setCell]
              have HO9 := Lib.hid (HOw.out WY hWYb)
              rw [Hq.out] at HO9
              have HBx := Lib.hid (HB.out.trans (hWYb.mono hbz))
              have Hbx := Lib.hid (Nat.le_trans hbz hWYb.size)
              have Hnew := Lib.hid (show ∀ (j : Nat) (u : Value), ([.string x.nm, .string x.gp, .int .i64 4, .int .i64 0, .int .i64 x.si] : List Value)[j]? = some u → (WY.alloc (.cells #[.string x.nm, .string x.gp, .int .i64 4, .int .i64 0, .int .i64 x.si] 41)).cell? ((⟨w6.heap.size, 0, none⟩ : Addr).add j) = some u from by
                rw [← hWYz]
                exact news_at WY [.string x.nm, .string x.gp, .int .i64 4, .int .i64 0, .int .i64 x.si] _)
              have HSn := Lib.hid (show (s.L.take (k + 1)).filterMap f = (s.L.take k).filterMap f ++ [(⟨x.nm, x.gp, 4, 0, x.si⟩ : Ins)] from by
                rw [hNx.out, HFx.out]
                rw [show tickI p.br x = some (⟨x.nm, x.gp, 4, 0, x.si⟩ : Ins) from ((HE.out p.br).trans (by rw [Hbp.out]; rfl))]
                rfl)
              have hc3 : q + 1 ≤ maxLen := by unfold maxLen; omega
              have hc4 : (q + 1) * 56 ≤ 140737488355328 := by omega
              have Hrow := Lib.hid (show ((s.L.take k).filterMap f).flatMap irow ++ [.string x.nm, .string x.gp, .int .i64 4, .int .i64 0, .int .i64 x.si] = ((s.L.take (k + 1)).filterMap f).flatMap irow from by rw [HSn.out, List.flatMap_append]; rfl)
              have Hlen := Lib.hid (show q + 1 = ((s.L.take (k + 1)).filterMap f).length from by rw [HSn.out, List.length_append, Hq.out]; rfl)
              subst hWY
              clear hWYb hWYz
              go_wp2_with (at_builtin; refine wpList_append_own _ rfl (.tmp 56) (.tmp 58) 38 rfl W.heap.size 41 i0 _ 5 56 Tryz.underlying38 Hi.out Hz0.out Hz1.out Hz2.out rfl (by decide) _ q _ rfl (HO9.out.alloc _) ⟨w6.heap.size, 0, none⟩ 1 1 [.string x.nm, .string x.gp, .int .i64 4, .int .i64 0, .int .i64 x.si] rfl rfl Hnew.out (irow_one (⟨x.nm, x.gp, 4, 0, x.si⟩ : Ins)) hc3 hc4 (le_alloc Hbx.out _) ?_; intro v1 w1 hown1 hgrow1 _; have hB1 := own_below (HO9.out.alloc _) (HBx.out.alloc Hbx.out _) (le_alloc Hbx.out _) hgrow1; have HO1 := Lib.hid (show w1.ownsRow W.heap.size 41 5 v1 ((s.L.take (k + 1)).filterMap f).length (((s.L.take (k + 1)).filterMap f).flatMap irow) from (by have h9 := hown1; rw [Hrow.out, Hlen.out] at h9; exact h9)); have HB1 := Lib.hid hB1; clear hown1 hgrow1 hB1)
              go_roundw
              case rel => exact ⟨k + 1, by omega, by go_num, HO1.out, HB1.out⟩
              case measure => simp [intOf]; omega
          · have kl : (x.lf - 1 == 0) = false := by simpa using el
            have HE := Lib.hid (show tickI p.br x = some { x with lf := x.lf - 1 } from by unfold tickI; rw [if_neg e3, if_pos e1, if_neg el])
            have He1 := Lib.hid e1
            clear e3 e1 el
            obtain ⟨WY, hWY⟩ : ∃ WY, wr.alloc (.cells #[.string x.nm, .string x.gp, .int .i64 1, .int .i64 (x.lf - 1), .int .i64 x.si] 41) = WY := ⟨_, rfl⟩
            have hWYb : Below wr.heap.size wr WY := by
              rw [← hWY]
              exact (Below.refl _ _).alloc (Nat.le_refl _) _
            have hWYz : WY.heap.size = wr.heap.size + 1 := by subst hWY; simp [World.size_setCell]
            have HO9 := Lib.hid (HOw.out WY hWYb)
            rw [Hq.out] at HO9
            have HBx := Lib.hid (HB.out.trans (hWYb.mono hbz))
            have Hbx := Lib.hid (Nat.le_trans hbz hWYb.size)
            have Hnew := Lib.hid (show ∀ (j : Nat) (u : Value), ([.string x.nm, .string x.gp, .int .i64 1, .int .i64 (x.lf - 1), .int .i64 x.si] : List Value)[j]? = some u → (WY.alloc (.cells #[.string x.nm, .string x.gp, .int .i64 1, .int .i64 (x.lf - 1), .int .i64 x.si] 41)).cell? ((⟨wr.heap.size + 1, 0, none⟩ : Addr).add j) = some u from by
              rw [← hWYz]
              exact news_at WY [.string x.nm, .string x.gp, .int .i64 1, .int .i64 (x.lf - 1), .int .i64 x.si] _)
            have HSn := Lib.hid (show (s.L.take (k + 1)).filterMap f = (s.L.take k).filterMap f ++ [(⟨x.nm, x.gp, 1, x.lf - 1, x.si⟩ : Ins)] from by
              rw [hNx.out, HFx.out]
              rw [show tickI p.br x = some (⟨x.nm, x.gp, 1, x.lf - 1, x.si⟩ : Ins) from (by rw [HE.out, He1.out])]
              rfl)
            have hc3 : q + 1 ≤ maxLen := by unfold maxLen; omega
            have hc4 : (q + 1) * 56 ≤ 140737488355328 := by omega
            have Hrow := Lib.hid (show ((s.L.take k).filterMap f).flatMap irow ++ [.string x.nm, .string x.gp, .int .i64 1, .int .i64 (x.lf - 1), .int .i64 x.si] = ((s.L.take (k + 1)).filterMap f).flatMap irow from by rw [HSn.out, List.flatMap_append]; rfl)
            have Hlen := Lib.hid (show q + 1 = ((s.L.take (k + 1)).filterMap f).length from by rw [HSn.out, List.length_append, Hq.out]; rfl)
            subst hWY
            clear hWYb hWYz
            go_wp2_with (at_builtin; refine wpList_append_own _ rfl (.tmp 56) (.tmp 58) 38 rfl W.heap.size 41 i0 _ 5 56 Tryz.underlying38 Hi.out Hz0.out Hz1.out Hz2.out rfl (by decide) _ q _ rfl (HO9.out.alloc _) ⟨wr.heap.size + 1, 0, none⟩ 1 1 [.string x.nm, .string x.gp, .int .i64 1, .int .i64 (x.lf - 1), .int .i64 x.si] rfl rfl Hnew.out (irow_one (⟨x.nm, x.gp, 1, x.lf - 1, x.si⟩ : Ins)) hc3 hc4 (le_alloc Hbx.out _) ?_; intro v1 w1 hown1 hgrow1 _; have hB1 := own_below (HO9.out.alloc _) (HBx.out.alloc Hbx.out _) (le_alloc Hbx.out _) hgrow1; have HO1 := Lib.hid (show w1.ownsRow W.heap.size 41 5 v1 ((s.L.take (k + 1)).filterMap f).length (((s.L.take (k + 1)).filterMap f).flatMap irow) from (by have h9 := hown1; rw [Hrow.out, Hlen.out] at h9; exact h9)); have HB1 := Lib.hid hB1; clear hown1 hgrow1 hB1)
            go_roundw
            case rel => exact ⟨k + 1, by omega, by go_num, HO1.out, HB1.out⟩
            case measure => simp [intOf]; omega
        · have k1 : (x.st == 1) = false := by simpa using e1
          have HE := Lib.hid (show tickI p.br x = some x from by unfold tickI; rw [if_neg e3, if_neg e1])
          clear e3 e1
          obtain ⟨WY, hWY⟩ : ∃ WY, wr.alloc (.cells #[.string x.nm, .string x.gp, .int .i64 x.st, .int .i64 x.lf, .int .i64 x.si] 41) = WY := ⟨_, rfl⟩
          have hWYb : Below wr.heap.size wr WY := by
            rw [← hWY]
            exact (Below.refl _ _).alloc (Nat.le_refl _) _
          have hWYz : WY.heap.size = wr.heap.size + 1 := by subst hWY; simp [World.size_setCell]
          have HO9 := Lib.hid (HOw.out WY hWYb)
          rw [Hq.out] at HO9
          have HBx := Lib.hid (HB.out.trans (hWYb.mono hbz))
          have Hbx := Lib.hid (Nat.le_trans hbz hWYb.size)
          have Hnew := Lib.hid (show ∀ (j : Nat) (u : Value), ([.string x.nm, .string x.gp, .int .i64 x.st, .int .i64 x.lf, .int .i64 x.si] : List Value)[j]? = some u → (WY.alloc (.cells #[.string x.nm, .string x.gp, .int .i64 x.st, .int .i64 x.lf, .int .i64 x.si] 41)).cell? ((⟨wr.heap.size + 1, 0, none⟩ : Addr).add j) = some u from by
            rw [← hWYz]
            exact news_at WY [.string x.nm, .string x.gp, .int .i64 x.st, .int .i64 x.lf, .int .i64 x.si] _)
          have HSn := Lib.hid (show (s.L.take (k + 1)).filterMap f = (s.L.take k).filterMap f ++ [x] from by
            rw [hNx.out, HFx.out]
            rw [show tickI p.br x = some x from HE.out]
            rfl)
          have hc3 : q + 1 ≤ maxLen := by unfold maxLen; omega
          have hc4 : (q + 1) * 56 ≤ 140737488355328 := by omega
          have Hrow := Lib.hid (show ((s.L.take k).filterMap f).flatMap irow ++ [.string x.nm, .string x.gp, .int .i64 x.st, .int .i64 x.lf, .int .i64 x.si] = ((s.L.take (k + 1)).filterMap f).flatMap irow from by rw [HSn.out, List.flatMap_append]; rfl)
          have Hlen := Lib.hid (show q + 1 = ((s.L.take (k + 1)).filterMap f).length from by rw [HSn.out, List.length_append, Hq.out]; rfl)
          subst hWY
          clear hWYb hWYz
          go_wp2_with (at_builtin; refine wpList_append_own _ rfl (.tmp 56) (.tmp 58) 38 rfl W.heap.size 41 i0 _ 5 56 Tryz.underlying38 Hi.out Hz0.out Hz1.out Hz2.out rfl (by decide) _ q _ rfl (HO9.out.alloc _) ⟨wr.heap.size + 1, 0, none⟩ 1 1 [.string x.nm, .string x.gp, .int .i64 x.st, .int .i64 x.lf, .int .i64 x.si] rfl rfl Hnew.out (irow_one x) hc3 hc4 (le_alloc Hbx.out _) ?_; intro v1 w1 hown1 hgrow1 _; have hB1 := own_below (HO9.out.alloc _) (HBx.out.alloc Hbx.out _) (le_alloc Hbx.out _) hgrow1; have HO1 := Lib.hid (show w1.ownsRow W.heap.size 41 5 v1 ((s.L.take (k + 1)).filterMap f).length (((s.L.take (k + 1)).filterMap f).flatMap irow) from (by have h9 := hown1; rw [Hrow.out, Hlen.out] at h9; exact h9)); have HB1 := Lib.hid hB1; clear hown1 hgrow1 hB1)
          go_roundw
          case rel => exact ⟨k + 1, by omega, by go_num, HO1.out, HB1.out⟩
          case measure => simp [intOf]; omega
    · obtain rfl : k = n := by omega
      have hall : (s.L.take k).filterMap f = s.L.filterMap f := by rw [List.take_of_length_le (Nat.le_of_eq Hn.out)]
      have hown := Hown.out
      rw [hall] at hown
      obtain ⟨sp, cap, hv, -⟩ := own_rows irow_len hown (by decide)
      obtain ⟨q, hq⟩ : ∃ q, (s.L.filterMap f).length = q := ⟨_, rfl⟩
      rw [hq] at hv
      subst hv
      have f4 := HCr.out.row.frozen 4
      have hb4 := HCr.out.row.lt
      obtain ⟨ia, ik, hiv, -⟩ := HCr.out.iAt
      have hLn : ({ s with nw := s.nw + 1 } : CS).L.length = k := Hn.out
      rw [hiv, hLn] at c4
      have hbase : w0.heap.size ≤ W.heap.size := HCW.out.bl.size
      have HO9 := Lib.hid (OwnL.mono (enc := irow) (K := 5) (l := s.L.filterMap f) hown hbase)
      have HN := Lib.hid (show NewB w.heap.size lv (.slice sp q cap) from fun z hz => .inr (by have := (own_lt hown hz).1; omega))
      clear hall hown hiv hq Hown
      go_wp2
      go_end0
      have hT := HCW.out.newList (S := []) (Only.of_below HB.out) (fun _ h => by cases h) HO9.out
      have e : s.tick = { { s with nw := s.nw + 1 } with L := s.L.filterMap f } := by unfold CS.tick; rw [Hf.out]
      rw [e]
      exact ⟨rfl, _, hT, (HOW.out.step (HB.out.mono (Nat.le_of_eq hWz.symm))).setCell (p := ⟨b, 4, none⟩) (.inl hbm) _, HN.out⟩
end Go.Proofs.YtcfdejlbchdciaaGreatDoor
