/-
  The document's provider: more.
-/
import Derived.Test.YtcfdejlbchdciaaGreatDoorClRm
import Derived.Test.YtcfdejlbchdciaaGreatDoorClG
namespace Go.Proofs.YtcfdejlbchdciaaGreatDoor
open Go.RowKit
set_option linter.unusedVariables false
set_option linter.unusedSimpArgs false

theorem at_rel {P : Program} {ops : Array Oper} {a : Act} {w : World} {R : Value → World → Prop} {d0 : Option Tmp} {ty : TypeId} {x : Operand} {t : TypeId} {p : String} {af : Array Edge} {g : Option (Nat × Bool)}
    (h : relAt P ops { dst := d0, op := .load ty x, type := t, pos := p, after := af, guard := g } a w R) : relAt P ops { dst := d0, op := .load ty x, type := t, pos := p, after := af, guard := g } a w R := h
/-- One more of a group. -/
def CS.mor (s : CS) (j : Nat) (g : Gk) (p : Pl) (st lf : Int) : CS := { s with P := s.P.set j ⟨p.t, p.la + 1, p.br⟩, L := s.L ++ [⟨mnm g.nm (p.la + 1), g.nm, st, lf, s.nw⟩] }
abbrev zeroMc : List Value := [.string ⟨#[]⟩, .string ⟨#[]⟩, .int .i64 0, .int .i64 0, .int .i64 0, .int .i64 0, .int .i64 0, .slice none 0 0, .slice none 0 0, .bool false]
def NewM (N : Nat) (u : Value) (w : World) : Prop := ∃ X, u = .pointer (some ⟨X, 0, none⟩) ∧ N ≤ X ∧ Blk w X 48 zeroMc
theorem NewM.stays (N : Nat) : Stays (NewM N) := fun v w w' hb ⟨X, e, h, hB⟩ => ⟨X, e, h, hB.below hb⟩
theorem NewM.mk {W : World} (n : Held W) : NewM W.heap.size (.pointer (some ⟨n.w.heap.size, 0, none⟩)) (n.w.alloc (.cells #[.string ⟨#[]⟩, .string ⟨#[]⟩, .int .i64 0, .int .i64 0, .int .i64 0, .int .i64 0, .int .i64 0, .slice none 0 0, .slice none 0 0, .bool false] 48)) := ⟨_, rfl, n.below.size, Blk.new _ 48 zeroMc⟩
theorem grow_range {w : World} {b o : Nat} {g : Gp} (h : ∀ r, r < 15 → w.cell? ⟨b, o + r, none⟩ = (grow g)[r]?) : w.rangeAt b o (grow g) := fun j v hv => by
  have hj : j < 15 := lt_at hv
  rw [h j hj]
  exact hv

set_option maxRecDepth 100000 in
set_option maxHeartbeats 8000000 in
theorem rmore_any (w0 : World) (b : Nat) (ga : Option Addr) (gka : Nat) (G : List Gp) (s : CS) (tv lav bv lv : Value) (j : Nat) (g : Gp) (p : Pl) (st lf : Int) (w : World) (h : RT w0 w b ga gka G s tv lav bv lv) (hP : s.P.length = s.G.length) (hG : G[j]? = some g) (hp : s.P[j]? = some p) (hs : g.nm.size ≤ 300) (h2 : 0 ≤ p.la ∧ p.la ≤ 100000000) (h3 : s.L.length ≤ 10000000) (hz : G.length ≤ 16) :
    Calls Tryz.prog 24 #[.pointer (some ⟨b, 0, none⟩), .int .i64 j, .int .i64 st, .int .i64 lf] w fun e w' => e = .returned (.tuple #[]) ∧ ∃ lv', RT w0 w' b ga gka G (s.mor j (gkOf g) p st lf) tv lav bv lv' ∧ Only (rblocks b tv lav bv lv) w w' ∧ NewB w.heap.size lv lv' := by
  have hgk : s.G[j]? = some (gkOf g) := by rw [← h.gk, List.getElem?_map, hG]; rfl
  obtain ⟨p', qt, kt, ql, kl, qb, kb, gb, go, hp', rfl, rfl, rfl, rfl, _, d1, _, _, _, _, l1, l2, l3, l4⟩ := h.at hP hgk
  obtain rfl : p' = p := Option.some.inj (hp'.symm.trans hp)
  have c2 := h.row.cell 2
  dsimp only [List.getElem?_cons_zero, List.getElem?_cons_succ] at c2
  have hbl := h.row.lt
  have f1 := h.la.frozenAt j
  have hjP : j < s.P.length := lt_at hp
  have hjG : j < G.length := lt_at hG
  obtain ⟨N, hN⟩ : ∃ N, s.P.length = N := ⟨_, rfl⟩
  obtain ⟨gn, hgn⟩ : ∃ gn, G.length = gn := ⟨_, rfl⟩
  have HN := Lib.hid hN
  have Hgn := Lib.hid hgn
  rw [hN] at c2 hjP
  rw [hgn] at hjG hz
  have hji : (j : Int) < (N : Int) := by omega
  have hjg : (j : Int) < (gn : Int) := by omega
  have hj0 : (0 : Int) ≤ (j : Int) := by omega
  have hw1 : IntKind.i64.wrap (p'.la + 1) = p'.la + 1 := cwrap_in (by omega) (by omega)
  have Hh := Lib.hid h
  have HP := Lib.hid hp
  have HG := Lib.hid hG
  have hbm : b ∈ rblocks b (.slice (some ⟨qt, 0, none⟩) s.P.length kt) (.slice (some ⟨ql, 0, none⟩) s.P.length kl) (.slice (some ⟨qb, 0, none⟩) s.P.length kb) lv := by unfold rblocks; simp
  have hlm : ql ∈ rblocks b (.slice (some ⟨qt, 0, none⟩) s.P.length kt) (.slice (some ⟨ql, 0, none⟩) s.P.length kl) (.slice (some ⟨qb, 0, none⟩) s.P.length kb) lv := by unfold rblocks; simp [Value.ownBlock]
  have hvm : ∀ z, lv.ownBlock = some z → z ∈ rblocks b (.slice (some ⟨qt, 0, none⟩) s.P.length kt) (.slice (some ⟨ql, 0, none⟩) s.P.length kl) (.slice (some ⟨qb, 0, none⟩) s.P.length kb) lv := fun z hz => by unfold rblocks; rw [hz]; simp
  obtain ⟨SB, hSB⟩ : ∃ SB, SB = rblocks b (.slice (some ⟨qt, 0, none⟩) s.P.length kt) (.slice (some ⟨ql, 0, none⟩) s.P.length kl) (.slice (some ⟨qb, 0, none⟩) s.P.length kb) lv := ⟨_, rfl⟩
  rw [← hSB] at hbm hlm hvm ⊢
  have Hvm := Lib.hid hvm
  have HMm := Lib.hid (fun V => refmachine_any g (p'.la + 1) V hs)
  obtain ⟨M, hM⟩ : ∃ M, grpM g (p'.la + 1) = M := ⟨_, rfl⟩
  rw [hM] at HMm
  have Hnm := Lib.hid (show M.nm = mnm (gkOf g).nm (p'.la + 1) from by rw [← hM, grpM_nm]; rfl)
  have HL3 := Lib.hid h3
  clear h hp hp' hG hgk hN hgn hP hSB hvm hM h3
  go_enter Tryz.func24, Tryz.ntmps24
  go_wp2
  obtain ⟨W1, hW1⟩ : ∃ W1, W1 = w.setCell ⟨ql, j, none⟩ (.int .i64 (p'.la + 1)) := ⟨_, rfl⟩
  rw [← hW1]
  obtain ⟨s1, hs1⟩ : ∃ s1, s1 = { s with P := s.P.set j ⟨p'.t, p'.la + 1, p'.br⟩ } := ⟨_, rfl⟩
  have Hs1 := Lib.hid hs1
  have HT1 := Lib.hid (show RT w0 W1 b (some ⟨gb, go, none⟩) gka G s1 (.slice (some ⟨qt, 0, none⟩) s.P.length kt) (.slice (some ⟨ql, 0, none⟩) s.P.length kl) (.slice (some ⟨qb, 0, none⟩) s.P.length kb) lv from by rw [hW1, hs1]; exact Hh.out.lset rfl _ HP.out)
  have HO1 := Lib.hid (show Only SB w W1 from by rw [hW1]; exact (Only.refl SB w).setCell (p := ⟨ql, j, none⟩) (.inl hlm) _)
  have hs1P : s1.P[j]? = some ⟨p'.t, p'.la + 1, p'.br⟩ := by
    rw [hs1]
    dsimp only
    rw [List.getElem?_set_self (by rw [HN.out]; exact hjP)]
  have b0 := HT1.out.row.cell 0
  have b2 := HT1.out.row.cell 2
  dsimp only [List.getElem?_cons_zero, List.getElem?_cons_succ] at b0 b2
  rw [Hgn.out] at b0
  rw [HN.out] at b2
  obtain ⟨a2, k2, e2, hl2⟩ := HT1.out.lAt
  obtain ⟨q2, e3, _, hd2⟩ := hl2 (by have := lt_at hs1P; omega)
  obtain rfl : ql = q2 := by rw [e3] at e2; injection e2 with e4; injection e4 with e4; injection e4
  have m1 : W1.cell? ⟨ql, j, none⟩ = some (.int .i64 (p'.la + 1)) := hd2 j _ hs1P
  have hgb1 : gb < W1.heap.size := Nat.lt_of_lt_of_le l4 HT1.out.bl.size
  obtain ⟨gb', go', e5, hgb', hgc⟩ := HT1.out.groups (by rw [Hgn.out]; omega)
  have e6 : gb = gb' ∧ go = go' := by injection e5 with e7; injection e7 with e7 e8; exact ⟨e7, e8⟩
  obtain ⟨rfl, rfl⟩ := e6
  have HR1 := Lib.hid (grow_range (hgc j g HG.out))
  have hl1l : ql < W1.heap.size := by rw [hW1, World.size_setCell]; exact l2
  have hb1l := HT1.out.row.lt
  clear hW1 hs1 c2 d1 f1 e2 e3 e5 hl2 hd2 hgb' hgc
  have hcH := held_cell
  refine region_rel_tail 16 (by kernel_rfl) (by kernel_rfl) (by kernel_rfl) ?_
  dsimp only [List.take, List.drop]
  repeat
    ((with_reducible refine relStep (fun K hK => ?_))
     (have HK := Lib.hid hK)
     clear hK
     (apply relInl
      · intro r n hf
        have Hf := Lib.hid hf
        clear hf
        (first
          | (((with_reducible refine at_rel (ty := 50) ?_); refine rel_load rfl gb (go + j * 15) rfl [.string g.nm, .int .i64 g.mn, .int .i64 g.mx, .string g.like.nm, .string g.like.gp, .int .i64 g.like.r0, .int .i64 g.like.r1, .int .i64 g.like.r2, .int .i64 g.like.r3, .int .i64 g.like.r4, .slice g.like.la g.like.labs.length g.like.lk, .slice g.like.ta g.like.tnts.length g.like.tk, .bool g.like.rd, .int .i64 g.pr, .int .i64 g.rk] _ Tryz.underlying50 rfl (by kernel_rfl) (rangeAt_mono HR1.out hgb1 n.below) rfl))
          | (unfold relAt
             go_simp
             (first | (refine relUpon_val ?_ (Below.refl _ _); exact rfl) | exact rfl | (refine relUpon_enter ?_; (go_at_call 51; (with_reducible refine (HMm.out _).mono ?_); rintro e w9 ⟨rfl, hb⟩; exact ⟨⟨_, rfl, rfl⟩, hb⟩)))))
      (simp only [Act.put, List.setIfInBounds_toArray, List.set_cons_zero, List.set_cons_succ])
      (with_reducible refine HK.out _ _ ?_)
      clear HK K))
  (with_reducible refine relStep (fun K hK => ?_))
  (have HK := Lib.hid hK)
  clear hK
  refine relInr (NewM W1.heap.size) (NewM.stays _) (fun r n hf => ?_) ?_
  · have Hf := Lib.hid hf
    clear hf HK K
    unfold relAt
    (skip)
    go_simp
    ((refine relUpon_val ?_ ?_; exact NewM.mk n; exact (Below.refl _ _).alloc (Nat.le_refl _) _))
  (simp only [Act.put, List.setIfInBounds_toArray, List.set_cons_zero, List.set_cons_succ])
  (with_reducible refine HK.out _ _ ?_)
  clear HK K
  refine relNil ?_
  intro r5 n5 hx5
  clear hcH
  (try simp only [List.nil_append, List.cons_append, List.mem_cons, List.not_mem_nil, or_false, forall_eq_or_imp, forall_eq, false_implies, implies_true] at hx5)
  obtain ⟨w5, hb5⟩ := n5
  (try dsimp only)
  obtain ⟨hc5, hf5⟩ := bcell hb5
  have hz5 := hb5.size
  (try simp at hz5)
  obtain ⟨X, eX, hX, hBX⟩ := hx5
  have eX : r5 15 = _ := eX
  dsimp only at hBX
  rw [eX]
  have HX5 := Lib.hid hBX
  have HB5 := Lib.hid hb5
  have HXz := Lib.hid hX
  clear eX hBX hX b0 b2 m1 hgb1 hl1l hb1l hc5 hf5 hz5 hb5
  go_wp2_with ((with_reducible refine at_store (ty := 48) ?_); refine wpList_store_mid rfl 48 (.tmp 8) (.tmp 32) rfl X 0 _ rfl rfl (HX5.out.there 0 10 (Nat.le_of_ble_eq_true rfl)) (by kernel_rfl) (by rw [← Array.all_toList]; rfl) ?_; obtain ⟨W2, hW2⟩ : ∃ W2, W2 = w5.setCells X 0 [.string M.nm, .string M.gp, .int .i64 M.r0, .int .i64 M.r1, .int .i64 M.r2, .int .i64 M.r3, .int .i64 M.r4, .slice M.la M.labs.length M.lk, .slice M.ta M.tnts.length M.tk, .bool M.rd] := ⟨_, rfl⟩; (show wpList _ _ _ _ _ (w5.setCells X 0 [.string M.nm, .string M.gp, .int .i64 M.r0, .int .i64 M.r1, .int .i64 M.r2, .int .i64 M.r3, .int .i64 M.r4, .slice M.la M.labs.length M.lk, .slice M.ta M.tnts.length M.tk, .bool M.rd])); rw [← hW2]; have HX2 := Lib.hid (show Blk W2 X 48 [.string M.nm, .string M.gp, .int .i64 M.r0, .int .i64 M.r1, .int .i64 M.r2, .int .i64 M.r3, .int .i64 M.r4, .slice M.la M.labs.length M.lk, .slice M.ta M.tnts.length M.tk, .bool M.rd] from by rw [hW2]; exact Blk.setCells HX5.out 0 _); have HO2 := Lib.hid (show Only [X] w5 W2 from by rw [hW2]; exact Only.setCells (.inl (List.mem_singleton.2 rfl)) (Only.refl _ _) _ _); clear hW2)
  have HB12 := Lib.hid (HO2.out.below HB5.out HB5.out.size (fun z hz => by rw [List.mem_singleton.1 hz]; exact HXz.out))
  have HT2 := Lib.hid (HT1.out.below HB12.out)
  have b0 := HT2.out.row.cell 0
  have b4 := HT2.out.row.cell 4
  have b6 := HT2.out.row.cell 6
  dsimp only [List.getElem?_cons_zero, List.getElem?_cons_succ] at b0 b4 b6
  rw [Hgn.out] at b0
  have hs1n : s1.nw = s.nw := by rw [Hs1.out]
  have hs1L : s1.L = s.L := by rw [Hs1.out]
  rw [hs1n] at b6
  have hb2l := HT2.out.row.lt
  have hX2l := HX2.out.lt
  have x0 : W2.cell? ⟨X, 0, none⟩ = some (.string M.nm) := HX2.out.cell 0
  have hgw1 : gb < W1.heap.size := Nat.lt_of_lt_of_le l4 HT1.out.bl.size
  have hg2l : gb < W2.heap.size := Nat.lt_of_lt_of_le l4 HT2.out.bl.size
  have x1 : W2.cell? ⟨gb, go + j * 15, none⟩ = some (.string g.nm) := (HB12.out.cell (p := ⟨gb, go + j * 15, none⟩) hgw1).trans (by have h9 := HR1.out 0 (.string g.nm) rfl; simpa using h9)
  obtain ⟨S, hS⟩ : ∃ S, S = lv.ownBlock.toList := ⟨_, rfl⟩
  have HS := Lib.hid hS
  have hST : ∀ z ∈ S, TyAt W2 z 41 ∧ w0.heap.size ≤ z ∧ z < W2.heap.size := fun z hz => by
    rw [hS] at hz
    have hz' : lv.ownBlock = some z := by simpa using hz
    exact ⟨own_ty HT2.out.lo hz', own_lt HT2.out.lo hz'⟩
  have HST := Lib.hid hST
  have hbS : b ∉ S := fun hm => (blk_ty HT2.out.row).ne (hST b hm).1 (by decide) rfl
  have hXS : X ∉ S := fun hm => (blk_ty HX2.out).ne (hST X hm).1 (by decide) rfl
  have hgS : gb ∉ S := fun hm => by have := (hST gb hm).2.1; omega
  have HSW := Lib.hid (show ∀ z ∈ S, z < W2.heap.size from fun z hz => (hST z hz).2.2)
  have hwW : w0.heap.size ≤ W2.heap.size := HT2.out.bl.size
  obtain ⟨LL, hLL⟩ : ∃ LL, s.L = LL := ⟨_, rfl⟩
  have HLL := Lib.hid hLL
  have HLo := Lib.hid (show W2.ownsRow w0.heap.size 41 5 lv LL.length (LL.flatMap irow) from by have h9 := HT2.out.lo; rw [hs1L, hLL] at h9; exact h9)
  have hLb : LL.length ≤ 10000000 := by rw [← hLL]; exact HL3.out
  obtain ⟨i0, hi, hz0, hz1, hz2⟩ := info_parts Tryz.info41
  have Hi := Lib.hid hi
  have Hz0 := Lib.hid hz0
  have Hz1 := Lib.hid hz1
  have Hz2 := Lib.hid hz2
  clear hi hz0 hz1 hz2
  obtain ⟨now, hnow⟩ : ∃ now, s.nw = now := ⟨_, rfl⟩
  rw [hnow] at b6
  have Hnow := Lib.hid hnow
  clear hS hST hLL hs1n hs1L hnow hgw1
  have hcH := heldS_cell (S := S)
  refine region_turn S 23 26 (by kernel_rfl) (by kernel_rfl) (by kernel_rfl) ?_
  dsimp only [List.take, List.drop]
  repeat
    ((with_reducible refine turnStep (fun K hK => ?_))
     (have HK := Lib.hid hK)
     clear hK
     (apply turnInl (by decide)
      · intro r n hf
        have Hf := Lib.hid hf
        clear hf
        (first
          | (fail)
          | (unfold relAt
             go_simp
             (first | (refine relUpon_val ?_ (Below.refl _ _); exact rfl) | exact rfl | (refine relUpon_enter ?_; fail))))
      (simp only [Act.put, List.setIfInBounds_toArray, List.set_cons_zero, List.set_cons_succ])
      (with_reducible refine HK.out _ _ ?_)
      clear HK K))
  (with_reducible refine turnStep (fun K hK => ?_))
  (have HK := Lib.hid hK)
  clear hK
  refine turnInr (by decide) (NewRow W2 41 [.string M.nm, .string g.nm, .int .i64 st, .int .i64 lf, .int .i64 now] 1) (NewRow.stays HSW.out _ _ _) (fun r n hf => ?_) ?_
  · have Hf := Lib.hid hf
    clear hf HK K
    unfold relAt
    (skip)
    go_simp
    ((refine relUpon_val ?_ ?_; exact NewRow.mk n _ _ _; exact (Below.refl _ _).alloc (Nat.le_refl _) _))
  (simp only [Act.put, List.setIfInBounds_toArray, List.set_cons_zero, List.set_cons_succ])
  (with_reducible refine HK.out _ _ ?_)
  clear HK K
  (with_reducible refine turnStep (fun K hK => ?_))
  (have HK := Lib.hid hK)
  clear hK
  refine turnApp (by decide) (fun u w' => ∃ z cap, u = .slice (some ⟨z, 0, none⟩) (LL.length + 1) cap ∧ w'.ownsRow w0.heap.size 41 5 u (LL.length + 1) (LL.flatMap irow ++ [.string M.nm, .string g.nm, .int .i64 st, .int .i64 lf, .int .i64 now]) ∧ (lv.ownBlock = some z ∨ W2.heap.size ≤ z)) ((fun u w1 w' hb ⟨z, cap, e, h, h'⟩ => ⟨z, cap, e, own_kept h hb, h'⟩)) (fun r n hf => ?_) ?_
  · have Hf := Lib.hid hf
    clear hf HK K
    ((obtain ⟨Bx, e1, hB, hb⟩ := given_at Hf.out 0 rfl (by dsimp only; decide +kernel); refine turn_append rfl _ _ _ rfl w0.heap.size 41 i0 _ 5 56 Tryz.underlying38 Hi.out Hz0.out Hz1.out Hz2.out rfl (by decide) lv LL.length (LL.flatMap irow) rfl (own_kept HLo.out n.below) ⟨Bx, 0, none⟩ 1 1 [.string M.nm, .string g.nm, .int .i64 st, .int .i64 lf, .int .i64 now] e1 rfl (NewRow.news hb) (by simp [Value.oneCell']) (by decide) (by unfold maxLen; omega) (by omega) (by have := n.below.size; omega) (fun z hz => by rw [HS.out, hz]; simp) ?_; intro z cap w' k1 k2 k3; exact ⟨z, cap, rfl, k1, k3.imp_right (fun e => by rw [e]; exact n.below.size)⟩))
  (simp only [Act.put, List.setIfInBounds_toArray, List.set_cons_zero, List.set_cons_succ])
  (with_reducible refine HK.out _ _ ?_)
  clear HK K
  repeat
    ((with_reducible refine turnStep (fun K hK => ?_))
     (have HK := Lib.hid hK)
     clear hK
     (apply turnInl (by decide)
      · intro r n hf
        have Hf := Lib.hid hf
        clear hf
        (first
          | (fail)
          | (unfold relAt
             go_simp
             (first | (refine relUpon_val ?_ (Below.refl _ _); exact rfl) | exact rfl | (refine relUpon_enter ?_; fail))))
      (simp only [Act.put, List.setIfInBounds_toArray, List.set_cons_zero, List.set_cons_succ])
      (with_reducible refine HK.out _ _ ?_)
      clear HK K))
  refine turnNil ?_
  intro r6 n6 hx6
  clear hcH
  (try simp only [List.nil_append, List.cons_append, List.mem_cons, List.not_mem_nil, or_false, forall_eq_or_imp, forall_eq, false_implies, implies_true] at hx6)
  obtain ⟨w6, ho6⟩ := n6
  (try dsimp only)
  obtain ⟨-, z, cap, e1, hown, hzq⟩ := hx6
  rw [e1] at hown ⊢
  have f6 : w6.frozen? ⟨b, 4, none⟩ = false := (World.frozen?_of_block (ho6.block b hb2l hbS)).trans (HT2.out.row.frozen 4)
  have x6 : w6.cell? ⟨b, 4, none⟩ = some lv := (World.cell?_of_block (ho6.block b hb2l hbS)).trans b4
  have hown2 : w6.ownsRow w0.heap.size 41 5 (.slice (some ⟨z, 0, none⟩) (LL.length + 1) cap) (LL ++ [(⟨M.nm, g.nm, st, lf, now⟩ : Ins)]).length ((LL ++ [(⟨M.nm, g.nm, st, lf, now⟩ : Ins)]).flatMap irow) := by
    rw [List.length_append, List.flatMap_append]
    exact hown
  have HT6 := Lib.hid (HT2.out.newList ho6 (fun k hk => ⟨(HST.out k hk).1, (HST.out k hk).2.1⟩) hown2)
  have HO6 := Lib.hid (((HO1.out.step (HB12.out.mono HO1.out.size)).trans (ho6.mono fun y hy => by rw [HS.out] at hy; exact Hvm.out y (by simpa using hy))).setCell (p := ⟨b, 4, none⟩) (.inl hbm) (.slice (some ⟨z, 0, none⟩) (LL.length + 1) cap))
  have HN6 := Lib.hid (show NewB w.heap.size lv (.slice (some ⟨z, 0, none⟩) (LL.length + 1) cap) from fun y hy => by
    obtain rfl : z = y := Option.some.inj hy
    exact hzq.imp_right fun h9 => Nat.le_trans (Nat.le_trans HO1.out.size HB12.out.size) h9)
  have hS6 : { s1 with L := LL ++ [(⟨M.nm, g.nm, st, lf, now⟩ : Ins)] } = s.mor j (gkOf g) p' st lf := by
    rw [Hnm.out, ← HLL.out, Hs1.out, ← Hnow.out]
    rfl
  rw [hS6] at HT6
  clear ho6 hown hown2 hS6
  go_wp2
  go_end0
  exact ⟨rfl, _, HT6.out, HO6.out, HN6.out⟩
end Go.Proofs.YtcfdejlbchdciaaGreatDoor
