/-
  The program's forms: flag, number, String, labels, term, toleration.
-/
import Derived.Test.YtccplljbljpjpaaDoorSpF
namespace Go.Proofs.YtccplljbljpjpaaDoor
open Go.RowKit
set_option linter.unusedVariables false
set_option linter.unusedSimpArgs false

theorem istx_rows {w : World} {b : Nat} {P : List ByteArray} (hb : b < w.heap.size) (h : ∀ i s, P[i]? = some s → w.cell? ⟨b, i, none⟩ = some (.string s)) : RowsAt scs 1 w (some ⟨b, 0, none⟩) P := fun _ => ⟨b, 0, rfl, hb, fun i x hx r hr => by
  obtain rfl : r = 0 := by omega
  show w.cell? ⟨b, 0 + i * 1 + 0, none⟩ = _
  rw [Nat.zero_add, Nat.mul_one, Nat.add_zero]
  exact h i x hx⟩
/-- How long texts are, joined. -/
def sumL (P : List ByteArray) : Nat := (P.map ByteArray.size).sum
theorem tl_size (P : List ByteArray) : (tlB P).length = sumL P + P.length := by
  induction P with
  | nil => rfl
  | cons x P ih =>
    rw [tl_cons, List.length_cons, List.length_append, ih]
    show x.data.toList.length + _ + 1 = (x.size + sumL P) + _
    rw [List.length_cons]
    show x.data.toList.length + _ + 1 = (x.data.size + sumL P) + _
    rw [Array.length_toList]
    omega
theorem join_size (P : List ByteArray) : (joinB P).size ≤ sumL P + P.length := by
  cases P with
  | nil => exact Nat.zero_le _
  | cons x P =>
    have h := congrArg List.length (ls_join x P)
    rw [List.length_append, tl_size] at h
    have h2 : (joinB (x :: P)).size = (lsL (joinB (x :: P))).length := by show _ = (joinB (x :: P)).data.toList.length; rw [Array.length_toList]; rfl
    have h3 : (lsL x).length = x.size := by show x.data.toList.length = _; rw [Array.length_toList]; rfl
    rw [h2, h, h3]
    show _ ≤ (x.size + sumL P) + (P.length + 1)
    omega
/-- The tables of words. -/
structure WT (w : World) : Prop where
  op : ∀ i s, opsL[i]? = some s → w.cell? ⟨0, i, none⟩ = some (.string s)
  ef : ∀ i s, effL[i]? = some s → w.cell? ⟨1, i, none⟩ = some (.string s)
  sz : 2 ≤ w.heap.size
theorem WT.mono {base : Nat} {w w' : World} (h : WT w) (hb : Below base w w') (h2 : 2 ≤ base) : WT w' :=
  ⟨fun i s hi => (hb.cell (p := ⟨0, i, none⟩) (show 0 < base by omega)).trans (h.op i s hi), fun i s hi => (hb.cell (p := ⟨1, i, none⟩) (show 1 < base by omega)).trans (h.ef i s hi), Nat.le_trans h.sz hb.size⟩
set_option maxRecDepth 100000 in
set_option maxHeartbeats 4000000 in
theorem sflag_any (base q : Nat) (L : List ByteArray) (nm : ByteArray) (b : Bool) (w : World) (hF : FmAt base q L w) (hL : L.length ≤ 10000) :
    Calls Tryd.prog 45 #[.pointer (some ⟨q, 0, none⟩), .string nm, .bool b] w (FmGives base q (L ++ flP nm b) w) := by
  cases b with
  | false =>
    have HF := Lib.hid hF
    clear hF
    go_enter Tryd.func45, Tryd.ntmps45
    go_wp2
    go_end0
    exact ⟨rfl, by show FmAt base q (L ++ []) _; rw [List.append_nil]; exact HF.out, Below.refl _ _⟩
  | true =>
    have hlt := hF.lt
    obtain ⟨hbq, v, hbk, hown⟩ := hF
    obtain ⟨ao, ko, rfl⟩ := own_sl hown
    have HO := Lib.hid hown
    have HK := Lib.hid hbk
    have c0 : w.cell? ⟨q, 0, none⟩ = some (.slice ao L.length ko) := hbk.cell 0
    obtain ⟨i0, hi, hz0, hz1, hz2⟩ := info_parts Tryd.info9
    have Hi := Lib.hid hi
    have Hz0 := Lib.hid hz0
    have Hz1 := Lib.hid hz1
    have Hz2 := Lib.hid hz2
    clear hi hz0 hz1 hz2
    clear hown hbk
    go_enter Tryd.func45, Tryd.ntmps45
    go_wp2_with (at_builtin; refine wpList_append_src rfl (.tmp 11) (.tmp 13) 46 rfl base 9 i0 _ 1 16 Tryd.underlying46 Hi.out Hz0.out Hz1.out Hz2.out rfl (by decide) _ L.length (L.flatMap scs) rfl (HO.out.alloc _) (some ⟨w.heap.size, 0, none⟩) 1 1 (scs nm) rfl rfl (fun q e => by injection e with e; rw [← e]; exact news_at _ _ _) (fun e => by cases e) (scs_one nm) (by unfold maxLen; omega) (by omega) (by simp; omega) ?_; intro v6 w6 hown6 hgrow6; obtain ⟨a6, k6, rfl⟩ := own_sl hown6; have hgrow7 : (w.alloc (.cells #[.string nm] 9)).grownBy w6 (Value.slice ao L.length ko).ownBlock := hgrow6; clear hgrow6; have hne : some q ≠ (Value.slice ao L.length ko).ownBlock := (fun e => ((own_ty HO.out e.symm).ne (blk_ty HK.out) (by decide)) rfl); have HK6 := Lib.hid ((HK.out.alloc _).same (hgrow7.block q (HK.out.alloc (.cells #[.string nm] 9)).lt hne)); have HB6 := Lib.hid (own_below (HO.out.alloc (.cells #[.string nm] 9)) ((Below.refl base w).alloc (by omega) _) (by simp; omega) hgrow7); have HO6 := Lib.hid hown6; have k0 : w6.cell? ⟨q, 0, none⟩ = some (.slice ao L.length ko) := HK6.out.cell 0; have kf := HK6.out.frozen 0; have kl := HK6.out.lt; clear hown6 hgrow7 hne)
    go_end0
    refine ⟨rfl, ⟨hbq, _, HK6.out.set 0 _, ?_⟩, HB6.out.setCell hbq _⟩
    have h9 := own_same HO6.out fun g e => Below.heap_setCell w6 ⟨q, 0, none⟩ (.slice a6 (L.length + 1) k6) g ((own_ty HO6.out e).ne (blk_ty HK6.out) (by decide))
    show World.ownsRow _ base _ 1 _ (L ++ [nm]).length ((L ++ [nm]).flatMap scs)
    rw [List.length_append, List.flatMap_append]
    simpa using h9
set_option maxRecDepth 100000 in
set_option maxHeartbeats 4000000 in
theorem snumber_any (base q : Nat) (L : List ByteArray) (nm : ByteArray) (n : Int) (w : World) (hF : FmAt base q L w) (hL : L.length ≤ 10000) (hn : nm.size ≤ 100) (h0 : 0 ≤ n) (h9 : n ≤ 9223372036854775807) (hT : Tab10 w) :
    Calls Tryd.prog 44 #[.pointer (some ⟨q, 0, none⟩), .string nm, .int .i64 n] w (FmGives base q (L ++ nuP nm n) w) := by
  by_cases hz : n = 0
  · subst hz
    have HF := Lib.hid hF
    clear hF
    go_enter Tryd.func44, Tryd.ntmps44
    go_wp2
    go_end0
    exact ⟨rfl, by show FmAt base q (L ++ []) _; rw [List.append_nil]; exact HF.out, Below.refl _ _⟩
  · have q0 : (n == 0) = false := by simpa using hz
    have q1 : (n != 0) = true := by simpa using hz
    have HI := Lib.hid (itoa_any n (by omega) h9 w hT)
    have hiz := itoaB_size n (by omega) h9
    have hnu : nuP nm n = [fmB [nm, itoaB n]] := if_neg hz
    have HF := Lib.hid hF
    obtain ⟨t, ht⟩ : ∃ t, itoaB n = t := ⟨_, rfl⟩
    have ht2 : (⟨(Lib.itoa n).toArray⟩ : ByteArray) = t := ht
    rw [ht2] at HI
    rw [ht] at hiz hnu
    have HNu := Lib.hid hnu
    have hbb := hF.hb
    have HJz := Lib.hid (show (joinB [nm, t]).size ≤ 1000000 from Nat.le_trans (join_size _) (by show nm.size + (t.size + 0) + 2 ≤ _; omega))
    have hlt := hF.lt
    clear hF hz ht ht2 hnu hT
    go_enter Tryd.func44, Tryd.ntmps44
    go_wp2_with (first
      | (go_at_call 40; (with_reducible refine HI.out.mono ?_); rintro e w2 ⟨rfl, hb⟩; have HF2 := Lib.hid (HF.out.below hb); have HB2 := Lib.hid (hb.mono (Nat.le_trans hbb (Nat.le_of_lt hlt))); clear hb)
      | (go_at_call 37; (refine (add_any base q L [nm, t] (some ⟨w2.heap.size, 0, none⟩) 2 _ (HF2.out.below ((Below.refl _ _).alloc (Nat.le_refl _) _)) (RowsAt.new scs_len w2 [nm, t] 9) (by simp) (by simp) (by simp) HJz.out hL).mono ?_); rintro e w3 ⟨rfl, hf, hb⟩; have HFw3 := Lib.hid hf; have HBw3 := Lib.hid hb; clear hf hb))
    go_end0
    refine ⟨rfl, by rw [HNu.out]; exact HFw3.out, HB2.out.trans ?_⟩
    exact ((Below.refl base w2).alloc (by have := HF2.out.lt; omega) _).trans HBw3.out
set_option maxRecDepth 100000 in
set_option maxHeartbeats 4000000 in
theorem sstring_any (base q : Nat) (L : List ByteArray) (w : World) (hF : FmAt base q L w) (hL : L.length ≤ 10000) (h0 : 0 < L.length) (hz : (joinB L).size ≤ 50000000) :
    Calls Tryd.prog 46 #[.pointer (some ⟨q, 0, none⟩)] w fun e w' => e = .returned (.string (fmB L)) ∧ Below w.heap.size w w' := by
  have hlt := hF.lt
  obtain ⟨hbq, v, hbk, hown⟩ := hF
  obtain ⟨ao, ko, rfl⟩ := own_sl hown
  obtain ⟨_, _, e1, -, hr⟩ := IsL.of_own scs_len (by decide) hown
  injection e1 with e1 e2 e3
  subst e1
  have HJ := Lib.hid (join_any ao ko L w hr h0 (own_cap hown).2 (by omega) (by omega))
  have c0 : w.cell? ⟨q, 0, none⟩ = some (.slice ao L.length ko) := hbk.cell 0
  obtain ⟨j, hj⟩ : ∃ j, joinB L = j := ⟨_, rfl⟩
  rw [hj] at HJ hz
  obtain ⟨s1, es1, zs1, rs1⟩ := cat_step ⟨#[40]⟩ j 1 50000000 (by decide) hz (by omega)
  obtain ⟨s2, es2, zs2, rs2⟩ := cat_step s1 ⟨#[41]⟩ (1 + 50000000) 1 zs1 (by decide) (by omega)
  have HE := Lib.hid (show fmB L = s2 by unfold fmB; rw [hj, es2, es1])
  clear hown hbk hr e2 e3 hz hj es1 es2 zs1 zs2
  go_enter Tryd.func46, Tryd.ntmps46
  go_wp2_with (go_at_call 53; (with_reducible refine HJ.out.mono ?_); rintro e w2 ⟨rfl, hb⟩; have HB2 := Lib.hid hb; clear hb)
  go_ret
  exact ⟨by rw [HE.out]; first | done | rfl, HB2.out⟩
set_option maxRecDepth 100000 in
set_option maxHeartbeats 8000000 in
theorem slabels_any (base q : Nat) (L : List ByteArray) (nm : ByteArray) (a : Option Addr) (ka : Nat) (l : List Lab) (w : World) (hF : FmAt base q L w) (hB : base ≤ w.heap.size) (hD : LabL w a l) (hL : L.length ≤ 1000) (hl : l.length ≤ 40) (hn : nm.size ≤ 100) (hs : ∀ x ∈ l, x.key.size ≤ 300 ∧ x.val.size ≤ 300) (ho : l.length = 0 ∨ ∃ b o, a = some ⟨b, o, none⟩ ∧ b < base) :
    Calls Tryd.prog 41 #[.pointer (some ⟨q, 0, none⟩), .string nm, .slice a l.length ka] w (FmGives base q (L ++ lbP nm l) w) := by
  have HF := Lib.hid hF
  have HD := Lib.hid hD
  have HS := Lib.hid hs
  have HOo := Lib.hid ho
  obtain ⟨n, hnl⟩ : ∃ n, l.length = n := ⟨_, rfl⟩
  have Hn := Lib.hid hnl
  rw [hnl] at hl ⊢
  clear hF hD hs ho hnl
  go_enter Tryd.func41, Tryd.ntmps41
  go_wp2
  go_loopw [10] (fun vi wr => ∃ k : Nat, k ≤ n ∧ vi = .int .i64 k ∧ FmAt base q (L ++ lbP nm (l.take k)) wr ∧ Below base w wr) (fun vi _ => n - (intOf vi).toNat)
  case atStart => exact ⟨0, Nat.zero_le _, rfl, by show FmAt base q (L ++ []) _; rw [List.append_nil]; exact HF.out, Below.refl _ _⟩
  case round =>
    obtain ⟨k, hk, rfl, hF, hBr⟩ := hrel
    have HFr := Lib.hid hF
    have HBr := Lib.hid hBr
    by_cases hlt : k < n
    · obtain ⟨x, hx⟩ := mem_at (l := l) (k := k) (by rw [Hn.out]; exact hlt)
      obtain ⟨hx1, hx2⟩ := HS.out x (List.mem_of_getElem? hx)
      obtain ⟨b, o, ea, hb, hc⟩ := HD.out (by rw [Hn.out]; omega)
      have hbB : b < base := by
        rcases HOo.out with h | ⟨b2, o2, e2, h2⟩
        · rw [Hn.out] at h; omega
        · rw [ea] at e2
          injection e2 with e2
          injection e2 with e2
          omega
      subst ea
      obtain ⟨c0, c1⟩ := lab_cells (hc k x hx)
      have d0 : wr.cell? ⟨b, o + k * 2, none⟩ = some (.string x.key) := (hBr.cell (p := ⟨b, o + k * 2, none⟩) hbB).trans c0
      have d1 : wr.cell? ⟨b, o + k * 2 + 1, none⟩ = some (.string x.val) := (hBr.cell (p := ⟨b, o + k * 2 + 1, none⟩) hbB).trans c1
      have hbr := Nat.lt_of_lt_of_le hb hBr.size
      have hat := atB_size hx2
      have HA := Lib.hid (fun V => satom_any x.val V)
      have hnx : lbP nm (l.take (k + 1)) = lbP nm (l.take k) ++ [fmB [nm, x.key, atB x.val]] := by
        unfold lbP
        rw [List.take_add_one, hx, List.map_append]
        rfl
      have hlk : (lbP nm (l.take k)).length ≤ 40 := by unfold lbP; rw [List.length_map, List.length_take]; omega
      obtain ⟨t, ht⟩ : ∃ t, atB x.val = t := ⟨_, rfl⟩
      rw [ht] at hnx hat HA
      have HNx := Lib.hid hnx
      have HJz := Lib.hid (show (joinB [nm, x.key, t]).size ≤ 1000000 from Nat.le_trans (join_size _) (by show nm.size + (x.key.size + (t.size + 0)) + 3 ≤ _; omega))
      have hLk : (L ++ lbP nm (l.take k)).length ≤ 10000 := by rw [List.length_append]; omega
      have HLk := Lib.hid hLk
      have hbz := hBr.size
      obtain ⟨Z, hZ⟩ : ∃ Z, wr.heap.size = Z := ⟨_, rfl⟩
      obtain ⟨w5, hw5⟩ : ∃ V, V = wr.alloc (.cells #[.string x.key, .string x.val] 67) := ⟨_, rfl⟩
      have HZ5 := Lib.hid (show Box Z [.string x.key, .string x.val] w5 by rw [hw5, ← hZ]; exact Box.new wr [.string x.key, .string x.val] 67)
      have hbb : Below wr.heap.size wr w5 := by rw [hw5]; exact (Below.refl _ _).alloc (Nat.le_refl _) _
      have HF5 := Lib.hid (HFr.out.below hbb)
      have HB5 := Lib.hid (hBr.trans (hbb.mono (by omega)))
      have z0 : w5.cell? ⟨Z, 0, none⟩ = some (.string x.key) := HZ5.out.cell 0
      have z1 : w5.cell? ⟨Z, 1, none⟩ = some (.string x.val) := HZ5.out.cell 1
      have hlz := HZ5.out.lt
      have HRq := Lib.hid (show wr.rangeAt b (o + k * 2) [.string x.key, .string x.val] from fun j v hj => by
        have hj2 : j < 2 := (List.getElem?_eq_some_iff.1 hj).1
        match j, hj2, hj with
        | 0, _, hj => rw [← hj]; exact d0
        | 1, _, hj => rw [← hj]; exact d1)
      have HP1 := Lib.hid (show ∀ u ∈ [Value.string x.key, .string x.val], u.oneCell' = true by
        intro u hu
        simp only [List.mem_cons, List.not_mem_nil, or_false] at hu
        rcases hu with rfl | rfl <;> rfl)
      clear hF hBr hx hc c0 c1 hnx hlk ht hLk hx1 hx2 hbb d0 d1
      go_upto_region 3 with (first
        | ((with_reducible refine at_load (ty := 67) ?_); refine load_cells rfl 67 (.tmp 12) rfl b (o + k * 2) rfl [.string x.key, .string x.val] _ Tryd.underlying67 rfl (by kernel_rfl) HRq.out ?_)
        | ((with_reducible refine at_store (ty := 67) ?_); refine store_new rfl 67 (.tmp 7) (.tmp 13) rfl _ _ (by first | rfl | (show _ = Value.pointer (some ⟨wr.heap.size, 0, none⟩); rw [hZ]; rfl)) rfl (by kernel_rfl) rfl (List.all_eq_true.2 HP1.out) rfl ?_))
      (try rw [hZ])
      rw [← hw5]
      clear hw5 hZ
      have hcH := held_cell
      refine region_rel_tail 8 (by kernel_rfl) (by kernel_rfl) (by kernel_rfl) ?_
      dsimp only [List.take, List.drop]
      repeat
        ((with_reducible refine relStep (fun K hK => ?_))
         (have HK := Lib.hid hK)
         clear hK
         (apply relInl
          · intro r n hf
            have Hf := Lib.hid hf
            clear hf
            (first
              | (fail)
              | (unfold relAt
                 go_simp
                 (first | (refine relUpon_val ?_ (Below.refl _ _); exact rfl) | exact rfl | (refine relUpon_enter ?_; (go_at_call 55; (with_reducible refine (HA.out _).mono ?_); rintro e w9 ⟨rfl, hb⟩; exact ⟨⟨_, rfl, rfl⟩, hb⟩)))))
          (simp only [Act.put, List.setIfInBounds_toArray, List.set_cons_zero, List.set_cons_succ])
          (with_reducible refine HK.out _ _ ?_)
          clear HK K))
      (with_reducible refine relStep (fun K hK => ?_))
      (have HK := Lib.hid hK)
      clear hK
      refine relInr (IsTx [nm, x.key, t] 3) (IsTx.stays _ _) (fun r n hf => ?_) ?_
      · have Hf := Lib.hid hf
        clear hf HK K
        unfold relAt
        (skip)
        go_simp
        ((refine relUpon_val ?_ ?_; exact ⟨_, rfl, by simp, tx_new [nm, x.key, t] n.w _⟩; exact (Below.refl _ _).alloc (Nat.le_refl _) _))
      (simp only [Act.put, List.setIfInBounds_toArray, List.set_cons_zero, List.set_cons_succ])
      (with_reducible refine HK.out _ _ ?_)
      clear HK K
      refine relNil ?_
      intro r9 n9 hx9
      clear hcH
      (try simp only [List.nil_append, List.cons_append, List.mem_cons, List.not_mem_nil, or_false, forall_eq_or_imp, forall_eq, false_implies, implies_true] at hx9)
      obtain ⟨w9, hb9⟩ := n9
      (try dsimp only)
      obtain ⟨hc9, hf9⟩ := bcell hb9
      have hz9 := hb9.size
      (try simp at hz9)
      obtain ⟨bb, e9, hbb0, hcc⟩ := hx9
      have hbb : bb < w9.heap.size := hbb0
      (try simp only [Nat.zero_add, Nat.reduceAdd] at e9 ⊢)
      have HR9 := Lib.hid (istx_rows hbb hcc)
      rw [e9]
      have HB9 := Lib.hid hb9
      clear hcc e9 hbb0 hb9 hc9 hf9 hz9
      have HF9 := Lib.hid (HF5.out.below HB9.out)
      clear z0 z1 hlz
      go_wp2_with (go_at_call 37; (refine (add_any base q (L ++ lbP nm (l.take k)) [nm, x.key, t] (some ⟨bb, 0, none⟩) 3 w9 HF9.out HR9.out (by simp) (by simp) (by simp) HJz.out HLk.out).mono ?_); rintro e w3 ⟨rfl, hf, hb⟩; have HFw3 := Lib.hid hf; have HBw3 := Lib.hid hb; clear hf hb)
      go_roundw
      case rel => exact ⟨k + 1, by omega, by go_num, by rw [HNx.out, ← List.append_assoc]; exact HFw3.out, (HB5.out.trans (HB9.out.mono (Nat.le_trans hB HB5.out.size))).trans HBw3.out⟩
      case measure => simp [intOf]; omega
    · obtain rfl : k = n := by omega
      have HFe := Lib.hid (show FmAt base q (L ++ lbP nm l) wr by rw [List.take_of_length_le (by rw [Hn.out]; exact Nat.le_refl _)] at hF; exact hF)
      clear hF hBr
      go_wp2
      go_end0
      exact ⟨rfl, HFe.out, HBr.out⟩
end Go.Proofs.YtccplljbljpjpaaDoor
