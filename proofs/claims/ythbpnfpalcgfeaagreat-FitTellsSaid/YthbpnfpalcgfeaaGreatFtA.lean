/-
  Fit: Put.
-/
import Derived.Test.YthbpnfpalcgfeaaGreatFt9
namespace Go.Proofs.YthbpnfpalcgfeaaGreat
open Go.RowKit
set_option linter.unusedVariables false
set_option linter.unusedSimpArgs false

/-- The bound pods but one. -/
def notNm (nm : ByteArray) (b : Bd) : Bool := !decide (b.p.nm = nm)
def butL (bs : List Bd) (nm : ByteArray) : List Bd := bs.filter (notNm nm)
theorem butL_next {bs : List Bd} {k : Nat} {b : Bd} (h : bs[k]? = some b) (nm : ByteArray) : butL (bs.take (k + 1)) nm = butL (bs.take k) nm ++ (if notNm nm b = true then [b] else []) := by
  unfold butL
  rw [List.take_add_one, h, List.filter_append]
  congr 1
  show List.filter (notNm nm) [b] = _
  rw [List.filter_cons]
  split <;> rfl
theorem butL_len (bs : List Bd) (nm : ByteArray) : (butL bs nm).length ≤ bs.length := List.length_filter_le _ _
def GivesPut (w : World) (bs : List Bd) (p : Pd) (on : ByteArray) (e : Ending) (w' : World) : Prop :=
  (∃ (a : Option Addr) (k : Nat) (p' : Pd), e = .returned (.slice a ((butL bs p.nm).length + 1) k) ∧ podE p' = podE p ∧ BndL w' a (butL bs p.nm ++ [⟨p', on⟩]) ∧ PodIn w' p' ∧ NilOk a ((butL bs p.nm).length + 1) k ∧ (butL bs p.nm).length + 1 ≤ k) ∧ Below w.heap.size w w'
set_option maxRecDepth 100000 in
set_option maxHeartbeats 8000000 in
theorem put_any (c : Option Addr) (kc : Nat) (bs : List Bd) (p : Pd) (on : ByteArray) (w : World) (hF : BndL w c bs) (hP : PodAt w p) (hp : lightP p = true) (hl : bs.length ≤ 1000) :
    Calls Tryz.prog 19 #[.slice c bs.length kc, .agg (prow p).toArray, .string on] w (GivesPut w bs p on) := by
  have HC := Lib.hid (show ∀ V, Below w.heap.size w V → Calls Tryz.prog 41 #[.agg #[.string (p).nm, .int .i64 (p).n0, .int .i64 (p).n1, .int .i64 (p).n2, .int .i64 (p).n3, .int .i64 (p).n4, .slice (p).la (p).labs.length (p).lk, .slice (p).sa (p).sels.length (p).sk, .slice (p).ta (p).trms.length (p).tk, .slice (p).ba (p).bers.length (p).bk, .slice (p).pa (p).prts.length (p).pk, .slice (p).aa (p).aprs.length (p).ak, .bool (p).wd, .slice (p).da (p).spds.length (p).dk, .int .i64 (p).sw, .int .i64 (p).rk, .string (p).ow, .bool (p).dm, .bool (p).pn, .bool (p).lc]] V fun e w' => (∃ p' : Pd, e = .returned (.agg #[.string (p').nm, .int .i64 (p').n0, .int .i64 (p').n1, .int .i64 (p').n2, .int .i64 (p').n3, .int .i64 (p').n4, .slice (p').la (p').labs.length (p').lk, .slice (p').sa (p').sels.length (p').sk, .slice (p').ta (p').trms.length (p').tk, .slice (p').ba (p').bers.length (p').bk, .slice (p').pa (p').prts.length (p').pk, .slice (p').aa (p').aprs.length (p').ak, .bool (p').wd, .slice (p').da (p').spds.length (p').dk, .int .i64 (p').sw, .int .i64 (p').rk, .string (p').ow, .bool (p').dm, .bool (p').pn, .bool (p').lc]) ∧ podE p' = podE p ∧ PodIn w' p' ∧ PodFar V.heap.size p') ∧ Below V.heap.size V w' from fun V hV => cpod_any p V (hP.mono hV) hp)
  obtain ⟨n, hn⟩ : ∃ n, bs.length = n := ⟨_, rfl⟩
  obtain ⟨W, hW⟩ : ∃ W, W = (w.alloc (.cells #[.string (p).nm, .int .i64 (p).n0, .int .i64 (p).n1, .int .i64 (p).n2, .int .i64 (p).n3, .int .i64 (p).n4, .slice (p).la (p).labs.length (p).lk, .slice (p).sa (p).sels.length (p).sk, .slice (p).ta (p).trms.length (p).tk, .slice (p).ba (p).bers.length (p).bk, .slice (p).pa (p).prts.length (p).pk, .slice (p).aa (p).aprs.length (p).ak, .bool (p).wd, .slice (p).da (p).spds.length (p).dk, .int .i64 (p).sw, .int .i64 (p).rk, .string (p).ow, .bool (p).dm, .bool (p).pn, .bool (p).lc] 31)) := ⟨_, rfl⟩
  have hX : Box w.heap.size (prow p) W := by rw [hW]; exact (Box.new w (prow p) 31)
  have hbw : Below w.heap.size w W := by rw [hW]; (repeat' (first | with_reducible exact Below.refl _ _ | with_reducible assumption | with_reducible refine Below.drew ?_ | with_reducible refine below_drewN' ?_ _ | with_reducible refine Below.alloc ?_ ?_ _ | with_reducible refine Below.setCell ?_ ?_ _ | with_reducible refine below_step (by assumption) ?_ ?_ | omega | (simp; done) | (simp; omega)))
  have HB0 := Lib.hid hbw
  have HX0 := Lib.hid hX
  have HZ := Lib.hid (show w.heap.size + 1 ≤ W.heap.size from hX.lt)
  have HN := Lib.hid hn
  have HF := Lib.hid (hF.mono hbw)
  rw [hn] at hl ⊢
  obtain ⟨i0, hi, hz0, hz1, hz2⟩ := info_parts Tryz.info55
  have Hi := Lib.hid hi
  have Hz0 := Lib.hid hz0
  have Hz1 := Lib.hid hz1
  have Hz2 := Lib.hid hz2
  clear hi hz0 hz1 hz2
  show Calls Tryz.prog 19 #[.slice c n kc, .agg #[.string (p).nm, .int .i64 (p).n0, .int .i64 (p).n1, .int .i64 (p).n2, .int .i64 (p).n3, .int .i64 (p).n4, .slice (p).la (p).labs.length (p).lk, .slice (p).sa (p).sels.length (p).sk, .slice (p).ta (p).trms.length (p).tk, .slice (p).ba (p).bers.length (p).bk, .slice (p).pa (p).prts.length (p).pk, .slice (p).aa (p).aprs.length (p).ak, .bool (p).wd, .slice (p).da (p).spds.length (p).dk, .int .i64 (p).sw, .int .i64 (p).rk, .string (p).ow, .bool (p).dm, .bool (p).pn, .bool (p).lc], .string on] w _
  clear hX hbw hF hP hp hn
  go_enter Tryz.func19, Tryz.ntmps19
  go_upto_region 1 with (fail)
  rw [← hW]
  clear hW
  go_wp2
  go_loopw [7, 11] (fun vo vi wr => ∃ (k : Nat) (Q : List Bd), k ≤ n ∧ vi = .int .i64 k ∧ Q = butL (bs.take k) p.nm ∧ Q.length ≤ k ∧ wr.ownsRow W.heap.size 55 21 vo Q.length (Q.flatMap brow) ∧ Below W.heap.size W wr) (fun _ vi _ => n - (intOf vi).toNat)
  case atStart => exact ⟨0, [], Nat.zero_le _, rfl, rfl, Nat.le_refl _, World.ownsRow_nil _ _ _ _, Below.refl _ _⟩
  case round =>
    obtain ⟨k, Q, hk, rfl, hE, hLk, hO, hB⟩ := hrel
    have HE := Lib.hid hE
    have HB := Lib.hid hB
    have HO := Lib.hid hO
    have hbz := hB.size
    have hXr := HX0.out.mono hB
    have HX := Lib.hid hXr
    have hlx := hXr.lt
    have d0 : wr.cell? ⟨w.heap.size, 0, none⟩ = some (.string p.nm) := hXr.cell 0
    obtain ⟨ao, ko, rfl⟩ := own_sl hO
    by_cases hlt : k < n
    · obtain ⟨m, hm⟩ := mem_at (l := bs) (k := k) (by rw [HN.out]; exact hlt)
      obtain ⟨b, o, rfl, hb, hc⟩ := (HF.out.mono hB) (by rw [HN.out]; omega)
      have HRg := Lib.hid (show wr.rangeAt b (o + k * 21) (brow m) from fun j v hj => by rw [hc k m hm j (by have := (List.getElem?_eq_some_iff.1 hj).1; exact this)]; exact hj)
      have c0 : wr.cell? ⟨b, o + k * 21, none⟩ = some (.string m.p.nm) := hc k m hm 0 (by decide)
      have hnx := butL_next hm p.nm
      rw [← hE] at hnx
      have hno : notNm p.nm m = !decide (m.p.nm = p.nm) := rfl
      rw [hno] at hnx
      obtain ⟨nm, hnm⟩ : ∃ nm, m.p.nm = nm := ⟨_, rfl⟩
      rw [hnm] at c0 hnx
      clear hE hO hB hc hm hXr hno hnm
      by_cases hx : nm = p.nm
      · have q := str_yes hx
        rw [decide_eq_true hx, if_neg (by decide), List.append_nil] at hnx
        have HNx := Lib.hid hnx.symm
        clear hnx hx
        go_upto_region 5 with (fail)
        have hcH := held_cell
        refine region_rel (by kernel_rfl) (by kernel_rfl) ?_
        repeat
          ((with_reducible refine relStep (fun K hK => ?_))
           (have HK := Lib.hid hK)
           clear hK
           (apply relInl
            · intro r n hf
              have Hf := Lib.hid hf
              clear hf
              (first
                | (fail)
                | (unfold relAt
                   go_simp
                   (first | (refine relUpon_val ?_ (Below.refl _ _); exact rfl) | exact rfl | (refine relUpon_enter ?_; fail))))
            (simp only [Act.put, List.setIfInBounds_toArray, List.set_cons_zero, List.set_cons_succ])
            (with_reducible refine HK.out _ _ ?_)
            clear HK K))
        refine relNil ?_
        intro r9 n9 hx9
        clear hcH
        (try simp only [List.nil_append, List.cons_append, List.mem_cons, List.not_mem_nil, or_false, forall_eq_or_imp, forall_eq, false_implies, implies_true] at hx9)
        obtain ⟨w9, hb9⟩ := n9
        (try dsimp only)
        obtain ⟨hc9, hf9⟩ := bcell hb9
        have hz9 := hb9.size
        (try simp at hz9)
        have HB9 := Lib.hid (HB.out.trans (hb9.mono hbz))
        have HO9 := Lib.hid (own_kept HO.out hb9)
        go_wp2
        go_roundw
        case rel => exact ⟨k + 1, Q, by omega, by go_num, HNx.out, by omega, HO9.out, HB9.out⟩
        case measure => simp [intOf]; omega
      · have q := str_no hx
        rw [decide_eq_false hx, if_pos (by decide)] at hnx
        have HNx := Lib.hid hnx.symm
        obtain ⟨rw', hrw⟩ : ∃ r, brow m = r := ⟨_, rfl⟩
        have HP := Lib.hid hrw
        have hlen : rw'.length = 21 := by rw [← hrw]; rfl
        rw [hrw] at HRg
        clear hnx hx hrw
        obtain ⟨x0, x1, x2, x3, x4, x5, x6, x7, x8, x9, y0, y1, y2, y3, y4, y5, y6, y7, y8, y9, z0, rfl⟩ := list21 hlen
        clear hlen
        go_upto_region 5 with (fail)
        have hcH := held_cell
        refine region_rel (by kernel_rfl) (by kernel_rfl) ?_
        repeat
          ((with_reducible refine relStep (fun K hK => ?_))
           (have HK := Lib.hid hK)
           clear hK
           (apply relInl
            · intro r n hf
              have Hf := Lib.hid hf
              clear hf
              (first
                | (fail)
                | (unfold relAt
                   go_simp
                   (first | (refine relUpon_val ?_ (Below.refl _ _); exact rfl) | exact rfl | (refine relUpon_enter ?_; fail))))
            (simp only [Act.put, List.setIfInBounds_toArray, List.set_cons_zero, List.set_cons_succ])
            (with_reducible refine HK.out _ _ ?_)
            clear HK K))
        refine relNil ?_
        intro r9 n9 hx9
        clear hcH
        (try simp only [List.nil_append, List.cons_append, List.mem_cons, List.not_mem_nil, or_false, forall_eq_or_imp, forall_eq, false_implies, implies_true] at hx9)
        obtain ⟨w9, hb9⟩ := n9
        (try dsimp only)
        obtain ⟨hc9, hf9⟩ := bcell hb9
        have hz9 := hb9.size
        (try simp at hz9)
        have HB9 := Lib.hid (HB.out.trans (hb9.mono hbz))
        have HO9 := Lib.hid (own_kept HO.out hb9)
        have HRg9 := Lib.hid (rangeAt_mono HRg.out hb hb9)
        have hbz9 := Nat.le_trans hbz hz9
        clear hb9 hc9 hf9 hz9 HRg HO HB
        go_wp2_with (first
          | ((with_reducible refine at_load (ty := 55) ?_); refine load_cells rfl 55 (.tmp 26) rfl b (o + k * 21) rfl [x0, x1, x2, x3, x4, x5, x6, x7, x8, x9, y0, y1, y2, y3, y4, y5, y6, y7, y8, y9, z0] _ Tryz.underlying55 rfl (by kernel_rfl) HRg9.out ?_)
          | (at_builtin; refine wpList_append_src rfl (.tmp 23) (.tmp 28) 23 rfl W.heap.size 55 i0 _ 21 288 Tryz.underlying23 Hi.out Hz0.out Hz1.out Hz2.out rfl (by decide) _ Q.length (Q.flatMap brow) rfl (HO9.out.alloc _) (some ⟨w9.heap.size, 0, none⟩) 1 1 [x0, x1, x2, x3, x4, x5, x6, x7, x8, x9, y0, y1, y2, y3, y4, y5, y6, y7, y8, y9, z0] rfl rfl (fun q e => by injection e with e; rw [← e]; exact news_at _ _ _) (fun e => by cases e) (HP.out ▸ brow_one m) (by unfold maxLen; omega) (by omega) (by simp; omega) ?_; intro v6 w6 hown6 hgrow6; obtain ⟨a6, k6, rfl⟩ := own_sl hown6; have HB6 := Lib.hid (own_below (HO9.out.alloc _) (HB9.out.alloc hbz9 _) (by simp; omega) hgrow6); have HO6 := Lib.hid hown6; clear hown6 hgrow6))
        go_roundw
        case rel =>
          refine ⟨k + 1, Q ++ [m], by omega, by go_num, HNx.out.symm ▸ rfl, by rw [List.length_append]; show Q.length + 1 ≤ _; omega, ?_, HB6.out⟩
          rw [List.length_append, List.flatMap_append]
          have h9 := HO6.out
          rw [← HP.out] at h9
          simpa using h9
        case measure => simp [intOf]; omega
    · obtain rfl : k = n := by omega
      have hQe : Q = butL bs p.nm := by rw [hE, List.take_of_length_le (by rw [HN.out]; exact Nat.le_refl _)]
      have HQ := Lib.hid hQe
      have HRp := Lib.hid (show wr.rangeAt w.heap.size 0 [.string (p).nm, .int .i64 (p).n0, .int .i64 (p).n1, .int .i64 (p).n2, .int .i64 (p).n3, .int .i64 (p).n4, .slice (p).la (p).labs.length (p).lk, .slice (p).sa (p).sels.length (p).sk, .slice (p).ta (p).trms.length (p).tk, .slice (p).ba (p).bers.length (p).bk, .slice (p).pa (p).prts.length (p).pk, .slice (p).aa (p).aprs.length (p).ak, .bool (p).wd, .slice (p).da (p).spds.length (p).dk, .int .i64 (p).sw, .int .i64 (p).rk, .string (p).ow, .bool (p).dm, .bool (p).pn, .bool (p).lc] from hXr.range)
      have HBw := Lib.hid (HB0.out.trans (hB.mono HB0.out.size))
      clear hE hO hB hXr d0 HX0 HF hQe
      go_wp2_with (first
        | ((with_reducible refine at_load (ty := 31) ?_); refine load_cells rfl 31 (.tmp 4) rfl w.heap.size 0 rfl [.string (p).nm, .int .i64 (p).n0, .int .i64 (p).n1, .int .i64 (p).n2, .int .i64 (p).n3, .int .i64 (p).n4, .slice (p).la (p).labs.length (p).lk, .slice (p).sa (p).sels.length (p).sk, .slice (p).ta (p).trms.length (p).tk, .slice (p).ba (p).bers.length (p).bk, .slice (p).pa (p).prts.length (p).pk, .slice (p).aa (p).aprs.length (p).ak, .bool (p).wd, .slice (p).da (p).spds.length (p).dk, .int .i64 (p).sw, .int .i64 (p).rk, .string (p).ow, .bool (p).dm, .bool (p).pn, .bool (p).lc] _ Tryz.underlying31 rfl (by kernel_rfl) HRp.out ?_)
        | (go_at_call 41; (with_reducible refine (HC.out _ HBw.out).mono ?_); rintro e w3 ⟨⟨p', rfl, hpe, hpi, hpf⟩, hb3⟩; have HPe := Lib.hid hpe; have HPi := Lib.hid hpi; have HPf := Lib.hid hpf; have HB3 := Lib.hid (HB.out.trans (hb3.mono hbz)); have hbz3 := Nat.le_trans hbz hb3.size; have HO3 := Lib.hid (own_kept HO.out hb3); have HS3 := Lib.hid (show ∀ g, (Value.slice ao Q.length ko).ownBlock = some g → g < wr.heap.size from fun g hg => (HO.out.lt g hg).2); have hz3 := hb3.size; clear hb3 hpe hpi hpf)
        | (at_builtin; refine wpList_append_src rfl (.tmp 31) (.tmp 36) 23 rfl W.heap.size 55 i0 _ 21 288 Tryz.underlying23 Hi.out Hz0.out Hz1.out Hz2.out rfl (by decide) _ Q.length (Q.flatMap brow) rfl (HO3.out.alloc _) (some ⟨w3.heap.size, 0, none⟩) 1 1 [.string (p').nm, .int .i64 (p').n0, .int .i64 (p').n1, .int .i64 (p').n2, .int .i64 (p').n3, .int .i64 (p').n4, .slice (p').la (p').labs.length (p').lk, .slice (p').sa (p').sels.length (p').sk, .slice (p').ta (p').trms.length (p').tk, .slice (p').ba (p').bers.length (p').bk, .slice (p').pa (p').prts.length (p').pk, .slice (p').aa (p').aprs.length (p').ak, .bool (p').wd, .slice (p').da (p').spds.length (p').dk, .int .i64 (p').sw, .int .i64 (p').rk, .string (p').ow, .bool (p').dm, .bool (p').pn, .bool (p').lc, .string on] rfl rfl (fun q e => by injection e with e; rw [← e]; exact news_at _ _ _) (fun e => by cases e) (brow_one ⟨p', on⟩) (by unfold maxLen; omega) (by omega) (by simp; omega) ?_; intro v6 w6 hown6 hgrow6; obtain ⟨a6, k6, rfl⟩ := own_sl hown6; have HG6 := Lib.hid (show World.grownBy _ w6 (Value.slice ao Q.length ko).ownBlock from hgrow6); have HB6 := Lib.hid (own_below (HO3.out.alloc _) (HB3.out.alloc hbz3 _) (by simp; omega) hgrow6); have HO6 := Lib.hid hown6; clear hown6 hgrow6))
      have hfl : (Q ++ [(⟨p', on⟩ : Bd)]).flatMap brow = Q.flatMap brow ++ brow ⟨p', on⟩ := by rw [List.flatMap_append]; simp
      have hpts := own_parts (l := Q ++ [(⟨p', on⟩ : Bd)]) (a := a6) (k := k6) (w := w6) (B := W.heap.size) (t := 55) brow_len (by decide) (by rw [hfl, List.length_append]; exact HO6.out)
      rw [List.length_append] at hpts
      have hon : Only (Value.slice ao Q.length ko).ownBlock.toList w3 w6 := ((Only.refl _ _).alloc _).grown HG6.out (fun g hg => .inl (by rw [hg]; simp))
      refine bodyPost_ret (v := .slice a6 (Q.length + 1) k6) (by simp [results, Tryz.results19, go_sem]) rfl ⟨⟨a6, k6, p', by rw [← HQ.out], HPe.out, by rw [← HQ.out]; exact hpts.1, HPi.out.only HPf.out hon (fun g hg => HS3.out g (by simpa using hg)), by rw [← HQ.out]; exact hpts.2.1, by rw [← HQ.out]; exact hpts.2.2⟩, HB0.out.trans (HB6.out.mono HB0.out.size)⟩
end Go.Proofs.YthbpnfpalcgfeaaGreat
