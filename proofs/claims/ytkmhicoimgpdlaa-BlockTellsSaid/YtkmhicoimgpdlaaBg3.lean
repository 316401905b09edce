/-
  Budgets: May.
-/
import Derived.Test.YtkmhicoimgpdlaaBg2
namespace Go.Proofs.Ytkmhicoimgpdlaa
open Go.RowKit
set_option linter.unusedVariables false
set_option linter.unusedSimpArgs false

theorem idx_find {α : Type} (P : α → Bool) : ∀ (l : List α), (l.find? P = none ∧ l.any P = false) ∨ ∃ (k : Nat) (x : α), l[k]? = some x ∧ (l.take k).any P = false ∧ P x = true ∧ l.find? P = some x
  | [] => .inl ⟨rfl, rfl⟩
  | y :: l => by
    by_cases h : P y = true
    · exact .inr ⟨0, y, rfl, rfl, h, List.find?_cons_of_pos h⟩
    · have h' : P y = false := by simpa using h
      rcases idx_find P l with ⟨h1, h2⟩ | ⟨k, x, h1, h2, h3, h4⟩
      · exact .inl ⟨by rw [List.find?_cons_of_neg h, h1], by rw [List.any_cons, h', h2]; rfl⟩
      · exact .inr ⟨k + 1, x, by simpa using h1, by rw [List.take_succ_cons, List.any_cons, h', h2]; rfl, h3, by rw [List.find?_cons_of_neg h, h4]⟩
/-- Which budgets a pod may not be stopped for. -/
def minQ (bs : List Bd) (p : Pd) (b : Bg) : Bool := Lb.hasP p.labs b.mt && decide (spareB b bs ≤ 0)
def mayE (l : List Bg) (bs : List Bd) (nm : ByteArray) : Int := match bs.find? (stQ nm true) with
  | none => if bs.any (stQ nm false) = true then 22 else 16
  | some x => if l.any (minQ bs x.p) = true then 20 else 0
/-- Light budgets that came in. -/
structure BA (w : World) (d : Option Addr) (l : List Bg) : Prop where
  bl : BgL w d l
  bi : ∀ b ∈ l, BgIn w b
  ll : l.length ≤ 1000
  ml : ∀ b ∈ l, b.mt.length ≤ 1000
  l0 : ∀ b ∈ l, 0 ≤ b.le ∧ b.le ≤ 1000000
theorem BA.mono {w w' : World} {d : Option Addr} {l : List Bg} (h : BA w d l) (hb : Below w.heap.size w w') : BA w' d l := ⟨h.bl.mono hb, fun b hx => (h.bi b hx).mono hb, h.ll, h.ml, h.l0⟩
set_option maxRecDepth 100000 in
set_option maxHeartbeats 16000000 in
theorem may_any (d c : Option Addr) (kd kc : Nat) (l : List Bg) (bs : List Bd) (nm : ByteArray) (w : World) (hD : BA w d l) (hG : BndL w c bs) (hI : ∀ x ∈ bs, PodAt w x.p) (hl : bs.length ≤ 1000) (hlb : ∀ x ∈ bs, x.p.labs.length ≤ 1000) :
    Calls Try.prog 79 #[.slice d l.length kd, .slice c bs.length kc, .string nm] w fun e w' => e = .returned (.int .i64 (mayE l bs nm)) ∧ Below w.heap.size w w' := by
  have hf1 := fun V (hV : Below w.heap.size w V) => bfind_any c kc bs nm true V (hG.mono hV) (by omega)
  have hf2 := fun V (hV : Below w.heap.size w V) => bfind_any c kc bs nm false V (hG.mono hV) (by omega)
  have hcv := fun (b : Bg) (hb : b ∈ l) (x : Bd) (hx : x ∈ bs) V (hV : Below w.heap.size w V) => covers_any b x.p V ((hD.bi b hb).mono hV) ((hI x hx).mono hV) (by have := hD.ml b hb; omega) (by have := hlb x hx; omega)
  have hsp := fun (b : Bg) (hb : b ∈ l) V (hV : Below w.heap.size w V) => spare_any b c kc bs V ((hD.bi b hb).mono hV) (hG.mono hV) (fun x hx => (hI x hx).mono hV) (by omega) (by have := hD.ml b hb; omega) (fun x hx => by have := hlb x hx; omega) (hD.l0 b hb).1 (hD.l0 b hb).2
  obtain ⟨N, hN⟩ : ∃ N, bs.length = N := ⟨_, rfl⟩
  obtain ⟨n, hn⟩ : ∃ n, l.length = n := ⟨_, rfl⟩
  have hll := hD.ll
  rw [hn] at hll
  have Hn := Lib.hid hn
  have HN := Lib.hid hN
  have HG := Lib.hid hG
  have HD := Lib.hid hD.bl
  rw [hN] at hf1 hf2 hl
  rw [hN, hn]
  obtain ⟨R, hR⟩ : ∃ R, mayE l bs nm = R := ⟨_, rfl⟩
  rw [hR]
  unfold mayE at hR
  rcases idx_find (stQ nm true) bs with ⟨e1, e2⟩ | ⟨k, x, e1, e2, e3, e4⟩
  · rw [e1] at hR
    rw [idx_none e2] at hf1
    have HF1 := Lib.hid hf1
    rcases idx_find (stQ nm false) bs with ⟨g1, g2⟩ | ⟨k, x, g1, g2, g3, g4⟩
    · obtain rfl : R = 16 := by rw [← hR, g2]; rfl
      rw [idx_none g2] at hf2
      have HF2 := Lib.hid hf2
      clear hf1 hf2 hcv hsp hR hN hn hG hI hlb hD e1 e2 g1 g2
      go_enter Try.func79, Try.ntmps79
      go_wp2_with (go_at_call 81; (first | ((with_reducible refine (HF2.out _ HB1.out).mono ?_); rintro e w2 ⟨rfl, hb⟩; have HB2 := Lib.hid (HB1.out.trans (hb.mono HB1.out.size)); clear hb) | ((with_reducible refine (HF1.out _ (Below.refl _ _)).mono ?_); rintro e w1 ⟨rfl, hb⟩; have HB1 := Lib.hid hb; clear hb)))
      go_ret
      exact ⟨rfl, HB2.out⟩
    · have hk0 : ((k : Int) < 0) = False := by simp
      obtain rfl : R = 22 := by rw [← hR]; exact if_pos (List.any_eq_true.2 ⟨x, List.mem_of_getElem? g1, g3⟩)
      rw [Lb.idx_at g1 g2 g3] at hf2
      have HF2 := Lib.hid hf2
      clear hf1 hf2 hcv hsp hR hN hn hG hI hlb hD e1 e2 g1 g2 g3 g4
      go_enter Try.func79, Try.ntmps79
      go_wp2_with (go_at_call 81; (first | ((with_reducible refine (HF2.out _ HB1.out).mono ?_); rintro e w2 ⟨rfl, hb⟩; have HB2 := Lib.hid (HB1.out.trans (hb.mono HB1.out.size)); clear hb) | ((with_reducible refine (HF1.out _ (Below.refl _ _)).mono ?_); rintro e w1 ⟨rfl, hb⟩; have HB1 := Lib.hid hb; clear hb)))
      go_ret
      exact ⟨rfl, HB2.out⟩
  · have hk0 : ((k : Int) < 0) = False := by simp
    rw [e4] at hR
    have HR := Lib.hid (show (if l.any (minQ bs x.p) = true then (20 : Int) else 0) = R from hR)
    rw [Lb.idx_at e1 e2 e3] at hf1
    have HF1 := Lib.hid hf1
    have hxm := List.mem_of_getElem? e1
    have HCv := Lib.hid (fun (b : Bg) (hb : b ∈ l) => hcv b hb x hxm)
    have HSp := Lib.hid hsp
    have HX := Lib.hid e1
    have hkN : k < N := by rw [← hN]; exact (List.getElem?_eq_some_iff.1 e1).1
    clear hf1 hf2 hcv hsp hR hN hn hG hI hlb hD e1 e2 e3 e4 hxm
    go_enter Try.func79, Try.ntmps79
    go_wp2_with (go_at_call 81; (with_reducible refine (HF1.out _ (Below.refl _ _)).mono ?_); rintro e w1 ⟨rfl, hb⟩; have HB1 := Lib.hid hb; clear hb)
    go_loopw [27] (fun vi wr => ∃ j : Nat, j ≤ n ∧ vi = .int .i64 j ∧ (l.take j).any (minQ bs x.p) = false ∧ Below w.heap.size w wr) (fun vi _ => n - (intOf vi).toNat)
    case atStart => exact ⟨0, Nat.zero_le _, rfl, rfl, HB1.out⟩
    case round =>
      obtain ⟨j, hj, rfl, hE, hB⟩ := hrel
      have hbz := hB.size
      by_cases hlt : j < n
      · obtain ⟨b, hb⟩ := mem_at (l := l) (k := j) (by rw [Hn.out]; exact hlt)
        have hbm := List.mem_of_getElem? hb
        obtain ⟨qb, ob, rfl, hqb, hcb⟩ := (HD.out.mono hB) (by rw [Hn.out]; omega)
        obtain ⟨qx, ox, rfl, hqx, hcx⟩ := (HG.out.mono hB) (by rw [HN.out]; omega)
        have HRb := Lib.hid (show wr.rangeAt qb (ob + j * 3) [.string b.nm, .slice b.ma b.mt.length b.mk', .int .i64 b.le] from fun i v hi => by
          have hi3 : i < 3 := (List.getElem?_eq_some_iff.1 hi).1
          rw [hcb j b hb i hi3]
          exact hi)
        have HYes := Lib.hid (fun (h : minQ bs x.p b = true) => show R = 20 by rw [← HR.out]; exact if_pos (List.any_eq_true.2 ⟨b, hbm, h⟩))
        have HNo := Lib.hid (fun (h : minQ bs x.p b = false) => show (l.take (j + 1)).any (minQ bs x.p) = false from Lb.any_take1 hb h hE)
        obtain ⟨Z, hZ⟩ : ∃ Z, wr.heap.size = Z := ⟨_, rfl⟩
        obtain ⟨w5, hw5⟩ : ∃ V, V = wr.alloc (.cells #[.string b.nm, .slice b.ma b.mt.length b.mk', .int .i64 b.le] 53) := ⟨_, rfl⟩
        have HZ5 := Lib.hid (show Box Z (bgrow b) w5 by rw [hw5, ← hZ]; exact Box.new wr (bgrow b) 53)
        have hba : Below wr.heap.size wr w5 := by rw [hw5]; exact (Below.refl _ _).alloc (Nat.le_refl _) _
        have HB5 := Lib.hid (hB.trans (hba.mono hbz))
        have HRx := Lib.hid (show w5.rangeAt qx (ox + k * 21) [.string (x.p).nm, .int .i64 (x.p).n0, .int .i64 (x.p).n1, .int .i64 (x.p).n2, .int .i64 (x.p).n3, .int .i64 (x.p).n4, .slice (x.p).la (x.p).labs.length (x.p).lk, .slice (x.p).sa (x.p).sels.length (x.p).sk, .slice (x.p).ta (x.p).trms.length (x.p).tk, .slice (x.p).ba (x.p).bers.length (x.p).bk, .slice (x.p).pa (x.p).prts.length (x.p).pk, .slice (x.p).aa (x.p).aprs.length (x.p).ak, .bool (x.p).wd, .slice (x.p).da (x.p).spds.length (x.p).dk, .int .i64 (x.p).sw, .int .i64 (x.p).rk, .string (x.p).ow, .bool (x.p).dm, .bool (x.p).pn, .bool (x.p).lc] from rangeAt_mono (fun i v hi => by
          have hi20 : i < 20 := (List.getElem?_eq_some_iff.1 hi).1
          rw [hcx k x HX.out i (by omega)]
          show (prow x.p ++ [.string x.on])[i]? = _
          rw [List.getElem?_append_left (by rw [prow_len]; exact hi20)]
          exact hi) hqx hba)
        have hqx5 := Nat.lt_of_lt_of_le hqx hba.size
        have HRz := Lib.hid (show w5.rangeAt Z 0 [.string b.nm, .slice b.ma b.mt.length b.mk', .int .i64 b.le] from HZ5.out.range)
        have hlz := HZ5.out.lt
        have HP := Lib.hid (bgrow_one b)
        obtain ⟨h, hh⟩ : ∃ h, Lb.hasP x.p.labs b.mt = h := ⟨_, rfl⟩
        obtain ⟨s, hs⟩ : ∃ s, spareB b bs = s := ⟨_, rfl⟩
        have hmq : minQ bs x.p b = (h && decide (s ≤ 0)) := by unfold minQ; rw [hh, hs]
        rw [hmq] at HYes HNo
        have HCb := Lib.hid (show ∀ V, Below w.heap.size w V → Calls Try.prog 87 #[.agg #[.string b.nm, .slice b.ma b.mt.length b.mk', .int .i64 b.le], .agg #[.string (x.p).nm, .int .i64 (x.p).n0, .int .i64 (x.p).n1, .int .i64 (x.p).n2, .int .i64 (x.p).n3, .int .i64 (x.p).n4, .slice (x.p).la (x.p).labs.length (x.p).lk, .slice (x.p).sa (x.p).sels.length (x.p).sk, .slice (x.p).ta (x.p).trms.length (x.p).tk, .slice (x.p).ba (x.p).bers.length (x.p).bk, .slice (x.p).pa (x.p).prts.length (x.p).pk, .slice (x.p).aa (x.p).aprs.length (x.p).ak, .bool (x.p).wd, .slice (x.p).da (x.p).spds.length (x.p).dk, .int .i64 (x.p).sw, .int .i64 (x.p).rk, .string (x.p).ow, .bool (x.p).dm, .bool (x.p).pn, .bool (x.p).lc]] V fun e w' => e = .returned (.bool h) ∧ Below V.heap.size V w' from fun V hV => by
          have h9 := HCv.out b hbm V hV
          rw [hh] at h9
          exact h9)
        have HSb := Lib.hid (show ∀ V, Below w.heap.size w V → Calls Try.prog 88 #[.agg #[.string b.nm, .slice b.ma b.mt.length b.mk', .int .i64 b.le], .slice (some ⟨qx, ox, none⟩) N kc] V fun e w' => e = .returned (.int .i64 s) ∧ Below V.heap.size V w' from fun V hV => by
          have h9 := HSp.out b hbm V hV
          rw [hs, HN.out] at h9
          exact h9)
        clear hE hB hb hbm hcb hcx hh hs hmq hba
        go_upto_region 9 with (first
          | ((with_reducible refine at_load (ty := 53) ?_); refine load_cells rfl 53 (.tmp 29) rfl qb (ob + j * 3) rfl [.string b.nm, .slice b.ma b.mt.length b.mk', .int .i64 b.le] _ Try.underlying53 rfl (by kernel_rfl) HRb.out ?_)
          | ((with_reducible refine at_store (ty := 53) ?_); refine store_new rfl 53 (.tmp 9) (.tmp 30) rfl _ _ (by first | rfl | (show _ = Value.pointer (some ⟨wr.heap.size, 0, none⟩); rw [hZ]; rfl)) rfl (by kernel_rfl) rfl (List.all_eq_true.2 HP.out) rfl ?_))
        (try rw [hZ])
        rw [← hw5]
        clear hw5 hZ
        have C : (h = false) ∨ (h = true ∧ s ≤ 0) ∨ (h = true ∧ ¬ s ≤ 0) := by
          cases h
          · exact .inl rfl
          · by_cases h9 : s ≤ 0
            · exact .inr (.inl ⟨rfl, h9⟩)
            · exact .inr (.inr ⟨rfl, h9⟩)
        rcases C with rfl | ⟨rfl, hs0⟩ | ⟨rfl, hs0⟩
        · have HNx := Lib.hid (HNo.out rfl)
          clear HYes HNo
          have hcH := held_cell
          refine region_rel (by kernel_rfl) (by kernel_rfl) ?_
          repeat
            ((with_reducible refine relStep (fun K hK => ?_))
             (have HK := Lib.hid hK)
             clear hK
             (apply relInl
              · intro r n hf
                have Hf := Lib.hid hf
                clear hf
                (first
                  | ((first | ((with_reducible refine at_rel (ty := 50) ?_); refine rel_load rfl qx (ox + k * 21) rfl _ _ Try.underlying50 rfl (by kernel_rfl) (rangeAt_mono HRx.out hqx5 n.below) rfl) | ((with_reducible refine at_rel (ty := 53) ?_); refine rel_load rfl Z 0 rfl _ _ Try.underlying53 rfl (by kernel_rfl) (rangeAt_mono HRz.out hlz n.below) rfl)))
                  | (unfold relAt
                     go_simp
                     (first | (refine relUpon_val ?_ (Below.refl _ _); exact rfl) | exact rfl | (refine relUpon_enter ?_; (first | (go_at_call 87; (with_reducible refine (HCb.out _ (HB5.out.trans (n.below.mono HB5.out.size))).mono ?_); rintro e w9 ⟨rfl, hb⟩; exact ⟨⟨_, rfl, rfl⟩, hb⟩) | (go_at_call 88; (with_reducible refine (HSb.out _ (HB5.out.trans (n.below.mono HB5.out.size))).mono ?_); rintro e w9 ⟨rfl, hb⟩; exact ⟨⟨_, rfl, rfl⟩, hb⟩))))))
              (simp only [Act.put, List.setIfInBounds_toArray, List.set_cons_zero, List.set_cons_succ])
              (with_reducible refine HK.out _ _ ?_)
              clear HK K))
          refine relNil ?_
          intro r9 n9 hx9
          clear hcH
          (try simp only [List.nil_append, List.cons_append, List.mem_cons, List.not_mem_nil, or_false, forall_eq_or_imp, forall_eq, false_implies, implies_true] at hx9)
          obtain ⟨w9, hb9⟩ := n9
          (try dsimp only)
          obtain ⟨hc9, hf9⟩ := bcell hb9
          have hz9 := hb9.size
          (try simp at hz9)
          have HB9 := Lib.hid (HB5.out.trans (hb9.mono HB5.out.size))
          clear hb9 hc9 hf9 hz9
          go_wp2
          go_roundw
          case rel => exact ⟨j + 1, by omega, by go_num, HNx.out, HB9.out⟩
          case measure => simp [intOf]; omega
        · have HRt := Lib.hid (HYes.out (by rw [decide_eq_true hs0]; rfl))
          have hs1 : (s ≤ 0) = True := eq_true hs0
          clear HYes HNo
          have hcH := held_cell
          refine region_rel (by kernel_rfl) (by kernel_rfl) ?_
          repeat
            ((with_reducible refine relStep (fun K hK => ?_))
             (have HK := Lib.hid hK)
             clear hK
             (apply relInl
              · intro r n hf
                have Hf := Lib.hid hf
                clear hf
                (first
                  | ((first | ((with_reducible refine at_rel (ty := 50) ?_); refine rel_load rfl qx (ox + k * 21) rfl _ _ Try.underlying50 rfl (by kernel_rfl) (rangeAt_mono HRx.out hqx5 n.below) rfl) | ((with_reducible refine at_rel (ty := 53) ?_); refine rel_load rfl Z 0 rfl _ _ Try.underlying53 rfl (by kernel_rfl) (rangeAt_mono HRz.out hlz n.below) rfl)))
                  | (unfold relAt
                     go_simp
                     (first | (refine relUpon_val ?_ (Below.refl _ _); exact rfl) | exact rfl | (refine relUpon_enter ?_; (first | (go_at_call 87; (with_reducible refine (HCb.out _ (HB5.out.trans (n.below.mono HB5.out.size))).mono ?_); rintro e w9 ⟨rfl, hb⟩; exact ⟨⟨_, rfl, rfl⟩, hb⟩) | (go_at_call 88; (with_reducible refine (HSb.out _ (HB5.out.trans (n.below.mono HB5.out.size))).mono ?_); rintro e w9 ⟨rfl, hb⟩; exact ⟨⟨_, rfl, rfl⟩, hb⟩))))))
              (simp only [Act.put, List.setIfInBounds_toArray, List.set_cons_zero, List.set_cons_succ])
              (with_reducible refine HK.out _ _ ?_)
              clear HK K))
          refine relNil ?_
          intro r9 n9 hx9
          clear hcH
          (try simp only [List.nil_append, List.cons_append, List.mem_cons, List.not_mem_nil, or_false, forall_eq_or_imp, forall_eq, false_implies, implies_true] at hx9)
          obtain ⟨w9, hb9⟩ := n9
          (try dsimp only)
          obtain ⟨hc9, hf9⟩ := bcell hb9
          have hz9 := hb9.size
          (try simp at hz9)
          have HB9 := Lib.hid (HB5.out.trans (hb9.mono HB5.out.size))
          clear hb9 hc9 hf9 hz9
          go_wp2
          go_ret
          exact ⟨by first | rfl | (rw [HRt.out]; first | done | rfl), HB9.out⟩
        · have HNx := Lib.hid (HNo.out (by rw [decide_eq_false hs0]; rfl))
          have hs1 : (s ≤ 0) = False := eq_false hs0
          clear HYes HNo
          have hcH := held_cell
          refine region_rel (by kernel_rfl) (by kernel_rfl) ?_
          repeat
            ((with_reducible refine relStep (fun K hK => ?_))
             (have HK := Lib.hid hK)
             clear hK
             (apply relInl
              · intro r n hf
                have Hf := Lib.hid hf
                clear hf
                (first
                  | ((first | ((with_reducible refine at_rel (ty := 50) ?_); refine rel_load rfl qx (ox + k * 21) rfl _ _ Try.underlying50 rfl (by kernel_rfl) (rangeAt_mono HRx.out hqx5 n.below) rfl) | ((with_reducible refine at_rel (ty := 53) ?_); refine rel_load rfl Z 0 rfl _ _ Try.underlying53 rfl (by kernel_rfl) (rangeAt_mono HRz.out hlz n.below) rfl)))
                  | (unfold relAt
                     go_simp
                     (first | (refine relUpon_val ?_ (Below.refl _ _); exact rfl) | exact rfl | (refine relUpon_enter ?_; (first | (go_at_call 87; (with_reducible refine (HCb.out _ (HB5.out.trans (n.below.mono HB5.out.size))).mono ?_); rintro e w9 ⟨rfl, hb⟩; exact ⟨⟨_, rfl, rfl⟩, hb⟩) | (go_at_call 88; (with_reducible refine (HSb.out _ (HB5.out.trans (n.below.mono HB5.out.size))).mono ?_); rintro e w9 ⟨rfl, hb⟩; exact ⟨⟨_, rfl, rfl⟩, hb⟩))))))
              (simp only [Act.put, List.setIfInBounds_toArray, List.set_cons_zero, List.set_cons_succ])
              (with_reducible refine HK.out _ _ ?_)
              clear HK K))
          refine relNil ?_
          intro r9 n9 hx9
          clear hcH
          (try simp only [List.nil_append, List.cons_append, List.mem_cons, List.not_mem_nil, or_false, forall_eq_or_imp, forall_eq, false_implies, implies_true] at hx9)
          obtain ⟨w9, hb9⟩ := n9
          (try dsimp only)
          obtain ⟨hc9, hf9⟩ := bcell hb9
          have hz9 := hb9.size
          (try simp at hz9)
          have HB9 := Lib.hid (HB5.out.trans (hb9.mono HB5.out.size))
          clear hb9 hc9 hf9 hz9
          go_wp2
          go_roundw
          case rel => exact ⟨j + 1, by omega, by go_num, HNx.out, HB9.out⟩
          case measure => simp [intOf]; omega
      · obtain rfl : j = n := by omega
        have HRf := Lib.hid (show R = 0 by
          have h9 := hE
          rw [List.take_of_length_le (by rw [Hn.out]; exact Nat.le_refl _)] at h9
          rw [← HR.out, h9]
          rfl)
        have HBf := Lib.hid hB
        clear hE hB
        go_wp2
        go_ret
        exact ⟨by first | rfl | (rw [HRf.out]; first | done | rfl), HBf.out⟩
end Go.Proofs.Ytkmhicoimgpdlaa
