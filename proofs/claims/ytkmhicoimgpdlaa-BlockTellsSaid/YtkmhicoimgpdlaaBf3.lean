/-
  Budgets of the document: May.
-/
import Derived.Test.YtkmhicoimgpdlaaBf2
import Derived.Test.YtkmhicoimgpdlaaNJ
namespace Go.Proofs.Ytkmhicoimgpdlaa
open Go.RowKit
set_option linter.unusedVariables false
set_option linter.unusedSimpArgs false

/-- Bound pods whose names stand once, labels in order. -/
structure BO (bs : List Bd) : Prop where
  tw : twiceN (bs.map pnm) = false
  so : ∀ x ∈ bs, Lb.Sorted x.p.labs
  ln : bs.length ≤ 1000
  ll : ∀ x ∈ bs, x.p.labs.length ≤ 1000
theorem BO.ev {bs : List Bd} (h : BO bs) (nm : ByteArray) : BO (evBs nm bs) := by
  have hp : ∀ x ∈ evBs nm bs, ∃ y ∈ bs, x.p = y.p := ev_mem nm bs
  refine ⟨by rw [ev_names]; exact h.tw, fun x hx => ?_, by rw [ev_len]; exact h.ln, fun x hx => ?_⟩
  · obtain ⟨y, hy, e⟩ := hp x hx
    rw [e]
    exact h.so y hy
  · obtain ⟨y, hy, e⟩ := hp x hx
    rw [e]
    exact h.ll y hy
set_option maxRecDepth 100000 in
set_option maxHeartbeats 16000000 in
theorem rmay_any (d c : Option Addr) (kd kc : Nat) (l : List Bg) (bs : List Bd) (nm : ByteArray) (w : World) (hD : BA w d l) (hG : BndL w c bs) (hI : ∀ x ∈ bs, PodAt w x.p) (hO : BO bs) :
    Calls Try.prog 35 #[.slice d l.length kd, .slice c bs.length kc, .string nm] w fun e w' => e = .returned (.int .i64 (mayE l bs nm)) ∧ Below w.heap.size w w' := by
  have hl := hO.ln
  have hf1 := fun V (hV : Below w.heap.size w V) => rplace_any c kc bs nm V (hG.mono hV) (by omega)
  have hcv := fun (b : Bg) (hb : b ∈ l) (x : Bd) (hx : x ∈ bs) V (hV : Below w.heap.size w V) => Lb.refhas_any x.p.la b.ma x.p.lk b.mk' x.p.labs b.mt V ((hI x hx).mono hV).labs ((hD.bi b hb).mono hV).mt (by have := hO.ll x hx; omega) (by have := hD.ml b hb; omega) (hO.so x hx)
  have hsp := fun (b : Bg) (hb : b ∈ l) V (hV : Below w.heap.size w V) => rspare_any b c kc bs V ((hD.bi b hb).mono hV) (hG.mono hV) (fun x hx => (hI x hx).mono hV) (by omega) (by have := hD.ml b hb; omega) (fun x hx => by have := hO.ll x hx; omega) hO.so (hD.l0 b hb).1 (hD.l0 b hb).2
  have hpc := place_cases (l := l) hO.tw nm
  obtain ⟨N, hN⟩ : ∃ N, bs.length = N := ⟨_, rfl⟩
  obtain ⟨n, hn⟩ : ∃ n, l.length = n := ⟨_, rfl⟩
  have hll := hD.ll
  rw [hn] at hll
  have Hn := Lib.hid hn
  have HN := Lib.hid hN
  have HG := Lib.hid hG
  have HD := Lib.hid hD.bl
  rw [hN] at hf1 hl
  rw [hN, hn]
  obtain ⟨R, hR⟩ : ∃ R, mayE l bs nm = R := ⟨_, rfl⟩
  rw [hR] at hpc ⊢
  obtain ⟨F, hF⟩ : ∃ F, findN (bs.map pnm) nm 0 = F := ⟨_, rfl⟩
  rw [hF] at hpc hf1
  have HF1 := Lib.hid hf1
  have HCv := Lib.hid hcv
  have HSp := Lib.hid hsp
  clear hf1 hcv hsp hR hN hn hG hI hO hD hF
  rcases hpc with ⟨rfl, rfl⟩ | ⟨k, x, e1, rfl, ⟨e2, rfl⟩ | ⟨e2, -, -, e3⟩⟩
  · go_enter Try.func35, Try.ntmps35
    go_wp2_with (go_at_call 36; (with_reducible refine (HF1.out _ (Below.refl _ _)).mono ?_); rintro e w1 ⟨rfl, hb⟩; have HB1 := Lib.hid hb; clear hb)
    go_ret
    exact ⟨rfl, HB1.out⟩
  · have hk0 : ((k : Int) < 0) = False := by simp
    have hkN : k < N := by rw [← HN.out]; exact (List.getElem?_eq_some_iff.1 e1).1
    have q1 := (emp_yes e2).2.2
    have HX := Lib.hid e1
    obtain ⟨q, o, rfl, hq, hc⟩ := HG.out (by rw [HN.out]; omega)
    have HC20 := Lib.hid (show w.cell? ⟨q, o + k * 21 + 20, none⟩ = some (.string x.on) from hc k x e1 20 (by decide))
    clear e1 e2 hc
    go_enter Try.func35, Try.ntmps35
    go_upto_region 4 with (go_at_call 36; (with_reducible refine (HF1.out _ (Below.refl _ _)).mono ?_); rintro e w1 ⟨rfl, hb⟩; have HB1 := Lib.hid hb; clear hb)
    have c20 : w1.cell? ⟨q, o + k * 21 + 20, none⟩ = some (.string x.on) := (HB1.out.cell (p := ⟨q, o + k * 21 + 20, none⟩) hq).trans HC20.out
    have hq1 := Nat.lt_of_lt_of_le hq HB1.out.size
    go_wp2
    go_ret
    exact ⟨rfl, HB1.out⟩
  · have hk0 : ((k : Int) < 0) = False := by simp
    have hkN : k < N := by rw [← HN.out]; exact (List.getElem?_eq_some_iff.1 e1).1
    have q1 := (emp_no e2).2.2
    have HX := Lib.hid e1
    have hxm := List.mem_of_getElem? e1
    have HCx := Lib.hid (fun (b : Bg) (hb : b ∈ l) => HCv.out b hb x hxm)
    have HR := Lib.hid (show (if l.any (minQ bs x.p) = true then (20 : Int) else 0) = R from e3.symm)
    obtain ⟨q, o, rfl, hq, hc⟩ := HG.out (by rw [HN.out]; omega)
    have HC20 := Lib.hid (show w.cell? ⟨q, o + k * 21 + 20, none⟩ = some (.string x.on) from hc k x e1 20 (by decide))
    have HC6 := Lib.hid (show w.cell? ⟨q, o + k * 21 + 6, none⟩ = some (.slice x.p.la x.p.labs.length x.p.lk) from hc k x e1 6 (by decide))
    clear e1 e2 e3 hc hxm HCv
    go_enter Try.func35, Try.ntmps35
    go_upto_region 4 with (go_at_call 36; (with_reducible refine (HF1.out _ (Below.refl _ _)).mono ?_); rintro e w1 ⟨rfl, hb⟩; have HB1 := Lib.hid hb; clear hb)
    have c20 : w1.cell? ⟨q, o + k * 21 + 20, none⟩ = some (.string x.on) := (HB1.out.cell (p := ⟨q, o + k * 21 + 20, none⟩) hq).trans HC20.out
    have hq1 := Nat.lt_of_lt_of_le hq HB1.out.size
    go_wp2
    clear c20 hq1
    go_loopw [8] (fun vi wr => ∃ j : Nat, j ≤ n ∧ vi = .int .i64 j ∧ (l.take j).any (minQ bs x.p) = false ∧ Below w.heap.size w wr) (fun vi _ => n - (intOf vi).toNat)
    case atStart => exact ⟨0, Nat.zero_le _, rfl, rfl, HB1.out⟩
    case round =>
      obtain ⟨j, hj, rfl, hE, hB⟩ := hrel
      have HB := Lib.hid hB
      by_cases hlt : j < n
      · obtain ⟨b, hb⟩ := mem_at (l := l) (k := j) (by rw [Hn.out]; exact hlt)
        have hbm := List.mem_of_getElem? hb
        obtain ⟨qb, ob, rfl, hqb, hcb⟩ := (HD.out.mono hB) (by rw [Hn.out]; omega)
        have c6 : wr.cell? ⟨q, o + k * 21 + 6, none⟩ = some (.slice x.p.la x.p.labs.length x.p.lk) := (hB.cell (p := ⟨q, o + k * 21 + 6, none⟩) hq).trans HC6.out
        have hqr := Nat.lt_of_lt_of_le hq hB.size
        have c1 : wr.cell? ⟨qb, ob + j * 3 + 1, none⟩ = some (.slice b.ma b.mt.length b.mk') := hcb j b hb 1 (by decide)
        have HRb := Lib.hid (show wr.rangeAt qb (ob + j * 3) [.string b.nm, .slice b.ma b.mt.length b.mk', .int .i64 b.le] from fun i v hi => by
          have hi3 : i < 3 := (List.getElem?_eq_some_iff.1 hi).1
          rw [hcb j b hb i hi3]
          exact hi)
        have HYes := Lib.hid (fun (h : minQ bs x.p b = true) => show R = 20 by rw [← HR.out]; exact if_pos (List.any_eq_true.2 ⟨b, hbm, h⟩))
        have HNo := Lib.hid (fun (h : minQ bs x.p b = false) => show (l.take (j + 1)).any (minQ bs x.p) = false from Lb.any_take1 hb h hE)
        obtain ⟨h, hh⟩ : ∃ h, Lb.hasP x.p.labs b.mt = h := ⟨_, rfl⟩
        obtain ⟨s, hs⟩ : ∃ s, spareB b bs = s := ⟨_, rfl⟩
        have hmq : minQ bs x.p b = (h && decide (s ≤ 0)) := by unfold minQ; rw [hh, hs]
        rw [hmq] at HYes HNo
        have HCb := Lib.hid (show ∀ V, Below w.heap.size w V → Calls Try.prog 37 #[.slice x.p.la x.p.labs.length x.p.lk, .slice b.ma b.mt.length b.mk'] V fun e w' => e = .returned (.bool h) ∧ Below V.heap.size V w' from fun V hV => by
          have h9 := HCx.out b hbm V hV
          rw [hh] at h9
          exact h9)
        have HSb := Lib.hid (show ∀ V, Below w.heap.size w V → Calls Try.prog 15 #[.agg #[.string b.nm, .slice b.ma b.mt.length b.mk', .int .i64 b.le], .slice (some ⟨q, o, none⟩) N kc] V fun e w' => e = .returned (.int .i64 s) ∧ Below V.heap.size V w' from fun V hV => by
          have h9 := HSp.out b hbm V hV
          rw [hs, HN.out] at h9
          exact h9)
        have C : (h = false) ∨ (h = true ∧ s ≤ 0) ∨ (h = true ∧ ¬ s ≤ 0) := by
          cases h
          · exact .inl rfl
          · by_cases h9 : s ≤ 0
            · exact .inr (.inl ⟨rfl, h9⟩)
            · exact .inr (.inr ⟨rfl, h9⟩)
        clear hE hB hb hbm hcb hh hs hmq
        rcases C with rfl | ⟨rfl, hs0⟩ | ⟨rfl, hs0⟩
        · have HNx := Lib.hid (HNo.out rfl)
          clear HYes HNo
          go_upto_region 9 with (fail)
          have hcH := held_cell
          refine region_rel (by kernel_rfl) (by kernel_rfl) ?_
          repeat
            ((with_reducible refine relStep (fun K hK => ?_))
             (have HK := Lib.hid hK)
             clear hK
             (apply relInl
              · intro r n hf
                have Hf := Lib.hid hf
                clear hf
                (first
                  | (((with_reducible refine at_rel (ty := 53) ?_); refine rel_load rfl qb (ob + j * 3) rfl [.string b.nm, .slice b.ma b.mt.length b.mk', .int .i64 b.le] _ Try.underlying53 rfl (by kernel_rfl) (rangeAt_mono HRb.out hqb n.below) rfl))
                  | (unfold relAt
                     go_simp
                     (first | (refine relUpon_val ?_ (Below.refl _ _); exact rfl) | exact rfl | (refine relUpon_enter ?_; (first | (go_at_call 37; (with_reducible refine (HCb.out _ (HB.out.trans (n.below.mono HB.out.size))).mono ?_); rintro e w9 ⟨rfl, hb⟩; exact ⟨⟨_, rfl, rfl⟩, hb⟩) | (go_at_call 15; (with_reducible refine (HSb.out _ (HB.out.trans (n.below.mono HB.out.size))).mono ?_); rintro e w9 ⟨rfl, hb⟩; exact ⟨⟨_, rfl, rfl⟩, hb⟩))))))
              (simp only [Act.put, List.setIfInBounds_toArray, List.set_cons_zero, List.set_cons_succ])
              (with_reducible refine HK.out _ _ ?_)
              clear HK K))
          refine relNil ?_
          intro r9 n9 hx9
          clear hcH
          (try simp only [List.nil_append, List.cons_append, List.mem_cons, List.not_mem_nil, or_false, forall_eq_or_imp, forall_eq, false_implies, implies_true] at hx9)
          obtain ⟨w9, hb9⟩ := n9
          (try dsimp only)
          obtain ⟨hc9, hf9⟩ := bcell hb9
          have hz9 := hb9.size
          (try simp at hz9)
          have HB9 := Lib.hid (HB.out.trans (hb9.mono HB.out.size))
          clear hb9 hc9 hf9 hz9 c6 c1 hqr
          go_wp2
          go_roundw
          case rel => exact ⟨j + 1, by omega, by go_num, HNx.out, HB9.out⟩
          case measure => simp [intOf]; omega
        · have HRt := Lib.hid (HYes.out (by rw [decide_eq_true hs0]; rfl))
          have hs1 : (s ≤ 0) = True := eq_true hs0
          clear HYes HNo
          go_upto_region 9 with (fail)
          have hcH := held_cell
          refine region_rel (by kernel_rfl) (by kernel_rfl) ?_
          repeat
            ((with_reducible refine relStep (fun K hK => ?_))
             (have HK := Lib.hid hK)
             clear hK
             (apply relInl
              · intro r n hf
                have Hf := Lib.hid hf
                clear hf
                (first
                  | (((with_reducible refine at_rel (ty := 53) ?_); refine rel_load rfl qb (ob + j * 3) rfl [.string b.nm, .slice b.ma b.mt.length b.mk', .int .i64 b.le] _ Try.underlying53 rfl (by kernel_rfl) (rangeAt_mono HRb.out hqb n.below) rfl))
                  | (unfold relAt
                     go_simp
                     (first | (refine relUpon_val ?_ (Below.refl _ _); exact rfl) | exact rfl | (refine relUpon_enter ?_; (first | (go_at_call 37; (with_reducible refine (HCb.out _ (HB.out.trans (n.below.mono HB.out.size))).mono ?_); rintro e w9 ⟨rfl, hb⟩; exact ⟨⟨_, rfl, rfl⟩, hb⟩) | (go_at_call 15; (with_reducible refine (HSb.out _ (HB.out.trans (n.below.mono HB.out.size))).mono ?_); rintro e w9 ⟨rfl, hb⟩; exact ⟨⟨_, rfl, rfl⟩, hb⟩))))))
              (simp only [Act.put, List.setIfInBounds_toArray, List.set_cons_zero, List.set_cons_succ])
              (with_reducible refine HK.out _ _ ?_)
              clear HK K))
          refine relNil ?_
          intro r9 n9 hx9
          clear hcH
          (try simp only [List.nil_append, List.cons_append, List.mem_cons, List.not_mem_nil, or_false, forall_eq_or_imp, forall_eq, false_implies, implies_true] at hx9)
          obtain ⟨w9, hb9⟩ := n9
          (try dsimp only)
          obtain ⟨hc9, hf9⟩ := bcell hb9
          have hz9 := hb9.size
          (try simp at hz9)
          have HB9 := Lib.hid (HB.out.trans (hb9.mono HB.out.size))
          clear hb9 hc9 hf9 hz9 c6 c1 hqr
          go_wp2
          go_ret
          exact ⟨by first | rfl | (rw [HRt.out]; first | done | rfl), HB9.out⟩
        · have HNx := Lib.hid (HNo.out (by rw [decide_eq_false hs0]; rfl))
          have hs1 : (s ≤ 0) = False := eq_false hs0
          clear HYes HNo
          go_upto_region 9 with (fail)
          have hcH := held_cell
          refine region_rel (by kernel_rfl) (by kernel_rfl) ?_
          repeat
            ((with_reducible refine relStep (fun K hK => ?_))
             (have HK := Lib.hid hK)
             clear hK
             (apply relInl
              · intro r n hf
                have Hf := Lib.hid hf
                clear hf
                (first
                  | (((with_reducible refine at_rel (ty := 53) ?_); refine rel_load rfl qb (ob + j * 3) rfl [.string b.nm, .slice b.ma b.mt.length b.mk', .int .i64 b.le] _ Try.underlying53 rfl (by kernel_rfl) (rangeAt_mono HRb.out hqb n.below) rfl))
                  | (unfold relAt
                     go_simp
                     (first | (refine relUpon_val ?_ (Below.refl _ _); exact rfl) | exact rfl | (refine relUpon_enter ?_; (first | (go_at_call 37; (with_reducible refine (HCb.out _ (HB.out.trans (n.below.mono HB.out.size))).mono ?_); rintro e w9 ⟨rfl, hb⟩; exact ⟨⟨_, rfl, rfl⟩, hb⟩) | (go_at_call 15; (with_reducible refine (HSb.out _ (HB.out.trans (n.below.mono HB.out.size))).mono ?_); rintro e w9 ⟨rfl, hb⟩; exact ⟨⟨_, rfl, rfl⟩, hb⟩))))))
              (simp only [Act.put, List.setIfInBounds_toArray, List.set_cons_zero, List.set_cons_succ])
              (with_reducible refine HK.out _ _ ?_)
              clear HK K))
          refine relNil ?_
          intro r9 n9 hx9
          clear hcH
          (try simp only [List.nil_append, List.cons_append, List.mem_cons, List.not_mem_nil, or_false, forall_eq_or_imp, forall_eq, false_implies, implies_true] at hx9)
          obtain ⟨w9, hb9⟩ := n9
          (try dsimp only)
          obtain ⟨hc9, hf9⟩ := bcell hb9
          have hz9 := hb9.size
          (try simp at hz9)
          have HB9 := Lib.hid (HB.out.trans (hb9.mono HB.out.size))
          clear hb9 hc9 hf9 hz9 c6 c1 hqr
          go_wp2
          go_roundw
          case rel => exact ⟨j + 1, by omega, by go_num, HNx.out, HB9.out⟩
          case measure => simp [intOf]; omega
      · obtain rfl : j = n := by omega
        have HRf := Lib.hid (show R = 0 by
          have h9 := hE
          rw [List.take_of_length_le (by rw [Hn.out]; exact Nat.le_refl _)] at h9
          rw [← HR.out, h9]
          rfl)
        clear hE hB
        go_wp2
        go_ret
        exact ⟨by first | rfl | (rw [HRf.out]; first | done | rfl), HB.out⟩
end Go.Proofs.Ytkmhicoimgpdlaa
