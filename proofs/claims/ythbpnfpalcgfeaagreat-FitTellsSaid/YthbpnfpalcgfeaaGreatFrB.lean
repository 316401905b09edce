/-
  The document's Room, Suits.
-/
import Derived.Test.YthbpnfpalcgfeaaGreatFrA
namespace Go.Proofs.YthbpnfpalcgfeaaGreat
open Go.RowKit
set_option linter.unusedVariables false
set_option linter.unusedSimpArgs false

/-- What a machine, and pods, of a right yard have. -/
structure RS (m : Mac) (bs : List Bd) (p : Pd) : Prop where
  ps : PS m p
  hm : rt5 (hasM m) = true
  hb : ∀ b ∈ bs, rtP b.p = true
  hp : ∀ b ∈ bs, b.p.prts.length ≤ 1000
theorem les_fits (a0 a1 a2 a3 a4 b0 b1 b2 b3 b4 : Int) : Rs.lesB a0 a1 a2 a3 a4 b0 b1 b2 b3 b4 = Rs.fitsB a0 a1 a2 a3 a4 b0 b1 b2 b3 b4 := by
  rw [Bool.eq_iff_iff]
  simp only [Rs.fitsB, Rs.lesB, Bool.and_eq_true, decide_eq_true_eq]
  unfold Rs.subE
  split
  · rename_i h1
    split
    · rename_i h2; exact ⟨fun _ => rfl, fun _ => ⟨⟨h1.2, h1.1⟩, h2⟩⟩
    · rename_i h2; exact ⟨fun h => (h2 h.2).elim, (fun h => nomatch h)⟩
  · rename_i h1; exact ⟨fun h => (h1 ⟨h.1.2, h.1.1⟩).elim, (fun h => nomatch h)⟩
def podIn (PP : List Int) (x : Pd) : Bool := x.prts.any (prtIn PP)
theorem share_pods (L : List Bd) (PP : List Int) : (L.map Bd.p).any (podIn PP) = shareQ L PP := by
  rw [List.any_map]
  rfl
set_option maxRecDepth 100000 in
set_option maxHeartbeats 8000000 in
theorem refrooms_any (m : Mac) (c : Option Addr) (kc : Nat) (bs : List Bd) (p : Pd) (w : World) (hM : MacAt w m) (hG : BndL w c bs) (hB : ∀ b ∈ bs, PodAt w b.p) (hP : PodAt w p) (hS : RS m bs p) (hl : bs.length ≤ 1000) :
    Calls Tryz.prog 47 #[.agg (mrow m).toArray, .slice c bs.length kc, .agg (prow p).toArray] w fun e w' => e = .returned (.int .i64 (roomS m bs p)) ∧ Below w.heap.size w w' := by
  obtain ⟨R, hR⟩ : ∃ R, roomS m bs p = R := ⟨_, rfl⟩
  rw [hR]
  unfold roomS at hR
  have hsub := but_sub bs p.nm
  have hOl := butL_len bs p.nm
  have hon := on_but bs m.nm p.nm
  have hlb := left_but m bs p.nm
  obtain ⟨O, hO⟩ : ∃ O, butL bs p.nm = O := ⟨_, rfl⟩
  obtain ⟨Q, hQ⟩ : ∃ Q, othL bs m.nm p.nm = Q := ⟨_, rfl⟩
  rw [hO] at hsub hOl hon hlb
  rw [hQ] at hon hlb hR
  obtain ⟨⟨l0, l1, l2, l3, l4⟩, hlv⟩ : ∃ l, leftY m Q = l := ⟨_, rfl⟩
  rw [hlv] at hlb hR
  dsimp only at hR
  obtain ⟨z, hz⟩ : ∃ z, Rs.fitsB p.n0 p.n1 p.n2 p.n3 p.n4 l0 l1 l2 l3 l4 = z := ⟨_, rfl⟩
  rw [hz] at hR
  obtain ⟨no, hno⟩ : ∃ no, O.length = no := ⟨_, rfl⟩
  obtain ⟨LP, hLP⟩ : ∃ LP, Q.map Bd.p = LP := ⟨_, rfl⟩
  rw [hLP] at hon
  rw [← share_pods, hLP] at hR
  obtain ⟨N, hN⟩ : ∃ N, bs.length = N := ⟨_, rfl⟩
  have HOt := Lib.hid (show ∀ V, Below w.heap.size w V → Calls Tryz.prog 79 #[.slice c N kc, .string p.nm] V fun e V' => (∃ a k, e = .returned (.slice a no k) ∧ BndL V' a O) ∧ Below V.heap.size V V' from fun V hV => by
    have h9 := refothers_any c kc bs p.nm V (hG.mono hV) (by omega)
    rw [hO, hN] at h9
    refine h9.mono fun e V' h => ?_
    obtain ⟨⟨v, rfl, ho⟩, hb⟩ := h
    obtain ⟨a, k, rfl, -, ht⟩ := IsL.of_own brow_len (by decide) ho
    exact ⟨⟨a, k, by rw [hno], ht⟩, hb⟩)
  have HLf := Lib.hid (show ∀ a k V, Below w.heap.size w V → BndL V a O → Calls Tryz.prog 81 #[.agg #[.string (m).nm, .string (m).gp, .int .i64 (m).r0, .int .i64 (m).r1, .int .i64 (m).r2, .int .i64 (m).r3, .int .i64 (m).r4, .slice (m).la (m).labs.length (m).lk, .slice (m).ta (m).tnts.length (m).tk, .bool (m).rd], .slice a no k] V fun e w' => e = .returned (.agg #[.int .i64 l0, .int .i64 l1, .int .i64 l2, .int .i64 l3, .int .i64 l4]) ∧ Below V.heap.size V w' from fun a k V hV hO' => by
    have h9 : Calls Tryz.prog 81 #[.agg (mrow m).toArray, .slice a O.length k] V fun e w' => e = .returned ((leftY m O).v) ∧ Below V.heap.size V w' := by
      by_cases hu : (usedY O m.nm).1 = 0
      · exact refleft_any m a k O V hO' (by omega) (fun b hb => hS.hb b (hsub b hb)) hS.hm hu
      · exact refleft_over m a k O V hO' (by omega) (fun b hb => hS.hb b (hsub b hb)) hu
    rw [hlb, hno] at h9
    exact h9)
  have HFt := Lib.hid (show ∀ V, Calls Tryz.prog 80 #[.agg #[.int .i64 p.n0, .int .i64 p.n1, .int .i64 p.n2, .int .i64 p.n3, .int .i64 p.n4], .agg #[.int .i64 l0, .int .i64 l1, .int .i64 l2, .int .i64 l3, .int .i64 l4]] V fun e w' => e = .returned (.bool z) ∧ Below V.heap.size V w' from fun V => by
    have h9 := Rs.reffits_any p.n0 p.n1 p.n2 p.n3 p.n4 l0 l1 l2 l3 l4 V
    rw [les_fits, hz] at h9
    exact h9)
  have HOn := Lib.hid (show ∀ a k V, BndL V a O → Calls Tryz.prog 82 #[.slice a no k, .string m.nm] V (GivesP V LP) from fun a k V hO' => by
    have h9 := refon_any a k O m.nm V hO' (by omega)
    rw [hon, hno] at h9
    exact h9)
  have HPA := Lib.hid (show ∀ x ∈ LP, PrtL w x.pa x.prts ∧ x.prts.length ≤ 1000 from fun x hx => by
    rw [← hLP] at hx
    obtain ⟨b, hb, rfl⟩ := List.mem_map.1 hx
    rw [← hQ] at hb
    have hb2 : b ∈ bs := (List.mem_filter.1 hb).1
    exact ⟨(hB b hb2).prts, hS.hp b hb2⟩)
  have hll : LP.length ≤ 1000 := by
    rw [← hLP, ← hQ, List.length_map]
    exact Nat.le_trans (othL_len bs m.nm p.nm) hl
  have hpl := (lightP_iff hS.ps.lp).pl
  have HPp := Lib.hid hP.prts
  obtain ⟨W, hW⟩ : ∃ W, W = (w.alloc (.cells #[.string (m).nm, .string (m).gp, .int .i64 (m).r0, .int .i64 (m).r1, .int .i64 (m).r2, .int .i64 (m).r3, .int .i64 (m).r4, .slice (m).la (m).labs.length (m).lk, .slice (m).ta (m).tnts.length (m).tk, .bool (m).rd] 37)).alloc (.cells #[.string (p).nm, .int .i64 (p).n0, .int .i64 (p).n1, .int .i64 (p).n2, .int .i64 (p).n3, .int .i64 (p).n4, .slice (p).la (p).labs.length (p).lk, .slice (p).sa (p).sels.length (p).sk, .slice (p).ta (p).trms.length (p).tk, .slice (p).ba (p).bers.length (p).bk, .slice (p).pa (p).prts.length (p).pk, .slice (p).aa (p).aprs.length (p).ak, .bool (p).wd, .slice (p).da (p).spds.length (p).dk, .int .i64 (p).sw, .int .i64 (p).rk, .string (p).ow, .bool (p).dm, .bool (p).pn, .bool (p).lc] 31) := ⟨_, rfl⟩
  have HX := Lib.hid (show Box w.heap.size (mrow m) W by rw [hW]; exact (Box.new w (mrow m) 37).mono ((Below.refl _ _).alloc (Nat.le_refl _) _))
  have HY := Lib.hid (show Box (w.heap.size + 1) (prow p) W by
    rw [hW]
    have h9 := Box.new (w.alloc (.cells #[.string (m).nm, .string (m).gp, .int .i64 (m).r0, .int .i64 (m).r1, .int .i64 (m).r2, .int .i64 (m).r3, .int .i64 (m).r4, .slice (m).la (m).labs.length (m).lk, .slice (m).ta (m).tnts.length (m).tk, .bool (m).rd] 37)) (prow p) 31
    rw [World.size_alloc] at h9
    exact h9)
  have HB := Lib.hid (show Below w.heap.size w W by rw [hW]; (repeat' (first | with_reducible exact Below.refl _ _ | with_reducible assumption | with_reducible refine Below.drew ?_ | with_reducible refine below_drewN' ?_ _ | with_reducible refine Below.alloc ?_ ?_ _ | with_reducible refine Below.setCell ?_ ?_ _ | with_reducible refine below_step (by assumption) ?_ ?_ | omega | (simp; done) | (simp; omega))))
  have d0 : W.cell? ⟨w.heap.size + 1, 0, none⟩ = some (.string p.nm) := HY.out.cell 0
  have hly := HY.out.lt
  have HR := Lib.hid hR
  rw [hN]
  show Calls Tryz.prog 47 #[.agg #[.string (m).nm, .string (m).gp, .int .i64 (m).r0, .int .i64 (m).r1, .int .i64 (m).r2, .int .i64 (m).r3, .int .i64 (m).r4, .slice (m).la (m).labs.length (m).lk, .slice (m).ta (m).tnts.length (m).tk, .bool (m).rd], .slice c N kc, .agg #[.string (p).nm, .int .i64 (p).n0, .int .i64 (p).n1, .int .i64 (p).n2, .int .i64 (p).n3, .int .i64 (p).n4, .slice (p).la (p).labs.length (p).lk, .slice (p).sa (p).sels.length (p).sk, .slice (p).ta (p).trms.length (p).tk, .slice (p).ba (p).bers.length (p).bk, .slice (p).pa (p).prts.length (p).pk, .slice (p).aa (p).aprs.length (p).ak, .bool (p).wd, .slice (p).da (p).spds.length (p).dk, .int .i64 (p).sw, .int .i64 (p).rk, .string (p).ow, .bool (p).dm, .bool (p).pn, .bool (p).lc]] w _
  clear hR hsub hOl hon hlb hO hQ hlv hz hno hLP hN hM hG hB hP hS hl
  cases z with
  | false =>
    obtain rfl : R = 2 := by rw [← HR.out]; rfl
    clear HR HOn HPA hll hpl HPp
    go_enter Tryz.func47, Tryz.ntmps47
    go_upto_region 1 with (fail)
    rw [← hW]
    clear hW
    go_upto_region 2 with (go_at_call 79; (with_reducible refine (HOt.out _ HB.out).mono ?_); rintro e w1 ⟨⟨ao, ko, rfl, ho⟩, hb⟩; have HO1 := Lib.hid ho; have HX1 := Lib.hid (HX.out.mono hb); have HY1 := Lib.hid (HY.out.mono hb); have HB1 := Lib.hid (HB.out.trans (hb.mono HB.out.size)); clear hb ho)
    have hlm := HX1.out.lt
    have hlp := HY1.out.lt
    have HRm := Lib.hid (show w1.rangeAt w.heap.size 0 [.string (m).nm, .string (m).gp, .int .i64 (m).r0, .int .i64 (m).r1, .int .i64 (m).r2, .int .i64 (m).r3, .int .i64 (m).r4, .slice (m).la (m).labs.length (m).lk, .slice (m).ta (m).tnts.length (m).tk, .bool (m).rd] from HX1.out.range)
    have HRn := Lib.hid (show w1.rangeAt (w.heap.size + 1) 1 [.int .i64 p.n0, .int .i64 p.n1, .int .i64 p.n2, .int .i64 p.n3, .int .i64 p.n4] from fun j v hj => by
      have hj5 : j < 5 := (List.getElem?_eq_some_iff.1 hj).1
      rw [HY1.out.cell (1 + j)]
      match j, hj5, hj with
      | 0, _, hj => exact hj
      | 1, _, hj => exact hj
      | 2, _, hj => exact hj
      | 3, _, hj => exact hj
      | 4, _, hj => exact hj)
    have hcH := held_cell
    refine region_rel (by kernel_rfl) (by kernel_rfl) ?_
    repeat
      ((with_reducible refine relStep (fun K hK => ?_))
       (have HK := Lib.hid hK)
       clear hK
       (apply relInl
        · intro r n hf
          have Hf := Lib.hid hf
          clear hf
          (first
            | ((first | ((with_reducible refine at_rel (ty := 25) ?_); refine rel_load rfl (w.heap.size + 1) 1 rfl [.int .i64 p.n0, .int .i64 p.n1, .int .i64 p.n2, .int .i64 p.n3, .int .i64 p.n4] _ Tryz.underlying25 rfl (by kernel_rfl) (rangeAt_mono HRn.out hlp n.below) rfl) | ((with_reducible refine at_rel (ty := 37) ?_); refine rel_load rfl w.heap.size 0 rfl [.string (m).nm, .string (m).gp, .int .i64 (m).r0, .int .i64 (m).r1, .int .i64 (m).r2, .int .i64 (m).r3, .int .i64 (m).r4, .slice (m).la (m).labs.length (m).lk, .slice (m).ta (m).tnts.length (m).tk, .bool (m).rd] _ Tryz.underlying37 rfl (by kernel_rfl) (rangeAt_mono HRm.out hlm n.below) rfl)))
            | (unfold relAt
               go_simp
               (first | (refine relUpon_val ?_ (Below.refl _ _); exact rfl) | exact rfl | (refine relUpon_enter ?_; (first | (go_at_call 81; (with_reducible refine (HLf.out _ _ _ (HB1.out.trans (n.below.mono HB1.out.size)) (HO1.out.mono n.below)).mono ?_); rintro e w9 ⟨rfl, hb⟩; exact ⟨⟨_, rfl, rfl⟩, hb⟩) | (go_at_call 80; (with_reducible refine (HFt.out _).mono ?_); rintro e w9 ⟨rfl, hb⟩; exact ⟨⟨_, rfl, rfl⟩, hb⟩))))))
        (simp only [Act.put, List.setIfInBounds_toArray, List.set_cons_zero, List.set_cons_succ])
        (with_reducible refine HK.out _ _ ?_)
        clear HK K))
    refine relNil ?_
    intro r9 n9 hx9
    clear hcH
    (try simp only [List.nil_append, List.cons_append, List.mem_cons, List.not_mem_nil, or_false, forall_eq_or_imp, forall_eq, false_implies, implies_true] at hx9)
    obtain ⟨w9, hb9⟩ := n9
    (try dsimp only)
    obtain ⟨hc9, hf9⟩ := bcell hb9
    have hz9 := hb9.size
    (try simp at hz9)
    have HX9 := Lib.hid (HX1.out.mono hb9)
    have HY9 := Lib.hid (HY1.out.mono hb9)
    have HO9 := Lib.hid (HO1.out.mono hb9)
    have HB9 := Lib.hid (HB1.out.trans (hb9.mono HB1.out.size))
    clear hb9 hc9 hf9 hz9 hlm hlp HRm HRn HX1 HY1 HO1
    go_wp2
    go_ret
    exact ⟨rfl, HB9.out⟩
  | true =>
    have HR := Lib.hid (show (if LP.any (podIn p.prts) = true then (3 : Int) else 0) = R from HR.out)
    go_enter Tryz.func47, Tryz.ntmps47
    go_upto_region 1 with (fail)
    rw [← hW]
    clear hW
    go_upto_region 2 with (go_at_call 79; (with_reducible refine (HOt.out _ HB.out).mono ?_); rintro e w1 ⟨⟨ao, ko, rfl, ho⟩, hb⟩; have HO1 := Lib.hid ho; have HX1 := Lib.hid (HX.out.mono hb); have HY1 := Lib.hid (HY.out.mono hb); have HB1 := Lib.hid (HB.out.trans (hb.mono HB.out.size)); clear hb ho)
    have hlm := HX1.out.lt
    have hlp := HY1.out.lt
    have HRm := Lib.hid (show w1.rangeAt w.heap.size 0 [.string (m).nm, .string (m).gp, .int .i64 (m).r0, .int .i64 (m).r1, .int .i64 (m).r2, .int .i64 (m).r3, .int .i64 (m).r4, .slice (m).la (m).labs.length (m).lk, .slice (m).ta (m).tnts.length (m).tk, .bool (m).rd] from HX1.out.range)
    have HRn := Lib.hid (show w1.rangeAt (w.heap.size + 1) 1 [.int .i64 p.n0, .int .i64 p.n1, .int .i64 p.n2, .int .i64 p.n3, .int .i64 p.n4] from fun j v hj => by
      have hj5 : j < 5 := (List.getElem?_eq_some_iff.1 hj).1
      rw [HY1.out.cell (1 + j)]
      match j, hj5, hj with
      | 0, _, hj => exact hj
      | 1, _, hj => exact hj
      | 2, _, hj => exact hj
      | 3, _, hj => exact hj
      | 4, _, hj => exact hj)
    have hcH := held_cell
    refine region_rel (by kernel_rfl) (by kernel_rfl) ?_
    repeat
      ((with_reducible refine relStep (fun K hK => ?_))
       (have HK := Lib.hid hK)
       clear hK
       (apply relInl
        · intro r n hf
          have Hf := Lib.hid hf
          clear hf
          (first
            | ((first | ((with_reducible refine at_rel (ty := 25) ?_); refine rel_load rfl (w.heap.size + 1) 1 rfl [.int .i64 p.n0, .int .i64 p.n1, .int .i64 p.n2, .int .i64 p.n3, .int .i64 p.n4] _ Tryz.underlying25 rfl (by kernel_rfl) (rangeAt_mono HRn.out hlp n.below) rfl) | ((with_reducible refine at_rel (ty := 37) ?_); refine rel_load rfl w.heap.size 0 rfl [.string (m).nm, .string (m).gp, .int .i64 (m).r0, .int .i64 (m).r1, .int .i64 (m).r2, .int .i64 (m).r3, .int .i64 (m).r4, .slice (m).la (m).labs.length (m).lk, .slice (m).ta (m).tnts.length (m).tk, .bool (m).rd] _ Tryz.underlying37 rfl (by kernel_rfl) (rangeAt_mono HRm.out hlm n.below) rfl)))
            | (unfold relAt
               go_simp
               (first | (refine relUpon_val ?_ (Below.refl _ _); exact rfl) | exact rfl | (refine relUpon_enter ?_; (first | (go_at_call 81; (with_reducible refine (HLf.out _ _ _ (HB1.out.trans (n.below.mono HB1.out.size)) (HO1.out.mono n.below)).mono ?_); rintro e w9 ⟨rfl, hb⟩; exact ⟨⟨_, rfl, rfl⟩, hb⟩) | (go_at_call 80; (with_reducible refine (HFt.out _).mono ?_); rintro e w9 ⟨rfl, hb⟩; exact ⟨⟨_, rfl, rfl⟩, hb⟩))))))
        (simp only [Act.put, List.setIfInBounds_toArray, List.set_cons_zero, List.set_cons_succ])
        (with_reducible refine HK.out _ _ ?_)
        clear HK K))
    refine relNil ?_
    intro r9 n9 hx9
    clear hcH
    (try simp only [List.nil_append, List.cons_append, List.mem_cons, List.not_mem_nil, or_false, forall_eq_or_imp, forall_eq, false_implies, implies_true] at hx9)
    obtain ⟨w9, hb9⟩ := n9
    (try dsimp only)
    obtain ⟨hc9, hf9⟩ := bcell hb9
    have hz9 := hb9.size
    (try simp at hz9)
    have HX9 := Lib.hid (HX1.out.mono hb9)
    have HY9 := Lib.hid (HY1.out.mono hb9)
    have HO9 := Lib.hid (HO1.out.mono hb9)
    have HB9 := Lib.hid (HB1.out.trans (hb9.mono HB1.out.size))
    clear hb9 hc9 hf9 hz9 hlm hlp HRm HRn HX1 HY1 HO1
    have c0 : w9.cell? ⟨w.heap.size, 0, none⟩ = some (.string m.nm) := HX9.out.cell 0
    have hlx := HX9.out.lt
    obtain ⟨PP, hPP⟩ : ∃ PP, p.prts = PP := ⟨_, rfl⟩
    obtain ⟨pp, hpp⟩ : ∃ pp, PP.length = pp := ⟨_, rfl⟩
    obtain ⟨nl, hnl⟩ : ∃ nl, LP.length = nl := ⟨_, rfl⟩
    have Hnl := Lib.hid hnl
    have Hpp := Lib.hid hpp
    have HQ9 := Lib.hid (show ∀ V, Below w9.heap.size w9 V → V.cell? ⟨w.heap.size + 1, 10, none⟩ = some (.slice p.pa pp p.pk) ∧ w.heap.size + 1 < V.heap.size from fun V hV => ⟨by rw [(HY9.out.mono hV).cell 10, ← hpp, ← hPP]; rfl, (HY9.out.mono hV).lt⟩)
    rw [hPP] at HPp hpl HR
    rw [hpp] at hpl
    rw [hnl] at hll
    clear hpp hnl
    go_upto_region 5 with (go_at_call 82; (with_reducible refine (HOn.out _ _ _ HO9.out).mono ?_); rintro e w2 ⟨⟨v, rfl, hv⟩, hb⟩; obtain ⟨al, kl, rfl, -, hrl⟩ := IsL.of_own prow_len (by decide) hv; have HL2 := Lib.hid hrl; have HB2 := Lib.hid (HB9.out.trans (hb.mono HB9.out.size)); have HQ2 := Lib.hid (fun V (hV : Below w2.heap.size w2 V) => HQ9.out V (hb.trans (hV.mono hb.size))); clear hb hv hrl; rw [Hnl.out])
    obtain ⟨V2, hV2⟩ : ∃ V2, V2 = w2 := ⟨_, rfl⟩
    rw [← hV2] at HL2 HB2 HQ2 ⊢
    clear hV2 HB HB1 HB9 HQ9 HO9 HX9 HY9 HOt HLf HFt HOn HX HY hPP c0 d0 hly hlx
    go_wp2
    go_loopw [9] (fun vi wr => ∃ i : Nat, i ≤ nl ∧ vi = .int .i64 i ∧ (LP.take i).any (podIn PP) = false ∧ Below V2.heap.size V2 wr) (fun vi _ => nl - (intOf vi).toNat)
    case atStart => exact ⟨0, Nat.zero_le _, rfl, rfl, Below.refl _ _⟩
    case round =>
      obtain ⟨i, hi, rfl, hE, hB⟩ := hrel
      have HE := Lib.hid hE
      have HB := Lib.hid hB
      by_cases hlt : i < nl
      · obtain ⟨x, hx⟩ := mem_at (l := LP) (k := i) (by rw [Hnl.out]; exact hlt)
        obtain ⟨q, o, rfl, hq, hc⟩ := HL2.out (by rw [Hnl.out]; omega)
        obtain ⟨hxp, hxl⟩ := HPA.out x (List.mem_of_getElem? hx)
        have HXp := Lib.hid hxp
        have HC := Lib.hid (show V2.cell? ⟨q, o + i * 20 + 10, none⟩ = some (.slice x.pa x.prts.length x.pk) from hc i x hx 10 (by decide))
        have HYes := Lib.hid (fun (h : x.prts.any (prtIn PP) = true) => show R = 3 by rw [← HR.out, if_pos (any_yes (P := podIn PP) hx h)])
        have HNo := Lib.hid (fun (h : x.prts.any (prtIn PP) = false) => any_next (P := podIn PP) hx h hE)
        obtain ⟨P2, hP2⟩ : ∃ P2, x.prts = P2 := ⟨_, rfl⟩
        obtain ⟨p2, hp2⟩ : ∃ p2, P2.length = p2 := ⟨_, rfl⟩
        obtain ⟨ax, hax⟩ : ∃ a, x.pa = a := ⟨_, rfl⟩
        obtain ⟨kx, hkx⟩ : ∃ a, x.pk = a := ⟨_, rfl⟩
        rw [hP2, hp2, hax, hkx] at HC
        rw [hP2] at HYes HNo hxl HXp
        rw [hax] at HXp
        rw [hp2] at hxl
        have Hp2 := Lib.hid hp2
        clear hE hB hx hc hxp hP2 hp2 hax hkx
        obtain ⟨V, hV⟩ : ∃ V, V = wr := ⟨_, rfl⟩
        have HBV := Lib.hid (show Below V2.heap.size V2 V by rw [hV]; exact HB.out)
        rw [← hV]
        clear hV HB
        go_upto_region 8 with (fail)
        go_wp2
        go_loopw [10] (fun vk wq => ∃ k : Nat, k ≤ p2 ∧ vk = .int .i64 k ∧ (P2.take k).any (prtIn PP) = false ∧ Below V2.heap.size V2 wq) (fun vk _ => p2 - (intOf vk).toNat)
        case atStart => exact ⟨0, Nat.zero_le _, rfl, rfl, HBV.out⟩
        case round =>
          obtain ⟨k, hk, rfl, hE2, hB2⟩ := hrel
          have HE2 := Lib.hid hE2
          have HBq := Lib.hid hB2
          have c10 : wr.cell? ⟨q, o + i * 20 + 10, none⟩ = some (.slice ax p2 kx) := (hB2.cell (p := ⟨q, o + i * 20 + 10, none⟩) hq).trans HC.out
          have hqr := Nat.lt_of_lt_of_le hq hB2.size
          by_cases hlk : k < p2
          · obtain ⟨y, hy⟩ := mem_at (l := P2) (k := k) (by rw [Hp2.out]; exact hlk)
            have HNo2 := Lib.hid (fun (h : prtIn PP y = false) => any_next (P := prtIn PP) hy h hE2)
            have HYes2 := Lib.hid (fun (h : prtIn PP y = true) => HYes.out (any_yes (P := prtIn PP) hy h))
            obtain ⟨q2, o2, rfl, hq2, hc2⟩ := HXp.out (by rw [Hp2.out]; omega)
            have HCy := Lib.hid (show w.cell? ⟨q2, o2 + k, none⟩ = some (.int .i64 y) by
              have h9 := hc2 k y hy 0 (by decide)
              rw [Nat.mul_one] at h9
              exact h9)
            clear hE2 hB2 hc2 hy
            go_upto_region 11 with (fail)
            go_wp2
            go_loopw [11] (fun vj ws => ∃ j : Nat, j ≤ pp ∧ vj = .int .i64 j ∧ (PP.take j).any (Lb.intB y) = false ∧ Below V2.heap.size V2 ws) (fun vj _ => pp - (intOf vj).toNat)
            case atStart => exact ⟨0, Nat.zero_le _, rfl, rfl, HBq.out⟩
            case round =>
              obtain ⟨j, hj, rfl, hE3, hB3⟩ := hrel
              have HBs := Lib.hid hB3
              have e10 : wr.cell? ⟨q, o + i * 20 + 10, none⟩ = some (.slice (some ⟨q2, o2, none⟩) p2 kx) := (hB3.cell (p := ⟨q, o + i * 20 + 10, none⟩) hq).trans HC.out
              have hqs := Nat.lt_of_lt_of_le hq hB3.size
              have hbw := HB2.out.trans (hB3.mono HB2.out.size)
              have ey : wr.cell? ⟨q2, o2 + k, none⟩ = some (.int .i64 y) := (hbw.cell (p := ⟨q2, o2 + k, none⟩) hq2).trans HCy.out
              have hq2s := Nat.lt_of_lt_of_le hq2 hbw.size
              obtain ⟨d10, hld⟩ := HQ2.out _ hB3
              by_cases hlj : j < pp
              · obtain ⟨x3, hx3⟩ := mem_at (l := PP) (k := j) (by rw [Hpp.out]; exact hlj)
                obtain ⟨q3, o3, e9, hq3, hc3⟩ := HPp.out (by rw [Hpp.out]; omega)
                have ex : wr.cell? ⟨q3, o3 + j, none⟩ = some (.int .i64 x3) := by
                  have h9 := hc3 j x3 hx3 0 (by decide)
                  rw [Nat.mul_one] at h9
                  exact (hbw.cell (p := ⟨q3, o3 + j, none⟩) hq3).trans h9
                have hq3s := Nat.lt_of_lt_of_le hq3 hbw.size
                rw [e9] at d10
                have HNo3 := Lib.hid (fun (h : Lb.intB y x3 = false) => any_next (P := Lb.intB y) hx3 h hE3)
                have HYes3 := Lib.hid (fun (h : Lb.intB y x3 = true) => HYes2.out (any_yes (P := Lb.intB y) hx3 h))
                clear hE3 hB3 hbw hc3 hx3 e9
                by_cases he : y = x3
                · subst he
                  obtain rfl : R = 3 := HYes3.out (by unfold Lb.intB; simp)
                  go_upto_region 14 with (fail)
                  have hcH := held_cell
                  refine region_rel (by kernel_rfl) (by kernel_rfl) ?_
                  repeat
                    ((with_reducible refine relStep (fun K hK => ?_))
                     (have HK := Lib.hid hK)
                     clear hK
                     (apply relInl
                      · intro r n hf
                        have Hf := Lib.hid hf
                        clear hf
                        (first
                          | (fail)
                          | (unfold relAt
                             go_simp
                             (first | (refine relUpon_val ?_ (Below.refl _ _); exact rfl) | exact rfl | (refine relUpon_enter ?_; fail))))
                      (simp only [Act.put, List.setIfInBounds_toArray, List.set_cons_zero, List.set_cons_succ])
                      (with_reducible refine HK.out _ _ ?_)
                      clear HK K))
                  refine relNil ?_
                  intro r9 n9 hx9
                  clear hcH
                  (try simp only [List.nil_append, List.cons_append, List.mem_cons, List.not_mem_nil, or_false, forall_eq_or_imp, forall_eq, false_implies, implies_true] at hx9)
                  obtain ⟨w9, hb9⟩ := n9
                  (try dsimp only)
                  obtain ⟨hc9, hf9⟩ := bcell hb9
                  have hz9 := hb9.size
                  (try simp at hz9)
                  have HB9 := Lib.hid (HB2.out.trans ((HBs.out.trans (hb9.mono HBs.out.size)).mono HB2.out.size))
                  clear hb9 hc9 hf9 hz9
                  go_wp2
                  go_ret
                  exact ⟨by first | rfl | trivial, HB9.out⟩
                · have q1 : (y == x3) = false := by simpa using he
                  have HNx := Lib.hid (HNo3.out (by unfold Lb.intB; simpa using he))
                  go_upto_region 14 with (fail)
                  have hcH := held_cell
                  refine region_rel (by kernel_rfl) (by kernel_rfl) ?_
                  repeat
                    ((with_reducible refine relStep (fun K hK => ?_))
                     (have HK := Lib.hid hK)
                     clear hK
                     (apply relInl
                      · intro r n hf
                        have Hf := Lib.hid hf
                        clear hf
                        (first
                          | (fail)
                          | (unfold relAt
                             go_simp
                             (first | (refine relUpon_val ?_ (Below.refl _ _); exact rfl) | exact rfl | (refine relUpon_enter ?_; fail))))
                      (simp only [Act.put, List.setIfInBounds_toArray, List.set_cons_zero, List.set_cons_succ])
                      (with_reducible refine HK.out _ _ ?_)
                      clear HK K))
                  refine relNil ?_
                  intro r9 n9 hx9
                  clear hcH
                  (try simp only [List.nil_append, List.cons_append, List.mem_cons, List.not_mem_nil, or_false, forall_eq_or_imp, forall_eq, false_implies, implies_true] at hx9)
                  obtain ⟨w9, hb9⟩ := n9
                  (try dsimp only)
                  obtain ⟨hc9, hf9⟩ := bcell hb9
                  have hz9 := hb9.size
                  (try simp at hz9)
                  have HB9 := Lib.hid (HBs.out.trans (hb9.mono HBs.out.size))
                  clear hb9 hc9 hf9 hz9
                  go_wp2
                  go_roundw
                  case rel => exact ⟨j + 1, by omega, by go_num, HNx.out, HB9.out⟩
                  case measure => simp [intOf]; omega
              · obtain rfl : pp = j := by omega
                have HNx := Lib.hid (HNo2.out (by unfold prtIn; rw [← List.take_of_length_le (Nat.le_of_eq Hpp.out)]; exact hE3))
                clear hE3 hB3 hbw
                go_wp2
                go_roundw
                case rel => exact ⟨k + 1, by omega, by go_num, HNx.out, HBs.out⟩
                case measure => simp [intOf]; omega
          · obtain rfl : p2 = k := by omega
            have HNx := Lib.hid (HNo.out (by rw [← List.take_of_length_le (Nat.le_of_eq Hp2.out)]; exact hE2))
            clear hE2 hB2
            go_wp2
            go_roundw
            case rel => exact ⟨i + 1, by omega, by go_num, HNx.out, HBq.out⟩
            case measure => simp [intOf]; omega
      · obtain rfl : nl = i := by omega
        have HRz := Lib.hid (show R = 0 by
          rw [← HR.out, if_neg]
          rw [← List.take_of_length_le (Nat.le_of_eq Hnl.out), hE]
          exact Bool.false_ne_true)
        clear hE hB
        go_wp2
        go_ret
        exact ⟨by first | rfl | (rw [HRz.out]; first | done | rfl), HB2.out.trans (HB.out.mono HB2.out.size)⟩
end Go.Proofs.YthbpnfpalcgfeaaGreat
