/-
  CloudPlays' alike: both providers tell the same.
-/
import Derived.Test.YtcfdejlbchdciaaGreatDoorClPs
import Derived.Test.YtcfdejlbchdciaaGreatDoorClQ
namespace Go.Proofs.YtcfdejlbchdciaaGreatDoor
open Go.ChangeShapes Go.WideShapes Go.ChangeAt Go.RowKit
set_option linter.unusedVariables false
set_option linter.unusedSimpArgs false

def IsI (q : Nat) (X : List Ins) (v : Value) (w : World) : Prop := ∃ a k, v = .slice a q k ∧ InsL w a X
theorem IsI.stays (q : Nat) (X : List Ins) : Stays (IsI q X) := fun v w w' hb h => by
  obtain ⟨a, k, e, h⟩ := h
  exact ⟨a, k, e, h.mono hb⟩
theorem isI_own {B : Nat} {L : List Ins} {q : Nat} {v : Value} {w : World} (h : OwnL irow 5 B 41 L v w) (hq : L.length = q) : IsI q L v w := by
  obtain ⟨a, k, e, _, hr⟩ := OwnL.isL irow_len (by decide) h
  rw [hq] at e
  exact ⟨a, k, e, hr⟩

set_option maxRecDepth 100000 in
set_option maxHeartbeats 8000000 in
theorem alike_any (w0 : World) (b c m : Nat) (ga : Option Addr) (gka : Nat) (Gr : List Gp) (s : CS) (F : List Nat) (w : World) (h : P2 w0 b c ga gka Gr s s m m F w) (hm : m ≤ 100) (he : fndK (Gr.map gkOf) emp = none) :
    Calls Tryz.prog 9 #[.pointer (some ⟨b, 0, none⟩), .pointer (some ⟨c, 0, none⟩)] w fun e w' => e = .returned (.bool true) ∧ Below w.heap.size w w' := by
  have Hh := Lib.hid h
  have HTg := Lib.hid (fun (key : ByteArray) V (hV : Below w.heap.size w V) => show Calls Tryz.prog 16 #[.pointer (some ⟨b, 0, none⟩), .string key] V (fun e w' => e = .returned (.int .i64 (s.tgt key)) ∧ Below V.heap.size V w') from by
    obtain ⟨F', hP⟩ := (h.below hV).prov
    exact pv_tgt w0 b m s F' V hP key)
  have HIn := Lib.hid (fun V (hV : Below w.heap.size w V) => show Calls Tryz.prog 10 #[.pointer (some ⟨b, 0, none⟩)] V (Gives V (OwnL irow 5 V.heap.size 41 s.L)) from by
    obtain ⟨F', hP⟩ := (h.below hV).prov
    exact pv_insts w0 b m s F' V hP hm)
  have HNw := Lib.hid (fun V (hV : Below w.heap.size w V) => show Calls Tryz.prog 17 #[.pointer (some ⟨b, 0, none⟩)] V (fun e w' => e = .returned (.int .i64 s.nw) ∧ w' = V) from by
    obtain ⟨F', hP⟩ := (h.below hV).prov
    exact pv_now w0 b m s F' V hP)
  have HCa := Lib.hid (fun V (hV : Below w.heap.size w V) => show Calls Tryz.prog 18 #[.pointer (some ⟨b, 0, none⟩)] V (fun e w' => e = .returned (.int .i64 s.ca) ∧ w' = V) from by
    obtain ⟨F', hP⟩ := (h.below hV).prov
    exact pv_calls w0 b m s F' V hP)
  have HEm := Lib.hid (tgt_emp (s := s) (by rw [h.gk]; exact he))
  have HTe := Lib.hid (fun V (hV : Below w.heap.size w V) => show Calls Tryz.prog 16 #[.pointer (some ⟨b, 0, none⟩), .string ⟨#[]⟩] V (fun e w' => e = .returned (.int .i64 0) ∧ Below V.heap.size V w') from by
    have h9 := HTg.out emp V hV
    rw [HEm.out] at h9
    exact h9)
  have hg16 := h.len
  obtain ⟨gn, hgn⟩ : ∃ gn, Gr.length = gn := ⟨_, rfl⟩
  rw [hgn] at hg16
  obtain ⟨ln, hln⟩ : ∃ ln, s.L.length = ln := ⟨_, rfl⟩
  obtain ⟨L, hL⟩ : ∃ L, s.L = L := ⟨_, rfl⟩
  obtain ⟨nw, hnw⟩ : ∃ x, s.nw = x := ⟨_, rfl⟩
  obtain ⟨ca, hca⟩ : ∃ x, s.ca = x := ⟨_, rfl⟩
  have hl6 : ln ≤ 1000000 := by rw [← hln]; exact h.l6 hm
  have Hgn := Lib.hid hgn
  have HEq := Lib.hid (show s.L.length = ln ∧ s.L = L ∧ s.nw = nw ∧ s.ca = ca from ⟨hln, hL, hnw, hca⟩)
  have Hln := Lib.hid (show L.length = ln by rw [← hL]; exact hln)
  rw [hL] at HIn
  rw [hnw] at HNw
  rw [hca] at HCa
  have hcl := h.lts.2.1
  clear h he hgn hln hL hnw hca
  go_enter Tryz.func9, Tryz.ntmps9
  go_wp2
  go_loopw [5] (fun i wr => ∃ k : Nat, k ≤ gn ∧ i = .int .i64 k ∧ Below w.heap.size w wr) (fun i _ => gn - (intOf i).toNat)
  case atStart => exact ⟨0, by omega, rfl, by (repeat' (first | with_reducible exact Below.refl _ _ | with_reducible assumption | with_reducible refine Below.drew ?_ | with_reducible refine below_drewN' ?_ _ | with_reducible refine Below.alloc ?_ ?_ _ | with_reducible refine Below.setCell ?_ ?_ _ | with_reducible refine below_step (by assumption) ?_ ?_ | omega | (simp; done) | (simp; omega)))⟩
  case round =>
    obtain ⟨k, hk, rfl, hB⟩ := hrel
    have HB := Lib.hid hB
    have hbz := hB.size
    obtain ⟨r0, r6, r7⟩ := (Hh.out.below hB).rcell
    obtain ⟨la, lk, r4, hI⟩ := (Hh.out.below hB).list
    obtain ⟨q1, q2, q3, q4⟩ := HEq.out
    rw [Hgn.out] at r0
    rw [q3] at r6
    rw [q4] at r7
    rw [q1] at r4
    rw [q2] at hI
    clear q1 q2 q3 q4
    have HI := Lib.hid hI
    have hcw : c < wr.heap.size := by omega
    clear hI
    by_cases hlt : k < gn
    · obtain ⟨g, p, qt, kt, gb, go, hg, hp, e4, d1, d0, d3, l1, l4⟩ := (Hh.out.below hB).at (j := k) (by rw [Hgn.out]; exact hlt)
      rw [Hgn.out] at d1
      subst e4
      have hgw : gb < wr.heap.size := by have := (Hh.out.below hB).bl.size; omega
      obtain ⟨tv, htv⟩ : ∃ x, s.tgt g.nm = x := ⟨_, rfl⟩
      have HT1 := Lib.hid (HTg.out g.nm)
      rw [htv] at HT1 d0
      have k0 : (tv != tv) = false := by simp
      have hji : (k : Int) < (gn : Int) := by omega
      have hj0 : (0 : Int) ≤ (k : Int) := by omega
      clear hg hp hB htv
      go_wp2
      have hcH := held_cell
      refine region_below (by kernel_rfl) (by kernel_rfl) ?_
      repeat
        ((with_reducible refine wpQuiet_step (fun K hK => ?_))
         go_simp
         first
           | ((with_reducible refine hK _ ?_); clear hK K)
           | (apply Exists.intro
              (with_reducible refine ⟨fun n => ?_, hK _ ?_⟩)
              ((go_at_call 16; exact held_calls (HT1.out _ (HB.out.trans (Below.mono n.below HB.out.size)))))
              clear hK K))
      with_reducible refine wpQuiet_nil ?_
      intro w4 hw2
      clear hcH
      obtain ⟨⟨_, hb4⟩, rfl⟩ := hw2
      (try dsimp only)
      obtain ⟨hc4, hf4⟩ := bcell hb4
      have hz4 := hb4.size
      (try simp at hz4)
      have HB4 := Lib.hid (HB.out.trans (hb4.mono HB.out.size))
      go_wp2
      go_roundw
      case rel => exact ⟨k + 1, by omega, by go_num, HB4.out⟩
      case measure => simp [intOf]; omega
    · obtain rfl : k = gn := by omega
      clear hB
      go_wp2
      have hcH := held_cell
      refine region_rel (by kernel_rfl) (by kernel_rfl) ?_
      (try dsimp only [List.append])
      repeat
        ((with_reducible refine relStep (fun K hK => ?_))
         (have HK := Lib.hid hK)
         clear hK
         (apply relInl
          · intro r n hf
            have Hf := Lib.hid hf
            clear hf
            (first
              | (fail)
              | (unfold relAt
                 go_simp
                 (first | (refine relUpon_val ?_ (Below.refl _ _); exact rfl) | exact rfl | (refine relUpon_enter ?_; fail))))
          (simp only [Act.put, List.setIfInBounds_toArray, List.set_cons_zero, List.set_cons_succ])
          (with_reducible refine HK.out _ _ ?_)
          clear HK K))
      (with_reducible refine relStep (fun K hK => ?_))
      (have HK := Lib.hid hK)
      clear hK
      refine relInr (IsI ln L) (IsI.stays _ _) (fun r n hf => ?_) ?_
      · have Hf := Lib.hid hf
        clear hf HK K
        unfold relAt
        (skip)
        go_simp
        ((refine relUpon_enter ?_; go_at_call 10; (with_reducible refine (HIn.out _ (HB.out.trans (Below.mono n.below HB.out.size))).mono ?_); rintro e w9 ⟨⟨v, rfl, hv⟩, hb⟩; exact ⟨⟨_, rfl, isI_own hv Hln.out⟩, hb⟩))
      (simp only [Act.put, List.setIfInBounds_toArray, List.set_cons_zero, List.set_cons_succ])
      (with_reducible refine HK.out _ _ ?_)
      clear HK K
      repeat
        ((with_reducible refine relStep (fun K hK => ?_))
         (have HK := Lib.hid hK)
         clear hK
         (apply relInl
          · intro r n hf
            have Hf := Lib.hid hf
            clear hf
            (first
              | (fail)
              | (unfold relAt
                 go_simp
                 (first | (refine relUpon_val ?_ (Below.refl _ _); exact rfl) | exact rfl | (refine relUpon_enter ?_; fail))))
          (simp only [Act.put, List.setIfInBounds_toArray, List.set_cons_zero, List.set_cons_succ])
          (with_reducible refine HK.out _ _ ?_)
          clear HK K))
      ((with_reducible refine relStep (fun K hK => ?_))
       (have HK := Lib.hid hK)
       clear hK
       (apply relInl
        · intro r n hf
          have Hf := Lib.hid hf
          clear hf
          ((obtain ⟨a1, k1, e1, g1⟩ := given_at Hf.out 0 rfl (by dsimp only; decide +kernel); dsimp only at e1; unfold relAt; go_simp; refine relUpon_enter ?_; go_at_call 34; (try rw [e1]); (with_reducible refine (insts_same a1 la k1 lk ln L _ g1 (HI.out.mono n.below) Hln.out hl6).mono ?_); rintro e w9 ⟨rfl, hb⟩; exact ⟨⟨_, rfl, rfl⟩, hb⟩)))
       (simp only [Act.put, List.setIfInBounds_toArray, List.set_cons_zero, List.set_cons_succ])
       (with_reducible refine HK.out _ _ ?_)
       clear HK K)
      repeat
        ((with_reducible refine relStep (fun K hK => ?_))
         (have HK := Lib.hid hK)
         clear hK
         (apply relInl
          · intro r n hf
            have Hf := Lib.hid hf
            clear hf
            (first
              | (fail)
              | (unfold relAt
                 go_simp
                 (first | (refine relUpon_val ?_ (Below.refl _ _); exact rfl) | exact rfl | (refine relUpon_enter ?_; (first | (go_at_call 17; (with_reducible refine (HNw.out _ (HB.out.trans (Below.mono n.below HB.out.size))).mono ?_); rintro e w9 ⟨rfl, rfl⟩; exact ⟨⟨_, rfl, rfl⟩, Below.refl _ _⟩) | (go_at_call 18; (with_reducible refine (HCa.out _ (HB.out.trans (Below.mono n.below HB.out.size))).mono ?_); rintro e w9 ⟨rfl, rfl⟩; exact ⟨⟨_, rfl, rfl⟩, Below.refl _ _⟩) | (go_at_call 16; (with_reducible refine (HTe.out _ (HB.out.trans (Below.mono n.below HB.out.size))).mono ?_); rintro e w9 ⟨rfl, hb⟩; exact ⟨⟨_, rfl, rfl⟩, hb⟩))))))
          (simp only [Act.put, List.setIfInBounds_toArray, List.set_cons_zero, List.set_cons_succ])
          (with_reducible refine HK.out _ _ ?_)
          clear HK K))
      refine relNil ?_
      intro r9 n9 hx9
      clear hcH
      (try simp only [List.nil_append, List.cons_append, List.mem_cons, List.not_mem_nil, or_false, forall_eq_or_imp, forall_eq, false_implies, implies_true] at hx9)
      obtain ⟨w9, hb9⟩ := n9
      (try dsimp only)
      obtain ⟨hc9, hf9⟩ := bcell hb9
      have hz9 := hb9.size
      (try simp at hz9)
      go_wp2
      go_ret
      exact ⟨rfl, HB.out.trans (hb9.mono HB.out.size)⟩
end Go.Proofs.YtcfdejlbchdciaaGreatDoor
