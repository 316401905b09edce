/-
  TraceTells: whether any events are right, what is shown of them, how many calls and machines they tell, and which one can't be so, is as the document says.
-/
import Derived.Test.YtaehcnoendieaaaDoorTcOp
import Derived.Test.YtaehcnoendieaaaDoorTcW
import Derived.Test.YtaehcnoendieaaaDoorTcM
namespace Go.Proofs.YtaehcnoendieaaaDoor
open Go.ChangeShapes Go.WideShapes Go.ChangeAt Go.RowKit
set_option linter.unusedVariables false
set_option linter.unusedSimpArgs false
namespace traceTells

set_option maxRecDepth 100000 in
set_option maxHeartbeats 8000000 in
theorem walk (l : List Ev) (a : Option Addr) (c : Nat) (gr : ByteArray) (w : World) (hF : EvL w a l) (hl : l.length ≤ maxLen) (hT : Tab10 w) (hM : MaxAt w) :
    Calls Tryd.prog 4 #[.slice a l.length c, .string gr] w fun e w' => e = .returned (.bool true) ∧ Below w.heap.size w w' := by
  have HK := Lib.hid (fun (V : World) (hV : Below w.heap.size w V) => known_any V (hT.mono hV) (hM.mono hV))
  have HT := Lib.hid hT
  have HLt := Lib.hid (light_any l a c w hF hl)
  cases hlt : lightB l
  · rw [hlt] at HLt
    clear hT hM hlt
    go_enter Tryd.func4, Tryd.ntmps4
    go_wp2_with (first
      | (go_at_call 12; (with_reducible refine HLt.out.mono ?_); rintro rr w1 ⟨rfl, hb1⟩)
      | (go_at_call 7; (with_reducible refine (HK.out _ hb1).mono ?_); rintro rr w5 ⟨rfl, hb5⟩))
    go_ret
    exact ⟨rfl, hb1.trans (hb5.mono hb1.size)⟩
  · obtain ⟨h60, hsh⟩ := light_short hlt
    rw [hlt] at HLt
    by_cases hg3 : gr.size ≤ 300
    · have g0 : decide (300 < (gr.size : Int)) = false := decide_eq_false (by omega)
      have HG := Lib.hid (fun (V : World) (hV : Below w.heap.size w V) => given_any l a c V (hF.mono hV) (by omega))
      have HS := Lib.hid hsh
      have HF := Lib.hid hF
      obtain ⟨n, hn⟩ : ∃ n, l.length = n := ⟨_, rfl⟩
      have HN := Lib.hid hn
      have HE := Lib.hid (show l.take n = l by rw [← hn, List.take_length])
      rw [hn] at h60 hl HLt HG ⊢
      clear hT hM hlt hsh hg3 hF hn
      go_enter Tryd.func4, Tryd.ntmps4
      go_wp2_with (first
        | (go_at_call 12; (with_reducible refine HLt.out.mono ?_); rintro rr w1 ⟨rfl, hb1⟩)
        | (go_at_call 13; (with_reducible refine (HG.out _ hb1).mono ?_); rintro rr w2 ⟨⟨v, rfl, hv⟩, hb2⟩; obtain ⟨ag, kg, rfl, -, hx⟩ := OwnL.isL ev_len (by decide) hv; rw [HN.out]; have HXg := Lib.hid hx; have HB2 := Lib.hid (hb1.trans (hb2.mono hb1.size)); clear hv hx hb1 hb2))
      obtain ⟨Wg, hWg⟩ : ∃ Wg, Wg = w2 := ⟨_, rfl⟩
      rw [← hWg] at HXg HB2 ⊢
      clear hWg HLt HG
      have HFg := Lib.hid (HF.out.mono HB2.out)
      have hwg : w.heap.size ≤ Wg.heap.size := HB2.out.size
      go_loopw [6] (fun vi wr => ∃ k : Nat, k ≤ n ∧ vi = .int .i64 k ∧ Below Wg.heap.size Wg wr ∧ ∀ e ∈ l.take k, 0 ≤ e.n ∧ e.n ≤ 1099511627776) (fun vi _ => n - (intOf vi).toNat)
      case atStart => exact ⟨0, by omega, rfl, Below.refl _ _, fun e he => by simp at he⟩
      case round =>
        obtain ⟨k, hk, rfl, hB, hA⟩ := hrel
        have HB := Lib.hid hB
        have HA := Lib.hid hA
        have HBw := Lib.hid (HB2.out.trans (hB.mono hwg))
        have hbz := hB.size
        clear hA
        by_cases hkn : k < n
        · obtain ⟨e, he⟩ := mem_at (l := l) (k := k) (by rw [HN.out]; exact hkn)
          have hse := HS.out e (List.mem_of_getElem? he)
          obtain ⟨b, o, rfl, hb, hcc⟩ := (HFg.out.mono hB) (by rw [HN.out]; omega)
          obtain ⟨c0, c1, c2, c3⟩ := ev_cells (hcc k e he)
          obtain ⟨b2, o2, rfl, hb2, hcc2⟩ := (HXg.out.mono hB) (by rw [HN.out]; omega)
          obtain ⟨d0, d1, d2, d3⟩ := ev_cells (hcc2 k e he)
          have HR1 := Lib.hid (fun w : World => right_any e w)
          have HR2 := Lib.hid (fun w : World => rright_any e (by have := hse.1; omega) w)
          obtain ⟨B, hBB⟩ : ∃ B, rightE e = B := ⟨_, rfl⟩
          rw [hBB] at HR1 HR2
          have hta := take_at he
          have HA1 := Lib.hid (fun (h : 0 ≤ e.n ∧ e.n ≤ 1099511627776) => show ∀ x ∈ l.take (k + 1), 0 ≤ x.n ∧ x.n ≤ 1099511627776 from fun x hx => by
            rw [hta] at hx
            rcases List.mem_append.1 hx with hx | hx
            · exact HA.out x hx
            · rw [List.mem_singleton.1 hx]; exact h)
          have hbe : (B == B) = true := by simp
          have hbn : (B != B) = false := by simp
          have HKr := Lib.hid (fun (V : World) (hV : Below wr.heap.size wr V) => HK.out V (HBw.out.trans (hV.mono (by omega))))
          obtain ⟨now, what, name, en⟩ := e
          dsimp only at c0 c1 c2 c3 d0 d1 d2 d3 HR1 HR2 HA1
          clear hcc hcc2 he hBB hta hse
          by_cases hn1 : 1099511627776 < en
          · have e1 : decide (1099511627776 < en) = true := decide_eq_true hn1
            clear hn1
            go_wp2
            have hcH := held_cell
            refine region_rel (by kernel_rfl) (by kernel_rfl) ?_
            repeat
              ((with_reducible refine relStep (fun K hK => ?_))
               (have HK := Lib.hid hK)
               clear hK
               (apply relInl
                · intro r n hf
                  have Hf := Lib.hid hf
                  clear hf
                  (first
                    | (fail)
                    | (unfold relAt
                       go_simp
                       (first | (refine relUpon_val ?_ (Below.refl _ _); exact rfl) | exact rfl | (refine relUpon_enter ?_; (first | (go_at_call 14; (with_reducible refine (HR1.out _).mono ?_); rintro rr z1 ⟨rfl, hb⟩; exact ⟨⟨_, rfl, rfl⟩, hb⟩) | (go_at_call 15; (with_reducible refine (HR2.out _).mono ?_); rintro rr z1 ⟨rfl, hb⟩; exact ⟨⟨_, rfl, rfl⟩, hb⟩))))))
                (simp only [Act.put, List.setIfInBounds_toArray, List.set_cons_zero, List.set_cons_succ])
                (with_reducible refine HK.out _ _ ?_)
                clear HK K))
            refine relNil ?_
            intro r5 n5 hx5
            clear hcH
            (try simp only [List.nil_append, List.cons_append, List.mem_cons, List.not_mem_nil, or_false, forall_eq_or_imp, forall_eq, false_implies, implies_true] at hx5)
            obtain ⟨w5, hb5⟩ := n5
            (try dsimp only)
            obtain ⟨hc5, hf5⟩ := bcell hb5
            have hz5 := hb5.size
            (try simp at hz5)
            go_wp2
            have hbb5 : b < w5.heap.size := by omega
            have hbb6 : b2 < w5.heap.size := by omega
            have hcH := held_cell
            refine region_rel (by kernel_rfl) (by kernel_rfl) ?_
            repeat
              ((with_reducible refine relStep (fun K hK => ?_))
               (have HK := Lib.hid hK)
               clear hK
               (apply relInl
                · intro r n hf
                  have Hf := Lib.hid hf
                  clear hf
                  (first
                    | (fail)
                    | (unfold relAt
                       go_simp
                       (first | (refine relUpon_val ?_ (Below.refl _ _); exact rfl) | exact rfl | (refine relUpon_enter ?_; (first | (go_at_call 14; (with_reducible refine (HR1.out _).mono ?_); rintro rr z1 ⟨rfl, hb⟩; exact ⟨⟨_, rfl, rfl⟩, hb⟩) | (go_at_call 15; (with_reducible refine (HR2.out _).mono ?_); rintro rr z1 ⟨rfl, hb⟩; exact ⟨⟨_, rfl, rfl⟩, hb⟩) | (go_at_call 7; (with_reducible refine (HKr.out _ (hb5.trans ((n.below).mono hb5.size))).mono ?_); rintro rr z1 ⟨rfl, hb⟩; exact ⟨⟨_, rfl, rfl⟩, hb⟩))))))
                (simp only [Act.put, List.setIfInBounds_toArray, List.set_cons_zero, List.set_cons_succ])
                (with_reducible refine HK.out _ _ ?_)
                clear HK K))
            refine relNil ?_
            intro r6 n6 hx6
            clear hcH
            (try simp only [List.nil_append, List.cons_append, List.mem_cons, List.not_mem_nil, or_false, forall_eq_or_imp, forall_eq, false_implies, implies_true] at hx6)
            obtain ⟨w6, hb6⟩ := n6
            (try dsimp only)
            obtain ⟨hc6, hf6⟩ := bcell hb6
            have hz6 := hb6.size
            (try simp at hz6)
            go_wp2
            go_ret
            exact ⟨rfl, HBw.out.trans ((hb5.trans (hb6.mono hb5.size)).mono (by omega))⟩
          · have e1 : decide (1099511627776 < en) = false := decide_eq_false hn1
            by_cases hn0 : en < 0
            · have e2 : decide (en < 0) = true := decide_eq_true hn0
              clear hn1 hn0
              go_wp2
              have hcH := held_cell
              refine region_rel (by kernel_rfl) (by kernel_rfl) ?_
              repeat
                ((with_reducible refine relStep (fun K hK => ?_))
                 (have HK := Lib.hid hK)
                 clear hK
                 (apply relInl
                  · intro r n hf
                    have Hf := Lib.hid hf
                    clear hf
                    (first
                      | (fail)
                      | (unfold relAt
                         go_simp
                         (first | (refine relUpon_val ?_ (Below.refl _ _); exact rfl) | exact rfl | (refine relUpon_enter ?_; (first | (go_at_call 14; (with_reducible refine (HR1.out _).mono ?_); rintro rr z1 ⟨rfl, hb⟩; exact ⟨⟨_, rfl, rfl⟩, hb⟩) | (go_at_call 15; (with_reducible refine (HR2.out _).mono ?_); rintro rr z1 ⟨rfl, hb⟩; exact ⟨⟨_, rfl, rfl⟩, hb⟩))))))
                  (simp only [Act.put, List.setIfInBounds_toArray, List.set_cons_zero, List.set_cons_succ])
                  (with_reducible refine HK.out _ _ ?_)
                  clear HK K))
              refine relNil ?_
              intro r5 n5 hx5
              clear hcH
              (try simp only [List.nil_append, List.cons_append, List.mem_cons, List.not_mem_nil, or_false, forall_eq_or_imp, forall_eq, false_implies, implies_true] at hx5)
              obtain ⟨w5, hb5⟩ := n5
              (try dsimp only)
              obtain ⟨hc5, hf5⟩ := bcell hb5
              have hz5 := hb5.size
              (try simp at hz5)
              go_wp2
              have hbb5 : b < w5.heap.size := by omega
              have hbb6 : b2 < w5.heap.size := by omega
              have hcH := held_cell
              refine region_rel (by kernel_rfl) (by kernel_rfl) ?_
              repeat
                ((with_reducible refine relStep (fun K hK => ?_))
                 (have HK := Lib.hid hK)
                 clear hK
                 (apply relInl
                  · intro r n hf
                    have Hf := Lib.hid hf
                    clear hf
                    (first
                      | (fail)
                      | (unfold relAt
                         go_simp
                         (first | (refine relUpon_val ?_ (Below.refl _ _); exact rfl) | exact rfl | (refine relUpon_enter ?_; (first | (go_at_call 14; (with_reducible refine (HR1.out _).mono ?_); rintro rr z1 ⟨rfl, hb⟩; exact ⟨⟨_, rfl, rfl⟩, hb⟩) | (go_at_call 15; (with_reducible refine (HR2.out _).mono ?_); rintro rr z1 ⟨rfl, hb⟩; exact ⟨⟨_, rfl, rfl⟩, hb⟩) | (go_at_call 7; (with_reducible refine (HKr.out _ (hb5.trans ((n.below).mono hb5.size))).mono ?_); rintro rr z1 ⟨rfl, hb⟩; exact ⟨⟨_, rfl, rfl⟩, hb⟩))))))
                  (simp only [Act.put, List.setIfInBounds_toArray, List.set_cons_zero, List.set_cons_succ])
                  (with_reducible refine HK.out _ _ ?_)
                  clear HK K))
              refine relNil ?_
              intro r6 n6 hx6
              clear hcH
              (try simp only [List.nil_append, List.cons_append, List.mem_cons, List.not_mem_nil, or_false, forall_eq_or_imp, forall_eq, false_implies, implies_true] at hx6)
              obtain ⟨w6, hb6⟩ := n6
              (try dsimp only)
              obtain ⟨hc6, hf6⟩ := bcell hb6
              have hz6 := hb6.size
              (try simp at hz6)
              go_wp2
              go_ret
              exact ⟨rfl, HBw.out.trans ((hb5.trans (hb6.mono hb5.size)).mono (by omega))⟩
            · have e2 : decide (en < 0) = false := decide_eq_false hn0
              have HA2 := Lib.hid (HA1.out ⟨by omega, by omega⟩)
              clear hn1 hn0 HA1
              go_wp2
              have hcH := held_cell
              refine region_rel (by kernel_rfl) (by kernel_rfl) ?_
              repeat
                ((with_reducible refine relStep (fun K hK => ?_))
                 (have HK := Lib.hid hK)
                 clear hK
                 (apply relInl
                  · intro r n hf
                    have Hf := Lib.hid hf
                    clear hf
                    (first
                      | (fail)
                      | (unfold relAt
                         go_simp
                         (first | (refine relUpon_val ?_ (Below.refl _ _); exact rfl) | exact rfl | (refine relUpon_enter ?_; (first | (go_at_call 14; (with_reducible refine (HR1.out _).mono ?_); rintro rr z1 ⟨rfl, hb⟩; exact ⟨⟨_, rfl, rfl⟩, hb⟩) | (go_at_call 15; (with_reducible refine (HR2.out _).mono ?_); rintro rr z1 ⟨rfl, hb⟩; exact ⟨⟨_, rfl, rfl⟩, hb⟩))))))
                  (simp only [Act.put, List.setIfInBounds_toArray, List.set_cons_zero, List.set_cons_succ])
                  (with_reducible refine HK.out _ _ ?_)
                  clear HK K))
              refine relNil ?_
              intro r5 n5 hx5
              clear hcH
              (try simp only [List.nil_append, List.cons_append, List.mem_cons, List.not_mem_nil, or_false, forall_eq_or_imp, forall_eq, false_implies, implies_true] at hx5)
              obtain ⟨w5, hb5⟩ := n5
              (try dsimp only)
              obtain ⟨hc5, hf5⟩ := bcell hb5
              have hz5 := hb5.size
              (try simp at hz5)
              go_wp2
              go_roundw
              case rel => exact ⟨k + 1, by omega, by go_num, hB.trans (hb5.mono hbz), HA2.out⟩
              case measure => simp [intOf]; omega
        · obtain rfl : k = n := by omega
          have hA9 : ∀ e ∈ l, 0 ≤ e.n ∧ e.n ≤ 1099511627776 := by have := HA.out; rw [HE.out] at this; exact this
          have HA9 := Lib.hid hA9
          have hX := HXg.out.mono hB
          have hY := HFg.out.mono hB
          have hq := tnt_str (rfl : lsB (showL l) = lsB (showL l))
          obtain ⟨Q, hQ⟩ : ∃ Q, lsB (showL l) = Q := ⟨_, rfl⟩
          have Hs1 := Lib.hid (fun (V : World) (hV : Below wr.heap.size wr V) => show_any l ag kg V (hX.mono hV) (by rw [HN.out]; omega) (HT.out.mono (HBw.out.trans (hV.mono (by omega)))))
          have Hs2 := Lib.hid (fun (V : World) (hV : Below wr.heap.size wr V) => rshow_any l a c V (hY.mono hV) (by rw [HN.out]; omega) HS.out)
          have Hs3 := Lib.hid (fun (V : World) (hV : Below wr.heap.size wr V) => calls_any l ag kg V (hX.mono hV) (by rw [HN.out]; omega))
          have Hs4 := Lib.hid (fun (V : World) (hV : Below wr.heap.size wr V) => rcalls_any l a c V (hY.mono hV) (by rw [HN.out]; omega))
          have Hs5 := Lib.hid (fun (V : World) (hV : Below wr.heap.size wr V) => check_any l ag kg V (hX.mono hV) (by rw [HN.out]; omega))
          have Hs6 := Lib.hid (fun (V : World) (hV : Below wr.heap.size wr V) => rcheck_any l a c V (hY.mono hV) (by rw [HN.out]; omega) HS.out)
          have Hs7 := Lib.hid (fun (V : World) (hV : Below wr.heap.size wr V) => added_any gr l ag kg V (hX.mono hV) (by rw [HN.out]; omega) HA9.out)
          have Hs8 := Lib.hid (fun (V : World) (hV : Below wr.heap.size wr V) => radded_any gr l a c V (hY.mono hV) (by rw [HN.out]; omega) HA9.out)
          have HKr := Lib.hid (fun (V : World) (hV : Below wr.heap.size wr V) => HK.out V (HBw.out.trans (hV.mono (by omega))))
          rw [HN.out] at Hs1 Hs2 Hs3 Hs4 Hs5 Hs6 Hs7 Hs8
          rw [hQ] at Hs1 Hs2 hq
          obtain ⟨N1, hN1⟩ : ∃ N1 : Int, ((callsN l : Nat) : Int) = N1 := ⟨_, rfl⟩
          obtain ⟨N2, hN2⟩ : ∃ N2, checkB l = N2 := ⟨_, rfl⟩
          obtain ⟨N3, hN3⟩ : ∃ N3, addedN gr l = N3 := ⟨_, rfl⟩
          rw [hN1] at Hs3 Hs4
          rw [hN2] at Hs5 Hs6
          rw [hN3] at Hs7 Hs8
          have j1 : (N1 == N1) = true := by simp
          have j2 : (N2 == N2) = true := by simp
          have j3 : (N3 == N3) = true := by simp
          clear hA9 hX hY hQ hN1 hN2 hN3
          go_wp2_with (first
            | (go_at_call 16; (with_reducible refine (Hs1.out _ (Below.refl _ _)).mono ?_); rintro rr v1 ⟨rfl, f1⟩)
            | (go_at_call 17; (with_reducible refine (Hs2.out _ f1).mono ?_); rintro rr v2 ⟨rfl, f2⟩; have F2 := f1.trans (f2.mono f1.size); clear f2)
            | (go_at_call 18; (with_reducible refine (Hs3.out _ F2).mono ?_); rintro rr v3 ⟨rfl, f3⟩; have F3 := F2.trans (f3.mono F2.size); clear f3)
            | (go_at_call 19; (with_reducible refine (Hs4.out _ F3).mono ?_); rintro rr v4 ⟨rfl, f4⟩; have F4 := F3.trans (f4.mono F3.size); clear f4)
            | (go_at_call 20; (with_reducible refine (Hs5.out _ F4).mono ?_); rintro rr v5 ⟨rfl, f5⟩; have F5 := F4.trans (f5.mono F4.size); clear f5)
            | (go_at_call 21; (with_reducible refine (Hs6.out _ F5).mono ?_); rintro rr v6 ⟨rfl, f6⟩; have F6 := F5.trans (f6.mono F5.size); clear f6)
            | (go_at_call 22; (with_reducible refine (Hs7.out _ F6).mono ?_); rintro rr v7 ⟨rfl, f7⟩; have F7 := F6.trans (f7.mono F6.size); clear f7)
            | (go_at_call 23; (with_reducible refine (Hs8.out _ F7).mono ?_); rintro rr v8 ⟨rfl, f8⟩; have F8 := F7.trans (f8.mono F7.size); clear f8)
            | (go_at_call 7; (with_reducible refine (HKr.out _ F8).mono ?_); rintro rr v9 ⟨rfl, f9⟩; have F9 := F8.trans (f9.mono F8.size); clear f9))
          go_ret
          exact ⟨rfl, HBw.out.trans (F9.mono (by omega))⟩
    · have g0 : decide (300 < (gr.size : Int)) = true := decide_eq_true (by omega)
      clear hT hM hlt hg3
      go_enter Tryd.func4, Tryd.ntmps4
      go_wp2_with (first
        | (go_at_call 12; (with_reducible refine HLt.out.mono ?_); rintro rr w1 ⟨rfl, hb1⟩)
        | (go_at_call 7; (with_reducible refine (HK.out _ hb1).mono ?_); rintro rr w5 ⟨rfl, hb5⟩))
      go_ret
      exact ⟨rfl, hb1.trans (hb5.mono hb1.size)⟩

set_option maxRecDepth 100000 in
theorem lifted (os : Os) (started : os.Started) (H : Type) (enc : TypeId × Value → H) :
    ReturnsInHanded {} Tryd.checked os 4 .any (fun w args => (Rows.traceTellsSpec.pre enc Tryd.prog Tryd.f4 Rows.traceTellsRow.domain false w args ∧ laidMetH Tryd.prog Rows.traceTellsRow.laid w) ∧ sizedMet enc Tryd.prog Tryd.f4 (OpenSpec.ofChange Rows.traceTellsSpec) false w args)
      (Rows.traceTellsSpec.post enc Tryd.prog Tryd.f4 false true false false) := by
  refine handed_laid (C := Tryd.checked) (X := fun w _ => laidMetH Tryd.prog Rows.traceTellsRow.laid w) (fun _ _ _ hh h => h.of_heap hh) Tryd.own started (by kernel_rfl) Tryd.func4
    (ChangeSpec.witness_at (enc := enc) (C := Tryd.checked) (os := os) (X := fun w _ => laidMetH Tryd.prog Rows.traceTellsRow.laid w) false (laidWorld os) #[.slice none 0 0, .string ⟨#[]⟩] 8 rfl (by kernel_rfl) (by kernel_rfl) (by kernel_rfl) (by kernel_rfl) (by kernel_rfl) (laidWorld_met os _)) ?_
  intro W base args ds gs before hsh hL hval hW
  have hW' := hW
  obtain ⟨p, q, hA, hV, rfl, hfz, hnd⟩ := hW
  rw [Tryd.params4] at hA hval
  obtain ⟨v0, v1, d0, d1, p0, p1, rfl, rfl, rfl, h0, h1⟩ := trodAll_two hA
  obtain ⟨a, l, k, rfl, -, hF, hm, -⟩ := open_evs (hval 0 27 v0 rfl rfl) h0
  obtain ⟨gr, rfl, _, _, _⟩ := Go.ChangeMaps.open_string Tryd.underlying9 (hval 1 9 v1 rfl rfl) h1
  refine (walk l a k gr W hF hm (tab_of hL) (max_of hsh)).mono fun e W' ⟨he, hb⟩ => ?_
  exact ⟨_, he, law_post Tryd.laidOut hW' rfl (by kernel_rfl) (by kernel_rfl) Tryd.underlying4 rfl rfl rfl hb⟩

theorem over : Rows.TraceTellsSaid :=
  OpenClaim.holds_of_wide 4 Tryd.f4 rfl rfl rfl rfl rfl rfl rfl ⟨rfl, rfl, rfl, rfl, rfl⟩ rfl rfl rfl rfl rfl (by kernel_rfl) Tryd.func4 (by kernel_rfl)
    (of_decide_eq_true (by kernel_rfl)) (by unfold Func.isWrapper; first | (rw [if_pos (by decide +kernel)]; kernel_rfl) | (rw [if_neg (by decide +kernel)]; exact ⟨rfl, rfl⟩))
    (fun os started H enc _ => lifted os started H enc)

/-- The statement: the card. -/
theorem proved : Rows.TraceTellsCardSaid :=
  Claim7.holds_tied_plain_at .later [] [.data, .data, .data, .data, .pinned] true Rows.traceTellsCard.stood.harness Rows.traceTellsCard.stood.looks
    over (fun _ h => by cases h) (by kernel_rfl) (fun _ h => by cases h) traceTells_row_tie rfl ⟨rfl, rfl⟩ (by kernel_rfl) rfl
    (fun f fn hf hfn => by
      obtain rfl : f = 4 := Option.some.inj ((show Tryd.prog.funcNamed Rows.traceTellsRow.func = some 4 by kernel_rfl).symm.trans hf) |>.symm
      obtain rfl : fn = Tryd.f4 := (Option.some.inj (Tryd.func4.symm.trans hfn)).symm
      exact ⟨by kernel_rfl, fun j t ht => by
        rw [Tryd.params4] at ht
        rcases j with _ | _ | j
        · obtain rfl : t = 27 := by simpa using ht.symm
          exact (show Tryd.prog.wantsStandIn 27 = false by kernel_rfl)
        · obtain rfl : t = 9 := by simpa using ht.symm
          exact (show Tryd.prog.wantsStandIn 9 = false by kernel_rfl)
        · simp at ht⟩)
    (by kernel_rfl)
end traceTells
end Go.Proofs.YtaehcnoendieaaaDoor
