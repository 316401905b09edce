/-
  The contract of taints.Add.
-/
import Derived.Test.YtlfjjiepclphiaaTnt7
namespace Go.Proofs.Ytlfjjiepclphiaa
open Go.RowKit
set_option linter.unusedVariables false

theorem IsL.one {w : World} (y : Tnt) (t : TypeId) : IsL tcs 3 [y] (.slice (some ⟨w.heap.size, 0, none⟩) 1 1) (w.alloc (.cells #[.string y.key, .string y.val, .int .i64 y.eff] t)) := IsL.new tcs_len w [y] t 1 rfl

set_option maxRecDepth 100000 in
set_option maxHeartbeats 4000000 in
theorem add_any (c : Option Addr) (kc : Nat) (xs : List Tnt) (y : Tnt) (w : World) (hF : TntsAt w c xs) (hm : xs.length ≤ 1000000) :
    Calls Try.prog 15 #[.slice c xs.length kc, .agg #[.string (y).key, .string (y).val, .int .i64 (y).eff]] w (Gives w (OwnL tcs 3 w.heap.size 30 (addT xs y))) := by
  have HF := Lib.hid hF
  clear hF
  have Hm := Lib.hid hm
  clear hm
  obtain ⟨i0, hi, hz0, hz1, hz2⟩ := info_parts Try.info30
  have Hi := Lib.hid hi
  have Hz0 := Lib.hid hz0
  have Hz1 := Lib.hid hz1
  have Hz2 := Lib.hid hz2
  clear hi hz0 hz1 hz2
  go_enter Try.func15, Try.ntmps15
  go_wp2
  obtain ⟨W, hW⟩ : ∃ W, W = w.alloc (.cells #[.string y.key, .string y.val, .int .i64 y.eff] 30) := ⟨_, rfl⟩
  have HW := Lib.hid (show Below w.heap.size w W by rw [hW]; (repeat' (first | with_reducible exact Below.refl _ _ | with_reducible assumption | with_reducible refine Below.drew ?_ | with_reducible refine below_drewN' ?_ _ | with_reducible refine Below.alloc ?_ ?_ _ | with_reducible refine Below.setCell ?_ ?_ _ | with_reducible refine below_step (by assumption) ?_ ?_ | omega | (simp; done) | (simp; omega))))
  have hWz : w.heap.size ≤ W.heap.size := HW.out.size
  have HFW := Lib.hid (HF.out.mono HW.out)
  (try rw [← hW])
  have hs0 : W.cell? ⟨w.heap.size, 0, none⟩ = some (.string y.key) := by rw [hW]; simp [go_sem]
  have hs1 : W.cell? ⟨w.heap.size, 1, none⟩ = some (.string y.val) := by rw [hW]; simp [go_sem]
  have hs2 : W.cell? ⟨w.heap.size, 2, none⟩ = some (.int .i64 y.eff) := by rw [hW]; simp [go_sem]
  have hsz : w.heap.size < W.heap.size := by rw [hW]; simp
  clear hW
  have hcH := held_cell
  refine region_rel_tail 6 (by kernel_rfl) (by kernel_rfl) (by kernel_rfl) ?_
  dsimp only [List.take, List.drop]
  repeat
    ((with_reducible refine relStep (fun K hK => ?_))
     (have HK := Lib.hid hK)
     clear hK
     (apply relInl
      · intro r n hf
        have Hf := Lib.hid hf
        clear hf
        (first
          | (fail)
          | (unfold relAt
             go_simp
             (first | (refine relUpon_val ?_ (Below.refl _ _); exact rfl) | exact rfl | (refine relUpon_enter ?_; (go_at_call 29; (with_reducible refine (slotof_any y _).mono ?_); rintro e w1 ⟨rfl, hb⟩; exact ⟨⟨_, rfl, rfl⟩, hb⟩)))))
      (simp only [Act.put, List.setIfInBounds_toArray, List.set_cons_zero, List.set_cons_succ])
      (with_reducible refine HK.out _ _ ?_)
      clear HK K))
  (with_reducible refine relStep (fun K hK => ?_))
  (have HK := Lib.hid hK)
  clear hK
  refine relInr (OwnL tcs 3 W.heap.size 30 (xs.filter (slotB y.key y.eff))) (OwnL.stays _ _ _ _ _) (fun r n hf => ?_) ?_
  · have Hf := Lib.hid hf
    clear hf HK K
    unfold relAt
    (skip)
    go_simp
    ((refine relUpon_enter ?_; go_at_call 28; (with_reducible refine (without_any _ kc xs y.key y.eff _ (HFW.out.mono (by (have hnb := n.below); (repeat' (first | with_reducible exact Below.refl _ _ | with_reducible assumption | with_reducible refine Below.drew ?_ | with_reducible refine below_drewN' ?_ _ | with_reducible refine Below.alloc ?_ ?_ _ | with_reducible refine Below.setCell ?_ ?_ _ | with_reducible refine below_step (by assumption) ?_ ?_ | omega | (simp; done) | (simp; omega))))) Hm.out).mono ?_); rintro e w1 ⟨⟨v, rfl, hv⟩, hb⟩; exact ⟨⟨_, rfl, OwnL.mono hv n.below.size⟩, hb⟩))
  (simp only [Act.put, List.setIfInBounds_toArray, List.set_cons_zero, List.set_cons_succ])
  (with_reducible refine HK.out _ _ ?_)
  clear HK K
  repeat
    ((with_reducible refine relStep (fun K hK => ?_))
     (have HK := Lib.hid hK)
     clear hK
     (apply relInl
      · intro r n hf
        have Hf := Lib.hid hf
        clear hf
        (first
          | (fail)
          | (unfold relAt
             go_simp
             (first | (refine relUpon_val ?_ (Below.refl _ _); exact rfl) | exact rfl | (refine relUpon_enter ?_; fail))))
      (simp only [Act.put, List.setIfInBounds_toArray, List.set_cons_zero, List.set_cons_succ])
      (with_reducible refine HK.out _ _ ?_)
      clear HK K))
  (with_reducible refine relStep (fun K hK => ?_))
  (have HK := Lib.hid hK)
  clear hK
  refine relInr (IsL tcs 3 [y]) (IsL.stays _) (fun r n hf => ?_) ?_
  · have Hf := Lib.hid hf
    clear hf HK K
    unfold relAt
    (skip)
    go_simp
    (refine relUpon_val (IsL.one y _) (by (repeat' (first | with_reducible exact Below.refl _ _ | with_reducible assumption | with_reducible refine Below.drew ?_ | with_reducible refine below_drewN' ?_ _ | with_reducible refine Below.alloc ?_ ?_ _ | with_reducible refine Below.setCell ?_ ?_ _ | with_reducible refine below_step (by assumption) ?_ ?_ | omega | (simp; done) | (simp; omega)))))
  (simp only [Act.put, List.setIfInBounds_toArray, List.set_cons_zero, List.set_cons_succ])
  (with_reducible refine HK.out _ _ ?_)
  clear HK K
  refine relNil ?_
  intro r5 n5 hx5
  clear hcH
  (try simp only [List.nil_append, List.cons_append, List.mem_cons, List.not_mem_nil, or_false, forall_eq_or_imp, forall_eq, false_implies, implies_true] at hx5)
  obtain ⟨w5, hb5⟩ := n5
  (try dsimp only)
  obtain ⟨hc5, hf5⟩ := bcell hb5
  have hz5 := hb5.size
  (try simp at hz5)
  obtain ⟨hx1, hx2⟩ := hx5
  obtain ⟨a, q, e2, hn, hr⟩ := hx2
  have E2 := Lib.hid e2
  have HO := Lib.hid hx1
  have Hno := Lib.hid hn
  have Hr := Lib.hid hr.news
  have HBx := Lib.hid (show Below w.heap.size w w5 from HW.out.trans (hb5.mono hWz))
  have hbx : W.heap.size ≤ w5.heap.size := hz5
  have hL : (xs.filter (slotB y.key y.eff)).length ≤ 1000000 := Nat.le_trans (List.length_filter_le _ _) Hm.out
  clear hx1 e2 hn hr
  refine wpList_append_src rfl (.tmp 8) (.tmp 10) 23 rfl W.heap.size 30 i0 _ 3 40 Try.underlying23 Hi.out Hz0.out Hz1.out Hz2.out rfl (by decide) _ _ _ rfl HO.out a 1 q (tcs y) E2.out rfl (fun p hp j u h => Hr.out tcs_len p hp j u (by simpa using h)) (fun h => Hno.out h) (tcs_one _) (by unfold maxLen; omega) (by omega) hbx ?_
  intro v1 w1 hown1 hgrow1
  have hB1 := own_below HO.out (Below.refl _ _ : Below W.heap.size w5 w5) hbx hgrow1
  have HO1 := Lib.hid (show OwnL tcs 3 W.heap.size 30 (addT xs y) v1 w1 from OwnL.eq rfl (by simpa [addT] using hown1))
  have HBB := Lib.hid (HBx.out.trans (hB1.mono hWz))
  clear hown1 hgrow1
  go_wp2
  refine bodyPost_ret (by simp [results, Try.results15, go_sem]) rfl ⟨⟨_, rfl, OwnL.mono HO1.out hWz⟩, HBB.out⟩
end Go.Proofs.Ytlfjjiepclphiaa
