/-
  The contract of triremeref06.Unborne.
-/
import Derived.Test.YtlfjjiepclphiaaTnt4
namespace Go.Proofs.Ytlfjjiepclphiaa
open Go.RowKit
set_option linter.unusedVariables false

theorem tnt_at {w : World} {b off i : Nat} {x : Tnt} (h : ∀ r, r < 3 → w.cell? ⟨b, off + i * 3 + r, none⟩ = (tcs x)[r]?) :
    w.cell? ⟨b, off + i * 3, none⟩ = some (.string x.key) ∧ w.cell? ⟨b, off + i * 3 + 1, none⟩ = some (.string x.val) ∧ w.cell? ⟨b, off + i * 3 + 2, none⟩ = some (.int .i64 x.eff) := tnt_cells h

/-- What the round over tolerations has by k. -/
def skipB (l : List Tol) (eff : Int) (x : Tnt) (k : Nat) : Bool := (!(decide (eff = 0) || decide (x.eff = eff))) || borneB (l.take k) x
theorem skipB_all {l : List Tol} {eff : Int} {x : Tnt} {m : Nat} (h : l.length = m) : (!skipB l eff x m) = leftB l eff x := by
  unfold skipB leftB
  rw [← h, List.take_length]
  cases decide (eff = 0) <;> cases decide (x.eff = eff) <;> cases borneB l x <;> rfl
theorem skipB_zero (l : List Tol) (eff : Int) (x : Tnt) : skipB l eff x 0 = !(decide (eff = 0) || decide (x.eff = eff)) := by
  unfold skipB
  simp [borneB]
theorem skipB_succ {l : List Tol} {eff : Int} {x : Tnt} {k : Nat} {t : Tol} (h : l[k]? = some t) : skipB l eff x (k + 1) = (skipB l eff x k || bearsB t x) := by
  unfold skipB
  rw [borneB_take h, Bool.or_assoc]

set_option maxRecDepth 100000 in
set_option maxHeartbeats 4000000 in
theorem refunborne_any (a c : Option Addr) (ka kc : Nat) (l : List Tol) (xs : List Tnt) (eff : Int) (w : World) (hD : TolsAt w a l) (hn : l.length ≤ 1000000) (hF : TntsAt w c xs) (hm : xs.length ≤ 1000000) :
    Calls Try.prog 20 #[.slice a l.length ka, .slice c xs.length kc, .int .i64 eff] w (Gives w (OwnL tcs 3 w.heap.size 30 (unborneL l xs eff))) := by
  have HD := Lib.hid hD
  have HF := Lib.hid hF
  clear hD hF
  obtain ⟨i0, hi, hz0, hz1, hz2⟩ := info_parts Try.info30
  have Hi := Lib.hid hi
  have Hz0 := Lib.hid hz0
  have Hz1 := Lib.hid hz1
  have Hz2 := Lib.hid hz2
  clear hi hz0 hz1 hz2
  obtain ⟨n, hln⟩ : ∃ n, xs.length = n := ⟨_, rfl⟩
  rw [hln] at hm ⊢
  have Hln := Lib.hid hln
  clear hln
  obtain ⟨m, hlm⟩ : ∃ m, l.length = m := ⟨_, rfl⟩
  rw [hlm] at hn ⊢
  have Hlm := Lib.hid hlm
  clear hlm
  go_enter Try.func20, Try.ntmps20
  go_wp2
  go_loopw [7, 8] (fun v i wr => ∃ k : Nat, k ≤ n ∧ i = .int .i64 k ∧ wr.ownsRow w.heap.size 30 3 v ((xs.take k).filter (leftB l eff)).length (((xs.take k).filter (leftB l eff)).flatMap tcs) ∧ Below w.heap.size w wr) (fun _ i _ => n - (intOf i).toNat)
  case atStart => exact ⟨0, by omega, rfl, World.ownsRow_nil _ _ _ _, by (repeat' (first | with_reducible exact Below.refl _ _ | with_reducible assumption | with_reducible refine Below.drew ?_ | with_reducible refine below_drewN' ?_ _ | with_reducible refine Below.alloc ?_ ?_ _ | with_reducible refine Below.setCell ?_ ?_ _ | with_reducible refine below_step (by assumption) ?_ ?_ | omega | (simp; done) | (simp; omega)))⟩
  case round =>
    obtain ⟨k, hk, rfl, hown, hB⟩ := hrel
    obtain ⟨hcB, hfB⟩ := bcell hB
    have hbz := hB.size
    have Hown := Lib.hid hown
    have HB := Lib.hid hB
    clear hown
    by_cases hlt : k < n
    · skip
      obtain ⟨x, hx⟩ := mem_at (l := xs) (k := k) (by rw [Hln.out]; exact hlt)
      have Hx := Lib.hid hx
      obtain ⟨b, off, rfl, hb, hc⟩ := HF.out (by rw [Hln.out]; omega)
      have hbw : b < wr.heap.size := by omega
      obtain ⟨c0, c1, c2⟩ := tnt_at (hc k x hx)
      clear hc hx
      have HDr := Lib.hid (HD.out.mono hB)
      have hz0 := skipB_zero l eff x
      have h3 : (((eff != 0) = false) ∧ skipB l eff x 0 = false) ∨ ((eff != 0) = true ∧ (x.eff != eff) = false ∧ skipB l eff x 0 = false) ∨ ((eff != 0) = true ∧ (x.eff != eff) = true ∧ skipB l eff x 0 = true) := by
        rw [hz0]
        by_cases h1 : eff = 0 <;> by_cases h2 : x.eff = eff <;> simp [h1, h2]
      clear hz0
      obtain ⟨w7, hw7⟩ : ∃ w7, w7 = wr := ⟨_, rfl⟩
      subst hw7
      rcases h3 with ⟨k1, hz⟩ | ⟨k1, k2, hz⟩ | ⟨k1, k2, hz⟩
      all_goals
        have Hz := Lib.hid hz
        clear hz
        go_wp2
        go_loopw [9, 10] (fun v i wy => ∃ j : Nat, j ≤ m ∧ i = .int .i64 j ∧ v = .bool (skipB l eff x j) ∧ Below w7.heap.size w7 wy) (fun _ i _ => m - (intOf i).toNat)
        case atStart => exact ⟨0, by omega, rfl, by rw [Hz.out], by (repeat' (first | with_reducible exact Below.refl _ _ | with_reducible assumption | with_reducible refine Below.drew ?_ | with_reducible refine below_drewN' ?_ _ | with_reducible refine Below.alloc ?_ ?_ _ | with_reducible refine Below.setCell ?_ ?_ _ | with_reducible refine below_step (by assumption) ?_ ?_ | omega | (simp; done) | (simp; omega)))⟩
        case round =>
          obtain ⟨j, hj, rfl, rfl, hC⟩ := hrel
          obtain ⟨hcC, hfC⟩ := bcell hC
          have hzC := hC.size
          have hbx : b < wr.heap.size := by omega
          by_cases hlj : j < m
          · obtain ⟨t, ht⟩ := mem_at (l := l) (k := j) (by rw [Hlm.out]; exact hlj)
            obtain ⟨b4, off4, rfl, hb4, hc4⟩ := HDr.out (by rw [Hlm.out]; omega)
            have hbx4 : b4 < wr.heap.size := by omega
            obtain ⟨t0, t1, t2, t3⟩ := tol_cells (hc4 j t ht)
            have Hsc := Lib.hid (skipB_succ (eff := eff) (x := x) ht)
            clear hc4 ht
            cases hsk : skipB l eff x j
            · cases hbv : bearsB t x
              all_goals
                have Hn := Lib.hid (Hsc.out.trans (by rw [hsk, hbv]))
                have Hbv := Lib.hid hbv
                clear hbv hsk
                go_wp2
                have hcH := held_cell
                refine region_rel (by kernel_rfl) (by kernel_rfl) ?_
                repeat
                  ((with_reducible refine relStep (fun K hK => ?_))
                   (have HK := Lib.hid hK)
                   clear hK
                   (first
                     | (apply relInl
                        · intro r n hf
                          have Hf := Lib.hid hf
                          clear hf
                          unfold relAt
                          go_simp
                          (first | (refine relUpon_val ?_ (Below.refl _ _); exact rfl) | exact rfl | (refine relUpon_enter ?_; (go_at_call 19; (with_reducible refine (refbears_any t x _).mono ?_); rintro e w1 ⟨rfl, hb⟩; rw [Hbv.out]; exact ⟨⟨_, rfl, rfl⟩, hb⟩)))
                        (simp only [Act.put, List.setIfInBounds_toArray, List.set_cons_zero, List.set_cons_succ])
                        (with_reducible refine HK.out _ _ ?_)
                        clear HK K)
                     | (fail)))
                refine relNil ?_
                intro r5 n5 hx5
                clear hcH
                (try simp only [List.nil_append, List.cons_append, List.mem_cons, List.not_mem_nil, or_false, forall_eq_or_imp, forall_eq, false_implies, implies_true] at hx5)
                obtain ⟨w5, hb5⟩ := n5
                (try dsimp only)
                obtain ⟨hc5, hf5⟩ := bcell hb5
                have hz5 := hb5.size
                (try simp at hz5)
                go_wp2
                go_roundw
                case rel => exact ⟨j + 1, by omega, by go_num, by rw [Hn.out]; rfl, by (repeat' (first | with_reducible exact Below.refl _ _ | with_reducible assumption | with_reducible refine Below.drew ?_ | with_reducible refine below_drewN' ?_ _ | with_reducible refine Below.alloc ?_ ?_ _ | with_reducible refine Below.setCell ?_ ?_ _ | with_reducible refine below_step (by assumption) ?_ ?_ | omega | (simp; done) | (simp; omega)))⟩
                case measure => simp [intOf]; omega
            · have Hn := Lib.hid (Hsc.out.trans (by rw [hsk, Bool.true_or]))
              clear hsk
              go_wp2
              have hcH := held_cell
              refine region_rel (by kernel_rfl) (by kernel_rfl) ?_
              repeat
                ((with_reducible refine relStep (fun K hK => ?_))
                 (have HK := Lib.hid hK)
                 clear hK
                 (first
                   | (apply relInl
                      · intro r n hf
                        have Hf := Lib.hid hf
                        clear hf
                        unfold relAt
                        go_simp
                        (first | (refine relUpon_val ?_ (Below.refl _ _); exact rfl) | exact rfl | (refine relUpon_enter ?_; fail))
                      (simp only [Act.put, List.setIfInBounds_toArray, List.set_cons_zero, List.set_cons_succ])
                      (with_reducible refine HK.out _ _ ?_)
                      clear HK K)
                   | (fail)))
              refine relNil ?_
              intro r5 n5 hx5
              clear hcH
              (try simp only [List.nil_append, List.cons_append, List.mem_cons, List.not_mem_nil, or_false, forall_eq_or_imp, forall_eq, false_implies, implies_true] at hx5)
              obtain ⟨w5, hb5⟩ := n5
              (try dsimp only)
              obtain ⟨hc5, hf5⟩ := bcell hb5
              have hz5 := hb5.size
              (try simp at hz5)
              go_wp2
              go_roundw
              case rel => exact ⟨j + 1, by omega, by go_num, by rw [Hn.out], by (repeat' (first | with_reducible exact Below.refl _ _ | with_reducible assumption | with_reducible refine Below.drew ?_ | with_reducible refine below_drewN' ?_ _ | with_reducible refine Below.alloc ?_ ?_ _ | with_reducible refine Below.setCell ?_ ?_ _ | with_reducible refine below_step (by assumption) ?_ ?_ | omega | (simp; done) | (simp; omega)))⟩
              case measure => simp [intOf]; omega
          · obtain rfl : j = m := by omega
            have hsk := skipB_all (eff := eff) (x := x) Hlm.out
            have HOx := Lib.hid (own_kept Hown.out hC)
            have HBx := Lib.hid (show Below w.heap.size w wr by (repeat' (first | with_reducible exact Below.refl _ _ | with_reducible assumption | with_reducible refine Below.drew ?_ | with_reducible refine below_drewN' ?_ _ | with_reducible refine Below.alloc ?_ ?_ _ | with_reducible refine Below.setCell ?_ ?_ _ | with_reducible refine below_step (by assumption) ?_ ?_ | omega | (simp; done) | (simp; omega))))
            have hbx : w.heap.size ≤ wr.heap.size := by omega
            cases hv : leftB l eff x
            · have hs9 : skipB l eff x j = true := by rw [hv] at hsk; simpa using hsk
              have Hs := Lib.hid (filt_no Hx.out (P := (leftB l eff)) (show (leftB l eff) x = false from hv))
              clear hv hsk
              rw [hs9]
              clear hs9
              go_wp2
              go_roundw
              case rel => exact ⟨k + 1, by omega, by go_num, by rw [Hs.out]; exact HOx.out, HBx.out⟩
              case measure => simp [intOf]; omega
            · have hs9 : skipB l eff x j = false := by rw [hv] at hsk; simpa using hsk
              have Hs := Lib.hid (filt_yes Hx.out (P := (leftB l eff)) (show (leftB l eff) x = true from hv))
              have hL := filt_len (leftB l eff) xs k
              have hc3 : ((xs.take k).filter (leftB l eff)).length + 1 ≤ maxLen := by unfold maxLen; omega
              have hc4 : (((xs.take k).filter (leftB l eff)).length + 1) * 40 ≤ 140737488355328 := by omega
              have Hrow := Lib.hid (show ((xs.take k).filter (leftB l eff)).flatMap tcs ++ tcs x = ((xs.take (k + 1)).filter (leftB l eff)).flatMap tcs by rw [Hs.out]; simp)
              have Hlen := Lib.hid (show ((xs.take k).filter (leftB l eff)).length + 1 = ((xs.take (k + 1)).filter (leftB l eff)).length by rw [Hs.out]; simp)
              clear hL
              clear hv hsk
              rw [hs9]
              clear hs9
              go_wp2_with (at_builtin; refine wpList_append_own _ rfl (.tmp 48) (.tmp 53) 23 rfl w.heap.size 30 i0 _ 3 40 Try.underlying23 Hi.out Hz0.out Hz1.out Hz2.out rfl (by decide) _ ((xs.take k).filter (leftB l eff)).length (((xs.take k).filter (leftB l eff)).flatMap tcs) rfl (HOx.out.alloc _) ⟨wr.heap.size, 0, none⟩ 1 1 (tcs x) rfl rfl (news_at _ _ _) (by first | exact tcs_one _ | exact ocs_one _) hc3 hc4 (le_alloc hbx _) ?_; intro v1 w1 hown1 hgrow1 _; rw [Hrow.out, Hlen.out] at hown1; have hB1 := own_below (HOx.out.alloc _) (HBx.out.alloc hbx _) (le_alloc hbx _) hgrow1; have HO1 := Lib.hid hown1; clear hown1 hgrow1)
              go_roundw
              case rel => exact ⟨k + 1, by omega, by go_num, HO1.out, hB1⟩
              case measure => simp [intOf]; omega
    · skip
      obtain rfl : k = n := by omega
      have HP := Lib.hid (show ∀ v, wr.ownsRow w.heap.size 30 3 v ((xs.take k).filter (leftB l eff)).length (((xs.take k).filter (leftB l eff)).flatMap tcs) → Gives w (OwnL tcs 3 w.heap.size 30 (unborneL l xs eff)) (.returned v) wr from fun v h => Gives.ownL (filt_all _ Hln.out).symm h HB.out)
      go_wp2
      refine bodyPost_ret (by simp [results, Try.results20, go_sem]) rfl (HP.out _ Hown.out)
end Go.Proofs.Ytlfjjiepclphiaa
