/-
  The contracts of triremeref06.maybe, effect, Right.
-/
import Derived.Test.YtaipiflbigpniaaTntBase
namespace Go.Proofs.Ytaipiflbigpniaa
open Go.RowKit
set_option linter.unusedVariables false
set_option linter.unusedSimpArgs false

def effB (e : Int) : Bool := decide (1 ≤ e ∧ e ≤ 3)
theorem okT_ref (x : Tnt) : okT x = (wordB x.key && weB x.val && effB x.eff) := by
  unfold okT reB effB
  have : ((!decide (x.eff = 0)) && decide (x.eff = 0 ∨ x.eff = 1 ∨ x.eff = 2 ∨ x.eff = 3)) = decide (1 ≤ x.eff ∧ x.eff ≤ 3) := by
    rw [← decide_not, ← Bool.decide_and]
    exact decide_eq_decide.2 (by omega)
  rw [Bool.and_assoc, this]

set_option maxRecDepth 100000 in
theorem refmaybe_any (s : ByteArray) (hs : s.size ≤ 1000000000) (w : World) :
    Calls Try.prog 60 #[.string s] w fun e w' => e = .returned (.bool (weB s)) ∧ Below w.heap.size w w' := by
  unfold weB
  by_cases h : s = emp
  · obtain ⟨h1, h2, h3, h4⟩ := emp_lits h
    rw [decide_eq_true h]
    clear h
    go_enter Try.func60, Try.ntmps60
    go_wp2
    go_ret
    exact ⟨rfl, by (repeat' (first | with_reducible exact Below.refl _ _ | with_reducible assumption | with_reducible refine Below.drew ?_ | with_reducible refine below_drewN' ?_ _ | with_reducible refine Below.alloc ?_ ?_ _ | with_reducible refine Below.setCell ?_ ?_ _ | with_reducible refine below_step (by assumption) ?_ ?_ | omega | (simp; done) | (simp; omega)))⟩
  · obtain ⟨h1, h2, h3, h4⟩ := emp_litn h
    rw [decide_eq_false h]
    clear h
    go_enter Try.func60, Try.ntmps60
    go_wp2_with (go_at_call 38; refine (refword_any _ hs _).mono ?_; rintro e w1 ⟨rfl, hb1⟩; obtain ⟨hc1, hf1⟩ := bcell hb1; have hz1 := hb1.size; (try simp at hz1); (try have hza : w.heap.size < w1.heap.size := by omega); (try have hzb : w.heap.size + 1 < w1.heap.size := by omega); (try have hzc : w.heap.size + 1 + 1 < w1.heap.size := by omega); (try have hzd : w.heap.size + 1 + 1 + 1 < w1.heap.size := by omega))
    go_ret
    exact ⟨rfl, by (repeat' (first | with_reducible exact Below.refl _ _ | with_reducible assumption | with_reducible refine Below.drew ?_ | with_reducible refine below_drewN' ?_ _ | with_reducible refine Below.alloc ?_ ?_ _ | with_reducible refine Below.setCell ?_ ?_ _ | with_reducible refine below_step (by assumption) ?_ ?_ | omega | (simp; done) | (simp; omega)))⟩
set_option maxRecDepth 100000 in
theorem refeffect_any (x : Int) (w : World) :
    Calls Try.prog 61 #[.int .i64 x] w fun e w' => e = .returned (.bool (effB x)) ∧ Below w.heap.size w w' := by
  unfold effB
  by_cases h1 : 1 ≤ x
  · by_cases h2 : x ≤ 3
    · rw [decide_eq_true ⟨h1, h2⟩]
      go_enter Try.func61, Try.ntmps61
      go_wp2
      go_ret
      exact ⟨by first | rfl | (simp; omega), by (repeat' (first | with_reducible exact Below.refl _ _ | with_reducible assumption | with_reducible refine Below.drew ?_ | with_reducible refine below_drewN' ?_ _ | with_reducible refine Below.alloc ?_ ?_ _ | with_reducible refine Below.setCell ?_ ?_ _ | with_reducible refine below_step (by assumption) ?_ ?_ | omega | (simp; done) | (simp; omega)))⟩
    · rw [decide_eq_false (fun h => h2 h.2)]
      go_enter Try.func61, Try.ntmps61
      go_wp2
      go_ret
      exact ⟨by first | rfl | (simp; omega), by (repeat' (first | with_reducible exact Below.refl _ _ | with_reducible assumption | with_reducible refine Below.drew ?_ | with_reducible refine below_drewN' ?_ _ | with_reducible refine Below.alloc ?_ ?_ _ | with_reducible refine Below.setCell ?_ ?_ _ | with_reducible refine below_step (by assumption) ?_ ?_ | omega | (simp; done) | (simp; omega)))⟩
  · rw [decide_eq_false (fun h => h1 h.1)]
    go_enter Try.func61, Try.ntmps61
    go_wp2
    go_ret
    exact ⟨by first | rfl | (simp; omega), by (repeat' (first | with_reducible exact Below.refl _ _ | with_reducible assumption | with_reducible refine Below.drew ?_ | with_reducible refine below_drewN' ?_ _ | with_reducible refine Below.alloc ?_ ?_ _ | with_reducible refine Below.setCell ?_ ?_ _ | with_reducible refine below_step (by assumption) ?_ ?_ | omega | (simp; done) | (simp; omega)))⟩

theorem okR_cases (x : Tnt) : (wordB x.key = false ∧ okT x = false) ∨ (wordB x.key = true ∧ weB x.val = false ∧ okT x = false) ∨ (wordB x.key = true ∧ weB x.val = true ∧ effB x.eff = false ∧ okT x = false) ∨ (wordB x.key = true ∧ weB x.val = true ∧ effB x.eff = true ∧ okT x = true) := by
  rw [okT_ref]
  cases wordB x.key <;> cases weB x.val <;> cases effB x.eff <;> simp
theorem slotE_cases (y x : Tnt) : ((y.key.toList == x.key.toList) = false ∧ slotE y x = false) ∨ ((y.key.toList == x.key.toList) = true ∧ (y.eff == x.eff) = false ∧ slotE y x = false) ∨ ((y.key.toList == x.key.toList) = true ∧ (y.eff == x.eff) = true ∧ slotE y x = true) := by
  unfold slotE
  by_cases h1 : y.key = x.key
  · by_cases h3 : y.eff = x.eff
    · exact .inr (.inr ⟨tnt_str h1, beq_iff_eq.2 h3, decide_eq_true ⟨h1.symm, h3.symm⟩⟩)
    · exact .inr (.inl ⟨tnt_str h1, beq_eq_false_iff_ne.2 h3, decide_eq_false fun h => h3 h.2.symm⟩)
  · exact .inl ⟨tnt_strn h1, decide_eq_false fun h => h1 h.1.symm⟩

set_option maxRecDepth 100000 in
set_option maxHeartbeats 4000000 in
theorem refright_t (c : Option Addr) (kc : Nat) (xs : List Tnt) (w : World) (hF : TntsAt w c xs) (hsz : ∀ x ∈ xs, x.key.size ≤ 1000000000 ∧ x.val.size ≤ 1000000000) (hm : xs.length ≤ 1000000) :
    Calls Try.prog 49 #[.slice c xs.length kc] w fun e w' => e = .returned (.bool (rightT xs)) ∧ Below w.heap.size w w' := by
  have HF := Lib.hid hF
  have Hsz := Lib.hid hsz
  clear hF hsz
  by_cases h16 : 16 < xs.length
  · have hr : rightT xs = false := by unfold rightT; rw [decide_eq_false (by omega)]; rfl
    rw [hr]
    clear hr
    go_enter Try.func49, Try.ntmps49
    go_wp2
    go_ret
    exact ⟨rfl, by (repeat' (first | with_reducible exact Below.refl _ _ | with_reducible assumption | with_reducible refine Below.drew ?_ | with_reducible refine below_drewN' ?_ _ | with_reducible refine Below.alloc ?_ ?_ _ | with_reducible refine Below.setCell ?_ ?_ _ | with_reducible refine below_step (by assumption) ?_ ?_ | omega | (simp; done) | (simp; omega)))⟩
  · have hrt : rightT xs = okTo xs xs.length := by unfold rightT; rw [decide_eq_true (by omega)]; rfl
    have Hrt := Lib.hid hrt
    have Hbad := Lib.hid (fun k hk h => okTo_bad (xs := xs) (k := k) hk h)
    clear hrt
    replace hm : xs.length ≤ 16 := by omega
    clear h16
    obtain ⟨n, hln⟩ : ∃ n, xs.length = n := ⟨_, rfl⟩
    rw [hln] at hm ⊢
    have Hln := Lib.hid hln
    clear hln
    go_enter Try.func49, Try.ntmps49
    go_wp2
    go_loopw [3] (fun i wr => ∃ k : Nat, k ≤ n ∧ i = .int .i64 k ∧ okTo xs k = true ∧ Below w.heap.size w wr) (fun i _ => n - (intOf i).toNat)
    case atStart => exact ⟨0, by omega, rfl, rfl, by (repeat' (first | with_reducible exact Below.refl _ _ | with_reducible assumption | with_reducible refine Below.drew ?_ | with_reducible refine below_drewN' ?_ _ | with_reducible refine Below.alloc ?_ ?_ _ | with_reducible refine Below.setCell ?_ ?_ _ | with_reducible refine below_step (by assumption) ?_ ?_ | omega | (simp; done) | (simp; omega)))⟩
    case round =>
      obtain ⟨k, hk, rfl, hE, hB⟩ := hrel
      obtain ⟨hcB, hfB⟩ := bcell hB
      have hbz := hB.size
      have HE := Lib.hid hE
      have HB := Lib.hid hB
      clear hE
      by_cases hlt : k < n
      · obtain ⟨x, hx⟩ := mem_at (l := xs) (k := k) (by rw [Hln.out]; exact hlt)
        obtain ⟨b, off, rfl, hb, hc⟩ := HF.out (by rw [Hln.out]; omega)
        have hbw : b < wr.heap.size := by omega
        obtain ⟨c0, c1, c2⟩ := tnt_cells (hc k x hx)
        obtain ⟨hs1, hs2⟩ := Hsz.out x (List.mem_of_getElem? hx)
        have Hx := Lib.hid hx
        have Hc := Lib.hid hc
        clear hc hx
        rcases okR_cases x with ⟨k1, hv⟩ | ⟨k1, k2, hv⟩ | ⟨k1, k2, k3, hv⟩ | ⟨k1, k2, k3, hv⟩
        rotate_right
        · have Hok := Lib.hid hv
          have K1 := Lib.hid k1
          have K2 := Lib.hid k2
          have K3 := Lib.hid k3
          clear hv k1 k2 k3
          go_wp2_with (first | (go_at_call 38; (with_reducible refine (refword_any _ hs1 _).mono ?_); rintro e w5 ⟨rfl, hb5⟩; rw [K1.out]; obtain ⟨hc5, hf5⟩ := bcell hb5; have hz5 := hb5.size) | (go_at_call 60; (with_reducible refine (refmaybe_any _ hs2 _).mono ?_); rintro e w6 ⟨rfl, hb6⟩; rw [K2.out]; obtain ⟨hc6, hf6⟩ := bcell hb6; have hz6 := hb6.size; have hbx6 : b < w5.heap.size := by omega) | (go_at_call 61; (with_reducible refine (refeffect_any _ _).mono ?_); rintro e w7 ⟨rfl, hb7⟩; rw [K3.out]; obtain ⟨hc7, hf7⟩ := bcell hb7; have hz7 := hb7.size; have hbx7 : b < w6.heap.size := by omega))
          have HB7 := Lib.hid (show Below wr.heap.size wr w7 by (repeat' (first | with_reducible exact Below.refl _ _ | with_reducible assumption | with_reducible refine Below.drew ?_ | with_reducible refine below_drewN' ?_ _ | with_reducible refine Below.alloc ?_ ?_ _ | with_reducible refine Below.setCell ?_ ?_ _ | with_reducible refine below_step (by assumption) ?_ ?_ | omega | (simp; done) | (simp; omega))))
          obtain ⟨w3, hw3⟩ : ∃ w3, w3 = wr := ⟨_, rfl⟩
          subst hw3
          clear hB
          have hB := HB.out
          go_loopw [4] (fun i wy => ∃ j : Nat, j ≤ k ∧ i = .int .i64 j ∧ ((xs.take j).all fun y => !slotE y x) = true ∧ Below w3.heap.size w3 wy) (fun i _ => k - (intOf i).toNat)
          case atStart => exact ⟨0, by omega, rfl, rfl, HB7.out⟩
          case round =>
            obtain ⟨j, hj, rfl, hS, hC⟩ := hrel
            obtain ⟨hcC, hfC⟩ := bcell hC
            have hzC := hC.size
            have HS := Lib.hid hS
            clear hS
            by_cases hlj : j < k
            · obtain ⟨y, hy⟩ := mem_at (l := xs) (k := j) (by rw [Hln.out]; omega)
              obtain ⟨d0, d1, d2⟩ := tnt_cells (Hc.out j y hy)
              have Hy := Lib.hid hy
              clear hy
              have hbx : b < wr.heap.size := by omega
              have hjn : j < n := by omega
              rcases slotE_cases y x with ⟨e1, hv⟩ | ⟨e1, e2, hv⟩ | ⟨e1, e2, hv⟩
              · have Hs := Lib.hid (all_take Hy.out HS.out hv)
                clear hv
                go_wp2
                have hcH := held_cell
                refine region_rel (by kernel_rfl) (by kernel_rfl) ?_
                repeat
                  ((with_reducible refine relStep (fun K hK => ?_))
                   (have HK := Lib.hid hK)
                   clear hK
                   (first
                     | (apply relInl
                        · intro r n hf
                          have Hf := Lib.hid hf
                          clear hf
                          unfold relAt
                          go_simp
                          (first | (refine relUpon_val ?_ (Below.refl _ _); exact rfl) | exact rfl | (refine relUpon_enter ?_; fail))
                        (simp only [Act.put, List.setIfInBounds_toArray, List.set_cons_zero, List.set_cons_succ])
                        (with_reducible refine HK.out _ _ ?_)
                        clear HK K)
                     | (fail)))
                refine relNil ?_
                intro r5 n5 hx5
                clear hcH
                (try simp only [List.nil_append, List.cons_append, List.mem_cons, List.not_mem_nil, or_false, forall_eq_or_imp, forall_eq, false_implies, implies_true] at hx5)
                obtain ⟨w5, hb5⟩ := n5
                (try dsimp only)
                obtain ⟨hc5, hf5⟩ := bcell hb5
                have hz5 := hb5.size
                (try simp at hz5)
                go_wp2
                go_roundw
                case rel => exact ⟨j + 1, by omega, by go_num, Hs.out, by (repeat' (first | with_reducible exact Below.refl _ _ | with_reducible assumption | with_reducible refine Below.drew ?_ | with_reducible refine below_drewN' ?_ _ | with_reducible refine Below.alloc ?_ ?_ _ | with_reducible refine Below.setCell ?_ ?_ _ | with_reducible refine below_step (by assumption) ?_ ?_ | omega | (simp; done) | (simp; omega)))⟩
                case measure => simp [intOf]; omega
              · have Hs := Lib.hid (all_take Hy.out HS.out hv)
                clear hv
                go_wp2
                have hcH := held_cell
                refine region_rel (by kernel_rfl) (by kernel_rfl) ?_
                repeat
                  ((with_reducible refine relStep (fun K hK => ?_))
                   (have HK := Lib.hid hK)
                   clear hK
                   (first
                     | (apply relInl
                        · intro r n hf
                          have Hf := Lib.hid hf
                          clear hf
                          unfold relAt
                          go_simp
                          (first | (refine relUpon_val ?_ (Below.refl _ _); exact rfl) | exact rfl | (refine relUpon_enter ?_; fail))
                        (simp only [Act.put, List.setIfInBounds_toArray, List.set_cons_zero, List.set_cons_succ])
                        (with_reducible refine HK.out _ _ ?_)
                        clear HK K)
                     | (fail)))
                refine relNil ?_
                intro r5 n5 hx5
                clear hcH
                (try simp only [List.nil_append, List.cons_append, List.mem_cons, List.not_mem_nil, or_false, forall_eq_or_imp, forall_eq, false_implies, implies_true] at hx5)
                obtain ⟨w5, hb5⟩ := n5
                (try dsimp only)
                obtain ⟨hc5, hf5⟩ := bcell hb5
                have hz5 := hb5.size
                (try simp at hz5)
                go_wp2
                go_roundw
                case rel => exact ⟨j + 1, by omega, by go_num, Hs.out, by (repeat' (first | with_reducible exact Below.refl _ _ | with_reducible assumption | with_reducible refine Below.drew ?_ | with_reducible refine below_drewN' ?_ _ | with_reducible refine Below.alloc ?_ ?_ _ | with_reducible refine Below.setCell ?_ ?_ _ | with_reducible refine below_step (by assumption) ?_ ?_ | omega | (simp; done) | (simp; omega)))⟩
                case measure => simp [intOf]; omega
              · have Hs := Lib.hid (Hbad.out k (by rw [Hln.out]; exact hlt) (okAt_slot Hx.out Hy.out hlj hv))
                clear hv
                go_wp2
                have hcH := held_cell
                refine region_rel (by kernel_rfl) (by kernel_rfl) ?_
                repeat
                  ((with_reducible refine relStep (fun K hK => ?_))
                   (have HK := Lib.hid hK)
                   clear hK
                   (first
                     | (apply relInl
                        · intro r n hf
                          have Hf := Lib.hid hf
                          clear hf
                          unfold relAt
                          go_simp
                          (first | (refine relUpon_val ?_ (Below.refl _ _); exact rfl) | exact rfl | (refine relUpon_enter ?_; fail))
                        (simp only [Act.put, List.setIfInBounds_toArray, List.set_cons_zero, List.set_cons_succ])
                        (with_reducible refine HK.out _ _ ?_)
                        clear HK K)
                     | (fail)))
                refine relNil ?_
                intro r5 n5 hx5
                clear hcH
                (try simp only [List.nil_append, List.cons_append, List.mem_cons, List.not_mem_nil, or_false, forall_eq_or_imp, forall_eq, false_implies, implies_true] at hx5)
                obtain ⟨w5, hb5⟩ := n5
                (try dsimp only)
                obtain ⟨hc5, hf5⟩ := bcell hb5
                have hz5 := hb5.size
                (try simp at hz5)
                go_wp2
                go_ret
                exact ⟨by rw [Hs.out]; rfl, by (repeat' (first | with_reducible exact Below.refl _ _ | with_reducible assumption | with_reducible refine Below.drew ?_ | with_reducible refine below_drewN' ?_ _ | with_reducible refine Below.alloc ?_ ?_ _ | with_reducible refine Below.setCell ?_ ?_ _ | with_reducible refine below_step (by assumption) ?_ ?_ | omega | (simp; done) | (simp; omega)))⟩
            · obtain rfl : j = k := by omega
              have Hs := Lib.hid (show okTo xs (j + 1) = true by rw [okTo_succ, HE.out, okAt_yes Hx.out Hok.out HS.out]; rfl)
              have HBB := Lib.hid (hB.trans (hC.mono hbz))
              go_wp2
              go_roundw
              case rel => exact ⟨j + 1, by omega, by go_num, Hs.out, HBB.out⟩
              case measure => simp [intOf]; omega
        all_goals
          have Hs := Lib.hid (Hbad.out k (by rw [Hln.out]; exact hlt) (okAt_tnt Hx.out hv))
          have K1 := Lib.hid k1
          first | (have K2 := Lib.hid k2) | skip
          first | (have K3 := Lib.hid k3) | skip
          clear hv k1
          first | clear k2 | skip
          first | clear k3 | skip
          go_wp2_with (first | (go_at_call 38; (with_reducible refine (refword_any _ hs1 _).mono ?_); rintro e w5 ⟨rfl, hb5⟩; rw [K1.out]; obtain ⟨hc5, hf5⟩ := bcell hb5; have hz5 := hb5.size) | (go_at_call 60; (with_reducible refine (refmaybe_any _ hs2 _).mono ?_); rintro e w6 ⟨rfl, hb6⟩; rw [K2.out]; obtain ⟨hc6, hf6⟩ := bcell hb6; have hz6 := hb6.size; have hbx6 : b < w5.heap.size := by omega) | (go_at_call 61; (with_reducible refine (refeffect_any _ _).mono ?_); rintro e w7 ⟨rfl, hb7⟩; rw [K3.out]; obtain ⟨hc7, hf7⟩ := bcell hb7; have hz7 := hb7.size; have hbx7 : b < w6.heap.size := by omega))
          go_ret
          exact ⟨by rw [Hs.out]; rfl, by (repeat' (first | with_reducible exact Below.refl _ _ | with_reducible assumption | with_reducible refine Below.drew ?_ | with_reducible refine below_drewN' ?_ _ | with_reducible refine Below.alloc ?_ ?_ _ | with_reducible refine Below.setCell ?_ ?_ _ | with_reducible refine below_step (by assumption) ?_ ?_ | omega | (simp; done) | (simp; omega)))⟩
      · obtain rfl : k = n := by omega
        have Hs := Lib.hid (show rightT xs = true from Hrt.out.trans ((congrArg (okTo xs) Hln.out).trans HE.out))
        go_wp2
        go_ret
        exact ⟨by rw [Hs.out]; rfl, by (repeat' (first | with_reducible exact Below.refl _ _ | with_reducible assumption | with_reducible refine Below.drew ?_ | with_reducible refine below_drewN' ?_ _ | with_reducible refine Below.alloc ?_ ?_ _ | with_reducible refine Below.setCell ?_ ?_ _ | with_reducible refine below_step (by assumption) ?_ ?_ | omega | (simp; done) | (simp; omega)))⟩
end Go.Proofs.Ytaipiflbigpniaa
