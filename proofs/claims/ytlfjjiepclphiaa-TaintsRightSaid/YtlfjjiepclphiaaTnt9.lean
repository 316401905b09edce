/-
  The contracts of triremeref06.Same, Prefers, Allows on both sides.
-/
import Derived.Test.YtlfjjiepclphiaaTnt8
namespace Go.Proofs.Ytlfjjiepclphiaa
open Go.RowKit
set_option linter.unusedVariables false

def sameB (xs ys : List Tnt) : Bool := decide (xs = ys)
theorem sameB_len {xs ys : List Tnt} (h : xs.length ≠ ys.length) : sameB xs ys = false := decide_eq_false fun e => h (congrArg _ e)
theorem sameB_at {xs ys : List Tnt} {k : Nat} {x y : Tnt} (hx : xs[k]? = some x) (hy : ys[k]? = some y) (h : tntB x y = false) : sameB xs ys = false := by
  refine decide_eq_false fun e => ?_
  subst e
  rw [hx] at hy
  cases hy
  simp [tntB] at h
theorem sameB_all {xs ys : List Tnt} {n : Nat} (hx : xs.length = n) (hy : ys.length = n) (h : xs.take n = ys.take n) : sameB xs ys = true := by
  refine decide_eq_true ?_
  rw [List.take_of_length_le (by omega), List.take_of_length_le (by omega)] at h
  exact h
theorem take_eq {xs ys : List Tnt} {k : Nat} {x y : Tnt} (hx : xs[k]? = some x) (hy : ys[k]? = some y) (h : tntB x y = true) (ht : xs.take k = ys.take k) : xs.take (k + 1) = ys.take (k + 1) := by
  rw [take_at hx, take_at hy, ht, of_decide_eq_true h]

set_option maxRecDepth 100000 in
set_option maxHeartbeats 4000000 in
theorem same_any (a c : Option Addr) (ka kc : Nat) (xs ys : List Tnt) (w : World) (hD : TntsAt w a xs) (hF : TntsAt w c ys) (hm : xs.length ≤ 1000000) (hn : ys.length ≤ 1000000) :
    Calls Try.prog 13 #[.slice a xs.length ka, .slice c ys.length kc] w fun e w' => e = .returned (.bool (sameB xs ys)) ∧ Below w.heap.size w w' := by
  have HD := Lib.hid hD
  have HF := Lib.hid hF
  clear hD hF
  obtain ⟨m, hlm⟩ : ∃ m, ys.length = m := ⟨_, rfl⟩
  rw [hlm] at hn ⊢
  have Hlm := Lib.hid hlm
  clear hlm
  obtain ⟨n, hln⟩ : ∃ n, xs.length = n := ⟨_, rfl⟩
  rw [hln] at hm ⊢
  have Hln := Lib.hid hln
  clear hln
  by_cases hmn : n = m
  · subst hmn
    have hq := neq_taint
    have hg := guard_taint
    go_enter Try.func13, Try.ntmps13
    go_wp2
    go_loopw [5] (fun i wr => ∃ k : Nat, k ≤ n ∧ i = .int .i64 k ∧ xs.take k = ys.take k ∧ Below w.heap.size w wr) (fun i _ => n - (intOf i).toNat)
    case atStart => exact ⟨0, by omega, rfl, rfl, by (repeat' (first | with_reducible exact Below.refl _ _ | with_reducible assumption | with_reducible refine Below.drew ?_ | with_reducible refine below_drewN' ?_ _ | with_reducible refine Below.alloc ?_ ?_ _ | with_reducible refine Below.setCell ?_ ?_ _ | with_reducible refine below_step (by assumption) ?_ ?_ | omega | (simp; done) | (simp; omega)))⟩
    case round =>
      obtain ⟨k, hk, rfl, hE, hB⟩ := hrel
      obtain ⟨hcB, hfB⟩ := bcell hB
      have hbz := hB.size
      have HE := Lib.hid hE
      clear hE
      by_cases hlt : k < n
      · obtain ⟨x, hx⟩ := mem_at (l := xs) (k := k) (by rw [Hln.out]; exact hlt)
        obtain ⟨y, hy⟩ := mem_at (l := ys) (k := k) (by rw [Hlm.out]; exact hlt)
        obtain ⟨b, off, rfl, hb, hc⟩ := HD.out (by rw [Hln.out]; omega)
        obtain ⟨b2, off2, rfl, hb2, hc2⟩ := HF.out (by rw [Hlm.out]; omega)
        have hbw : b < wr.heap.size := by omega
        have hbw2 : b2 < wr.heap.size := by omega
        obtain ⟨c0, c1, c2⟩ := tnt_cells (hc k x hx)
        obtain ⟨d0, d1, d2⟩ := tnt_cells (hc2 k y hy)
        have Hx := Lib.hid hx
        have Hy := Lib.hid hy
        clear hc hc2 hx hy
        cases hv : tntB x y
        · have Hs := Lib.hid (sameB_at Hx.out Hy.out hv)
          have hq1 := fun w => (hq x y w).trans (by rw [hv])
          clear hq hv
          go_wp2
          have hcH := held_cell
          refine region_rel (by kernel_rfl) (by kernel_rfl) ?_
          repeat
            ((with_reducible refine relStep (fun K hK => ?_))
             (have HK := Lib.hid hK)
             clear hK
             (first
               | (apply relInl
                  · intro r n hf
                    have Hf := Lib.hid hf
                    clear hf
                    unfold relAt
                    go_simp
                    (first | (refine relUpon_val ?_ (Below.refl _ _); exact rfl) | exact rfl | (refine relUpon_enter ?_; fail))
                  (simp only [Act.put, List.setIfInBounds_toArray, List.set_cons_zero, List.set_cons_succ])
                  (with_reducible refine HK.out _ _ ?_)
                  clear HK K)
               | (fail)))
          refine relNil ?_
          intro r5 n5 hx5
          clear hcH
          (try simp only [List.nil_append, List.cons_append, List.mem_cons, List.not_mem_nil, or_false, forall_eq_or_imp, forall_eq, false_implies, implies_true] at hx5)
          obtain ⟨w5, hb5⟩ := n5
          (try dsimp only)
          obtain ⟨hc5, hf5⟩ := bcell hb5
          have hz5 := hb5.size
          (try simp at hz5)
          go_wp2
          go_ret
          exact ⟨by rw [Hs.out]; rfl, by (repeat' (first | with_reducible exact Below.refl _ _ | with_reducible assumption | with_reducible refine Below.drew ?_ | with_reducible refine below_drewN' ?_ _ | with_reducible refine Below.alloc ?_ ?_ _ | with_reducible refine Below.setCell ?_ ?_ _ | with_reducible refine below_step (by assumption) ?_ ?_ | omega | (simp; done) | (simp; omega)))⟩
        · have Hs := Lib.hid (take_eq Hx.out Hy.out hv HE.out)
          have hq1 := fun w => (hq x y w).trans (by rw [hv])
          clear hq hv
          go_wp2
          have hcH := held_cell
          refine region_rel (by kernel_rfl) (by kernel_rfl) ?_
          repeat
            ((with_reducible refine relStep (fun K hK => ?_))
             (have HK := Lib.hid hK)
             clear hK
             (first
               | (apply relInl
                  · intro r n hf
                    have Hf := Lib.hid hf
                    clear hf
                    unfold relAt
                    go_simp
                    (first | (refine relUpon_val ?_ (Below.refl _ _); exact rfl) | exact rfl | (refine relUpon_enter ?_; fail))
                  (simp only [Act.put, List.setIfInBounds_toArray, List.set_cons_zero, List.set_cons_succ])
                  (with_reducible refine HK.out _ _ ?_)
                  clear HK K)
               | (fail)))
          refine relNil ?_
          intro r5 n5 hx5
          clear hcH
          (try simp only [List.nil_append, List.cons_append, List.mem_cons, List.not_mem_nil, or_false, forall_eq_or_imp, forall_eq, false_implies, implies_true] at hx5)
          obtain ⟨w5, hb5⟩ := n5
          (try dsimp only)
          obtain ⟨hc5, hf5⟩ := bcell hb5
          have hz5 := hb5.size
          (try simp at hz5)
          go_wp2
          go_roundw
          case rel => exact ⟨k + 1, by omega, by go_num, Hs.out, by (repeat' (first | with_reducible exact Below.refl _ _ | with_reducible assumption | with_reducible refine Below.drew ?_ | with_reducible refine below_drewN' ?_ _ | with_reducible refine Below.alloc ?_ ?_ _ | with_reducible refine Below.setCell ?_ ?_ _ | with_reducible refine below_step (by assumption) ?_ ?_ | omega | (simp; done) | (simp; omega)))⟩
          case measure => simp [intOf]; omega
      · obtain rfl : k = n := by omega
        have Hs := Lib.hid (sameB_all Hln.out Hlm.out HE.out)
        go_wp2
        go_ret
        exact ⟨by rw [Hs.out]; rfl, by (repeat' (first | with_reducible exact Below.refl _ _ | with_reducible assumption | with_reducible refine Below.drew ?_ | with_reducible refine below_drewN' ?_ _ | with_reducible refine Below.alloc ?_ ?_ _ | with_reducible refine Below.setCell ?_ ?_ _ | with_reducible refine below_step (by assumption) ?_ ?_ | omega | (simp; done) | (simp; omega)))⟩
  · have hr := sameB_len (xs := xs) (ys := ys) (by rw [Hln.out, Hlm.out]; exact hmn)
    have h1 : (((n : Nat) : Int) != ((m : Nat) : Int)) = true := by rw [bne_iff_ne]; omega
    rw [hr]
    clear hr
    go_enter Try.func13, Try.ntmps13
    go_wp2
    go_ret
    exact ⟨rfl, by (repeat' (first | with_reducible exact Below.refl _ _ | with_reducible assumption | with_reducible refine Below.drew ?_ | with_reducible refine below_drewN' ?_ _ | with_reducible refine Below.alloc ?_ ?_ _ | with_reducible refine Below.setCell ?_ ?_ _ | with_reducible refine below_step (by assumption) ?_ ?_ | omega | (simp; done) | (simp; omega)))⟩

set_option maxRecDepth 100000 in
set_option maxHeartbeats 4000000 in
theorem prefers_any (a c : Option Addr) (ka kc : Nat) (l : List Tol) (xs : List Tnt) (w : World) (hD : TolsAt w a l) (hn : l.length ≤ 1000000) (hF : TntsAt w c xs) (hm : xs.length ≤ 1000000) :
    Calls Try.prog 16 #[.slice a l.length ka, .slice c xs.length kc] w fun e w' => e = .returned (.int .i64 (unborneL l xs 2).length) ∧ Below w.heap.size w w' := by
  go_enter Try.func16, Try.ntmps16
  go_wp2_with (go_at_call 10; (with_reducible refine (unborne_any a c ka kc l xs 2 _ hD hn hF hm).mono ?_); rintro e w5 ⟨⟨v, rfl, hv⟩, hb5⟩; obtain ⟨q, kq, rfl, _, _⟩ := hv.isL tcs_len (by decide))
  go_ret
  exact ⟨rfl, by (repeat' (first | with_reducible exact Below.refl _ _ | with_reducible assumption | with_reducible refine Below.drew ?_ | with_reducible refine below_drewN' ?_ _ | with_reducible refine Below.alloc ?_ ?_ _ | with_reducible refine Below.setCell ?_ ?_ _ | with_reducible refine below_step (by assumption) ?_ ?_ | omega | (simp; done) | (simp; omega)))⟩
set_option maxRecDepth 100000 in
set_option maxHeartbeats 4000000 in
theorem refprefers_any (a c : Option Addr) (ka kc : Nat) (l : List Tol) (xs : List Tnt) (w : World) (hD : TolsAt w a l) (hn : l.length ≤ 1000000) (hF : TntsAt w c xs) (hm : xs.length ≤ 1000000) :
    Calls Try.prog 22 #[.slice a l.length ka, .slice c xs.length kc] w fun e w' => e = .returned (.int .i64 (unborneL l xs 2).length) ∧ Below w.heap.size w w' := by
  go_enter Try.func22, Try.ntmps22
  go_wp2_with (go_at_call 20; (with_reducible refine (refunborne_any a c ka kc l xs 2 _ hD hn hF hm).mono ?_); rintro e w5 ⟨⟨v, rfl, hv⟩, hb5⟩; obtain ⟨q, kq, rfl, _, _⟩ := hv.isL tcs_len (by decide))
  go_ret
  exact ⟨rfl, by (repeat' (first | with_reducible exact Below.refl _ _ | with_reducible assumption | with_reducible refine Below.drew ?_ | with_reducible refine below_drewN' ?_ _ | with_reducible refine Below.alloc ?_ ?_ _ | with_reducible refine Below.setCell ?_ ?_ _ | with_reducible refine below_step (by assumption) ?_ ?_ | omega | (simp; done) | (simp; omega)))⟩

def allowsB (l : List Tol) (xs : List Tnt) : Bool := decide ((unborneL l xs 1).length = 0) && decide ((unborneL l xs 3).length = 0)
set_option maxRecDepth 100000 in
set_option maxHeartbeats 4000000 in
theorem allows_any (a c : Option Addr) (ka kc : Nat) (l : List Tol) (xs : List Tnt) (w : World) (hD : TolsAt w a l) (hn : l.length ≤ 1000000) (hF : TntsAt w c xs) (hm : xs.length ≤ 1000000) :
    Calls Try.prog 12 #[.slice a l.length ka, .slice c xs.length kc] w fun e w' => e = .returned (.bool (allowsB l xs)) ∧ Below w.heap.size w w' := by
  unfold allowsB
  obtain ⟨n1, h1⟩ : ∃ n, (unborneL l xs 1).length = n := ⟨_, rfl⟩
  obtain ⟨n3, h3⟩ : ∃ n, (unborneL l xs 3).length = n := ⟨_, rfl⟩
  rw [h1, h3]
  have H1 := Lib.hid h1
  have H3 := Lib.hid h3
  clear h1 h3
  by_cases e1 : n1 = 0
  · by_cases e3 : n3 = 0
    all_goals
      first | subst e1 | skip
      first | subst e3 | skip
      first | (have k3 : (((n3 : Nat) : Int) == 0) = false := by simpa using e3) | skip
      go_enter Try.func12, Try.ntmps12
      go_wp2_with (first | (go_at_call 10; (with_reducible refine (unborne_any a c ka kc l xs 1 _ hD hn hF hm).mono ?_); rintro e w5 ⟨⟨v, rfl, hv⟩, hb5⟩; obtain ⟨q, kq, rfl, _, _⟩ := hv.isL tcs_len (by decide); rw [H1.out]; clear hv; have hz5 := hb5.size) | (go_at_call 10; (with_reducible refine (unborne_any a c ka kc l xs 3 _ (hD.mono (by (repeat' (first | with_reducible exact Below.refl _ _ | with_reducible assumption | with_reducible refine Below.drew ?_ | with_reducible refine below_drewN' ?_ _ | with_reducible refine Below.alloc ?_ ?_ _ | with_reducible refine Below.setCell ?_ ?_ _ | with_reducible refine below_step (by assumption) ?_ ?_ | omega | (simp; done) | (simp; omega))))) hn (hF.mono (by (repeat' (first | with_reducible exact Below.refl _ _ | with_reducible assumption | with_reducible refine Below.drew ?_ | with_reducible refine below_drewN' ?_ _ | with_reducible refine Below.alloc ?_ ?_ _ | with_reducible refine Below.setCell ?_ ?_ _ | with_reducible refine below_step (by assumption) ?_ ?_ | omega | (simp; done) | (simp; omega))))) hm).mono ?_); rintro e w6 ⟨⟨v, rfl, hv⟩, hb6⟩; obtain ⟨q, kq, rfl, _, _⟩ := hv.isL tcs_len (by decide); rw [H3.out]; clear hv))
      go_ret
      exact ⟨by simp [*], by (repeat' (first | with_reducible exact Below.refl _ _ | with_reducible assumption | with_reducible refine Below.drew ?_ | with_reducible refine below_drewN' ?_ _ | with_reducible refine Below.alloc ?_ ?_ _ | with_reducible refine Below.setCell ?_ ?_ _ | with_reducible refine below_step (by assumption) ?_ ?_ | omega | (simp; done) | (simp; omega)))⟩
  · have k1 : (((n1 : Nat) : Int) == 0) = false := by simpa using e1
    go_enter Try.func12, Try.ntmps12
    go_wp2_with (go_at_call 10; (with_reducible refine (unborne_any a c ka kc l xs 1 _ hD hn hF hm).mono ?_); rintro e w5 ⟨⟨v, rfl, hv⟩, hb5⟩; obtain ⟨q, kq, rfl, _, _⟩ := hv.isL tcs_len (by decide); rw [H1.out]; clear hv)
    go_ret
    exact ⟨by simp [e1], by (repeat' (first | with_reducible exact Below.refl _ _ | with_reducible assumption | with_reducible refine Below.drew ?_ | with_reducible refine below_drewN' ?_ _ | with_reducible refine Below.alloc ?_ ?_ _ | with_reducible refine Below.setCell ?_ ?_ _ | with_reducible refine below_step (by assumption) ?_ ?_ | omega | (simp; done) | (simp; omega)))⟩

def hardB (x : Tnt) : Bool := decide (x.eff = 1) || decide (x.eff = 3)
theorem allows_hard (l : List Tol) (xs : List Tnt) : allowsB l xs = !(unborneL l xs 0).any hardB := by
  unfold allowsB unborneL
  have h : ∀ e : Int, e ≠ 0 → (decide ((xs.filter (leftB l e)).length = 0) = true ↔ ∀ x ∈ xs, x.eff = e → borneB l x = true) := by
    intro e he
    rw [decide_eq_true_eq, List.length_eq_zero_iff, List.filter_eq_nil_iff]
    refine ⟨fun h x hx hxe => ?_, fun h x hx hl => ?_⟩
    · have := h x hx
      unfold leftB at this
      cases hb : borneB l x
      · simp [hb, hxe] at this
      · rfl
    · unfold leftB at hl
      simp [he] at hl
      rw [h x hx hl.1] at hl
      simp at hl
  have h1 := h 1 (by decide)
  have h3 := h 3 (by decide)
  rw [Bool.eq_iff_iff, Bool.and_eq_true, h1, h3]
  simp only [Bool.not_eq_true', List.any_eq_false, List.mem_filter]
  refine ⟨fun ⟨a, b⟩ x ⟨hx, hl⟩ hh => ?_, fun g => ⟨fun x hx hxe => ?_, fun x hx hxe => ?_⟩⟩
  · unfold leftB at hl
    unfold hardB at hh
    simp at hl hh
    rcases hh with hh | hh
    · rw [a x hx hh] at hl; cases hl
    · rw [b x hx hh] at hl; cases hl
  · cases hb : borneB l x
    · exact absurd (show hardB x = true by simp [hardB, hxe]) (g x ⟨hx, by simp [leftB, hb]⟩)
    · rfl
  · cases hb : borneB l x
    · exact absurd (show hardB x = true by simp [hardB, hxe]) (g x ⟨hx, by simp [leftB, hb]⟩)
    · rfl
theorem hard_cases (x : Tnt) : ((x.eff == 1) = true ∧ hardB x = true) ∨ ((x.eff == 1) = false ∧ (x.eff == 3) = true ∧ hardB x = true) ∨ ((x.eff == 1) = false ∧ (x.eff == 3) = false ∧ hardB x = false) := by
  unfold hardB
  by_cases h1 : x.eff = 1 <;> by_cases h3 : x.eff = 3 <;> simp [h1, h3]

set_option maxRecDepth 100000 in
set_option maxHeartbeats 4000000 in
theorem refallows_any (a c : Option Addr) (ka kc : Nat) (l : List Tol) (xs : List Tnt) (w : World) (hD : TolsAt w a l) (hn : l.length ≤ 1000000) (hF : TntsAt w c xs) (hm : xs.length ≤ 1000000) :
    Calls Try.prog 21 #[.slice a l.length ka, .slice c xs.length kc] w fun e w' => e = .returned (.bool (allowsB l xs)) ∧ Below w.heap.size w w' := by
  have HA := Lib.hid (allows_hard l xs)
  obtain ⟨us, hu⟩ : ∃ us, unborneL l xs 0 = us := ⟨_, rfl⟩
  have hul : us.length ≤ 1000000 := by rw [← hu]; exact Nat.le_trans (List.length_filter_le _ _) hm
  have HU := Lib.hid hu
  clear hu
  obtain ⟨n, hln⟩ : ∃ n, us.length = n := ⟨_, rfl⟩
  rw [hln] at hul
  have Hln := Lib.hid hln
  clear hln
  go_enter Try.func21, Try.ntmps21
  go_wp2_with (go_at_call 20; (with_reducible refine (refunborne_any a c ka kc l xs 0 _ hD hn hF hm).mono ?_); rintro e w5 ⟨⟨v, rfl, hv⟩, hb5⟩; rw [HU.out] at hv; obtain ⟨q, kq, rfl, _, hr⟩ := hv.isL tcs_len (by decide); rw [Hln.out]; have HR := Lib.hid hr; clear hv hr)
  have hz5 := hb5.size
  go_loopw [6] (fun i wr => ∃ k : Nat, k ≤ n ∧ i = .int .i64 k ∧ (us.take k).any hardB = false ∧ Below w5.heap.size w5 wr) (fun i _ => n - (intOf i).toNat)
  case atStart => exact ⟨0, by omega, rfl, rfl, by (repeat' (first | with_reducible exact Below.refl _ _ | with_reducible assumption | with_reducible refine Below.drew ?_ | with_reducible refine below_drewN' ?_ _ | with_reducible refine Below.alloc ?_ ?_ _ | with_reducible refine Below.setCell ?_ ?_ _ | with_reducible refine below_step (by assumption) ?_ ?_ | omega | (simp; done) | (simp; omega)))⟩
  case round =>
    obtain ⟨k, hk, rfl, hE, hB⟩ := hrel
    obtain ⟨hcB, hfB⟩ := bcell hB
    have hbz := hB.size
    have HE := Lib.hid hE
    clear hE
    have HBB := Lib.hid (show Below w.heap.size w wr from hb5.trans (hB.mono hz5))
    by_cases hlt : k < n
    · obtain ⟨x, hx⟩ := mem_at (l := us) (k := k) (by rw [Hln.out]; exact hlt)
      obtain ⟨b, off, rfl, hb, hc⟩ := HR.out (by rw [Hln.out]; omega)
      have hbw : b < wr.heap.size := by omega
      obtain ⟨c0, c1, c2⟩ := tnt_cells (hc k x hx)
      have Hx := Lib.hid hx
      clear hc hx
      rcases hard_cases x with ⟨k1, hv⟩ | ⟨k1, k2, hv⟩ | ⟨k1, k2, hv⟩
      · have Hs := Lib.hid (show allowsB l xs = false by rw [HA.out, HU.out, Bool.not_eq_false', List.any_eq_true]; exact ⟨x, List.mem_of_getElem? Hx.out, hv⟩)
        clear hv
        go_wp2
        go_ret
        exact ⟨by rw [Hs.out]; rfl, HBB.out⟩
      · have Hs := Lib.hid (show allowsB l xs = false by rw [HA.out, HU.out, Bool.not_eq_false', List.any_eq_true]; exact ⟨x, List.mem_of_getElem? Hx.out, hv⟩)
        clear hv
        go_wp2
        go_ret
        exact ⟨by rw [Hs.out]; rfl, HBB.out⟩
      · have Hs := Lib.hid (show (us.take (k + 1)).any hardB = false by rw [take_at Hx.out, List.any_append, HE.out]; simp [hv])
        clear hv
        go_wp2
        go_roundw
        case rel => exact ⟨k + 1, by omega, by go_num, Hs.out, by (repeat' (first | with_reducible exact Below.refl _ _ | with_reducible assumption | with_reducible refine Below.drew ?_ | with_reducible refine below_drewN' ?_ _ | with_reducible refine Below.alloc ?_ ?_ _ | with_reducible refine Below.setCell ?_ ?_ _ | with_reducible refine below_step (by assumption) ?_ ?_ | omega | (simp; done) | (simp; omega)))⟩
        case measure => simp [intOf]; omega
    · obtain rfl : k = n := by omega
      have Hs := Lib.hid (show allowsB l xs = true by rw [HA.out, HU.out, ← List.take_of_length_le (Nat.le_of_eq Hln.out), HE.out]; rfl)
      go_wp2
      go_ret
      exact ⟨by rw [Hs.out]; rfl, HBB.out⟩
end Go.Proofs.Ytlfjjiepclphiaa
