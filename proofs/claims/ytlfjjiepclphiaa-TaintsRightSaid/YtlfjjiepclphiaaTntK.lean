/-
  The contract of triremelaw06.known.
-/
import Derived.Test.YtlfjjiepclphiaaTntB
import Derived.Deep.Cut
namespace Go.Proofs.Ytlfjjiepclphiaa
open Go.RowKit
set_option linter.unusedVariables false

def tx : Tnt := ⟨⟨#[103, 112, 117]⟩, ⟨#[121, 101, 115]⟩, 1⟩
def ty : Tnt := ⟨⟨#[111, 108, 100]⟩, ⟨#[]⟩, 2⟩
def tb : Tol := ⟨⟨#[103, 112, 117]⟩, ⟨#[121, 101, 115]⟩, false, 0⟩
theorem wpRel_world {P : Program} {ops : Array Oper} {W : World} {Q : Act → World → Prop} {l : List Oper} {i : Nat} {F : (Nat → Value) → Act} {Fs : Told} (h : ∀ W', W' = W → wpRel P ops W' Q l i F Fs) : wpRel P ops W Q l i F Fs := h W rfl

structure KWorld (W : World) (N : Nat) : Prop where
  sz : N + 1 + 1 + 1 < W.heap.size
  x0 : W.cell? ⟨N, 0, none⟩ = some (.string ⟨#[103, 112, 117]⟩)
  x1 : W.cell? ⟨N, 1, none⟩ = some (.string ⟨#[121, 101, 115]⟩)
  x2 : W.cell? ⟨N, 2, none⟩ = some (.int .i64 1)
  y0 : W.cell? ⟨N + 1, 0, none⟩ = some (.string ⟨#[111, 108, 100]⟩)
  y1 : W.cell? ⟨N + 1, 1, none⟩ = some (.string ⟨#[]⟩)
  y2 : W.cell? ⟨N + 1, 2, none⟩ = some (.int .i64 2)
  b0 : W.cell? ⟨N + 1 + 1 + 1, 0, none⟩ = some (.string ⟨#[103, 112, 117]⟩)
  b1 : W.cell? ⟨N + 1 + 1 + 1, 1, none⟩ = some (.string ⟨#[121, 101, 115]⟩)
  b2 : W.cell? ⟨N + 1 + 1 + 1, 2, none⟩ = some (.bool false)
  b3 : W.cell? ⟨N + 1 + 1 + 1, 3, none⟩ = some (.int .i64 0)
  l : TntsAt W (some ⟨N + 1 + 1, 0, none⟩) [tx, ty]
theorem KWorld.l1 {W : World} {N : Nat} (h : KWorld W N) : TntsAt W (some ⟨N + 1 + 1, 3, none⟩) [ty] := fun _ => by
  obtain ⟨b, off, e, hb, hc⟩ := h.l (by decide)
  cases e
  refine ⟨_, _, rfl, hb, fun i x hx r hr => ?_⟩
  have hi : i = 0 := by
    have := (List.getElem?_eq_some_iff.1 hx).1
    simp at this
    exact this
  subst hi
  have := hc 1 x (by simpa using hx) r hr
  simpa using this
theorem KWorld.o {W : World} {N : Nat} (h : KWorld W N) : TolsAt W (some ⟨N + 1 + 1 + 1, 0, none⟩) [tb] := fun _ => by
  refine ⟨_, _, rfl, h.sz, fun i x hx r hr => ?_⟩
  have hi : i = 0 := by
    have := (List.getElem?_eq_some_iff.1 hx).1
    simp at this
    exact this
  subst hi
  obtain rfl : tb = x := by simpa using hx
  rcases (show r = 0 ∨ r = 1 ∨ r = 2 ∨ r = 3 by omega) with rfl | rfl | rfl | rfl
  · exact h.b0
  · exact h.b1
  · exact h.b2
  · exact h.b3

def t1 : Tol := ⟨⟨#[]⟩, ⟨#[]⟩, true, 0⟩
def t2 : Tol := ⟨⟨#[103, 112, 117]⟩, ⟨#[110, 111]⟩, false, 0⟩
def t0 : Tol := ⟨⟨#[]⟩, ⟨#[]⟩, false, 0⟩
theorem kv1 : bearsB tb tx = true := by decide +kernel
theorem kv2 : bearsB t1 tx = true := by decide +kernel
theorem kv3 : bearsB t2 tx = false := by decide +kernel
theorem kv4 : allowsB [tb] [tx, ty] = true := by decide +kernel
theorem kv5 : allowsB [] [tx, ty] = false := by decide +kernel
theorem kv6 : (unborneL [tb] [tx, ty] 2).length = 1 := by decide +kernel
theorem kv7 : unborneL [] [tx, ty] 0 = [tx, ty] := by decide +kernel
theorem kv8 : addT [ty] tx = [ty, tx] := by decide +kernel
theorem kv9 : dropT [tx, ty] ⟨#[103, 112, 117]⟩ 0 = [ty] := by decide +kernel
theorem kvA : rightT [tx, ty] = true := by decide +kernel
theorem kvB : rightT [tx, tx] = false := by decide +kernel
theorem kvC : rightO [tb] = true := by decide +kernel
theorem kvD : rightO [t0] = false := by decide +kernel
theorem kvS (l : List Tnt) : sameB l l = true := decide_eq_true rfl

/-- A slice that is just these. -/
def IsT {α : Type} (enc : α → List Value) (K : Nat) (l : List α) (v : Value) (w : World) : Prop := ∃ a, v = .slice (some a) l.length l.length ∧ RowsAt enc K w (some a) l
theorem IsT.stays {α : Type} (enc : α → List Value) (K : Nat) (l : List α) : Stays (IsT enc K l) := fun v w w' hb h => by
  obtain ⟨a, e, h⟩ := h
  exact ⟨a, e, h.mono hb⟩

set_option maxRecDepth 100000 in
set_option maxHeartbeats 8000000 in
theorem known_any (w : World) :
    Calls Try.prog 9 #[] w fun e w' => e = .returned (.bool true) ∧ Below w.heap.size w w' := by
  go_enter Try.func9, Try.ntmps9
  go_upto_region 5 with (fail)
  refine region_rel (by kernel_rfl) (by kernel_rfl) (wpRel_world fun W hW => ?_)
  dsimp only [List.append]
  have HB := Lib.hid (show Below w.heap.size w W by rw [hW]; (repeat' (first | with_reducible exact Below.refl _ _ | with_reducible assumption | with_reducible refine Below.drew ?_ | with_reducible refine below_drewN' ?_ _ | with_reducible refine Below.alloc ?_ ?_ _ | with_reducible refine Below.setCell ?_ ?_ _ | with_reducible refine below_step (by assumption) ?_ ?_ | omega | (simp; done) | (simp; omega))))
  have HW := Lib.hid (show KWorld W w.heap.size by
    rw [hW]
    refine ⟨by simp, by simp [go_sem], by simp [go_sem], by simp [go_sem], by simp [go_sem], by simp [go_sem], by simp [go_sem], by simp [go_sem], by simp [go_sem], by simp [go_sem], by simp [go_sem], fun _ => ⟨_, _, rfl, by simp <;> omega, fun i x hx r hr => ?_⟩⟩
    rcases (show i = 0 ∨ i = 1 by have := (List.getElem?_eq_some_iff.1 hx).1; simp at this; omega) with rfl | rfl
    · obtain rfl : tx = x := by simpa using hx
      rcases (show r = 0 ∨ r = 1 ∨ r = 2 by omega) with rfl | rfl | rfl <;> simp [go_sem, tx, tcs]
    · obtain rfl : ty = x := by simpa using hx
      rcases (show r = 0 ∨ r = 1 ∨ r = 2 by omega) with rfl | rfl | rfl <;> simp [go_sem, ty, tcs])
  clear hW
  obtain ⟨hsz, x0, x1, x2, y0, y1, y2, b0, b1, b2, b3, hl⟩ := HW.out
  have hs0 : w.heap.size < W.heap.size := by omega
  have hs1 : w.heap.size + 1 < W.heap.size := by omega
  have hs2 : w.heap.size + 1 + 1 < W.heap.size := by omega
  clear hl
  have A1 := fun n : Held W => bears_any tb tx n.w
  have A2 := fun n : Held W => bears_any t1 tx n.w
  have A3 := fun n : Held W => bears_any t2 tx n.w
  have A4 := fun n : Held W => allows_any _ _ 1 2 [tb] [tx, ty] n.w (HW.out.o.mono n.below) (by decide) (HW.out.l.mono n.below) (by decide)
  have A5 := fun n : Held W => allows_any none _ 0 2 [] [tx, ty] n.w RowsAt.nil (by decide) (HW.out.l.mono n.below) (by decide)
  have A6 := fun n : Held W => prefers_any _ _ 1 2 [tb] [tx, ty] n.w (HW.out.o.mono n.below) (by decide) (HW.out.l.mono n.below) (by decide)
  have A7 := fun n : Held W => unborne_any none _ 0 2 [] [tx, ty] 0 n.w RowsAt.nil (by decide) (HW.out.l.mono n.below) (by decide)
  have A8 := fun n : Held W => add_any _ 1 [ty] tx n.w (HW.out.l1.mono n.below) (by decide)
  have A9 := fun n : Held W => drop_any _ 2 [tx, ty] ⟨#[103, 112, 117]⟩ 0 n.w (HW.out.l.mono n.below) (by decide)
  have AA := fun n : Held W => right_any _ 2 [tx, ty] n.w (HW.out.l.mono n.below) (by decide) (fun h => by cases h) (by decide)
  have AC := fun n : Held W => rightbears_any _ 1 [tb] n.w (HW.out.o.mono n.below) (by decide)
  simp only [kv1] at A1
  simp only [kv2] at A2
  simp only [kv3] at A3
  simp only [kv4] at A4
  simp only [kv5] at A5
  simp only [kv6] at A6
  simp only [kv7] at A7
  simp only [kv8] at A8
  simp only [kv9] at A9
  simp only [kvA] at AA
  simp only [kvC] at AC
  simp only [tx, tb, t1, t2, List.length_cons, List.length_nil, Nat.zero_add, Nat.reduceAdd] at A1 A2 A3 A4 A5 A6 AA AC
  have HA1 := Lib.hid A1
  have HA2 := Lib.hid A2
  have HA3 := Lib.hid A3
  have HA4 := Lib.hid A4
  have HA5 := Lib.hid A5
  have HA6 := Lib.hid A6
  have HA7 := Lib.hid A7
  have HA8 := Lib.hid A8
  have HA9 := Lib.hid A9
  have HAA := Lib.hid AA
  have HAC := Lib.hid AC
  clear A1 A2 A3 A4 A5 A6 A7 A8 A9 AA AC
  have hcH := held_cell
  repeat
    ((with_reducible refine relStep (fun K hK => ?_))
     (have HK := Lib.hid hK)
     clear hK
     (apply relInl
      · intro r n hf
        have Hf := Lib.hid hf
        clear hf
        (first
          | (fail)
          | (unfold relAt
             go_simp
             (first | (refine relUpon_val ?_ (Below.refl _ _); exact rfl) | exact rfl | (refine relUpon_enter ?_; (first | ((with_reducible refine (HA1.out n).mono ?_); rintro e w1 ⟨rfl, hb⟩; exact ⟨⟨_, rfl, rfl⟩, hb⟩) | ((with_reducible refine (HA2.out n).mono ?_); rintro e w1 ⟨rfl, hb⟩; exact ⟨⟨_, rfl, rfl⟩, hb⟩) | ((with_reducible refine (HA3.out n).mono ?_); rintro e w1 ⟨rfl, hb⟩; exact ⟨⟨_, rfl, rfl⟩, hb⟩) | ((with_reducible refine (HA4.out n).mono ?_); rintro e w1 ⟨rfl, hb⟩; exact ⟨⟨_, rfl, rfl⟩, hb⟩) | ((with_reducible refine (HA5.out n).mono ?_); rintro e w1 ⟨rfl, hb⟩; exact ⟨⟨_, rfl, rfl⟩, hb⟩) | ((with_reducible refine (HA6.out n).mono ?_); rintro e w1 ⟨rfl, hb⟩; exact ⟨⟨_, rfl, rfl⟩, hb⟩))))))
      (simp only [Act.put, List.setIfInBounds_toArray, List.set_cons_zero, List.set_cons_succ])
      (with_reducible refine HK.out _ _ ?_)
      clear HK K))
  (with_reducible refine relStep (fun K hK => ?_))
  (have HK := Lib.hid hK)
  clear hK
  refine relInr (IsL tcs 3 [tx, ty]) (IsL.stays _) (fun r n hf => ?_) ?_
  · have Hf := Lib.hid hf
    clear hf HK K
    unfold relAt
    (skip)
    go_simp
    ((refine relUpon_enter ?_; refine (HA7.out n).mono ?_; intro e w1 h; exact h.weak fun v w h => h.isL tcs_len (by decide)))
  (simp only [Act.put, List.setIfInBounds_toArray, List.set_cons_zero, List.set_cons_succ])
  (with_reducible refine HK.out _ _ ?_)
  clear HK K
  repeat
    ((with_reducible refine relStep (fun K hK => ?_))
     (have HK := Lib.hid hK)
     clear hK
     (apply relInl
      · intro r n hf
        have Hf := Lib.hid hf
        clear hf
        (first
          | (fail)
          | (unfold relAt
             go_simp
             (first | (refine relUpon_val ?_ (Below.refl _ _); exact rfl) | exact rfl | (refine relUpon_enter ?_; (go_at_call 13; obtain ⟨x1, y1, e1, _, h1⟩ := given_at Hf.out 0 rfl (by kernel_rfl); (try dsimp only at e1); rw [e1]; refine (same_any _ _ _ 2 [tx, ty] [tx, ty] _ h1 (HW.out.l.mono n.below) (by decide) (by decide)).mono ?_; rintro e w1 ⟨rfl, hb⟩; rw [kvS]; exact ⟨⟨_, rfl, rfl⟩, hb⟩)))))
      (simp only [Act.put, List.setIfInBounds_toArray, List.set_cons_zero, List.set_cons_succ])
      (with_reducible refine HK.out _ _ ?_)
      clear HK K))
  (with_reducible refine relStep (fun K hK => ?_))
  (have HK := Lib.hid hK)
  clear hK
  refine relInr (IsL tcs 3 [ty, tx]) (IsL.stays _) (fun r n hf => ?_) ?_
  · have Hf := Lib.hid hf
    clear hf HK K
    unfold relAt
    (skip)
    go_simp
    ((refine relUpon_enter ?_; refine (HA8.out n).mono ?_; intro e w1 h; exact h.weak fun v w h => h.isL tcs_len (by decide)))
  (simp only [Act.put, List.setIfInBounds_toArray, List.set_cons_zero, List.set_cons_succ])
  (with_reducible refine HK.out _ _ ?_)
  clear HK K
  repeat
    ((with_reducible refine relStep (fun K hK => ?_))
     (have HK := Lib.hid hK)
     clear hK
     (apply relInl
      · intro r n hf
        have Hf := Lib.hid hf
        clear hf
        (first
          | (fail)
          | (unfold relAt
             go_simp
             (first | (refine relUpon_val ?_ (Below.refl _ _); exact rfl) | exact rfl | (refine relUpon_enter ?_; fail))))
      (simp only [Act.put, List.setIfInBounds_toArray, List.set_cons_zero, List.set_cons_succ])
      (with_reducible refine HK.out _ _ ?_)
      clear HK K))
  (with_reducible refine relStep (fun K hK => ?_))
  (have HK := Lib.hid hK)
  clear hK
  refine relInr (IsL tcs 3 [ty, tx]) (IsL.stays _) (fun r n hf => ?_) ?_
  · have Hf := Lib.hid hf
    clear hf HK K
    unfold relAt
    (skip)
    go_simp
    (exact relUpon_val (IsL.new tcs_len n.w [ty, tx] _ 2 rfl) ((Below.refl _ _).alloc (Nat.le_refl _) _))
  (simp only [Act.put, List.setIfInBounds_toArray, List.set_cons_zero, List.set_cons_succ])
  (with_reducible refine HK.out _ _ ?_)
  clear HK K
  repeat
    ((with_reducible refine relStep (fun K hK => ?_))
     (have HK := Lib.hid hK)
     clear hK
     (apply relInl
      · intro r n hf
        have Hf := Lib.hid hf
        clear hf
        (first
          | (fail)
          | (unfold relAt
             go_simp
             (first | (refine relUpon_val ?_ (Below.refl _ _); exact rfl) | exact rfl | (refine relUpon_enter ?_; (go_at_call 13; obtain ⟨x1, y1, e1, _, h1⟩ := given_at Hf.out 1 rfl (by kernel_rfl); obtain ⟨x2, y2, e2, _, h2⟩ := given_at Hf.out 2 rfl (by kernel_rfl); (try dsimp only at e1 e2); rw [e1, e2]; refine (same_any _ _ _ _ [ty, tx] [ty, tx] _ h1 h2 (by decide) (by decide)).mono ?_; rintro e w1 ⟨rfl, hb⟩; rw [kvS]; exact ⟨⟨_, rfl, rfl⟩, hb⟩)))))
      (simp only [Act.put, List.setIfInBounds_toArray, List.set_cons_zero, List.set_cons_succ])
      (with_reducible refine HK.out _ _ ?_)
      clear HK K))
  (with_reducible refine relStep (fun K hK => ?_))
  (have HK := Lib.hid hK)
  clear hK
  refine relInr (IsL tcs 3 [ty]) (IsL.stays _) (fun r n hf => ?_) ?_
  · have Hf := Lib.hid hf
    clear hf HK K
    unfold relAt
    (skip)
    go_simp
    ((refine relUpon_enter ?_; refine (HA9.out n).mono ?_; intro e w1 h; exact h.weak fun v w h => h.isL tcs_len (by decide)))
  (simp only [Act.put, List.setIfInBounds_toArray, List.set_cons_zero, List.set_cons_succ])
  (with_reducible refine HK.out _ _ ?_)
  clear HK K
  repeat
    ((with_reducible refine relStep (fun K hK => ?_))
     (have HK := Lib.hid hK)
     clear hK
     (apply relInl
      · intro r n hf
        have Hf := Lib.hid hf
        clear hf
        (first
          | (fail)
          | (unfold relAt
             go_simp
             (first | (refine relUpon_val ?_ (Below.refl _ _); exact rfl) | exact rfl | (refine relUpon_enter ?_; (first | (go_at_call 13; obtain ⟨x1, y1, e1, _, h1⟩ := given_at Hf.out 3 rfl (by kernel_rfl); (try dsimp only at e1); rw [e1]; refine (same_any _ _ _ 1 [ty] [ty] _ h1 (HW.out.l1.mono n.below) (by decide) (by decide)).mono ?_; rintro e w1 ⟨rfl, hb⟩; rw [kvS]; exact ⟨⟨_, rfl, rfl⟩, hb⟩) | ((with_reducible refine (HAA.out n).mono ?_); rintro e w1 ⟨rfl, hb⟩; exact ⟨⟨_, rfl, rfl⟩, hb⟩))))))
      (simp only [Act.put, List.setIfInBounds_toArray, List.set_cons_zero, List.set_cons_succ])
      (with_reducible refine HK.out _ _ ?_)
      clear HK K))
  (with_reducible refine relStep (fun K hK => ?_))
  (have HK := Lib.hid hK)
  clear hK
  refine relInr (IsT tcs 3 [tx, tx]) (IsT.stays _ _ _) (fun r n hf => ?_) ?_
  · have Hf := Lib.hid hf
    clear hf HK K
    unfold relAt
    (skip)
    go_simp
    (exact relUpon_val ⟨_, rfl, RowsAt.new tcs_len n.w [tx, tx] _⟩ ((Below.refl _ _).alloc (Nat.le_refl _) _))
  (simp only [Act.put, List.setIfInBounds_toArray, List.set_cons_zero, List.set_cons_succ])
  (with_reducible refine HK.out _ _ ?_)
  clear HK K
  repeat
    ((with_reducible refine relStep (fun K hK => ?_))
     (have HK := Lib.hid hK)
     clear hK
     (apply relInl
      · intro r n hf
        have Hf := Lib.hid hf
        clear hf
        (first
          | (fail)
          | (unfold relAt
             go_simp
             (first | (refine relUpon_val ?_ (Below.refl _ _); exact rfl) | exact rfl | (refine relUpon_enter ?_; (first | (go_at_call 23; obtain ⟨x1, e1, h1⟩ := given_at Hf.out 4 rfl (by kernel_rfl); (try dsimp only at e1); rw [e1]; refine (right_any _ _ [tx, tx] _ h1 (by decide) (fun h => by cases h) (Nat.le_refl _)).mono ?_; rintro e w1 ⟨rfl, hb⟩; rw [kvB]; exact ⟨⟨_, rfl, rfl⟩, hb⟩) | ((with_reducible refine (HAC.out n).mono ?_); rintro e w1 ⟨rfl, hb⟩; exact ⟨⟨_, rfl, rfl⟩, hb⟩))))))
      (simp only [Act.put, List.setIfInBounds_toArray, List.set_cons_zero, List.set_cons_succ])
      (with_reducible refine HK.out _ _ ?_)
      clear HK K))
  (with_reducible refine relStep (fun K hK => ?_))
  (have HK := Lib.hid hK)
  clear hK
  refine relInr (IsL ocs 4 [t0]) (IsL.stays _) (fun r n hf => ?_) ?_
  · have Hf := Lib.hid hf
    clear hf HK K
    unfold relAt
    (skip)
    go_simp
    (exact relUpon_val (IsL.new ocs_len n.w [t0] _ 1 rfl) ((Below.refl _ _).alloc (Nat.le_refl _) _))
  (simp only [Act.put, List.setIfInBounds_toArray, List.set_cons_zero, List.set_cons_succ])
  (with_reducible refine HK.out _ _ ?_)
  clear HK K
  repeat
    ((with_reducible refine relStep (fun K hK => ?_))
     (have HK := Lib.hid hK)
     clear hK
     (apply relInl
      · intro r n hf
        have Hf := Lib.hid hf
        clear hf
        (first
          | (fail)
          | (unfold relAt
             go_simp
             (first | (refine relUpon_val ?_ (Below.refl _ _); exact rfl) | exact rfl | (refine relUpon_enter ?_; (go_at_call 25; obtain ⟨x1, y1, e1, _, h1⟩ := given_at Hf.out 5 rfl (by kernel_rfl); (try dsimp only at e1); rw [e1]; refine (rightbears_any _ _ [t0] _ h1 (by decide)).mono ?_; rintro e w1 ⟨rfl, hb⟩; rw [kvD]; exact ⟨⟨_, rfl, rfl⟩, hb⟩)))))
      (simp only [Act.put, List.setIfInBounds_toArray, List.set_cons_zero, List.set_cons_succ])
      (with_reducible refine HK.out _ _ ?_)
      clear HK K))
  refine relNil ?_
  intro r3 n3 hx3
  clear hcH
  (try simp only [List.nil_append, List.cons_append, List.mem_cons, List.not_mem_nil, or_false, forall_eq_or_imp, forall_eq, false_implies, implies_true] at hx3)
  obtain ⟨w3, hb3⟩ := n3
  (try dsimp only)
  obtain ⟨hc3, hf3⟩ := bcell hb3
  have hz3 := hb3.size
  (try simp at hz3)
  have hbW := HB.out
  go_wp2
  go_ret
  exact ⟨rfl, by (repeat' (first | with_reducible exact Below.refl _ _ | with_reducible assumption | with_reducible refine Below.drew ?_ | with_reducible refine below_drewN' ?_ _ | with_reducible refine Below.alloc ?_ ?_ _ | with_reducible refine Below.setCell ?_ ?_ _ | with_reducible refine below_step (by assumption) ?_ ?_ | omega | (simp; done) | (simp; omega)))⟩
end Go.Proofs.Ytlfjjiepclphiaa
