/-
  The contract of triremelaw22.known.
-/
import Derived.Test.YtlgbbfaeclaghaaSimC
import Derived.Deep.Cut
namespace Go.Proofs.Ytlgbbfaeclaghaa
open Go.RowKit
set_option linter.unusedVariables false

def kga (N : Nat) : Grp := ⟨⟨#[97]⟩, 0, 3, ⟨#[]⟩, ⟨#[97]⟩, 5, 0, 0, 0, 0, some ⟨N, 0, none⟩, 1, 1, none, 0, 0, true, 0, 0⟩
def kgb (N : Nat) : Grp := ⟨⟨#[98]⟩, 0, 3, ⟨#[]⟩, ⟨#[98]⟩, 5, 0, 0, 0, 0, some ⟨N + 1 + 1, 0, none⟩, 1, 1, none, 0, 0, true, 0, 0⟩
def kgc : Grp := ⟨⟨#[99]⟩, 0, 3, ⟨#[]⟩, ⟨#[99]⟩, 6, 0, 0, 0, 0, none, 0, 0, none, 0, 0, true, 0, 0⟩
def kL (c : UInt8) : Nat → ByteArray × ByteArray := fun _ => (⟨#[122, 111, 110, 101]⟩, ⟨#[c]⟩)
def kT : Nat → ByteArray × ByteArray × Int := fun _ => default

structure KWorld (W : World) (N : Nat) : Prop where
  sz : N + 1 + 1 + 1 + 1 < W.heap.size
  a : ∀ r, r < 15 → W.cell? ⟨N + 1, 0 + r, none⟩ = (kga N).l[r]?
  b : ∀ r, r < 15 → W.cell? ⟨N + 1 + 1 + 1, 0 + r, none⟩ = (kgb N).l[r]?
  c : ∀ r, r < 15 → W.cell? ⟨N + 1 + 1 + 1 + 1, 0 + r, none⟩ = kgc.l[r]?
  la : LabsAt W (some ⟨N, 0, none⟩) 1 (kL 120)
  lb : LabsAt W (some ⟨N + 1 + 1, 0, none⟩) 1 (kL 121)

theorem KWorld.ga {W : World} {N : Nat} (h : KWorld W N) : GrpAt W (kga N) (kL 120) kT := ⟨h.la, fun h => absurd h (Nat.lt_irrefl 0), show 1 ≤ 1000000 by decide, show 0 ≤ 1000000 by decide⟩
theorem KWorld.gb {W : World} {N : Nat} (h : KWorld W N) : GrpAt W (kgb N) (kL 121) kT := ⟨h.lb, fun h => absurd h (Nat.lt_irrefl 0), show 1 ≤ 1000000 by decide, show 0 ≤ 1000000 by decide⟩
theorem KWorld.gc {W : World} {N : Nat} (h : KWorld W N) : GrpAt W kgc (kL 0) kT := ⟨fun h => absurd h (by decide), fun h => absurd h (by decide), by decide, by decide⟩

def kG (N : Nat) : Nat → Grp := fun i => [kga N, kgc, kgb N].getD i kgc
def kGL : Nat → Nat → ByteArray × ByteArray := fun i => [kL 120, kL 0, kL 121].getD i (kL 0)
theorem grps_new (w : World) (l : List Grp) (d : Grp) (t : TypeId) : GrpsAt (w.alloc (.cells (l.flatMap Grp.l).toArray t)) (some ⟨w.heap.size, 0, none⟩) l.length (fun i => l.getD i d) := fun _ => by
  refine ⟨_, _, rfl, by simp, fun i hi r hr => ?_⟩
  have hx : l[i]? = some (l.getD i d) := by simp [List.getD_eq_getElem?_getD, hi]
  have h1 := rows_get Grp.l 15 (fun _ => rfl) l i r _ hx hr
  rw [Nat.zero_add, World.cell?_alloc_at _ _ _ _ rfl, ← h1]
  simp
theorem ints_new (w : World) (l : List Int) (t : TypeId) : IntsAt (w.alloc (.cells (l.map (Value.int .i64)).toArray t)) (some ⟨w.heap.size, 0, none⟩) l.length (fun i => l.getD i 0) := fun _ => by
  refine ⟨_, _, rfl, by simp, fun i hi => ?_⟩
  rw [Nat.zero_add, World.cell?_alloc_at _ _ _ _ rfl]
  simp [hi]

theorem load_grp {w : World} {b o : Nat} {g : Grp} (h : ∀ r, r < 15 → w.cell? ⟨b, o + r, none⟩ = g.l[r]?) : (Instr.loadAt 40 (.pointer (some ⟨b, o, none⟩))).run Try.prog w = .ok (.agg g.l.toArray) w := by
  obtain ⟨c0, c1, c2, c3, c4, c5, c6, c7, c8, c9, c10, c11, c12, c13, c14⟩ := grp_cells h
  clear h
  unfold Grp.l
  go_simp

/-- A value that is a slice of n numbers. -/
def IsI (n : Nat) (D : Nat → Int) (v : Value) (w : World) : Prop := ∃ a k, v = .slice a n k ∧ IntsAt w a n D
theorem IsI.stays (n : Nat) (D : Nat → Int) : Stays (IsI n D) := fun v w w' hb h => by
  obtain ⟨a, k, e, h⟩ := h
  exact ⟨a, k, e, h.mono hb⟩
def IsG (n : Nat) (G : Nat → Grp) (v : Value) (w : World) : Prop := ∃ a k, v = .slice a n k ∧ GrpsAt w a n G
theorem IsG.stays (n : Nat) (G : Nat → Grp) : Stays (IsG n G) := fun v w w' hb h => by
  obtain ⟨a, k, e, h⟩ := h
  exact ⟨a, k, e, h.mono hb⟩
theorem IsI.of_share {w w' : World} {L : Nat} {S : Nat → Int} {e : Ending} (h : ShPost w L S e w') : (∃ v, e = .returned v ∧ IsI L S v w') ∧ Below w.heap.size w w' := by
  obtain ⟨r, k, rfl, hi, hb⟩ := h
  exact ⟨⟨_, rfl, _, _, rfl, hi⟩, hb⟩

def kd2 : Nat → Int := fun i => (([0, 2] : List Nat).getD i 0 : Nat)
def li (l : List Int) : Nat → Int := fun i => l.getD i 0
def ks1 : Nat → Int := fun j => shF (li [2, 0, 1]) (li [9, 9, 9]) 3 3 j
def ks2 : Nat → Int := fun j => shF (li [1]) (li []) 1 1 j
def ks3 : Nat → Int := fun j => shF (li [0]) (li [2]) 1 9 j
theorem ksh1 : shL 3 3 3 (li [2, 0, 1]) (li [9, 9, 9]) = 3 := by decide +kernel
theorem ksh2 : shL 1 1 0 (li [1]) (li []) = 0 := by decide +kernel
theorem ksh3 : shL 9 1 1 (li [0]) (li [2]) = 1 := by decide +kernel
theorem kin1 : (decide (3 = 3) && eqI ks1 (li [0, 2, 1]) 3) = true := by decide +kernel
theorem kin3 : (decide (1 = 1) && eqI ks3 (li [2]) 1) = true := by decide +kernel
theorem kl0 (N : Nat) : likeB (kG N) kGL (fun _ => kT) 2 0 = true := by kernel_rfl
theorem kl1 (N : Nat) : likeB (kG N) kGL (fun _ => kT) 2 1 = false := by kernel_rfl
theorem kl2 (N : Nat) : likeB (kG N) kGL (fun _ => kT) 2 2 = true := by kernel_rfl
theorem kof (N : Nat) : ofR (kG N) kGL (fun _ => kT) 3 ⟨#[98]⟩ = [0, 2] := by
  have h : findN (fun i => (kG N i).nm) ⟨#[98]⟩ 3 = ((2 : Nat) : Int) := findN_at _ _ 3 2 (by decide) (fun j hj => by
    rcases (show j = 0 ∨ j = 1 by omega) with rfl | rfl <;> exact fun h => by cases h) rfl
  unfold ofR
  rw [h, if_neg (by omega), show ((2 : Nat) : Int).toNat = 2 from rfl, ofL_yes _ 2 (kl2 N), ofL_no _ 1 (kl1 N), ofL_yes _ 0 (kl0 N)]
  rfl
theorem kin2 : (decide (2 = 2) && eqI kd2 (li [0, 2]) 2) = true := by decide +kernel
theorem kal1 (N : Nat) : alikeB (kga N) (kgb N) (kL 120) (kL 121) kT kT = true := by kernel_rfl
theorem kal2 (N : Nat) : alikeB (kga N) kgc (kL 120) (kL 0) kT kT = false := by kernel_rfl
theorem wpRel_world {P : Program} {ops : Array Oper} {W : World} {Q : Act → World → Prop} {l : List Oper} {i : Nat} {F : (Nat → Value) → Act} {Fs : Told} (h : ∀ W', W' = W → wpRel P ops W' Q l i F Fs) : wpRel P ops W Q l i F Fs := h W rfl

set_option maxRecDepth 100000 in
set_option maxHeartbeats 8000000 in
theorem known_any (w : World) :
    Calls Try.prog 6 #[] w fun e w' => e = .returned (.bool true) ∧ Below w.heap.size w w' := by
  go_enter Try.func6, Try.ntmps6
  go_upto_region 4 with (fail)
  refine region_rel (by kernel_rfl) (by kernel_rfl) (wpRel_world fun W hW => ?_)
  have HB := Lib.hid (show Below w.heap.size w W by rw [hW]; (repeat' (first | with_reducible exact Below.refl _ _ | with_reducible assumption | with_reducible refine Below.drew ?_ | with_reducible refine below_drewN' ?_ _ | with_reducible refine Below.alloc ?_ ?_ _ | with_reducible refine Below.setCell ?_ ?_ _ | with_reducible refine below_step (by assumption) ?_ ?_ | omega | (simp; done) | (simp; omega))))
  have HW := Lib.hid (show KWorld W w.heap.size by
    rw [hW]
    refine ⟨by simp, fun r hr => ?_, fun r hr => ?_, fun r hr => ?_, fun _ => ⟨_, _, rfl, by simp <;> omega, fun i hi => ?_⟩, fun _ => ⟨_, _, rfl, by simp <;> omega, fun i hi => ?_⟩⟩
    · simp [go_sem, kga, Grp.l]
    · simp [go_sem, kgb, Grp.l]
    · simp [go_sem, kgc, Grp.l]
    · obtain rfl : i = 0 := by omega
      exact ⟨by simp [go_sem, kL], by simp [go_sem, kL]⟩
    · obtain rfl : i = 0 := by omega
      exact ⟨by simp [go_sem, kL], by simp [go_sem, kL]⟩)
  clear hW
  have HGs : Hid (∀ i, i < 3 → GrpAt W (kG w.heap.size i) (kGL i) kT) := Lib.hid fun i hi => by
    have h := HW.out
    rcases (show i = 0 ∨ i = 1 ∨ i = 2 by omega) with rfl | rfl | rfl
    · exact h.ga
    · exact h.gc
    · exact h.gb
  have hs0 := HW.out.sz
  have hs1 : w.heap.size + 1 < W.heap.size := by omega
  have hs2 : w.heap.size + 1 + 1 + 1 < W.heap.size := by omega
  have A1 := fun n : Held W => alike_lit (kga w.heap.size) (kgb w.heap.size) _ _ _ _ n.w (HW.out.ga.mono n.below) (HW.out.gb.mono n.below)
  have A2 := fun n : Held W => alike_lit (kga w.heap.size) kgc _ _ _ _ n.w (HW.out.ga.mono n.below) (HW.out.gc.mono n.below)
  simp only [kal1] at A1
  simp only [kal2] at A2
  simp only [kga, kgb, kgc] at A1 A2
  have HA1 := Lib.hid A1
  have HA2 := Lib.hid A2
  clear A1 A2
  have hcH := held_cell
  repeat
    ((with_reducible refine relStep (fun K hK => ?_))
     (have HK := Lib.hid hK)
     clear hK
     (apply relInl
      · intro r n hf
        have Hf := Lib.hid hf
        clear hf
        (first
          | (first | exact relAt_load rfl rfl (by kernel_rfl) (load_grp (o := 0) fun r hr => (hcH _ n _ _ hs1).trans (HW.out.a r hr)) rfl | exact relAt_load rfl rfl (by kernel_rfl) (load_grp (o := 0) fun r hr => (hcH _ n _ _ hs2).trans (HW.out.b r hr)) rfl | exact relAt_load rfl rfl (by kernel_rfl) (load_grp (o := 0) fun r hr => (hcH _ n _ _ hs0).trans (HW.out.c r hr)) rfl)
          | (unfold relAt
             go_simp
             (first | (refine relUpon_val ?_ (Below.refl _ _); exact rfl) | exact rfl | (refine relUpon_enter ?_; (go_at_call 12; first | ((with_reducible refine (HA1.out n).mono ?_); rintro e w1 ⟨rfl, hb⟩; exact ⟨⟨_, rfl, rfl⟩, hb⟩) | ((with_reducible refine (HA2.out n).mono ?_); rintro e w1 ⟨rfl, hb⟩; exact ⟨⟨_, rfl, rfl⟩, hb⟩))))))
      (simp only [Act.put, List.setIfInBounds_toArray, List.set_cons_zero, List.set_cons_succ, kga, kgb, kgc, Grp.l])
      (with_reducible refine HK.out _ _ ?_)
      clear HK K))
  (with_reducible refine relStep (fun K hK => ?_))
  (have HK := Lib.hid hK)
  clear hK
  refine relInr (IsG 3 (kG w.heap.size)) (IsG.stays _ _) (fun r n hf => ?_) ?_
  · have Hf := Lib.hid hf
    clear hf HK K
    unfold relAt
    (skip)
    go_simp
    (exact relUpon_val ⟨_, _, rfl, grps_new n.w [kga w.heap.size, kgc, kgb w.heap.size] kgc _⟩ ((Below.refl _ _).alloc (Nat.le_refl _) _))
  (simp only [Act.put, List.setIfInBounds_toArray, List.set_cons_zero, List.set_cons_succ])
  (with_reducible refine HK.out _ _ ?_)
  clear HK K
  (with_reducible refine relStep (fun K hK => ?_))
  (have HK := Lib.hid hK)
  clear hK
  refine relInr (IsI 2 kd2) (IsI.stays _ _) (fun r n hf => ?_) ?_
  · have Hf := Lib.hid hf
    clear hf HK K
    unfold relAt
    (skip)
    go_simp
    ((obtain ⟨x1, y1, e1, h1⟩ := given_at Hf.out 0 rfl (by kernel_rfl); (try dsimp only at e1); refine relUpon_enter ?_; go_at_call 14; rw [e1]; refine (of_any _ 3 _ (kG w.heap.size) kGL (fun _ => kT) ⟨#[98]⟩ n.w h1 (fun i hi => (HGs.out i hi).mono n.below) (by decide)).mono ?_; rw [kof]; rintro e w1 ⟨v, rfl, h2, hb⟩; exact ⟨⟨_, rfl, h2⟩, hb⟩))
  (simp only [Act.put, List.setIfInBounds_toArray, List.set_cons_zero, List.set_cons_succ])
  (with_reducible refine HK.out _ _ ?_)
  clear HK K
  (with_reducible refine relStep (fun K hK => ?_))
  (have HK := Lib.hid hK)
  clear hK
  refine relInr (IsI 2 (li [0, 2])) (IsI.stays _ _) (fun r n hf => ?_) ?_
  · have Hf := Lib.hid hf
    clear hf HK K
    unfold relAt
    (skip)
    go_simp
    (exact relUpon_val ⟨_, _, rfl, ints_new n.w [0, 2] _⟩ ((Below.refl _ _).alloc (Nat.le_refl _) _))
  (simp only [Act.put, List.setIfInBounds_toArray, List.set_cons_zero, List.set_cons_succ])
  (with_reducible refine HK.out _ _ ?_)
  clear HK K
  repeat
    ((with_reducible refine relStep (fun K hK => ?_))
     (have HK := Lib.hid hK)
     clear hK
     (apply relInl
      · intro r n hf
        have Hf := Lib.hid hf
        clear hf
        (first
          | (fail)
          | (unfold relAt
             go_simp
             (first | (refine relUpon_val ?_ (Below.refl _ _); exact rfl) | exact rfl | (refine relUpon_enter ?_; (go_at_call 8; obtain ⟨x1, y1, e1, h1⟩ := given_at Hf.out 1 rfl (by kernel_rfl); obtain ⟨x2, y2, e2, h2⟩ := given_at Hf.out 2 rfl (by kernel_rfl); (try dsimp only at e1 e2); rw [e1, e2]; (with_reducible refine (ints_any _ _ 2 2 _ _ _ _ _ h1 h2 (by decide) (by decide)).mono ?_); rintro e w1 ⟨rfl, hb⟩; rw [kin2]; exact ⟨⟨_, rfl, rfl⟩, hb⟩)))))
      (simp only [Act.put, List.setIfInBounds_toArray, List.set_cons_zero, List.set_cons_succ])
      (with_reducible refine HK.out _ _ ?_)
      clear HK K))
  (with_reducible refine relStep (fun K hK => ?_))
  (have HK := Lib.hid hK)
  clear hK
  refine relInr (IsI 3 (li [2, 0, 1])) (IsI.stays _ _) (fun r n hf => ?_) ?_
  · have Hf := Lib.hid hf
    clear hf HK K
    unfold relAt
    (skip)
    go_simp
    (exact relUpon_val ⟨_, _, rfl, ints_new n.w [2, 0, 1] _⟩ ((Below.refl _ _).alloc (Nat.le_refl _) _))
  (simp only [Act.put, List.setIfInBounds_toArray, List.set_cons_zero, List.set_cons_succ])
  (with_reducible refine HK.out _ _ ?_)
  clear HK K
  (with_reducible refine relStep (fun K hK => ?_))
  (have HK := Lib.hid hK)
  clear hK
  refine relInr (IsI 3 (li [9, 9, 9])) (IsI.stays _ _) (fun r n hf => ?_) ?_
  · have Hf := Lib.hid hf
    clear hf HK K
    unfold relAt
    (skip)
    go_simp
    (exact relUpon_val ⟨_, _, rfl, ints_new n.w [9, 9, 9] _⟩ ((Below.refl _ _).alloc (Nat.le_refl _) _))
  (simp only [Act.put, List.setIfInBounds_toArray, List.set_cons_zero, List.set_cons_succ])
  (with_reducible refine HK.out _ _ ?_)
  clear HK K
  (with_reducible refine relStep (fun K hK => ?_))
  (have HK := Lib.hid hK)
  clear hK
  refine relInr (IsI 3 ks1) (IsI.stays _ _) (fun r n hf => ?_) ?_
  · have Hf := Lib.hid hf
    clear hf HK K
    unfold relAt
    (skip)
    go_simp
    ((obtain ⟨x1, y1, e1, h1⟩ := given_at Hf.out 3 rfl (by kernel_rfl); obtain ⟨x2, y2, e2, h2⟩ := given_at Hf.out 4 rfl (by kernel_rfl); (try dsimp only at e1 e2); refine relUpon_enter ?_; go_at_call 7; (try rw [e1]); (try rw [e2]); refine (share_any 3 _ _ 3 3 _ _ (li [2, 0, 1]) (li [9, 9, 9]) _ h1 h2 (by decide) (by decide) (by decide)).mono ?_; rw [ksh1]; intro e w1 h; exact IsI.of_share h))
  (simp only [Act.put, List.setIfInBounds_toArray, List.set_cons_zero, List.set_cons_succ])
  (with_reducible refine HK.out _ _ ?_)
  clear HK K
  (with_reducible refine relStep (fun K hK => ?_))
  (have HK := Lib.hid hK)
  clear hK
  refine relInr (IsI 3 (li [0, 2, 1])) (IsI.stays _ _) (fun r n hf => ?_) ?_
  · have Hf := Lib.hid hf
    clear hf HK K
    unfold relAt
    (skip)
    go_simp
    (exact relUpon_val ⟨_, _, rfl, ints_new n.w [0, 2, 1] _⟩ ((Below.refl _ _).alloc (Nat.le_refl _) _))
  (simp only [Act.put, List.setIfInBounds_toArray, List.set_cons_zero, List.set_cons_succ])
  (with_reducible refine HK.out _ _ ?_)
  clear HK K
  repeat
    ((with_reducible refine relStep (fun K hK => ?_))
     (have HK := Lib.hid hK)
     clear hK
     (apply relInl
      · intro r n hf
        have Hf := Lib.hid hf
        clear hf
        (first
          | (fail)
          | (unfold relAt
             go_simp
             (first | (refine relUpon_val ?_ (Below.refl _ _); exact rfl) | exact rfl | (refine relUpon_enter ?_; (go_at_call 8; obtain ⟨x1, y1, e1, h1⟩ := given_at Hf.out 5 rfl (by kernel_rfl); obtain ⟨x2, y2, e2, h2⟩ := given_at Hf.out 6 rfl (by kernel_rfl); (try dsimp only at e1 e2); rw [e1, e2]; (with_reducible refine (ints_any _ _ 3 3 _ _ _ _ _ h1 h2 (by decide) (by decide)).mono ?_); rintro e w1 ⟨rfl, hb⟩; rw [kin1]; exact ⟨⟨_, rfl, rfl⟩, hb⟩)))))
      (simp only [Act.put, List.setIfInBounds_toArray, List.set_cons_zero, List.set_cons_succ])
      (with_reducible refine HK.out _ _ ?_)
      clear HK K))
  (with_reducible refine relStep (fun K hK => ?_))
  (have HK := Lib.hid hK)
  clear hK
  refine relInr (IsI 1 (li [1])) (IsI.stays _ _) (fun r n hf => ?_) ?_
  · have Hf := Lib.hid hf
    clear hf HK K
    unfold relAt
    (skip)
    go_simp
    (exact relUpon_val ⟨_, _, rfl, ints_new n.w [1] _⟩ ((Below.refl _ _).alloc (Nat.le_refl _) _))
  (simp only [Act.put, List.setIfInBounds_toArray, List.set_cons_zero, List.set_cons_succ])
  (with_reducible refine HK.out _ _ ?_)
  clear HK K
  (with_reducible refine relStep (fun K hK => ?_))
  (have HK := Lib.hid hK)
  clear hK
  refine relInr (IsI 0 ks2) (IsI.stays _ _) (fun r n hf => ?_) ?_
  · have Hf := Lib.hid hf
    clear hf HK K
    unfold relAt
    (skip)
    go_simp
    ((obtain ⟨x1, y1, e1, h1⟩ := given_at Hf.out 7 rfl (by kernel_rfl); (try dsimp only at e1); refine relUpon_enter ?_; go_at_call 7; (try rw [e1]); (try rw [e2]); refine (share_any 1 _ _ 1 0 _ _ (li [1]) (li []) _ h1 (fun h => absurd h (Nat.lt_irrefl 0)) (by decide) (by decide) (by decide)).mono ?_; rw [ksh2]; intro e w1 h; exact IsI.of_share h))
  (simp only [Act.put, List.setIfInBounds_toArray, List.set_cons_zero, List.set_cons_succ])
  (with_reducible refine HK.out _ _ ?_)
  clear HK K
  repeat
    ((with_reducible refine relStep (fun K hK => ?_))
     (have HK := Lib.hid hK)
     clear hK
     (apply relInl
      · intro r n hf
        have Hf := Lib.hid hf
        clear hf
        (first
          | ((have hh := given_at Hf.out 8 rfl (by decide +kernel); obtain ⟨x1, y1, e1, h1⟩ := hh; (try dsimp only at e1); unfold relAt; go_simp; refine relUpon_val ?_ (Below.refl _ _); exact rfl))
          | (unfold relAt
             go_simp
             (first | (refine relUpon_val ?_ (Below.refl _ _); exact rfl) | exact rfl | (refine relUpon_enter ?_; fail))))
      (simp only [Act.put, List.setIfInBounds_toArray, List.set_cons_zero, List.set_cons_succ])
      (with_reducible refine HK.out _ _ ?_)
      clear HK K))
  (with_reducible refine relStep (fun K hK => ?_))
  (have HK := Lib.hid hK)
  clear hK
  refine relInr (IsI 1 (li [0])) (IsI.stays _ _) (fun r n hf => ?_) ?_
  · have Hf := Lib.hid hf
    clear hf HK K
    unfold relAt
    (skip)
    go_simp
    (exact relUpon_val ⟨_, _, rfl, ints_new n.w [0] _⟩ ((Below.refl _ _).alloc (Nat.le_refl _) _))
  (simp only [Act.put, List.setIfInBounds_toArray, List.set_cons_zero, List.set_cons_succ])
  (with_reducible refine HK.out _ _ ?_)
  clear HK K
  (with_reducible refine relStep (fun K hK => ?_))
  (have HK := Lib.hid hK)
  clear hK
  refine relInr (IsI 1 (li [2])) (IsI.stays _ _) (fun r n hf => ?_) ?_
  · have Hf := Lib.hid hf
    clear hf HK K
    unfold relAt
    (skip)
    go_simp
    (exact relUpon_val ⟨_, _, rfl, ints_new n.w [2] _⟩ ((Below.refl _ _).alloc (Nat.le_refl _) _))
  (simp only [Act.put, List.setIfInBounds_toArray, List.set_cons_zero, List.set_cons_succ])
  (with_reducible refine HK.out _ _ ?_)
  clear HK K
  (with_reducible refine relStep (fun K hK => ?_))
  (have HK := Lib.hid hK)
  clear hK
  refine relInr (IsI 1 ks3) (IsI.stays _ _) (fun r n hf => ?_) ?_
  · have Hf := Lib.hid hf
    clear hf HK K
    unfold relAt
    (skip)
    go_simp
    ((obtain ⟨x1, y1, e1, h1⟩ := given_at Hf.out 9 rfl (by kernel_rfl); obtain ⟨x2, y2, e2, h2⟩ := given_at Hf.out 10 rfl (by kernel_rfl); (try dsimp only at e1 e2); refine relUpon_enter ?_; go_at_call 7; (try rw [e1]); (try rw [e2]); refine (share_any 9 _ _ 1 1 _ _ (li [0]) (li [2]) _ h1 h2 (by decide) (by decide) (by decide)).mono ?_; rw [ksh3]; intro e w1 h; exact IsI.of_share h))
  (simp only [Act.put, List.setIfInBounds_toArray, List.set_cons_zero, List.set_cons_succ])
  (with_reducible refine HK.out _ _ ?_)
  clear HK K
  (with_reducible refine relStep (fun K hK => ?_))
  (have HK := Lib.hid hK)
  clear hK
  refine relInr (IsI 1 (li [2])) (IsI.stays _ _) (fun r n hf => ?_) ?_
  · have Hf := Lib.hid hf
    clear hf HK K
    unfold relAt
    (skip)
    go_simp
    (exact relUpon_val ⟨_, _, rfl, ints_new n.w [2] _⟩ ((Below.refl _ _).alloc (Nat.le_refl _) _))
  (simp only [Act.put, List.setIfInBounds_toArray, List.set_cons_zero, List.set_cons_succ])
  (with_reducible refine HK.out _ _ ?_)
  clear HK K
  repeat
    ((with_reducible refine relStep (fun K hK => ?_))
     (have HK := Lib.hid hK)
     clear hK
     (apply relInl
      · intro r n hf
        have Hf := Lib.hid hf
        clear hf
        (first
          | (fail)
          | (unfold relAt
             go_simp
             (first | (refine relUpon_val ?_ (Below.refl _ _); exact rfl) | exact rfl | (refine relUpon_enter ?_; (go_at_call 8; obtain ⟨x1, y1, e1, h1⟩ := given_at Hf.out 11 rfl (by kernel_rfl); obtain ⟨x2, y2, e2, h2⟩ := given_at Hf.out 12 rfl (by kernel_rfl); (try dsimp only at e1 e2); rw [e1, e2]; (with_reducible refine (ints_any _ _ 1 1 _ _ _ _ _ h1 h2 (by decide) (by decide)).mono ?_); rintro e w1 ⟨rfl, hb⟩; rw [kin3]; exact ⟨⟨_, rfl, rfl⟩, hb⟩)))))
      (simp only [Act.put, List.setIfInBounds_toArray, List.set_cons_zero, List.set_cons_succ])
      (with_reducible refine HK.out _ _ ?_)
      clear HK K))
  refine relNil ?_
  intro r3 n3 hx3
  clear hcH
  (try simp only [List.nil_append, List.cons_append, List.mem_cons, List.not_mem_nil, or_false, forall_eq_or_imp, forall_eq, false_implies, implies_true] at hx3)
  obtain ⟨w3, hb3⟩ := n3
  (try dsimp only)
  obtain ⟨hc3, hf3⟩ := bcell hb3
  have hz3 := hb3.size
  (try simp at hz3)
  have hbW := HB.out
  go_wp2
  go_ret
  exact ⟨rfl, by (repeat' (first | with_reducible exact Below.refl _ _ | with_reducible assumption | with_reducible refine Below.drew ?_ | with_reducible refine below_drewN' ?_ _ | with_reducible refine Below.alloc ?_ ?_ _ | with_reducible refine Below.setCell ?_ ?_ _ | with_reducible refine below_step (by assumption) ?_ ?_ | omega | (simp; done) | (simp; omega)))⟩
end Go.Proofs.Ytlgbbfaeclaghaa
