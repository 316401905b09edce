/-
  The document's read of three and of four parts.
-/
import Derived.Test.YtaehcnoendieaaaDoorTcD
namespace Go.Proofs.YtaehcnoendieaaaDoor
open Go.RowKit
set_option linter.unusedVariables false
set_option linter.unusedSimpArgs false

set_option maxRecDepth 100000 in
set_option maxHeartbeats 8000000 in
theorem read_three (t : ByteArray) (p0 p1 p2 : ByteArray) (w : World) (ht : t.size ≤ 100000) (h0 : 2 ≤ p0.size) (hp0 : p0.size ≤ 100000) (hp2 : ByteArray.size p2 ≤ 100000) (hp3 : True)
    (hC : ∀ V : World, Calls Tryd.prog 41 #[.string t] V (Gives V (OwnL scs 1 V.heap.size 9 [p0, p1, p2]))) :
    Calls Tryd.prog 26 #[.string t] w fun r w' => r = .returned (.tuple #[.agg #[.int .i64 (numT (dl p0).dropLast : Nat), .string p1, .string p2, .int .i64 0], .bool (rightE ⟨(numT (dl p0).dropLast : Nat), p1, p2, 0⟩ && decide (lineE ⟨(numT (dl p0).dropLast : Nat), p1, p2, 0⟩ = t))]) ∧ Below w.heap.size w w' := by
  have HC := Lib.hid (fun (V : World) (hV : Below w.heap.size w V) => hC V)
  have hsl := fun V : World => sl_to p0 (p0.size - 1) (by omega) V
  have hwr : IntKind.i64.wrap ((p0.size : Int) - 1) = ((p0.size - 1 : Nat) : Int) := by rw [wrap_in (by omega) (by omega)]; omega
  have hlt : decide ((p0.size : Int) < 2) = false := decide_eq_false (by omega)
  have HN0 := Lib.hid (fun V : World => rnum_any (p0.extract 0 (p0.size - 1)) (by rw [← dl_size, drop_dl, List.length_dropLast, dl_size]; omega) V)
  rw [drop_dl] at HN0
  obtain ⟨ν, hν⟩ : ∃ ν, ((numT (dl p0).dropLast : Nat) : Int) = ν := ⟨_, rfl⟩
  rw [hν] at HN0 ⊢
  obtain ⟨X, hX⟩ : ∃ X, p0.extract 0 (p0.size - 1) = X := ⟨_, rfl⟩
  rw [hX] at HN0 hsl
  clear hC hX hν
  have HN3 := Lib.hid hp3
  have HRR := Lib.hid (fun V : World => rright_any ⟨ν, p1, p2, 0⟩ (by dsimp only; omega) V)
  clear hp3
  cases hr : rightE ⟨ν, p1, p2, 0⟩
  · rw [hr] at HRR
    clear hr
    go_enter Tryd.func26, Tryd.ntmps26
    go_wp2_with (first | (go_at_call 41; (with_reducible refine (HC.out _ (show Below w.heap.size w _ from by (repeat' (first | with_reducible exact Below.refl _ _ | with_reducible assumption | with_reducible refine Below.drew ?_ | with_reducible refine below_drewN' ?_ _ | with_reducible refine Below.alloc ?_ ?_ _ | with_reducible refine Below.setCell ?_ ?_ _ | with_reducible refine below_step (by assumption) ?_ ?_ | omega | (simp; done) | (simp; omega))))).mono ?_); rintro e w1 ⟨⟨v, rfl, hv⟩, hb1⟩; obtain ⟨a, cp, rfl, -, hx⟩ := OwnL.isL scs_len (by decide) hv; obtain ⟨hc1, hf1⟩ := bcell hb1; have hz1 := hb1.size; (try simp at hz1); have z1_0 : w.heap.size < w1.heap.size := (by omega); have y1_0 : w.heap.size ≤ w1.heap.size := (by omega); obtain ⟨b, o, rfl, hbb, hcs⟩ := hx (by simp); (try have pc0 : w1.cell? ⟨b, o, none⟩ = some (.string p0) := (hcs 0 _ rfl 0 (by decide))); (try have pc1 : w1.cell? ⟨b, o + 1, none⟩ = some (.string p1) := (hcs 1 _ rfl 0 (by decide))); (try have pc2 : w1.cell? ⟨b, o + 2, none⟩ = some (.string p2) := (hcs 2 _ rfl 0 (by decide))); (try have pc3 : w1.cell? ⟨b, o + 3, none⟩ = some (.string p3) := (hcs 3 _ rfl 0 (by decide))); clear hcs hx hv))
    have hcH := held_cell
    refine region_rel_tail 15 (by kernel_rfl) (by kernel_rfl) (by kernel_rfl) ?_
    dsimp only [List.take, List.drop]
    repeat
      ((with_reducible refine relStep (fun K hK => ?_))
       (have HK := Lib.hid hK)
       clear hK
       (apply relInl
        · intro r n hf
          have Hf := Lib.hid hf
          clear hf
          (first
            | (fail)
            | (unfold relAt
               go_simp
               (first | (refine relUpon_val ?_ (Below.refl _ _); exact rfl) | exact rfl | (refine relUpon_enter ?_; (go_at_call 42; (with_reducible refine (HN0.out _).mono ?_); rintro e w1 ⟨rfl, hb⟩; exact ⟨⟨_, rfl, rfl⟩, hb⟩)))))
        (simp only [Act.put, List.setIfInBounds_toArray, List.set_cons_zero, List.set_cons_succ])
        (with_reducible refine HK.out _ _ ?_)
        clear HK K))
    (with_reducible refine relStep (fun K hK => ?_))
    (have HK := Lib.hid hK)
    clear hK
    refine relInr (NewE w1.heap.size) (NewE.stays _) (fun r n hf => ?_) ?_
    · have Hf := Lib.hid hf
      clear hf HK K
      unfold relAt
      (skip)
      go_simp
      ((refine relUpon_val ?_ ?_; exact NewE.mk n; exact (Below.refl _ _).alloc (Nat.le_refl _) _))
    (simp only [Act.put, List.setIfInBounds_toArray, List.set_cons_zero, List.set_cons_succ])
    (with_reducible refine HK.out _ _ ?_)
    clear HK K
    refine relNil ?_
    intro r5 n5 hx5
    clear hcH
    (try simp only [List.nil_append, List.cons_append, List.mem_cons, List.not_mem_nil, or_false, forall_eq_or_imp, forall_eq, false_implies, implies_true] at hx5)
    obtain ⟨w5, hb5⟩ := n5
    (try dsimp only)
    obtain ⟨hc5, hf5⟩ := bcell hb5
    have hz5 := hb5.size
    (try simp at hz5)
    have z5_0 : w.heap.size < w5.heap.size := (by omega); have y5_0 : w.heap.size ≤ w5.heap.size := (by omega)
    obtain ⟨Z, eX, hZ, hBX⟩ := hx5
    have eX : r5 14 = _ := eX
    rw [eX]
    have k0 := hBX.cell 0
    have k1 := hBX.cell 1
    have k2 := hBX.cell 2
    have k3 := hBX.cell 3
    have j0 := hBX.frozen 0
    have j1 := hBX.frozen 1
    have j2 := hBX.frozen 2
    have j3 := hBX.frozen 3
    dsimp only [List.getElem?_cons_zero, List.getElem?_cons_succ] at k0 k1 k2 k3
    have hZl := hBX.lt
    have n1 : ¬ (w.heap.size = Z) := by omega
    have n2 : ¬ (Z = w.heap.size) := by omega
    clear eX hBX
    have HV := Lib.hid (set4 k0 k1 k2 k3 (a := .int .i64 ν) (b := .string p1) (c := .string ⟨#[]⟩) (d := .int .i64 0))
    go_wp2_with (go_at_call 42; (with_reducible refine (HN3.out _).mono ?_); rintro e w6 ⟨rfl, hb6⟩; obtain ⟨hc6, hf6⟩ := bcell hb6; have hz6 := hb6.size; (try simp at hz6); have m0 : w6.cell? ⟨Z, 0, none⟩ = some (.int .i64 ν) := (by obtain ⟨v0, v1, v2, v3⟩ := HV.out; rw [hc6 _ _ (by simp; omega)]; first | with_reducible exact cell_same (by with_reducible assumption) | with_reducible exact (cell_other (by simp)).trans (by with_reducible assumption)); have m1 : w6.cell? ⟨Z, 1, none⟩ = some (.string p1) := (by obtain ⟨v0, v1, v2, v3⟩ := HV.out; rw [hc6 _ _ (by simp; omega)]; first | with_reducible exact cell_same (by with_reducible assumption) | with_reducible exact (cell_other (by simp)).trans (by with_reducible assumption)); have m2 : w6.cell? ⟨Z, 2, none⟩ = some (.string p2) := (by obtain ⟨v0, v1, v2, v3⟩ := HV.out; rw [hc6 _ _ (by simp; omega)]; first | with_reducible exact cell_same (by with_reducible assumption) | with_reducible exact (cell_other (by simp)).trans (by with_reducible assumption)); have m3 : w6.cell? ⟨Z, 3, none⟩ = some (.int .i64 0) := (by obtain ⟨v0, v1, v2, v3⟩ := HV.out; rw [hc6 _ _ (by simp; omega)]; first | with_reducible exact cell_same (by with_reducible assumption) | with_reducible exact (cell_other (by simp)).trans (by with_reducible assumption)); have m4 : w6.frozen? ⟨Z, 3, none⟩ = false := (by rw [hf6 _ _ (by simp; omega)]; simp [go_sem, j0, j1, j2, j3]); have z6_0 : w.heap.size < w6.heap.size := (by omega); have y6_0 : w.heap.size ≤ w6.heap.size := (by omega); have z6_1 : Z < w6.heap.size := (by omega); have y6_1 : Z ≤ w6.heap.size := (by omega); clear hc6 hf6)
    obtain ⟨W, hW⟩ : ∃ W, W = ((((w5.setCell ⟨Z, 0, none⟩ (.int .i64 ν)).setCell ⟨Z, 1, none⟩ (.string p1)).setCell ⟨Z, 2, none⟩ (.string ⟨#[]⟩)).setCell ⟨Z, 3, none⟩ (.int .i64 0)).setCell ⟨Z, 2, none⟩ (.string p2) := ⟨_, rfl⟩
    have y0 : W.cell? ⟨Z, 0, none⟩ = some (.int .i64 ν) := by obtain ⟨v0, v1, v2, v3⟩ := HV.out; rw [hW]; first | with_reducible assumption | with_reducible exact cell_same (by with_reducible assumption) | with_reducible exact (cell_other (by simp)).trans (by with_reducible assumption)
    have y1 : W.cell? ⟨Z, 1, none⟩ = some (.string p1) := by obtain ⟨v0, v1, v2, v3⟩ := HV.out; rw [hW]; first | with_reducible assumption | with_reducible exact cell_same (by with_reducible assumption) | with_reducible exact (cell_other (by simp)).trans (by with_reducible assumption)
    have y2 : W.cell? ⟨Z, 2, none⟩ = some (.string p2) := by obtain ⟨v0, v1, v2, v3⟩ := HV.out; rw [hW]; first | with_reducible assumption | with_reducible exact cell_same (by with_reducible assumption) | with_reducible exact (cell_other (by simp)).trans (by with_reducible assumption)
    have y3 : W.cell? ⟨Z, 3, none⟩ = some (.int .i64 0) := by obtain ⟨v0, v1, v2, v3⟩ := HV.out; rw [hW]; first | with_reducible assumption | with_reducible exact cell_same (by with_reducible assumption) | with_reducible exact (cell_other (by simp)).trans (by with_reducible assumption)
    have hBW : Below (w.alloc (.cells #[.int .i64 0, .string ⟨#[]⟩, .string ⟨#[]⟩, .int .i64 0] 39)).heap.size (w.alloc (.cells #[.int .i64 0, .string ⟨#[]⟩, .string ⟨#[]⟩, .int .i64 0] 39)) W := by rw [hW]; (repeat' (first | with_reducible exact Below.refl _ _ | with_reducible assumption | with_reducible refine Below.drew ?_ | with_reducible refine below_drewN' ?_ _ | with_reducible refine Below.alloc ?_ ?_ _ | with_reducible refine Below.setCell ?_ ?_ _ | with_reducible refine below_step (by assumption) ?_ ?_ | omega | (simp; done) | (simp; omega)))
    have hBW2 : Below w.heap.size w W := by rw [hW]; (repeat' (first | with_reducible exact Below.refl _ _ | with_reducible assumption | with_reducible refine Below.drew ?_ | with_reducible refine below_drewN' ?_ _ | with_reducible refine Below.alloc ?_ ?_ _ | with_reducible refine Below.setCell ?_ ?_ _ | with_reducible refine below_step (by assumption) ?_ ?_ | omega | (simp; done) | (simp; omega)))
    have hWZ : Z < W.heap.size := by rw [hW]; simp; omega
    have hWw : w.heap.size < W.heap.size := by omega
    rw [← hW]
    clear hW hc5 hf5 hb5 hc1 hf1 hb1 k0 k1 k2 k3 j0 j1 j2 j3 HV
    (try clear hb6 m0 m1 m2 m3 m4)
    have hcH := held_cell
    refine region_rel_pure 9 Tryd.underlying9 9 [6, 7, 8] (by kernel_rfl) (by kernel_rfl) (by kernel_rfl) ?_ ?_
    · exact fun _ _ _ _ _ h => h
    dsimp only [List.take, List.drop]
    repeat
      ((with_reducible refine relStep (fun K hK => ?_))
       (have HK := Lib.hid hK)
       clear hK
       (apply relInl
        · intro r n hf
          have Hf := Lib.hid hf
          clear hf
          (first
            | (fail)
            | (unfold relAt
               go_simp
               (first | (refine relUpon_val ?_ (Below.refl _ _); exact rfl) | exact rfl | (refine relUpon_enter ?_; (go_at_call 15; (with_reducible refine (HRR.out _).mono ?_); rintro e w1 ⟨rfl, hb⟩; exact ⟨⟨_, rfl, rfl⟩, hb⟩)))))
        (simp only [Act.put, List.setIfInBounds_toArray, List.set_cons_zero, List.set_cons_succ])
        (with_reducible refine HK.out _ _ ?_)
        clear HK K))
    refine relNil ?_
    intro r8 n8 hx8
    clear hcH
    (try simp only [List.nil_append, List.cons_append, List.mem_cons, List.not_mem_nil, or_false, forall_eq_or_imp, forall_eq, false_implies, implies_true] at hx8)
    obtain ⟨w8, hb8⟩ := n8
    (try dsimp only)
    obtain ⟨hc8, hf8⟩ := bcell hb8
    have hz8 := hb8.size
    (try simp at hz8)
    have z8_0 : w.heap.size < w8.heap.size := (by omega); have y8_0 : w.heap.size ≤ w8.heap.size := (by omega); have z8_1 : Z < w8.heap.size := (by omega); have y8_1 : Z ≤ w8.heap.size := (by omega)
    have hB8 : Below (w.alloc (.cells #[.int .i64 0, .string ⟨#[]⟩, .string ⟨#[]⟩, .int .i64 0] 39)).heap.size (w.alloc (.cells #[.int .i64 0, .string ⟨#[]⟩, .string ⟨#[]⟩, .int .i64 0] 39)) w8 := by (repeat' (first | with_reducible exact Below.refl _ _ | with_reducible assumption | with_reducible refine Below.drew ?_ | with_reducible refine below_drewN' ?_ _ | with_reducible refine Below.alloc ?_ ?_ _ | with_reducible refine Below.setCell ?_ ?_ _ | with_reducible refine below_step (by assumption) ?_ ?_ | omega | (simp; done) | (simp; omega)))
    have q80 : w8.cell? ⟨w.heap.size, 0, none⟩ = some (.int .i64 0) := (hB8.cell (p := ⟨w.heap.size, 0, none⟩) (by simp)).trans (by rw [World.cell?_alloc_at _ _ _ _ rfl]; rfl)
    have q81 : w8.cell? ⟨w.heap.size, 1, none⟩ = some (.string ⟨#[]⟩) := (hB8.cell (p := ⟨w.heap.size, 1, none⟩) (by simp)).trans (by rw [World.cell?_alloc_at _ _ _ _ rfl]; rfl)
    have q82 : w8.cell? ⟨w.heap.size, 2, none⟩ = some (.string ⟨#[]⟩) := (hB8.cell (p := ⟨w.heap.size, 2, none⟩) (by simp)).trans (by rw [World.cell?_alloc_at _ _ _ _ rfl]; rfl)
    have q83 : w8.cell? ⟨w.heap.size, 3, none⟩ = some (.int .i64 0) := (hB8.cell (p := ⟨w.heap.size, 3, none⟩) (by simp)).trans (by rw [World.cell?_alloc_at _ _ _ _ rfl]; rfl)
    have q84 : ∀ j, w8.frozen? ⟨w.heap.size, j, none⟩ = false := fun j => (hB8.frozen (p := ⟨w.heap.size, j, none⟩) (by simp)).trans (World.frozen?_alloc_new w _ _ j)
    have HW8 := Lib.hid (show Below w.heap.size w w8 by (repeat' (first | with_reducible exact Below.refl _ _ | with_reducible assumption | with_reducible refine Below.drew ?_ | with_reducible refine below_drewN' ?_ _ | with_reducible refine Below.alloc ?_ ?_ _ | with_reducible refine Below.setCell ?_ ?_ _ | with_reducible refine below_step (by assumption) ?_ ?_ | omega | (simp; done) | (simp; omega))))
    clear hB8 hc8 hf8 hb8
    go_wp2
    refine bodyPost_ret (v := .tuple #[.agg #[.int .i64 ν, .string p1, .string p2, .int .i64 0], .bool false]) (by simp [results, Tryd.results26, go_sem, q80, q81, q82, q83]) rfl ⟨rfl, ?_⟩
    have hw8 := HW8.out
    (repeat' (first | with_reducible exact Below.refl _ _ | with_reducible assumption | with_reducible refine Below.drew ?_ | with_reducible refine below_drewN' ?_ _ | with_reducible refine Below.alloc ?_ ?_ _ | with_reducible refine Below.setCell ?_ ?_ _ | with_reducible refine below_step (by assumption) ?_ ?_ | omega | (simp; done) | (simp; omega)))
  · rw [hr] at HRR
    have hri := right_is hr
    have HRL := Lib.hid (fun V : World => rline_any ⟨ν, p1, p2, 0⟩ hri V)
    dsimp only at HRL
    by_cases hle : lineE ⟨ν, p1, p2, 0⟩ = t
    · have q := tnt_str hle
      rw [decide_eq_true hle]
      obtain ⟨L, hL⟩ : ∃ L, lineE ⟨ν, p1, p2, 0⟩ = L := ⟨_, rfl⟩
      rw [hL] at HRL q
      clear hr hle hri hL
      go_enter Tryd.func26, Tryd.ntmps26
      go_wp2_with (first | (go_at_call 41; (with_reducible refine (HC.out _ (show Below w.heap.size w _ from by (repeat' (first | with_reducible exact Below.refl _ _ | with_reducible assumption | with_reducible refine Below.drew ?_ | with_reducible refine below_drewN' ?_ _ | with_reducible refine Below.alloc ?_ ?_ _ | with_reducible refine Below.setCell ?_ ?_ _ | with_reducible refine below_step (by assumption) ?_ ?_ | omega | (simp; done) | (simp; omega))))).mono ?_); rintro e w1 ⟨⟨v, rfl, hv⟩, hb1⟩; obtain ⟨a, cp, rfl, -, hx⟩ := OwnL.isL scs_len (by decide) hv; obtain ⟨hc1, hf1⟩ := bcell hb1; have hz1 := hb1.size; (try simp at hz1); have z1_0 : w.heap.size < w1.heap.size := (by omega); have y1_0 : w.heap.size ≤ w1.heap.size := (by omega); obtain ⟨b, o, rfl, hbb, hcs⟩ := hx (by simp); (try have pc0 : w1.cell? ⟨b, o, none⟩ = some (.string p0) := (hcs 0 _ rfl 0 (by decide))); (try have pc1 : w1.cell? ⟨b, o + 1, none⟩ = some (.string p1) := (hcs 1 _ rfl 0 (by decide))); (try have pc2 : w1.cell? ⟨b, o + 2, none⟩ = some (.string p2) := (hcs 2 _ rfl 0 (by decide))); (try have pc3 : w1.cell? ⟨b, o + 3, none⟩ = some (.string p3) := (hcs 3 _ rfl 0 (by decide))); clear hcs hx hv))
      have hcH := held_cell
      refine region_rel_tail 15 (by kernel_rfl) (by kernel_rfl) (by kernel_rfl) ?_
      dsimp only [List.take, List.drop]
      repeat
        ((with_reducible refine relStep (fun K hK => ?_))
         (have HK := Lib.hid hK)
         clear hK
         (apply relInl
          · intro r n hf
            have Hf := Lib.hid hf
            clear hf
            (first
              | (fail)
              | (unfold relAt
                 go_simp
                 (first | (refine relUpon_val ?_ (Below.refl _ _); exact rfl) | exact rfl | (refine relUpon_enter ?_; (go_at_call 42; (with_reducible refine (HN0.out _).mono ?_); rintro e w1 ⟨rfl, hb⟩; exact ⟨⟨_, rfl, rfl⟩, hb⟩)))))
          (simp only [Act.put, List.setIfInBounds_toArray, List.set_cons_zero, List.set_cons_succ])
          (with_reducible refine HK.out _ _ ?_)
          clear HK K))
      (with_reducible refine relStep (fun K hK => ?_))
      (have HK := Lib.hid hK)
      clear hK
      refine relInr (NewE w1.heap.size) (NewE.stays _) (fun r n hf => ?_) ?_
      · have Hf := Lib.hid hf
        clear hf HK K
        unfold relAt
        (skip)
        go_simp
        ((refine relUpon_val ?_ ?_; exact NewE.mk n; exact (Below.refl _ _).alloc (Nat.le_refl _) _))
      (simp only [Act.put, List.setIfInBounds_toArray, List.set_cons_zero, List.set_cons_succ])
      (with_reducible refine HK.out _ _ ?_)
      clear HK K
      refine relNil ?_
      intro r5 n5 hx5
      clear hcH
      (try simp only [List.nil_append, List.cons_append, List.mem_cons, List.not_mem_nil, or_false, forall_eq_or_imp, forall_eq, false_implies, implies_true] at hx5)
      obtain ⟨w5, hb5⟩ := n5
      (try dsimp only)
      obtain ⟨hc5, hf5⟩ := bcell hb5
      have hz5 := hb5.size
      (try simp at hz5)
      have z5_0 : w.heap.size < w5.heap.size := (by omega); have y5_0 : w.heap.size ≤ w5.heap.size := (by omega)
      obtain ⟨Z, eX, hZ, hBX⟩ := hx5
      have eX : r5 14 = _ := eX
      rw [eX]
      have k0 := hBX.cell 0
      have k1 := hBX.cell 1
      have k2 := hBX.cell 2
      have k3 := hBX.cell 3
      have j0 := hBX.frozen 0
      have j1 := hBX.frozen 1
      have j2 := hBX.frozen 2
      have j3 := hBX.frozen 3
      dsimp only [List.getElem?_cons_zero, List.getElem?_cons_succ] at k0 k1 k2 k3
      have hZl := hBX.lt
      have n1 : ¬ (w.heap.size = Z) := by omega
      have n2 : ¬ (Z = w.heap.size) := by omega
      clear eX hBX
      have HV := Lib.hid (set4 k0 k1 k2 k3 (a := .int .i64 ν) (b := .string p1) (c := .string ⟨#[]⟩) (d := .int .i64 0))
      go_wp2_with (go_at_call 42; (with_reducible refine (HN3.out _).mono ?_); rintro e w6 ⟨rfl, hb6⟩; obtain ⟨hc6, hf6⟩ := bcell hb6; have hz6 := hb6.size; (try simp at hz6); have m0 : w6.cell? ⟨Z, 0, none⟩ = some (.int .i64 ν) := (by obtain ⟨v0, v1, v2, v3⟩ := HV.out; rw [hc6 _ _ (by simp; omega)]; first | with_reducible exact cell_same (by with_reducible assumption) | with_reducible exact (cell_other (by simp)).trans (by with_reducible assumption)); have m1 : w6.cell? ⟨Z, 1, none⟩ = some (.string p1) := (by obtain ⟨v0, v1, v2, v3⟩ := HV.out; rw [hc6 _ _ (by simp; omega)]; first | with_reducible exact cell_same (by with_reducible assumption) | with_reducible exact (cell_other (by simp)).trans (by with_reducible assumption)); have m2 : w6.cell? ⟨Z, 2, none⟩ = some (.string p2) := (by obtain ⟨v0, v1, v2, v3⟩ := HV.out; rw [hc6 _ _ (by simp; omega)]; first | with_reducible exact cell_same (by with_reducible assumption) | with_reducible exact (cell_other (by simp)).trans (by with_reducible assumption)); have m3 : w6.cell? ⟨Z, 3, none⟩ = some (.int .i64 0) := (by obtain ⟨v0, v1, v2, v3⟩ := HV.out; rw [hc6 _ _ (by simp; omega)]; first | with_reducible exact cell_same (by with_reducible assumption) | with_reducible exact (cell_other (by simp)).trans (by with_reducible assumption)); have m4 : w6.frozen? ⟨Z, 3, none⟩ = false := (by rw [hf6 _ _ (by simp; omega)]; simp [go_sem, j0, j1, j2, j3]); have z6_0 : w.heap.size < w6.heap.size := (by omega); have y6_0 : w.heap.size ≤ w6.heap.size := (by omega); have z6_1 : Z < w6.heap.size := (by omega); have y6_1 : Z ≤ w6.heap.size := (by omega); clear hc6 hf6)
      obtain ⟨W, hW⟩ : ∃ W, W = ((((w5.setCell ⟨Z, 0, none⟩ (.int .i64 ν)).setCell ⟨Z, 1, none⟩ (.string p1)).setCell ⟨Z, 2, none⟩ (.string ⟨#[]⟩)).setCell ⟨Z, 3, none⟩ (.int .i64 0)).setCell ⟨Z, 2, none⟩ (.string p2) := ⟨_, rfl⟩
      have y0 : W.cell? ⟨Z, 0, none⟩ = some (.int .i64 ν) := by obtain ⟨v0, v1, v2, v3⟩ := HV.out; rw [hW]; first | with_reducible assumption | with_reducible exact cell_same (by with_reducible assumption) | with_reducible exact (cell_other (by simp)).trans (by with_reducible assumption)
      have y1 : W.cell? ⟨Z, 1, none⟩ = some (.string p1) := by obtain ⟨v0, v1, v2, v3⟩ := HV.out; rw [hW]; first | with_reducible assumption | with_reducible exact cell_same (by with_reducible assumption) | with_reducible exact (cell_other (by simp)).trans (by with_reducible assumption)
      have y2 : W.cell? ⟨Z, 2, none⟩ = some (.string p2) := by obtain ⟨v0, v1, v2, v3⟩ := HV.out; rw [hW]; first | with_reducible assumption | with_reducible exact cell_same (by with_reducible assumption) | with_reducible exact (cell_other (by simp)).trans (by with_reducible assumption)
      have y3 : W.cell? ⟨Z, 3, none⟩ = some (.int .i64 0) := by obtain ⟨v0, v1, v2, v3⟩ := HV.out; rw [hW]; first | with_reducible assumption | with_reducible exact cell_same (by with_reducible assumption) | with_reducible exact (cell_other (by simp)).trans (by with_reducible assumption)
      have hBW : Below (w.alloc (.cells #[.int .i64 0, .string ⟨#[]⟩, .string ⟨#[]⟩, .int .i64 0] 39)).heap.size (w.alloc (.cells #[.int .i64 0, .string ⟨#[]⟩, .string ⟨#[]⟩, .int .i64 0] 39)) W := by rw [hW]; (repeat' (first | with_reducible exact Below.refl _ _ | with_reducible assumption | with_reducible refine Below.drew ?_ | with_reducible refine below_drewN' ?_ _ | with_reducible refine Below.alloc ?_ ?_ _ | with_reducible refine Below.setCell ?_ ?_ _ | with_reducible refine below_step (by assumption) ?_ ?_ | omega | (simp; done) | (simp; omega)))
      have hBW2 : Below w.heap.size w W := by rw [hW]; (repeat' (first | with_reducible exact Below.refl _ _ | with_reducible assumption | with_reducible refine Below.drew ?_ | with_reducible refine below_drewN' ?_ _ | with_reducible refine Below.alloc ?_ ?_ _ | with_reducible refine Below.setCell ?_ ?_ _ | with_reducible refine below_step (by assumption) ?_ ?_ | omega | (simp; done) | (simp; omega)))
      have hWZ : Z < W.heap.size := by rw [hW]; simp; omega
      have hWw : w.heap.size < W.heap.size := by omega
      rw [← hW]
      clear hW hc5 hf5 hb5 hc1 hf1 hb1 k0 k1 k2 k3 j0 j1 j2 j3 HV
      (try clear hb6 m0 m1 m2 m3 m4)
      have hcH := held_cell
      refine region_rel_pure 9 Tryd.underlying9 9 [6, 7, 8] (by kernel_rfl) (by kernel_rfl) (by kernel_rfl) ?_ ?_
      · exact fun _ _ _ _ _ h => h
      dsimp only [List.take, List.drop]
      repeat
        ((with_reducible refine relStep (fun K hK => ?_))
         (have HK := Lib.hid hK)
         clear hK
         (apply relInl
          · intro r n hf
            have Hf := Lib.hid hf
            clear hf
            (first
              | (fail)
              | (unfold relAt
                 go_simp
                 (first | (refine relUpon_val ?_ (Below.refl _ _); exact rfl) | exact rfl | (refine relUpon_enter ?_; (first | (go_at_call 15; (with_reducible refine (HRR.out _).mono ?_); rintro e w1 ⟨rfl, hb⟩; exact ⟨⟨_, rfl, rfl⟩, hb⟩) | (go_at_call 35; (with_reducible refine (HRL.out _).mono ?_); rintro e w1 ⟨rfl, hb⟩; exact ⟨⟨_, rfl, rfl⟩, hb⟩))))))
          (simp only [Act.put, List.setIfInBounds_toArray, List.set_cons_zero, List.set_cons_succ])
          (with_reducible refine HK.out _ _ ?_)
          clear HK K))
      refine relNil ?_
      intro r8 n8 hx8
      clear hcH
      (try simp only [List.nil_append, List.cons_append, List.mem_cons, List.not_mem_nil, or_false, forall_eq_or_imp, forall_eq, false_implies, implies_true] at hx8)
      obtain ⟨w8, hb8⟩ := n8
      (try dsimp only)
      obtain ⟨hc8, hf8⟩ := bcell hb8
      have hz8 := hb8.size
      (try simp at hz8)
      have z8_0 : w.heap.size < w8.heap.size := (by omega); have y8_0 : w.heap.size ≤ w8.heap.size := (by omega); have z8_1 : Z < w8.heap.size := (by omega); have y8_1 : Z ≤ w8.heap.size := (by omega)
      have hB8 : Below (w.alloc (.cells #[.int .i64 0, .string ⟨#[]⟩, .string ⟨#[]⟩, .int .i64 0] 39)).heap.size (w.alloc (.cells #[.int .i64 0, .string ⟨#[]⟩, .string ⟨#[]⟩, .int .i64 0] 39)) w8 := by (repeat' (first | with_reducible exact Below.refl _ _ | with_reducible assumption | with_reducible refine Below.drew ?_ | with_reducible refine below_drewN' ?_ _ | with_reducible refine Below.alloc ?_ ?_ _ | with_reducible refine Below.setCell ?_ ?_ _ | with_reducible refine below_step (by assumption) ?_ ?_ | omega | (simp; done) | (simp; omega)))
      have q80 : w8.cell? ⟨w.heap.size, 0, none⟩ = some (.int .i64 0) := (hB8.cell (p := ⟨w.heap.size, 0, none⟩) (by simp)).trans (by rw [World.cell?_alloc_at _ _ _ _ rfl]; rfl)
      have q81 : w8.cell? ⟨w.heap.size, 1, none⟩ = some (.string ⟨#[]⟩) := (hB8.cell (p := ⟨w.heap.size, 1, none⟩) (by simp)).trans (by rw [World.cell?_alloc_at _ _ _ _ rfl]; rfl)
      have q82 : w8.cell? ⟨w.heap.size, 2, none⟩ = some (.string ⟨#[]⟩) := (hB8.cell (p := ⟨w.heap.size, 2, none⟩) (by simp)).trans (by rw [World.cell?_alloc_at _ _ _ _ rfl]; rfl)
      have q83 : w8.cell? ⟨w.heap.size, 3, none⟩ = some (.int .i64 0) := (hB8.cell (p := ⟨w.heap.size, 3, none⟩) (by simp)).trans (by rw [World.cell?_alloc_at _ _ _ _ rfl]; rfl)
      have q84 : ∀ j, w8.frozen? ⟨w.heap.size, j, none⟩ = false := fun j => (hB8.frozen (p := ⟨w.heap.size, j, none⟩) (by simp)).trans (World.frozen?_alloc_new w _ _ j)
      have HW8 := Lib.hid (show Below w.heap.size w w8 by (repeat' (first | with_reducible exact Below.refl _ _ | with_reducible assumption | with_reducible refine Below.drew ?_ | with_reducible refine below_drewN' ?_ _ | with_reducible refine Below.alloc ?_ ?_ _ | with_reducible refine Below.setCell ?_ ?_ _ | with_reducible refine below_step (by assumption) ?_ ?_ | omega | (simp; done) | (simp; omega))))
      clear hB8 hc8 hf8 hb8
      go_wp2
      refine bodyPost_ret (v := .tuple #[.agg #[.int .i64 ν, .string p1, .string p2, .int .i64 0], .bool true]) (by simp [results, Tryd.results26, go_sem, q80, q81, q82, q83]) rfl ⟨rfl, ?_⟩
      have hw8 := HW8.out
      (repeat' (first | with_reducible exact Below.refl _ _ | with_reducible assumption | with_reducible refine Below.drew ?_ | with_reducible refine below_drewN' ?_ _ | with_reducible refine Below.alloc ?_ ?_ _ | with_reducible refine Below.setCell ?_ ?_ _ | with_reducible refine below_step (by assumption) ?_ ?_ | omega | (simp; done) | (simp; omega)))
    · have q := tnt_strn hle
      rw [decide_eq_false hle]
      obtain ⟨L, hL⟩ : ∃ L, lineE ⟨ν, p1, p2, 0⟩ = L := ⟨_, rfl⟩
      rw [hL] at HRL q
      clear hr hle hri hL
      go_enter Tryd.func26, Tryd.ntmps26
      go_wp2_with (first | (go_at_call 41; (with_reducible refine (HC.out _ (show Below w.heap.size w _ from by (repeat' (first | with_reducible exact Below.refl _ _ | with_reducible assumption | with_reducible refine Below.drew ?_ | with_reducible refine below_drewN' ?_ _ | with_reducible refine Below.alloc ?_ ?_ _ | with_reducible refine Below.setCell ?_ ?_ _ | with_reducible refine below_step (by assumption) ?_ ?_ | omega | (simp; done) | (simp; omega))))).mono ?_); rintro e w1 ⟨⟨v, rfl, hv⟩, hb1⟩; obtain ⟨a, cp, rfl, -, hx⟩ := OwnL.isL scs_len (by decide) hv; obtain ⟨hc1, hf1⟩ := bcell hb1; have hz1 := hb1.size; (try simp at hz1); have z1_0 : w.heap.size < w1.heap.size := (by omega); have y1_0 : w.heap.size ≤ w1.heap.size := (by omega); obtain ⟨b, o, rfl, hbb, hcs⟩ := hx (by simp); (try have pc0 : w1.cell? ⟨b, o, none⟩ = some (.string p0) := (hcs 0 _ rfl 0 (by decide))); (try have pc1 : w1.cell? ⟨b, o + 1, none⟩ = some (.string p1) := (hcs 1 _ rfl 0 (by decide))); (try have pc2 : w1.cell? ⟨b, o + 2, none⟩ = some (.string p2) := (hcs 2 _ rfl 0 (by decide))); (try have pc3 : w1.cell? ⟨b, o + 3, none⟩ = some (.string p3) := (hcs 3 _ rfl 0 (by decide))); clear hcs hx hv))
      have hcH := held_cell
      refine region_rel_tail 15 (by kernel_rfl) (by kernel_rfl) (by kernel_rfl) ?_
      dsimp only [List.take, List.drop]
      repeat
        ((with_reducible refine relStep (fun K hK => ?_))
         (have HK := Lib.hid hK)
         clear hK
         (apply relInl
          · intro r n hf
            have Hf := Lib.hid hf
            clear hf
            (first
              | (fail)
              | (unfold relAt
                 go_simp
                 (first | (refine relUpon_val ?_ (Below.refl _ _); exact rfl) | exact rfl | (refine relUpon_enter ?_; (go_at_call 42; (with_reducible refine (HN0.out _).mono ?_); rintro e w1 ⟨rfl, hb⟩; exact ⟨⟨_, rfl, rfl⟩, hb⟩)))))
          (simp only [Act.put, List.setIfInBounds_toArray, List.set_cons_zero, List.set_cons_succ])
          (with_reducible refine HK.out _ _ ?_)
          clear HK K))
      (with_reducible refine relStep (fun K hK => ?_))
      (have HK := Lib.hid hK)
      clear hK
      refine relInr (NewE w1.heap.size) (NewE.stays _) (fun r n hf => ?_) ?_
      · have Hf := Lib.hid hf
        clear hf HK K
        unfold relAt
        (skip)
        go_simp
        ((refine relUpon_val ?_ ?_; exact NewE.mk n; exact (Below.refl _ _).alloc (Nat.le_refl _) _))
      (simp only [Act.put, List.setIfInBounds_toArray, List.set_cons_zero, List.set_cons_succ])
      (with_reducible refine HK.out _ _ ?_)
      clear HK K
      refine relNil ?_
      intro r5 n5 hx5
      clear hcH
      (try simp only [List.nil_append, List.cons_append, List.mem_cons, List.not_mem_nil, or_false, forall_eq_or_imp, forall_eq, false_implies, implies_true] at hx5)
      obtain ⟨w5, hb5⟩ := n5
      (try dsimp only)
      obtain ⟨hc5, hf5⟩ := bcell hb5
      have hz5 := hb5.size
      (try simp at hz5)
      have z5_0 : w.heap.size < w5.heap.size := (by omega); have y5_0 : w.heap.size ≤ w5.heap.size := (by omega)
      obtain ⟨Z, eX, hZ, hBX⟩ := hx5
      have eX : r5 14 = _ := eX
      rw [eX]
      have k0 := hBX.cell 0
      have k1 := hBX.cell 1
      have k2 := hBX.cell 2
      have k3 := hBX.cell 3
      have j0 := hBX.frozen 0
      have j1 := hBX.frozen 1
      have j2 := hBX.frozen 2
      have j3 := hBX.frozen 3
      dsimp only [List.getElem?_cons_zero, List.getElem?_cons_succ] at k0 k1 k2 k3
      have hZl := hBX.lt
      have n1 : ¬ (w.heap.size = Z) := by omega
      have n2 : ¬ (Z = w.heap.size) := by omega
      clear eX hBX
      have HV := Lib.hid (set4 k0 k1 k2 k3 (a := .int .i64 ν) (b := .string p1) (c := .string ⟨#[]⟩) (d := .int .i64 0))
      go_wp2_with (go_at_call 42; (with_reducible refine (HN3.out _).mono ?_); rintro e w6 ⟨rfl, hb6⟩; obtain ⟨hc6, hf6⟩ := bcell hb6; have hz6 := hb6.size; (try simp at hz6); have m0 : w6.cell? ⟨Z, 0, none⟩ = some (.int .i64 ν) := (by obtain ⟨v0, v1, v2, v3⟩ := HV.out; rw [hc6 _ _ (by simp; omega)]; first | with_reducible exact cell_same (by with_reducible assumption) | with_reducible exact (cell_other (by simp)).trans (by with_reducible assumption)); have m1 : w6.cell? ⟨Z, 1, none⟩ = some (.string p1) := (by obtain ⟨v0, v1, v2, v3⟩ := HV.out; rw [hc6 _ _ (by simp; omega)]; first | with_reducible exact cell_same (by with_reducible assumption) | with_reducible exact (cell_other (by simp)).trans (by with_reducible assumption)); have m2 : w6.cell? ⟨Z, 2, none⟩ = some (.string p2) := (by obtain ⟨v0, v1, v2, v3⟩ := HV.out; rw [hc6 _ _ (by simp; omega)]; first | with_reducible exact cell_same (by with_reducible assumption) | with_reducible exact (cell_other (by simp)).trans (by with_reducible assumption)); have m3 : w6.cell? ⟨Z, 3, none⟩ = some (.int .i64 0) := (by obtain ⟨v0, v1, v2, v3⟩ := HV.out; rw [hc6 _ _ (by simp; omega)]; first | with_reducible exact cell_same (by with_reducible assumption) | with_reducible exact (cell_other (by simp)).trans (by with_reducible assumption)); have m4 : w6.frozen? ⟨Z, 3, none⟩ = false := (by rw [hf6 _ _ (by simp; omega)]; simp [go_sem, j0, j1, j2, j3]); have z6_0 : w.heap.size < w6.heap.size := (by omega); have y6_0 : w.heap.size ≤ w6.heap.size := (by omega); have z6_1 : Z < w6.heap.size := (by omega); have y6_1 : Z ≤ w6.heap.size := (by omega); clear hc6 hf6)
      obtain ⟨W, hW⟩ : ∃ W, W = ((((w5.setCell ⟨Z, 0, none⟩ (.int .i64 ν)).setCell ⟨Z, 1, none⟩ (.string p1)).setCell ⟨Z, 2, none⟩ (.string ⟨#[]⟩)).setCell ⟨Z, 3, none⟩ (.int .i64 0)).setCell ⟨Z, 2, none⟩ (.string p2) := ⟨_, rfl⟩
      have y0 : W.cell? ⟨Z, 0, none⟩ = some (.int .i64 ν) := by obtain ⟨v0, v1, v2, v3⟩ := HV.out; rw [hW]; first | with_reducible assumption | with_reducible exact cell_same (by with_reducible assumption) | with_reducible exact (cell_other (by simp)).trans (by with_reducible assumption)
      have y1 : W.cell? ⟨Z, 1, none⟩ = some (.string p1) := by obtain ⟨v0, v1, v2, v3⟩ := HV.out; rw [hW]; first | with_reducible assumption | with_reducible exact cell_same (by with_reducible assumption) | with_reducible exact (cell_other (by simp)).trans (by with_reducible assumption)
      have y2 : W.cell? ⟨Z, 2, none⟩ = some (.string p2) := by obtain ⟨v0, v1, v2, v3⟩ := HV.out; rw [hW]; first | with_reducible assumption | with_reducible exact cell_same (by with_reducible assumption) | with_reducible exact (cell_other (by simp)).trans (by with_reducible assumption)
      have y3 : W.cell? ⟨Z, 3, none⟩ = some (.int .i64 0) := by obtain ⟨v0, v1, v2, v3⟩ := HV.out; rw [hW]; first | with_reducible assumption | with_reducible exact cell_same (by with_reducible assumption) | with_reducible exact (cell_other (by simp)).trans (by with_reducible assumption)
      have hBW : Below (w.alloc (.cells #[.int .i64 0, .string ⟨#[]⟩, .string ⟨#[]⟩, .int .i64 0] 39)).heap.size (w.alloc (.cells #[.int .i64 0, .string ⟨#[]⟩, .string ⟨#[]⟩, .int .i64 0] 39)) W := by rw [hW]; (repeat' (first | with_reducible exact Below.refl _ _ | with_reducible assumption | with_reducible refine Below.drew ?_ | with_reducible refine below_drewN' ?_ _ | with_reducible refine Below.alloc ?_ ?_ _ | with_reducible refine Below.setCell ?_ ?_ _ | with_reducible refine below_step (by assumption) ?_ ?_ | omega | (simp; done) | (simp; omega)))
      have hBW2 : Below w.heap.size w W := by rw [hW]; (repeat' (first | with_reducible exact Below.refl _ _ | with_reducible assumption | with_reducible refine Below.drew ?_ | with_reducible refine below_drewN' ?_ _ | with_reducible refine Below.alloc ?_ ?_ _ | with_reducible refine Below.setCell ?_ ?_ _ | with_reducible refine below_step (by assumption) ?_ ?_ | omega | (simp; done) | (simp; omega)))
      have hWZ : Z < W.heap.size := by rw [hW]; simp; omega
      have hWw : w.heap.size < W.heap.size := by omega
      rw [← hW]
      clear hW hc5 hf5 hb5 hc1 hf1 hb1 k0 k1 k2 k3 j0 j1 j2 j3 HV
      (try clear hb6 m0 m1 m2 m3 m4)
      have hcH := held_cell
      refine region_rel_pure 9 Tryd.underlying9 9 [6, 7, 8] (by kernel_rfl) (by kernel_rfl) (by kernel_rfl) ?_ ?_
      · exact fun _ _ _ _ _ h => h
      dsimp only [List.take, List.drop]
      repeat
        ((with_reducible refine relStep (fun K hK => ?_))
         (have HK := Lib.hid hK)
         clear hK
         (apply relInl
          · intro r n hf
            have Hf := Lib.hid hf
            clear hf
            (first
              | (fail)
              | (unfold relAt
                 go_simp
                 (first | (refine relUpon_val ?_ (Below.refl _ _); exact rfl) | exact rfl | (refine relUpon_enter ?_; (first | (go_at_call 15; (with_reducible refine (HRR.out _).mono ?_); rintro e w1 ⟨rfl, hb⟩; exact ⟨⟨_, rfl, rfl⟩, hb⟩) | (go_at_call 35; (with_reducible refine (HRL.out _).mono ?_); rintro e w1 ⟨rfl, hb⟩; exact ⟨⟨_, rfl, rfl⟩, hb⟩))))))
          (simp only [Act.put, List.setIfInBounds_toArray, List.set_cons_zero, List.set_cons_succ])
          (with_reducible refine HK.out _ _ ?_)
          clear HK K))
      refine relNil ?_
      intro r8 n8 hx8
      clear hcH
      (try simp only [List.nil_append, List.cons_append, List.mem_cons, List.not_mem_nil, or_false, forall_eq_or_imp, forall_eq, false_implies, implies_true] at hx8)
      obtain ⟨w8, hb8⟩ := n8
      (try dsimp only)
      obtain ⟨hc8, hf8⟩ := bcell hb8
      have hz8 := hb8.size
      (try simp at hz8)
      have z8_0 : w.heap.size < w8.heap.size := (by omega); have y8_0 : w.heap.size ≤ w8.heap.size := (by omega); have z8_1 : Z < w8.heap.size := (by omega); have y8_1 : Z ≤ w8.heap.size := (by omega)
      have hB8 : Below (w.alloc (.cells #[.int .i64 0, .string ⟨#[]⟩, .string ⟨#[]⟩, .int .i64 0] 39)).heap.size (w.alloc (.cells #[.int .i64 0, .string ⟨#[]⟩, .string ⟨#[]⟩, .int .i64 0] 39)) w8 := by (repeat' (first | with_reducible exact Below.refl _ _ | with_reducible assumption | with_reducible refine Below.drew ?_ | with_reducible refine below_drewN' ?_ _ | with_reducible refine Below.alloc ?_ ?_ _ | with_reducible refine Below.setCell ?_ ?_ _ | with_reducible refine below_step (by assumption) ?_ ?_ | omega | (simp; done) | (simp; omega)))
      have q80 : w8.cell? ⟨w.heap.size, 0, none⟩ = some (.int .i64 0) := (hB8.cell (p := ⟨w.heap.size, 0, none⟩) (by simp)).trans (by rw [World.cell?_alloc_at _ _ _ _ rfl]; rfl)
      have q81 : w8.cell? ⟨w.heap.size, 1, none⟩ = some (.string ⟨#[]⟩) := (hB8.cell (p := ⟨w.heap.size, 1, none⟩) (by simp)).trans (by rw [World.cell?_alloc_at _ _ _ _ rfl]; rfl)
      have q82 : w8.cell? ⟨w.heap.size, 2, none⟩ = some (.string ⟨#[]⟩) := (hB8.cell (p := ⟨w.heap.size, 2, none⟩) (by simp)).trans (by rw [World.cell?_alloc_at _ _ _ _ rfl]; rfl)
      have q83 : w8.cell? ⟨w.heap.size, 3, none⟩ = some (.int .i64 0) := (hB8.cell (p := ⟨w.heap.size, 3, none⟩) (by simp)).trans (by rw [World.cell?_alloc_at _ _ _ _ rfl]; rfl)
      have q84 : ∀ j, w8.frozen? ⟨w.heap.size, j, none⟩ = false := fun j => (hB8.frozen (p := ⟨w.heap.size, j, none⟩) (by simp)).trans (World.frozen?_alloc_new w _ _ j)
      have HW8 := Lib.hid (show Below w.heap.size w w8 by (repeat' (first | with_reducible exact Below.refl _ _ | with_reducible assumption | with_reducible refine Below.drew ?_ | with_reducible refine below_drewN' ?_ _ | with_reducible refine Below.alloc ?_ ?_ _ | with_reducible refine Below.setCell ?_ ?_ _ | with_reducible refine below_step (by assumption) ?_ ?_ | omega | (simp; done) | (simp; omega))))
      clear hB8 hc8 hf8 hb8
      go_wp2
      refine bodyPost_ret (v := .tuple #[.agg #[.int .i64 ν, .string p1, .string p2, .int .i64 0], .bool false]) (by simp [results, Tryd.results26, go_sem, q80, q81, q82, q83]) rfl ⟨rfl, ?_⟩
      have hw8 := HW8.out
      (repeat' (first | with_reducible exact Below.refl _ _ | with_reducible assumption | with_reducible refine Below.drew ?_ | with_reducible refine below_drewN' ?_ _ | with_reducible refine Below.alloc ?_ ?_ _ | with_reducible refine Below.setCell ?_ ?_ _ | with_reducible refine below_step (by assumption) ?_ ?_ | omega | (simp; done) | (simp; omega)))
set_option maxRecDepth 100000 in
      set_option maxHeartbeats 8000000 in
      theorem read_four (t : ByteArray) (p0 p1 p2 p3 : ByteArray) (w : World) (ht : t.size ≤ 100000) (h0 : 2 ≤ p0.size) (hp0 : p0.size ≤ 100000) (hp2 : ByteArray.size p2 ≤ 100000) (hp3 : (∀ V : World, Calls Tryd.prog 42 #[.string p3] V fun r w' => r = .returned (.int .i64 (numT (dl p3) : Nat)) ∧ Below V.heap.size V w'))
          (hC : ∀ V : World, Calls Tryd.prog 41 #[.string t] V (Gives V (OwnL scs 1 V.heap.size 9 [p0, p1, p2, p3]))) :
          Calls Tryd.prog 26 #[.string t] w fun r w' => r = .returned (.tuple #[.agg #[.int .i64 (numT (dl p0).dropLast : Nat), .string p1, .string p2, .int .i64 (numT (dl p3) : Nat)], .bool (rightE ⟨(numT (dl p0).dropLast : Nat), p1, p2, (numT (dl p3) : Nat)⟩ && decide (lineE ⟨(numT (dl p0).dropLast : Nat), p1, p2, (numT (dl p3) : Nat)⟩ = t))]) ∧ Below w.heap.size w w' := by
        have HC := Lib.hid (fun (V : World) (hV : Below w.heap.size w V) => hC V)
        have hsl := fun V : World => sl_to p0 (p0.size - 1) (by omega) V
        have hwr : IntKind.i64.wrap ((p0.size : Int) - 1) = ((p0.size - 1 : Nat) : Int) := by rw [wrap_in (by omega) (by omega)]; omega
        have hlt : decide ((p0.size : Int) < 2) = false := decide_eq_false (by omega)
        have HN0 := Lib.hid (fun V : World => rnum_any (p0.extract 0 (p0.size - 1)) (by rw [← dl_size, drop_dl, List.length_dropLast, dl_size]; omega) V)
        rw [drop_dl] at HN0
        obtain ⟨ν, hν⟩ : ∃ ν, ((numT (dl p0).dropLast : Nat) : Int) = ν := ⟨_, rfl⟩
        rw [hν] at HN0 ⊢
        obtain ⟨X, hX⟩ : ∃ X, p0.extract 0 (p0.size - 1) = X := ⟨_, rfl⟩
        rw [hX] at HN0 hsl
        clear hC hX hν
        have HN3 := Lib.hid hp3
        have HRR := Lib.hid (fun V : World => rright_any ⟨ν, p1, p2, (numT (dl p3) : Nat)⟩ (by dsimp only; omega) V)
        clear hp3
        cases hr : rightE ⟨ν, p1, p2, (numT (dl p3) : Nat)⟩
        · rw [hr] at HRR
          clear hr
          go_enter Tryd.func26, Tryd.ntmps26
          go_wp2_with (first | (go_at_call 41; (with_reducible refine (HC.out _ (show Below w.heap.size w _ from by (repeat' (first | with_reducible exact Below.refl _ _ | with_reducible assumption | with_reducible refine Below.drew ?_ | with_reducible refine below_drewN' ?_ _ | with_reducible refine Below.alloc ?_ ?_ _ | with_reducible refine Below.setCell ?_ ?_ _ | with_reducible refine below_step (by assumption) ?_ ?_ | omega | (simp; done) | (simp; omega))))).mono ?_); rintro e w1 ⟨⟨v, rfl, hv⟩, hb1⟩; obtain ⟨a, cp, rfl, -, hx⟩ := OwnL.isL scs_len (by decide) hv; obtain ⟨hc1, hf1⟩ := bcell hb1; have hz1 := hb1.size; (try simp at hz1); have z1_0 : w.heap.size < w1.heap.size := (by omega); have y1_0 : w.heap.size ≤ w1.heap.size := (by omega); obtain ⟨b, o, rfl, hbb, hcs⟩ := hx (by simp); (try have pc0 : w1.cell? ⟨b, o, none⟩ = some (.string p0) := (hcs 0 _ rfl 0 (by decide))); (try have pc1 : w1.cell? ⟨b, o + 1, none⟩ = some (.string p1) := (hcs 1 _ rfl 0 (by decide))); (try have pc2 : w1.cell? ⟨b, o + 2, none⟩ = some (.string p2) := (hcs 2 _ rfl 0 (by decide))); (try have pc3 : w1.cell? ⟨b, o + 3, none⟩ = some (.string p3) := (hcs 3 _ rfl 0 (by decide))); clear hcs hx hv))
          have hcH := held_cell
          refine region_rel_tail 15 (by kernel_rfl) (by kernel_rfl) (by kernel_rfl) ?_
          dsimp only [List.take, List.drop]
          repeat
            ((with_reducible refine relStep (fun K hK => ?_))
             (have HK := Lib.hid hK)
             clear hK
             (apply relInl
              · intro r n hf
                have Hf := Lib.hid hf
                clear hf
                (first
                  | (fail)
                  | (unfold relAt
                     go_simp
                     (first | (refine relUpon_val ?_ (Below.refl _ _); exact rfl) | exact rfl | (refine relUpon_enter ?_; (go_at_call 42; (with_reducible refine (HN0.out _).mono ?_); rintro e w1 ⟨rfl, hb⟩; exact ⟨⟨_, rfl, rfl⟩, hb⟩)))))
              (simp only [Act.put, List.setIfInBounds_toArray, List.set_cons_zero, List.set_cons_succ])
              (with_reducible refine HK.out _ _ ?_)
              clear HK K))
          (with_reducible refine relStep (fun K hK => ?_))
          (have HK := Lib.hid hK)
          clear hK
          refine relInr (NewE w1.heap.size) (NewE.stays _) (fun r n hf => ?_) ?_
          · have Hf := Lib.hid hf
            clear hf HK K
            unfold relAt
            (skip)
            go_simp
            ((refine relUpon_val ?_ ?_; exact NewE.mk n; exact (Below.refl _ _).alloc (Nat.le_refl _) _))
          (simp only [Act.put, List.setIfInBounds_toArray, List.set_cons_zero, List.set_cons_succ])
          (with_reducible refine HK.out _ _ ?_)
          clear HK K
          refine relNil ?_
          intro r5 n5 hx5
          clear hcH
          (try simp only [List.nil_append, List.cons_append, List.mem_cons, List.not_mem_nil, or_false, forall_eq_or_imp, forall_eq, false_implies, implies_true] at hx5)
          obtain ⟨w5, hb5⟩ := n5
          (try dsimp only)
          obtain ⟨hc5, hf5⟩ := bcell hb5
          have hz5 := hb5.size
          (try simp at hz5)
          have z5_0 : w.heap.size < w5.heap.size := (by omega); have y5_0 : w.heap.size ≤ w5.heap.size := (by omega)
          obtain ⟨Z, eX, hZ, hBX⟩ := hx5
          have eX : r5 14 = _ := eX
          rw [eX]
          have k0 := hBX.cell 0
          have k1 := hBX.cell 1
          have k2 := hBX.cell 2
          have k3 := hBX.cell 3
          have j0 := hBX.frozen 0
          have j1 := hBX.frozen 1
          have j2 := hBX.frozen 2
          have j3 := hBX.frozen 3
          dsimp only [List.getElem?_cons_zero, List.getElem?_cons_succ] at k0 k1 k2 k3
          have hZl := hBX.lt
          have n1 : ¬ (w.heap.size = Z) := by omega
          have n2 : ¬ (Z = w.heap.size) := by omega
          clear eX hBX
          have HV := Lib.hid (set4 k0 k1 k2 k3 (a := .int .i64 ν) (b := .string p1) (c := .string ⟨#[]⟩) (d := .int .i64 0))
          go_wp2_with (go_at_call 42; (with_reducible refine (HN3.out _).mono ?_); rintro e w6 ⟨rfl, hb6⟩; obtain ⟨hc6, hf6⟩ := bcell hb6; have hz6 := hb6.size; (try simp at hz6); have m0 : w6.cell? ⟨Z, 0, none⟩ = some (.int .i64 ν) := (by obtain ⟨v0, v1, v2, v3⟩ := HV.out; rw [hc6 _ _ (by simp; omega)]; first | with_reducible exact cell_same (by with_reducible assumption) | with_reducible exact (cell_other (by simp)).trans (by with_reducible assumption)); have m1 : w6.cell? ⟨Z, 1, none⟩ = some (.string p1) := (by obtain ⟨v0, v1, v2, v3⟩ := HV.out; rw [hc6 _ _ (by simp; omega)]; first | with_reducible exact cell_same (by with_reducible assumption) | with_reducible exact (cell_other (by simp)).trans (by with_reducible assumption)); have m2 : w6.cell? ⟨Z, 2, none⟩ = some (.string p2) := (by obtain ⟨v0, v1, v2, v3⟩ := HV.out; rw [hc6 _ _ (by simp; omega)]; first | with_reducible exact cell_same (by with_reducible assumption) | with_reducible exact (cell_other (by simp)).trans (by with_reducible assumption)); have m3 : w6.cell? ⟨Z, 3, none⟩ = some (.int .i64 0) := (by obtain ⟨v0, v1, v2, v3⟩ := HV.out; rw [hc6 _ _ (by simp; omega)]; first | with_reducible exact cell_same (by with_reducible assumption) | with_reducible exact (cell_other (by simp)).trans (by with_reducible assumption)); have m4 : w6.frozen? ⟨Z, 3, none⟩ = false := (by rw [hf6 _ _ (by simp; omega)]; simp [go_sem, j0, j1, j2, j3]); have z6_0 : w.heap.size < w6.heap.size := (by omega); have y6_0 : w.heap.size ≤ w6.heap.size := (by omega); have z6_1 : Z < w6.heap.size := (by omega); have y6_1 : Z ≤ w6.heap.size := (by omega); clear hc6 hf6)
          obtain ⟨W, hW⟩ : ∃ W, W = w6.setCell ⟨Z, 3, none⟩ (.int .i64 (numT (dl p3) : Nat)) := ⟨_, rfl⟩
          have y0 : W.cell? ⟨Z, 0, none⟩ = some (.int .i64 ν) := by obtain ⟨v0, v1, v2, v3⟩ := HV.out; rw [hW]; first | with_reducible assumption | with_reducible exact cell_same (by with_reducible assumption) | with_reducible exact (cell_other (by simp)).trans (by with_reducible assumption)
          have y1 : W.cell? ⟨Z, 1, none⟩ = some (.string p1) := by obtain ⟨v0, v1, v2, v3⟩ := HV.out; rw [hW]; first | with_reducible assumption | with_reducible exact cell_same (by with_reducible assumption) | with_reducible exact (cell_other (by simp)).trans (by with_reducible assumption)
          have y2 : W.cell? ⟨Z, 2, none⟩ = some (.string p2) := by obtain ⟨v0, v1, v2, v3⟩ := HV.out; rw [hW]; first | with_reducible assumption | with_reducible exact cell_same (by with_reducible assumption) | with_reducible exact (cell_other (by simp)).trans (by with_reducible assumption)
          have y3 : W.cell? ⟨Z, 3, none⟩ = some (.int .i64 (numT (dl p3) : Nat)) := by obtain ⟨v0, v1, v2, v3⟩ := HV.out; rw [hW]; first | with_reducible assumption | with_reducible exact cell_same (by with_reducible assumption) | with_reducible exact (cell_other (by simp)).trans (by with_reducible assumption)
          have hBW : Below (w.alloc (.cells #[.int .i64 0, .string ⟨#[]⟩, .string ⟨#[]⟩, .int .i64 0] 39)).heap.size (w.alloc (.cells #[.int .i64 0, .string ⟨#[]⟩, .string ⟨#[]⟩, .int .i64 0] 39)) W := by rw [hW]; (repeat' (first | with_reducible exact Below.refl _ _ | with_reducible assumption | with_reducible refine Below.drew ?_ | with_reducible refine below_drewN' ?_ _ | with_reducible refine Below.alloc ?_ ?_ _ | with_reducible refine Below.setCell ?_ ?_ _ | with_reducible refine below_step (by assumption) ?_ ?_ | omega | (simp; done) | (simp; omega)))
          have hBW2 : Below w.heap.size w W := by rw [hW]; (repeat' (first | with_reducible exact Below.refl _ _ | with_reducible assumption | with_reducible refine Below.drew ?_ | with_reducible refine below_drewN' ?_ _ | with_reducible refine Below.alloc ?_ ?_ _ | with_reducible refine Below.setCell ?_ ?_ _ | with_reducible refine below_step (by assumption) ?_ ?_ | omega | (simp; done) | (simp; omega)))
          have hWZ : Z < W.heap.size := by rw [hW]; simp; omega
          have hWw : w.heap.size < W.heap.size := by omega
          rw [← hW]
          clear hW hc5 hf5 hb5 hc1 hf1 hb1 k0 k1 k2 k3 j0 j1 j2 j3 HV
          (try clear hb6 m0 m1 m2 m3 m4)
          have hcH := held_cell
          refine region_rel_pure 9 Tryd.underlying9 9 [6, 7, 8] (by kernel_rfl) (by kernel_rfl) (by kernel_rfl) ?_ ?_
          · exact fun _ _ _ _ _ h => h
          dsimp only [List.take, List.drop]
          repeat
            ((with_reducible refine relStep (fun K hK => ?_))
             (have HK := Lib.hid hK)
             clear hK
             (apply relInl
              · intro r n hf
                have Hf := Lib.hid hf
                clear hf
                (first
                  | (fail)
                  | (unfold relAt
                     go_simp
                     (first | (refine relUpon_val ?_ (Below.refl _ _); exact rfl) | exact rfl | (refine relUpon_enter ?_; (go_at_call 15; (with_reducible refine (HRR.out _).mono ?_); rintro e w1 ⟨rfl, hb⟩; exact ⟨⟨_, rfl, rfl⟩, hb⟩)))))
              (simp only [Act.put, List.setIfInBounds_toArray, List.set_cons_zero, List.set_cons_succ])
              (with_reducible refine HK.out _ _ ?_)
              clear HK K))
          refine relNil ?_
          intro r8 n8 hx8
          clear hcH
          (try simp only [List.nil_append, List.cons_append, List.mem_cons, List.not_mem_nil, or_false, forall_eq_or_imp, forall_eq, false_implies, implies_true] at hx8)
          obtain ⟨w8, hb8⟩ := n8
          (try dsimp only)
          obtain ⟨hc8, hf8⟩ := bcell hb8
          have hz8 := hb8.size
          (try simp at hz8)
          have z8_0 : w.heap.size < w8.heap.size := (by omega); have y8_0 : w.heap.size ≤ w8.heap.size := (by omega); have z8_1 : Z < w8.heap.size := (by omega); have y8_1 : Z ≤ w8.heap.size := (by omega)
          have hB8 : Below (w.alloc (.cells #[.int .i64 0, .string ⟨#[]⟩, .string ⟨#[]⟩, .int .i64 0] 39)).heap.size (w.alloc (.cells #[.int .i64 0, .string ⟨#[]⟩, .string ⟨#[]⟩, .int .i64 0] 39)) w8 := by (repeat' (first | with_reducible exact Below.refl _ _ | with_reducible assumption | with_reducible refine Below.drew ?_ | with_reducible refine below_drewN' ?_ _ | with_reducible refine Below.alloc ?_ ?_ _ | with_reducible refine Below.setCell ?_ ?_ _ | with_reducible refine below_step (by assumption) ?_ ?_ | omega | (simp; done) | (simp; omega)))
          have q80 : w8.cell? ⟨w.heap.size, 0, none⟩ = some (.int .i64 0) := (hB8.cell (p := ⟨w.heap.size, 0, none⟩) (by simp)).trans (by rw [World.cell?_alloc_at _ _ _ _ rfl]; rfl)
          have q81 : w8.cell? ⟨w.heap.size, 1, none⟩ = some (.string ⟨#[]⟩) := (hB8.cell (p := ⟨w.heap.size, 1, none⟩) (by simp)).trans (by rw [World.cell?_alloc_at _ _ _ _ rfl]; rfl)
          have q82 : w8.cell? ⟨w.heap.size, 2, none⟩ = some (.string ⟨#[]⟩) := (hB8.cell (p := ⟨w.heap.size, 2, none⟩) (by simp)).trans (by rw [World.cell?_alloc_at _ _ _ _ rfl]; rfl)
          have q83 : w8.cell? ⟨w.heap.size, 3, none⟩ = some (.int .i64 0) := (hB8.cell (p := ⟨w.heap.size, 3, none⟩) (by simp)).trans (by rw [World.cell?_alloc_at _ _ _ _ rfl]; rfl)
          have q84 : ∀ j, w8.frozen? ⟨w.heap.size, j, none⟩ = false := fun j => (hB8.frozen (p := ⟨w.heap.size, j, none⟩) (by simp)).trans (World.frozen?_alloc_new w _ _ j)
          have HW8 := Lib.hid (show Below w.heap.size w w8 by (repeat' (first | with_reducible exact Below.refl _ _ | with_reducible assumption | with_reducible refine Below.drew ?_ | with_reducible refine below_drewN' ?_ _ | with_reducible refine Below.alloc ?_ ?_ _ | with_reducible refine Below.setCell ?_ ?_ _ | with_reducible refine below_step (by assumption) ?_ ?_ | omega | (simp; done) | (simp; omega))))
          clear hB8 hc8 hf8 hb8
          go_wp2
          refine bodyPost_ret (v := .tuple #[.agg #[.int .i64 ν, .string p1, .string p2, .int .i64 (numT (dl p3) : Nat)], .bool false]) (by simp [results, Tryd.results26, go_sem, q80, q81, q82, q83]) rfl ⟨rfl, ?_⟩
          have hw8 := HW8.out
          (repeat' (first | with_reducible exact Below.refl _ _ | with_reducible assumption | with_reducible refine Below.drew ?_ | with_reducible refine below_drewN' ?_ _ | with_reducible refine Below.alloc ?_ ?_ _ | with_reducible refine Below.setCell ?_ ?_ _ | with_reducible refine below_step (by assumption) ?_ ?_ | omega | (simp; done) | (simp; omega)))
        · rw [hr] at HRR
          have hri := right_is hr
          have HRL := Lib.hid (fun V : World => rline_any ⟨ν, p1, p2, (numT (dl p3) : Nat)⟩ hri V)
          dsimp only at HRL
          by_cases hle : lineE ⟨ν, p1, p2, (numT (dl p3) : Nat)⟩ = t
          · have q := tnt_str hle
            rw [decide_eq_true hle]
            obtain ⟨L, hL⟩ : ∃ L, lineE ⟨ν, p1, p2, (numT (dl p3) : Nat)⟩ = L := ⟨_, rfl⟩
            rw [hL] at HRL q
            clear hr hle hri hL
            go_enter Tryd.func26, Tryd.ntmps26
            go_wp2_with (first | (go_at_call 41; (with_reducible refine (HC.out _ (show Below w.heap.size w _ from by (repeat' (first | with_reducible exact Below.refl _ _ | with_reducible assumption | with_reducible refine Below.drew ?_ | with_reducible refine below_drewN' ?_ _ | with_reducible refine Below.alloc ?_ ?_ _ | with_reducible refine Below.setCell ?_ ?_ _ | with_reducible refine below_step (by assumption) ?_ ?_ | omega | (simp; done) | (simp; omega))))).mono ?_); rintro e w1 ⟨⟨v, rfl, hv⟩, hb1⟩; obtain ⟨a, cp, rfl, -, hx⟩ := OwnL.isL scs_len (by decide) hv; obtain ⟨hc1, hf1⟩ := bcell hb1; have hz1 := hb1.size; (try simp at hz1); have z1_0 : w.heap.size < w1.heap.size := (by omega); have y1_0 : w.heap.size ≤ w1.heap.size := (by omega); obtain ⟨b, o, rfl, hbb, hcs⟩ := hx (by simp); (try have pc0 : w1.cell? ⟨b, o, none⟩ = some (.string p0) := (hcs 0 _ rfl 0 (by decide))); (try have pc1 : w1.cell? ⟨b, o + 1, none⟩ = some (.string p1) := (hcs 1 _ rfl 0 (by decide))); (try have pc2 : w1.cell? ⟨b, o + 2, none⟩ = some (.string p2) := (hcs 2 _ rfl 0 (by decide))); (try have pc3 : w1.cell? ⟨b, o + 3, none⟩ = some (.string p3) := (hcs 3 _ rfl 0 (by decide))); clear hcs hx hv))
            have hcH := held_cell
            refine region_rel_tail 15 (by kernel_rfl) (by kernel_rfl) (by kernel_rfl) ?_
            dsimp only [List.take, List.drop]
            repeat
              ((with_reducible refine relStep (fun K hK => ?_))
               (have HK := Lib.hid hK)
               clear hK
               (apply relInl
                · intro r n hf
                  have Hf := Lib.hid hf
                  clear hf
                  (first
                    | (fail)
                    | (unfold relAt
                       go_simp
                       (first | (refine relUpon_val ?_ (Below.refl _ _); exact rfl) | exact rfl | (refine relUpon_enter ?_; (go_at_call 42; (with_reducible refine (HN0.out _).mono ?_); rintro e w1 ⟨rfl, hb⟩; exact ⟨⟨_, rfl, rfl⟩, hb⟩)))))
                (simp only [Act.put, List.setIfInBounds_toArray, List.set_cons_zero, List.set_cons_succ])
                (with_reducible refine HK.out _ _ ?_)
                clear HK K))
            (with_reducible refine relStep (fun K hK => ?_))
            (have HK := Lib.hid hK)
            clear hK
            refine relInr (NewE w1.heap.size) (NewE.stays _) (fun r n hf => ?_) ?_
            · have Hf := Lib.hid hf
              clear hf HK K
              unfold relAt
              (skip)
              go_simp
              ((refine relUpon_val ?_ ?_; exact NewE.mk n; exact (Below.refl _ _).alloc (Nat.le_refl _) _))
            (simp only [Act.put, List.setIfInBounds_toArray, List.set_cons_zero, List.set_cons_succ])
            (with_reducible refine HK.out _ _ ?_)
            clear HK K
            refine relNil ?_
            intro r5 n5 hx5
            clear hcH
            (try simp only [List.nil_append, List.cons_append, List.mem_cons, List.not_mem_nil, or_false, forall_eq_or_imp, forall_eq, false_implies, implies_true] at hx5)
            obtain ⟨w5, hb5⟩ := n5
            (try dsimp only)
            obtain ⟨hc5, hf5⟩ := bcell hb5
            have hz5 := hb5.size
            (try simp at hz5)
            have z5_0 : w.heap.size < w5.heap.size := (by omega); have y5_0 : w.heap.size ≤ w5.heap.size := (by omega)
            obtain ⟨Z, eX, hZ, hBX⟩ := hx5
            have eX : r5 14 = _ := eX
            rw [eX]
            have k0 := hBX.cell 0
            have k1 := hBX.cell 1
            have k2 := hBX.cell 2
            have k3 := hBX.cell 3
            have j0 := hBX.frozen 0
            have j1 := hBX.frozen 1
            have j2 := hBX.frozen 2
            have j3 := hBX.frozen 3
            dsimp only [List.getElem?_cons_zero, List.getElem?_cons_succ] at k0 k1 k2 k3
            have hZl := hBX.lt
            have n1 : ¬ (w.heap.size = Z) := by omega
            have n2 : ¬ (Z = w.heap.size) := by omega
            clear eX hBX
            have HV := Lib.hid (set4 k0 k1 k2 k3 (a := .int .i64 ν) (b := .string p1) (c := .string ⟨#[]⟩) (d := .int .i64 0))
            go_wp2_with (go_at_call 42; (with_reducible refine (HN3.out _).mono ?_); rintro e w6 ⟨rfl, hb6⟩; obtain ⟨hc6, hf6⟩ := bcell hb6; have hz6 := hb6.size; (try simp at hz6); have m0 : w6.cell? ⟨Z, 0, none⟩ = some (.int .i64 ν) := (by obtain ⟨v0, v1, v2, v3⟩ := HV.out; rw [hc6 _ _ (by simp; omega)]; first | with_reducible exact cell_same (by with_reducible assumption) | with_reducible exact (cell_other (by simp)).trans (by with_reducible assumption)); have m1 : w6.cell? ⟨Z, 1, none⟩ = some (.string p1) := (by obtain ⟨v0, v1, v2, v3⟩ := HV.out; rw [hc6 _ _ (by simp; omega)]; first | with_reducible exact cell_same (by with_reducible assumption) | with_reducible exact (cell_other (by simp)).trans (by with_reducible assumption)); have m2 : w6.cell? ⟨Z, 2, none⟩ = some (.string p2) := (by obtain ⟨v0, v1, v2, v3⟩ := HV.out; rw [hc6 _ _ (by simp; omega)]; first | with_reducible exact cell_same (by with_reducible assumption) | with_reducible exact (cell_other (by simp)).trans (by with_reducible assumption)); have m3 : w6.cell? ⟨Z, 3, none⟩ = some (.int .i64 0) := (by obtain ⟨v0, v1, v2, v3⟩ := HV.out; rw [hc6 _ _ (by simp; omega)]; first | with_reducible exact cell_same (by with_reducible assumption) | with_reducible exact (cell_other (by simp)).trans (by with_reducible assumption)); have m4 : w6.frozen? ⟨Z, 3, none⟩ = false := (by rw [hf6 _ _ (by simp; omega)]; simp [go_sem, j0, j1, j2, j3]); have z6_0 : w.heap.size < w6.heap.size := (by omega); have y6_0 : w.heap.size ≤ w6.heap.size := (by omega); have z6_1 : Z < w6.heap.size := (by omega); have y6_1 : Z ≤ w6.heap.size := (by omega); clear hc6 hf6)
            obtain ⟨W, hW⟩ : ∃ W, W = w6.setCell ⟨Z, 3, none⟩ (.int .i64 (numT (dl p3) : Nat)) := ⟨_, rfl⟩
            have y0 : W.cell? ⟨Z, 0, none⟩ = some (.int .i64 ν) := by obtain ⟨v0, v1, v2, v3⟩ := HV.out; rw [hW]; first | with_reducible assumption | with_reducible exact cell_same (by with_reducible assumption) | with_reducible exact (cell_other (by simp)).trans (by with_reducible assumption)
            have y1 : W.cell? ⟨Z, 1, none⟩ = some (.string p1) := by obtain ⟨v0, v1, v2, v3⟩ := HV.out; rw [hW]; first | with_reducible assumption | with_reducible exact cell_same (by with_reducible assumption) | with_reducible exact (cell_other (by simp)).trans (by with_reducible assumption)
            have y2 : W.cell? ⟨Z, 2, none⟩ = some (.string p2) := by obtain ⟨v0, v1, v2, v3⟩ := HV.out; rw [hW]; first | with_reducible assumption | with_reducible exact cell_same (by with_reducible assumption) | with_reducible exact (cell_other (by simp)).trans (by with_reducible assumption)
            have y3 : W.cell? ⟨Z, 3, none⟩ = some (.int .i64 (numT (dl p3) : Nat)) := by obtain ⟨v0, v1, v2, v3⟩ := HV.out; rw [hW]; first | with_reducible assumption | with_reducible exact cell_same (by with_reducible assumption) | with_reducible exact (cell_other (by simp)).trans (by with_reducible assumption)
            have hBW : Below (w.alloc (.cells #[.int .i64 0, .string ⟨#[]⟩, .string ⟨#[]⟩, .int .i64 0] 39)).heap.size (w.alloc (.cells #[.int .i64 0, .string ⟨#[]⟩, .string ⟨#[]⟩, .int .i64 0] 39)) W := by rw [hW]; (repeat' (first | with_reducible exact Below.refl _ _ | with_reducible assumption | with_reducible refine Below.drew ?_ | with_reducible refine below_drewN' ?_ _ | with_reducible refine Below.alloc ?_ ?_ _ | with_reducible refine Below.setCell ?_ ?_ _ | with_reducible refine below_step (by assumption) ?_ ?_ | omega | (simp; done) | (simp; omega)))
            have hBW2 : Below w.heap.size w W := by rw [hW]; (repeat' (first | with_reducible exact Below.refl _ _ | with_reducible assumption | with_reducible refine Below.drew ?_ | with_reducible refine below_drewN' ?_ _ | with_reducible refine Below.alloc ?_ ?_ _ | with_reducible refine Below.setCell ?_ ?_ _ | with_reducible refine below_step (by assumption) ?_ ?_ | omega | (simp; done) | (simp; omega)))
            have hWZ : Z < W.heap.size := by rw [hW]; simp; omega
            have hWw : w.heap.size < W.heap.size := by omega
            rw [← hW]
            clear hW hc5 hf5 hb5 hc1 hf1 hb1 k0 k1 k2 k3 j0 j1 j2 j3 HV
            (try clear hb6 m0 m1 m2 m3 m4)
            have hcH := held_cell
            refine region_rel_pure 9 Tryd.underlying9 9 [6, 7, 8] (by kernel_rfl) (by kernel_rfl) (by kernel_rfl) ?_ ?_
            · exact fun _ _ _ _ _ h => h
            dsimp only [List.take, List.drop]
            repeat
              ((with_reducible refine relStep (fun K hK => ?_))
               (have HK := Lib.hid hK)
               clear hK
               (apply relInl
                · intro r n hf
                  have Hf := Lib.hid hf
                  clear hf
                  (first
                    | (fail)
                    | (unfold relAt
                       go_simp
                       (first | (refine relUpon_val ?_ (Below.refl _ _); exact rfl) | exact rfl | (refine relUpon_enter ?_; (first | (go_at_call 15; (with_reducible refine (HRR.out _).mono ?_); rintro e w1 ⟨rfl, hb⟩; exact ⟨⟨_, rfl, rfl⟩, hb⟩) | (go_at_call 35; (with_reducible refine (HRL.out _).mono ?_); rintro e w1 ⟨rfl, hb⟩; exact ⟨⟨_, rfl, rfl⟩, hb⟩))))))
                (simp only [Act.put, List.setIfInBounds_toArray, List.set_cons_zero, List.set_cons_succ])
                (with_reducible refine HK.out _ _ ?_)
                clear HK K))
            refine relNil ?_
            intro r8 n8 hx8
            clear hcH
            (try simp only [List.nil_append, List.cons_append, List.mem_cons, List.not_mem_nil, or_false, forall_eq_or_imp, forall_eq, false_implies, implies_true] at hx8)
            obtain ⟨w8, hb8⟩ := n8
            (try dsimp only)
            obtain ⟨hc8, hf8⟩ := bcell hb8
            have hz8 := hb8.size
            (try simp at hz8)
            have z8_0 : w.heap.size < w8.heap.size := (by omega); have y8_0 : w.heap.size ≤ w8.heap.size := (by omega); have z8_1 : Z < w8.heap.size := (by omega); have y8_1 : Z ≤ w8.heap.size := (by omega)
            have hB8 : Below (w.alloc (.cells #[.int .i64 0, .string ⟨#[]⟩, .string ⟨#[]⟩, .int .i64 0] 39)).heap.size (w.alloc (.cells #[.int .i64 0, .string ⟨#[]⟩, .string ⟨#[]⟩, .int .i64 0] 39)) w8 := by (repeat' (first | with_reducible exact Below.refl _ _ | with_reducible assumption | with_reducible refine Below.drew ?_ | with_reducible refine below_drewN' ?_ _ | with_reducible refine Below.alloc ?_ ?_ _ | with_reducible refine Below.setCell ?_ ?_ _ | with_reducible refine below_step (by assumption) ?_ ?_ | omega | (simp; done) | (simp; omega)))
            have q80 : w8.cell? ⟨w.heap.size, 0, none⟩ = some (.int .i64 0) := (hB8.cell (p := ⟨w.heap.size, 0, none⟩) (by simp)).trans (by rw [World.cell?_alloc_at _ _ _ _ rfl]; rfl)
            have q81 : w8.cell? ⟨w.heap.size, 1, none⟩ = some (.string ⟨#[]⟩) := (hB8.cell (p := ⟨w.heap.size, 1, none⟩) (by simp)).trans (by rw [World.cell?_alloc_at _ _ _ _ rfl]; rfl)
            have q82 : w8.cell? ⟨w.heap.size, 2, none⟩ = some (.string ⟨#[]⟩) := (hB8.cell (p := ⟨w.heap.size, 2, none⟩) (by simp)).trans (by rw [World.cell?_alloc_at _ _ _ _ rfl]; rfl)
            have q83 : w8.cell? ⟨w.heap.size, 3, none⟩ = some (.int .i64 0) := (hB8.cell (p := ⟨w.heap.size, 3, none⟩) (by simp)).trans (by rw [World.cell?_alloc_at _ _ _ _ rfl]; rfl)
            have q84 : ∀ j, w8.frozen? ⟨w.heap.size, j, none⟩ = false := fun j => (hB8.frozen (p := ⟨w.heap.size, j, none⟩) (by simp)).trans (World.frozen?_alloc_new w _ _ j)
            have HW8 := Lib.hid (show Below w.heap.size w w8 by (repeat' (first | with_reducible exact Below.refl _ _ | with_reducible assumption | with_reducible refine Below.drew ?_ | with_reducible refine below_drewN' ?_ _ | with_reducible refine Below.alloc ?_ ?_ _ | with_reducible refine Below.setCell ?_ ?_ _ | with_reducible refine below_step (by assumption) ?_ ?_ | omega | (simp; done) | (simp; omega))))
            clear hB8 hc8 hf8 hb8
            go_wp2
            refine bodyPost_ret (v := .tuple #[.agg #[.int .i64 ν, .string p1, .string p2, .int .i64 (numT (dl p3) : Nat)], .bool true]) (by simp [results, Tryd.results26, go_sem, q80, q81, q82, q83]) rfl ⟨rfl, ?_⟩
            have hw8 := HW8.out
            (repeat' (first | with_reducible exact Below.refl _ _ | with_reducible assumption | with_reducible refine Below.drew ?_ | with_reducible refine below_drewN' ?_ _ | with_reducible refine Below.alloc ?_ ?_ _ | with_reducible refine Below.setCell ?_ ?_ _ | with_reducible refine below_step (by assumption) ?_ ?_ | omega | (simp; done) | (simp; omega)))
          · have q := tnt_strn hle
            rw [decide_eq_false hle]
            obtain ⟨L, hL⟩ : ∃ L, lineE ⟨ν, p1, p2, (numT (dl p3) : Nat)⟩ = L := ⟨_, rfl⟩
            rw [hL] at HRL q
            clear hr hle hri hL
            go_enter Tryd.func26, Tryd.ntmps26
            go_wp2_with (first | (go_at_call 41; (with_reducible refine (HC.out _ (show Below w.heap.size w _ from by (repeat' (first | with_reducible exact Below.refl _ _ | with_reducible assumption | with_reducible refine Below.drew ?_ | with_reducible refine below_drewN' ?_ _ | with_reducible refine Below.alloc ?_ ?_ _ | with_reducible refine Below.setCell ?_ ?_ _ | with_reducible refine below_step (by assumption) ?_ ?_ | omega | (simp; done) | (simp; omega))))).mono ?_); rintro e w1 ⟨⟨v, rfl, hv⟩, hb1⟩; obtain ⟨a, cp, rfl, -, hx⟩ := OwnL.isL scs_len (by decide) hv; obtain ⟨hc1, hf1⟩ := bcell hb1; have hz1 := hb1.size; (try simp at hz1); have z1_0 : w.heap.size < w1.heap.size := (by omega); have y1_0 : w.heap.size ≤ w1.heap.size := (by omega); obtain ⟨b, o, rfl, hbb, hcs⟩ := hx (by simp); (try have pc0 : w1.cell? ⟨b, o, none⟩ = some (.string p0) := (hcs 0 _ rfl 0 (by decide))); (try have pc1 : w1.cell? ⟨b, o + 1, none⟩ = some (.string p1) := (hcs 1 _ rfl 0 (by decide))); (try have pc2 : w1.cell? ⟨b, o + 2, none⟩ = some (.string p2) := (hcs 2 _ rfl 0 (by decide))); (try have pc3 : w1.cell? ⟨b, o + 3, none⟩ = some (.string p3) := (hcs 3 _ rfl 0 (by decide))); clear hcs hx hv))
            have hcH := held_cell
            refine region_rel_tail 15 (by kernel_rfl) (by kernel_rfl) (by kernel_rfl) ?_
            dsimp only [List.take, List.drop]
            repeat
              ((with_reducible refine relStep (fun K hK => ?_))
               (have HK := Lib.hid hK)
               clear hK
               (apply relInl
                · intro r n hf
                  have Hf := Lib.hid hf
                  clear hf
                  (first
                    | (fail)
                    | (unfold relAt
                       go_simp
                       (first | (refine relUpon_val ?_ (Below.refl _ _); exact rfl) | exact rfl | (refine relUpon_enter ?_; (go_at_call 42; (with_reducible refine (HN0.out _).mono ?_); rintro e w1 ⟨rfl, hb⟩; exact ⟨⟨_, rfl, rfl⟩, hb⟩)))))
                (simp only [Act.put, List.setIfInBounds_toArray, List.set_cons_zero, List.set_cons_succ])
                (with_reducible refine HK.out _ _ ?_)
                clear HK K))
            (with_reducible refine relStep (fun K hK => ?_))
            (have HK := Lib.hid hK)
            clear hK
            refine relInr (NewE w1.heap.size) (NewE.stays _) (fun r n hf => ?_) ?_
            · have Hf := Lib.hid hf
              clear hf HK K
              unfold relAt
              (skip)
              go_simp
              ((refine relUpon_val ?_ ?_; exact NewE.mk n; exact (Below.refl _ _).alloc (Nat.le_refl _) _))
            (simp only [Act.put, List.setIfInBounds_toArray, List.set_cons_zero, List.set_cons_succ])
            (with_reducible refine HK.out _ _ ?_)
            clear HK K
            refine relNil ?_
            intro r5 n5 hx5
            clear hcH
            (try simp only [List.nil_append, List.cons_append, List.mem_cons, List.not_mem_nil, or_false, forall_eq_or_imp, forall_eq, false_implies, implies_true] at hx5)
            obtain ⟨w5, hb5⟩ := n5
            (try dsimp only)
            obtain ⟨hc5, hf5⟩ := bcell hb5
            have hz5 := hb5.size
            (try simp at hz5)
            have z5_0 : w.heap.size < w5.heap.size := (by omega); have y5_0 : w.heap.size ≤ w5.heap.size := (by omega)
            obtain ⟨Z, eX, hZ, hBX⟩ := hx5
            have eX : r5 14 = _ := eX
            rw [eX]
            have k0 := hBX.cell 0
            have k1 := hBX.cell 1
            have k2 := hBX.cell 2
            have k3 := hBX.cell 3
            have j0 := hBX.frozen 0
            have j1 := hBX.frozen 1
            have j2 := hBX.frozen 2
            have j3 := hBX.frozen 3
            dsimp only [List.getElem?_cons_zero, List.getElem?_cons_succ] at k0 k1 k2 k3
            have hZl := hBX.lt
            have n1 : ¬ (w.heap.size = Z) := by omega
            have n2 : ¬ (Z = w.heap.size) := by omega
            clear eX hBX
            have HV := Lib.hid (set4 k0 k1 k2 k3 (a := .int .i64 ν) (b := .string p1) (c := .string ⟨#[]⟩) (d := .int .i64 0))
            go_wp2_with (go_at_call 42; (with_reducible refine (HN3.out _).mono ?_); rintro e w6 ⟨rfl, hb6⟩; obtain ⟨hc6, hf6⟩ := bcell hb6; have hz6 := hb6.size; (try simp at hz6); have m0 : w6.cell? ⟨Z, 0, none⟩ = some (.int .i64 ν) := (by obtain ⟨v0, v1, v2, v3⟩ := HV.out; rw [hc6 _ _ (by simp; omega)]; first | with_reducible exact cell_same (by with_reducible assumption) | with_reducible exact (cell_other (by simp)).trans (by with_reducible assumption)); have m1 : w6.cell? ⟨Z, 1, none⟩ = some (.string p1) := (by obtain ⟨v0, v1, v2, v3⟩ := HV.out; rw [hc6 _ _ (by simp; omega)]; first | with_reducible exact cell_same (by with_reducible assumption) | with_reducible exact (cell_other (by simp)).trans (by with_reducible assumption)); have m2 : w6.cell? ⟨Z, 2, none⟩ = some (.string p2) := (by obtain ⟨v0, v1, v2, v3⟩ := HV.out; rw [hc6 _ _ (by simp; omega)]; first | with_reducible exact cell_same (by with_reducible assumption) | with_reducible exact (cell_other (by simp)).trans (by with_reducible assumption)); have m3 : w6.cell? ⟨Z, 3, none⟩ = some (.int .i64 0) := (by obtain ⟨v0, v1, v2, v3⟩ := HV.out; rw [hc6 _ _ (by simp; omega)]; first | with_reducible exact cell_same (by with_reducible assumption) | with_reducible exact (cell_other (by simp)).trans (by with_reducible assumption)); have m4 : w6.frozen? ⟨Z, 3, none⟩ = false := (by rw [hf6 _ _ (by simp; omega)]; simp [go_sem, j0, j1, j2, j3]); have z6_0 : w.heap.size < w6.heap.size := (by omega); have y6_0 : w.heap.size ≤ w6.heap.size := (by omega); have z6_1 : Z < w6.heap.size := (by omega); have y6_1 : Z ≤ w6.heap.size := (by omega); clear hc6 hf6)
            obtain ⟨W, hW⟩ : ∃ W, W = w6.setCell ⟨Z, 3, none⟩ (.int .i64 (numT (dl p3) : Nat)) := ⟨_, rfl⟩
            have y0 : W.cell? ⟨Z, 0, none⟩ = some (.int .i64 ν) := by obtain ⟨v0, v1, v2, v3⟩ := HV.out; rw [hW]; first | with_reducible assumption | with_reducible exact cell_same (by with_reducible assumption) | with_reducible exact (cell_other (by simp)).trans (by with_reducible assumption)
            have y1 : W.cell? ⟨Z, 1, none⟩ = some (.string p1) := by obtain ⟨v0, v1, v2, v3⟩ := HV.out; rw [hW]; first | with_reducible assumption | with_reducible exact cell_same (by with_reducible assumption) | with_reducible exact (cell_other (by simp)).trans (by with_reducible assumption)
            have y2 : W.cell? ⟨Z, 2, none⟩ = some (.string p2) := by obtain ⟨v0, v1, v2, v3⟩ := HV.out; rw [hW]; first | with_reducible assumption | with_reducible exact cell_same (by with_reducible assumption) | with_reducible exact (cell_other (by simp)).trans (by with_reducible assumption)
            have y3 : W.cell? ⟨Z, 3, none⟩ = some (.int .i64 (numT (dl p3) : Nat)) := by obtain ⟨v0, v1, v2, v3⟩ := HV.out; rw [hW]; first | with_reducible assumption | with_reducible exact cell_same (by with_reducible assumption) | with_reducible exact (cell_other (by simp)).trans (by with_reducible assumption)
            have hBW : Below (w.alloc (.cells #[.int .i64 0, .string ⟨#[]⟩, .string ⟨#[]⟩, .int .i64 0] 39)).heap.size (w.alloc (.cells #[.int .i64 0, .string ⟨#[]⟩, .string ⟨#[]⟩, .int .i64 0] 39)) W := by rw [hW]; (repeat' (first | with_reducible exact Below.refl _ _ | with_reducible assumption | with_reducible refine Below.drew ?_ | with_reducible refine below_drewN' ?_ _ | with_reducible refine Below.alloc ?_ ?_ _ | with_reducible refine Below.setCell ?_ ?_ _ | with_reducible refine below_step (by assumption) ?_ ?_ | omega | (simp; done) | (simp; omega)))
            have hBW2 : Below w.heap.size w W := by rw [hW]; (repeat' (first | with_reducible exact Below.refl _ _ | with_reducible assumption | with_reducible refine Below.drew ?_ | with_reducible refine below_drewN' ?_ _ | with_reducible refine Below.alloc ?_ ?_ _ | with_reducible refine Below.setCell ?_ ?_ _ | with_reducible refine below_step (by assumption) ?_ ?_ | omega | (simp; done) | (simp; omega)))
            have hWZ : Z < W.heap.size := by rw [hW]; simp; omega
            have hWw : w.heap.size < W.heap.size := by omega
            rw [← hW]
            clear hW hc5 hf5 hb5 hc1 hf1 hb1 k0 k1 k2 k3 j0 j1 j2 j3 HV
            (try clear hb6 m0 m1 m2 m3 m4)
            have hcH := held_cell
            refine region_rel_pure 9 Tryd.underlying9 9 [6, 7, 8] (by kernel_rfl) (by kernel_rfl) (by kernel_rfl) ?_ ?_
            · exact fun _ _ _ _ _ h => h
            dsimp only [List.take, List.drop]
            repeat
              ((with_reducible refine relStep (fun K hK => ?_))
               (have HK := Lib.hid hK)
               clear hK
               (apply relInl
                · intro r n hf
                  have Hf := Lib.hid hf
                  clear hf
                  (first
                    | (fail)
                    | (unfold relAt
                       go_simp
                       (first | (refine relUpon_val ?_ (Below.refl _ _); exact rfl) | exact rfl | (refine relUpon_enter ?_; (first | (go_at_call 15; (with_reducible refine (HRR.out _).mono ?_); rintro e w1 ⟨rfl, hb⟩; exact ⟨⟨_, rfl, rfl⟩, hb⟩) | (go_at_call 35; (with_reducible refine (HRL.out _).mono ?_); rintro e w1 ⟨rfl, hb⟩; exact ⟨⟨_, rfl, rfl⟩, hb⟩))))))
                (simp only [Act.put, List.setIfInBounds_toArray, List.set_cons_zero, List.set_cons_succ])
                (with_reducible refine HK.out _ _ ?_)
                clear HK K))
            refine relNil ?_
            intro r8 n8 hx8
            clear hcH
            (try simp only [List.nil_append, List.cons_append, List.mem_cons, List.not_mem_nil, or_false, forall_eq_or_imp, forall_eq, false_implies, implies_true] at hx8)
            obtain ⟨w8, hb8⟩ := n8
            (try dsimp only)
            obtain ⟨hc8, hf8⟩ := bcell hb8
            have hz8 := hb8.size
            (try simp at hz8)
            have z8_0 : w.heap.size < w8.heap.size := (by omega); have y8_0 : w.heap.size ≤ w8.heap.size := (by omega); have z8_1 : Z < w8.heap.size := (by omega); have y8_1 : Z ≤ w8.heap.size := (by omega)
            have hB8 : Below (w.alloc (.cells #[.int .i64 0, .string ⟨#[]⟩, .string ⟨#[]⟩, .int .i64 0] 39)).heap.size (w.alloc (.cells #[.int .i64 0, .string ⟨#[]⟩, .string ⟨#[]⟩, .int .i64 0] 39)) w8 := by (repeat' (first | with_reducible exact Below.refl _ _ | with_reducible assumption | with_reducible refine Below.drew ?_ | with_reducible refine below_drewN' ?_ _ | with_reducible refine Below.alloc ?_ ?_ _ | with_reducible refine Below.setCell ?_ ?_ _ | with_reducible refine below_step (by assumption) ?_ ?_ | omega | (simp; done) | (simp; omega)))
            have q80 : w8.cell? ⟨w.heap.size, 0, none⟩ = some (.int .i64 0) := (hB8.cell (p := ⟨w.heap.size, 0, none⟩) (by simp)).trans (by rw [World.cell?_alloc_at _ _ _ _ rfl]; rfl)
            have q81 : w8.cell? ⟨w.heap.size, 1, none⟩ = some (.string ⟨#[]⟩) := (hB8.cell (p := ⟨w.heap.size, 1, none⟩) (by simp)).trans (by rw [World.cell?_alloc_at _ _ _ _ rfl]; rfl)
            have q82 : w8.cell? ⟨w.heap.size, 2, none⟩ = some (.string ⟨#[]⟩) := (hB8.cell (p := ⟨w.heap.size, 2, none⟩) (by simp)).trans (by rw [World.cell?_alloc_at _ _ _ _ rfl]; rfl)
            have q83 : w8.cell? ⟨w.heap.size, 3, none⟩ = some (.int .i64 0) := (hB8.cell (p := ⟨w.heap.size, 3, none⟩) (by simp)).trans (by rw [World.cell?_alloc_at _ _ _ _ rfl]; rfl)
            have q84 : ∀ j, w8.frozen? ⟨w.heap.size, j, none⟩ = false := fun j => (hB8.frozen (p := ⟨w.heap.size, j, none⟩) (by simp)).trans (World.frozen?_alloc_new w _ _ j)
            have HW8 := Lib.hid (show Below w.heap.size w w8 by (repeat' (first | with_reducible exact Below.refl _ _ | with_reducible assumption | with_reducible refine Below.drew ?_ | with_reducible refine below_drewN' ?_ _ | with_reducible refine Below.alloc ?_ ?_ _ | with_reducible refine Below.setCell ?_ ?_ _ | with_reducible refine below_step (by assumption) ?_ ?_ | omega | (simp; done) | (simp; omega))))
            clear hB8 hc8 hf8 hb8
            go_wp2
            refine bodyPost_ret (v := .tuple #[.agg #[.int .i64 ν, .string p1, .string p2, .int .i64 (numT (dl p3) : Nat)], .bool false]) (by simp [results, Tryd.results26, go_sem, q80, q81, q82, q83]) rfl ⟨rfl, ?_⟩
            have hw8 := HW8.out
            (repeat' (first | with_reducible exact Below.refl _ _ | with_reducible assumption | with_reducible refine Below.drew ?_ | with_reducible refine below_drewN' ?_ _ | with_reducible refine Below.alloc ?_ ?_ _ | with_reducible refine Below.setCell ?_ ?_ _ | with_reducible refine below_step (by assumption) ?_ ?_ | omega | (simp; done) | (simp; omega)))
end Go.Proofs.YtaehcnoendieaaaDoor
