/-
  The contract of quant.number.
-/
import Derived.Test.YtpajpijkldjmfaaDoorQnt1
namespace Go.Proofs.YtpajpijkldjmfaaDoor
open Go.RowKit
set_option linter.unusedVariables false

theorem intF_ge (s : ByteArray) : ∀ f i d, i ≤ (intF s f i d).2 := by
  intro f
  induction f with
  | zero => intro i d; exact Nat.le_refl _
  | succ f ih =>
    intro i d
    rw [intF]
    split
    · exact Nat.le_trans (Nat.le_succ i) (ih _ _)
    · exact Nat.le_refl _
/-- Few digits come to little. -/
theorem intF_small (s : ByteArray) : ∀ (f : Nat) (m : Nat) (i : Nat) (d : Int × Int) (B : Int), 0 ≤ d.1 → d.1 < B → B * 10 ^ m ≤ 1000000000 → (intF s f i d).2 ≤ i + m → (intF s f i d).1.1 < B * 10 ^ m := by
  intro f
  induction f with
  | zero =>
    intro m i d B h0 h1 h2 _
    have hp : (1 : Int) ≤ 10 ^ m := by
      have := Int.pow_pos (n := 10) (m := m) (by decide)
      omega
    have : B * 1 ≤ B * 10 ^ m := Int.mul_le_mul_of_nonneg_left hp (by omega)
    show d.1 < _
    omega
  | succ f ih =>
    intro m i d B h0 h1 h2 h3
    have hp : (1 : Int) ≤ 10 ^ m := by
      have := Int.pow_pos (n := 10) (m := m) (by decide)
      omega
    have hB : B * 1 ≤ B * 10 ^ m := Int.mul_le_mul_of_nonneg_left hp (by omega)
    rw [intF] at h3 ⊢
    cases hd : digB s i
    · rw [hd, if_neg (by decide)] at h3
      rw [if_neg (by decide)]
      show d.1 < _
      omega
    · rw [hd, if_pos rfl] at h3
      rw [if_pos rfl]
      have hk : 0 ≤ (((s.get! i).toNat : Int) - 48) ∧ (((s.get! i).toNat : Int) - 48) ≤ 9 := by unfold digB at hd; simp at hd; omega
      obtain ⟨k, hk'⟩ : ∃ k, (((s.get! i).toNat : Int) - 48) = k := ⟨_, rfl⟩
      rw [hk'] at hk h3 ⊢
      have hge := intF_ge s f (i + 1) (addD d k)
      obtain ⟨m, rfl⟩ : ∃ m', m = m' + 1 := ⟨m - 1, by omega⟩
      have e : (addD d k).1 = d.1 * 10 + k := by unfold addD; dsimp only; rw [if_neg (by omega)]
      have e2 : B * 10 ^ (m + 1) = B * 10 * 10 ^ m := by rw [Int.pow_succ, Int.mul_assoc, Int.mul_comm (10 ^ m) 10]
      rw [e2] at h2 ⊢
      exact ih m (i + 1) (addD d k) (B * 10) (by omega) (by omega) h2 (by omega)

def p10 : Nat → Int
  | 0 => 1
  | 1 => 10
  | _ => 100
/-- What stands behind the digits: thousandths, if there is a point. -/
def tailP (d : Int × Int) (r : ByteArray) : (Int × Int × Int) × ByteArray × Int :=
  if r = emp ∨ (r.get! 0).toNat ≠ 46 then ((d.1, d.2, 0), r, 0)
  else if 1 ≤ (intV (r.extract 1 r.size)).2 ∧ (intV (r.extract 1 r.size)).2 ≤ 3 then
    ((d.1, d.2, (intV (r.extract 1 r.size)).1.1 * p10 (3 - (intV (r.extract 1 r.size)).2)), (r.extract 1 r.size).extract (intV (r.extract 1 r.size)).2 (r.extract 1 r.size).size, 0)
  else ((0, 0, 0), emp, 8)
def numP (s : ByteArray) : (Int × Int × Int) × ByteArray × Int := if (intV s).2 = 0 then ((0, 0, 0), emp, 8) else tailP (intV s).1 (s.extract (intV s).2 s.size)

set_option maxRecDepth 100000 in
set_option maxHeartbeats 8000000 in
theorem numsplit_any (s : ByteArray) (hs : s.size ≤ 1000000000) (w : World) :
    Calls Tryd.prog 27 #[.string s] w fun e w' => e = .returned (.tuple #[.agg #[.int .i64 (numP s).1.1, .int .i64 (numP s).1.2.1, .int .i64 (numP s).1.2.2], .string (numP s).2.1, .int .i64 (numP s).2.2]) ∧ Below w.heap.size w w' := by
  have A := fun V => integer_any s hs V
  have hle : (intV s).2 ≤ s.size := intF_le s _ _ _ (Nat.zero_le _)
  have hbd := intF_bd s s.size 0 (0, 0) (by decide) (by decide)
  obtain ⟨R, hR⟩ : ∃ R, numP s = R := ⟨_, rfl⟩
  rw [hR]
  unfold numP at hR
  have hv : intF s s.size 0 (0, 0) = intV s := rfl
  rw [hv] at hbd
  obtain ⟨⟨⟨D1, D2⟩, k⟩, hd⟩ : ∃ d, intV s = d := ⟨_, rfl⟩
  rw [hd] at hle hbd hR
  simp only [hd] at A
  dsimp only at hle hbd hR
  have hrs : (s.extract k s.size).size = s.size - k := by rw [ByteArray.size_extract]; omega
  obtain ⟨r, hr⟩ : ∃ r, s.extract k s.size = r := ⟨_, rfl⟩
  rw [hr] at hrs hR
  simp only [hr] at A
  have HA := Lib.hid A
  clear A hd hv hr
  by_cases hk : k = 0
  · rw [if_pos hk] at hR
    subst hR
    have g1 : ((r.size : Int) == (s.size : Int)) = true := by rw [beq_iff_eq]; omega
    clear hk hrs
    go_enter Tryd.func27, Tryd.ntmps27
    go_wp2_with (go_at_call 22; (with_reducible refine (HA.out _).mono ?_); rintro e w1 ⟨rfl, hb1⟩; obtain ⟨hc1, hf1⟩ := bcell hb1; have hz1 := hb1.size; (try simp at hz1); have z1_0 : w.heap.size < w1.heap.size := (by omega); have y1_0 : w.heap.size ≤ w1.heap.size := (by omega))
    refine bodyPost_ret (v := .tuple #[.agg #[.int .i64 0, .int .i64 0, .int .i64 0], .string ⟨#[]⟩, .int .i64 8]) (by simp [results, Tryd.results27, go_sem, *]) rfl ⟨rfl, by (repeat' (first | with_reducible exact Below.refl _ _ | with_reducible assumption | with_reducible refine Below.drew ?_ | with_reducible refine below_drewN' ?_ _ | with_reducible refine Below.alloc ?_ ?_ _ | with_reducible refine Below.setCell ?_ ?_ _ | with_reducible refine below_step (by assumption) ?_ ?_ | omega | (simp; done) | (simp; omega)))⟩
  · rw [if_neg hk] at hR
    have g1 : ((r.size : Int) == (s.size : Int)) = false := by rw [beq_eq_false_iff_ne]; omega
    unfold tailP at hR
    dsimp only at hR
    by_cases he : r = emp
    · obtain ⟨f1, f2, f3, f4⟩ := emp_lits he
      rw [if_pos (.inl he)] at hR
      subst hR
      clear hk hrs he
      go_enter Tryd.func27, Tryd.ntmps27
      go_wp2_with (go_at_call 22; (with_reducible refine (HA.out _).mono ?_); rintro e w1 ⟨rfl, hb1⟩; obtain ⟨hc1, hf1⟩ := bcell hb1; have hz1 := hb1.size; (try simp at hz1); have z1_0 : w.heap.size < w1.heap.size := (by omega); have y1_0 : w.heap.size ≤ w1.heap.size := (by omega))
      refine bodyPost_ret (v := .tuple #[.agg #[.int .i64 D1, .int .i64 D2, .int .i64 0], .string r, .int .i64 0]) (by simp [results, Tryd.results27, go_sem, *]) rfl ⟨rfl, by (repeat' (first | with_reducible exact Below.refl _ _ | with_reducible assumption | with_reducible refine Below.drew ?_ | with_reducible refine below_drewN' ?_ _ | with_reducible refine Below.alloc ?_ ?_ _ | with_reducible refine Below.setCell ?_ ?_ _ | with_reducible refine below_step (by assumption) ?_ ?_ | omega | (simp; done) | (simp; omega)))⟩
    · obtain ⟨f1, f2, f3, f4⟩ := emp_litn he
      have hr0 : 0 < r.size := by
        rcases Nat.eq_zero_or_pos r.size with h | h
        · exact absurd (ByteArray.ext (by rw [show emp.data = #[] from rfl]; exact Array.eq_empty_of_size_eq_zero h)) he
        · exact h
      have hx0 := str_ix r 0 hr0
      obtain ⟨p, hp⟩ : ∃ p, (r.get! 0).toNat = p := ⟨_, rfl⟩
      rw [hp] at hx0 hR
      have hx : ∀ w : World, (Instr.index 9 (.string r) (.int .i64 0)).run Tryd.prog w = .ok (.int .u8 (p : Int)) w := hx0
      clear hx0
      by_cases hdot : p = 46
      · subst hdot
        rw [if_neg (fun h => h.elim he (fun h => h rfl))] at hR
        have has : (r.extract 1 r.size).size = r.size - 1 := by rw [ByteArray.size_extract]; omega
        obtain ⟨a, ha⟩ : ∃ a, r.extract 1 r.size = a := ⟨_, rfl⟩
        have Ha := Lib.hid ha
        rw [ha] at has hR
        have B := fun V => integer_any a (by omega) V
        have hle2 : (intV a).2 ≤ a.size := intF_le a _ _ _ (Nat.zero_le _)
        have hsm := fun (m : Nat) (hm : m ≤ 9) (h : (intV a).2 ≤ 0 + m) => intF_small a a.size m 0 (0, 0) 1 (by decide) (by decide) (by
          rw [Int.one_mul]
          rcases (show m = 0 ∨ m = 1 ∨ m = 2 ∨ m = 3 ∨ m = 4 ∨ m = 5 ∨ m = 6 ∨ m = 7 ∨ m = 8 ∨ m = 9 by omega) with rfl | rfl | rfl | rfl | rfl | rfl | rfl | rfl | rfl | rfl <;> decide) h
        have hb2 := intF_bd a a.size 0 (0, 0) (by decide) (by decide)
        have hv2 : intF a a.size 0 (0, 0) = intV a := rfl
        rw [hv2] at hsm hb2
        obtain ⟨⟨⟨P1, P2⟩, j⟩, hd⟩ : ∃ d, intV a = d := ⟨_, rfl⟩
        rw [hd] at hle2 hsm hb2 hR
        simp only [hd] at B
        dsimp only at hle2 hsm hb2 hR
        have hqs : (a.extract j a.size).size = a.size - j := by rw [ByteArray.size_extract]; omega
        obtain ⟨q, hq⟩ : ∃ q, a.extract j a.size = q := ⟨_, rfl⟩
        rw [hq] at hqs hR
        simp only [hq] at B
        have HB := Lib.hid B
        have wj : IntKind.i64.wrap ((a.size : Int) - (q.size : Int)) = (j : Int) := by
          rw [show (a.size : Int) - (q.size : Int) = (j : Int) by omega]
          exact wrap_in (by omega) (by omega)
        have hal : a.size ≤ 1000000000 := by omega
        clear B hd hv2 hq hk hrs hp he ha has hqs
        by_cases hj : 1 ≤ j ∧ j ≤ 3
        · rw [if_pos hj] at hR
          have hP := hsm j (by omega) (by omega)
          have hP0 := hb2.1.1
          clear hsm hb2 hle2
          rcases (show j = 1 ∨ j = 2 ∨ j = 3 by omega) with rfl | rfl | rfl
          · have w2 : IntKind.i64.wrap (P1 * 10) = P1 * 10 := wrap_in (by omega) (by omega)
            have w3 : IntKind.i64.wrap (P1 * 10 * 10) = P1 * 10 * 10 := wrap_in (by omega) (by omega)
            subst hR
            clear hj hP hP0
            go_enter Tryd.func27, Tryd.ntmps27
            go_wp2_with (first | (go_at_call 22; (with_reducible refine (HA.out _).mono ?_); rintro e w1 ⟨rfl, hb1⟩; obtain ⟨hc1, hf1⟩ := bcell hb1; have hz1 := hb1.size; (try simp at hz1); have z1_0 : w.heap.size < w1.heap.size := (by omega); have y1_0 : w.heap.size ≤ w1.heap.size := (by omega)) | (go_at_call 22; rw [Ha.out]; (with_reducible refine (HB.out _).mono ?_); rintro e w2 ⟨rfl, hb2⟩; obtain ⟨hc2, hf2⟩ := bcell hb2; have hz2 := hb2.size; (try simp at hz2); have z2_0 : w.heap.size < w2.heap.size := (by omega); have y2_0 : w.heap.size ≤ w2.heap.size := (by omega); have z2_1 : w1.heap.size < w2.heap.size := (by omega); have y2_1 : w1.heap.size ≤ w2.heap.size := (by omega)))
            have y0 : w2.cell? ⟨w1.heap.size, 0, none⟩ = some (.int .i64 D1) := by simp [go_sem, *]
            have y1 : w2.cell? ⟨w1.heap.size, 1, none⟩ = some (.int .i64 D2) := by simp [go_sem, *]
            have y2 : w2.cell? ⟨w1.heap.size, 2, none⟩ = some (.int .i64 0) := by simp [go_sem, *]
            have yf : ∀ j, w2.frozen? ⟨w1.heap.size, j, none⟩ = false := by intro j; simp [go_sem, *]
            have x0 : w2.cell? ⟨w.heap.size, 0, none⟩ = some (.int .i64 0) := by simp [go_sem, *]
            have x1 : w2.cell? ⟨w.heap.size, 1, none⟩ = some (.int .i64 0) := by simp [go_sem, *]
            have x2 : w2.cell? ⟨w.heap.size, 2, none⟩ = some (.int .i64 0) := by simp [go_sem, *]
            have xf : ∀ j, w2.frozen? ⟨w.heap.size, j, none⟩ = false := by intro j; simp [go_sem, *]
            have hne1 : ¬ w.heap.size = w1.heap.size := by omega
            have hne2 : ¬ w1.heap.size = w.heap.size := by omega
            have HBz := Lib.hid (show Below w.heap.size w w2 by (repeat' (first | with_reducible exact Below.refl _ _ | with_reducible assumption | with_reducible refine Below.drew ?_ | with_reducible refine below_drewN' ?_ _ | with_reducible refine Below.alloc ?_ ?_ _ | with_reducible refine Below.setCell ?_ ?_ _ | with_reducible refine below_step (by assumption) ?_ ?_ | omega | (simp; done) | (simp; omega))))
            clear hc1 hf1 hc2 hf2 hb1 hb2
            have y3 : ∀ a b c : Value, (((w2.setCell ⟨w1.heap.size, 2, none⟩ a).setCell ⟨w1.heap.size, 2, none⟩ b).setCell ⟨w1.heap.size, 2, none⟩ c).cell? ⟨w1.heap.size, 2, none⟩ = some c := fun a b c => World.cell?_setCell_same _ _ _ (World.cell?_setCell_same _ _ _ (World.cell?_setCell_same _ _ _ y2))
            refine wp_loop_rounds 6 ?_
            iterate 6 ((try rw [rounds_succ]); (try go_wp2))
            refine bodyPost_ret (v := .tuple #[.agg #[.int .i64 D1, .int .i64 D2, .int .i64 (P1 * 10 * 10)], .string q, .int .i64 0]) (by simp [results, Tryd.results27, go_sem, *]) rfl ⟨by have e9 : P1 * p10 (2) = P1 * 10 * 10 := (by simp [p10]; omega); rw [e9], by have hbz9 := HBz.out; (repeat' (first | with_reducible exact Below.refl _ _ | with_reducible assumption | with_reducible refine Below.drew ?_ | with_reducible refine below_drewN' ?_ _ | with_reducible refine Below.alloc ?_ ?_ _ | with_reducible refine Below.setCell ?_ ?_ _ | with_reducible refine below_step (by assumption) ?_ ?_ | omega | (simp; done) | (simp; omega)))⟩
          · have w2 : IntKind.i64.wrap (P1 * 10) = P1 * 10 := wrap_in (by omega) (by omega)
            subst hR
            clear hj hP hP0
            go_enter Tryd.func27, Tryd.ntmps27
            go_wp2_with (first | (go_at_call 22; (with_reducible refine (HA.out _).mono ?_); rintro e w1 ⟨rfl, hb1⟩; obtain ⟨hc1, hf1⟩ := bcell hb1; have hz1 := hb1.size; (try simp at hz1); have z1_0 : w.heap.size < w1.heap.size := (by omega); have y1_0 : w.heap.size ≤ w1.heap.size := (by omega)) | (go_at_call 22; rw [Ha.out]; (with_reducible refine (HB.out _).mono ?_); rintro e w2 ⟨rfl, hb2⟩; obtain ⟨hc2, hf2⟩ := bcell hb2; have hz2 := hb2.size; (try simp at hz2); have z2_0 : w.heap.size < w2.heap.size := (by omega); have y2_0 : w.heap.size ≤ w2.heap.size := (by omega); have z2_1 : w1.heap.size < w2.heap.size := (by omega); have y2_1 : w1.heap.size ≤ w2.heap.size := (by omega)))
            have y0 : w2.cell? ⟨w1.heap.size, 0, none⟩ = some (.int .i64 D1) := by simp [go_sem, *]
            have y1 : w2.cell? ⟨w1.heap.size, 1, none⟩ = some (.int .i64 D2) := by simp [go_sem, *]
            have y2 : w2.cell? ⟨w1.heap.size, 2, none⟩ = some (.int .i64 0) := by simp [go_sem, *]
            have yf : ∀ j, w2.frozen? ⟨w1.heap.size, j, none⟩ = false := by intro j; simp [go_sem, *]
            have x0 : w2.cell? ⟨w.heap.size, 0, none⟩ = some (.int .i64 0) := by simp [go_sem, *]
            have x1 : w2.cell? ⟨w.heap.size, 1, none⟩ = some (.int .i64 0) := by simp [go_sem, *]
            have x2 : w2.cell? ⟨w.heap.size, 2, none⟩ = some (.int .i64 0) := by simp [go_sem, *]
            have xf : ∀ j, w2.frozen? ⟨w.heap.size, j, none⟩ = false := by intro j; simp [go_sem, *]
            have hne1 : ¬ w.heap.size = w1.heap.size := by omega
            have hne2 : ¬ w1.heap.size = w.heap.size := by omega
            have HBz := Lib.hid (show Below w.heap.size w w2 by (repeat' (first | with_reducible exact Below.refl _ _ | with_reducible assumption | with_reducible refine Below.drew ?_ | with_reducible refine below_drewN' ?_ _ | with_reducible refine Below.alloc ?_ ?_ _ | with_reducible refine Below.setCell ?_ ?_ _ | with_reducible refine below_step (by assumption) ?_ ?_ | omega | (simp; done) | (simp; omega))))
            clear hc1 hf1 hc2 hf2 hb1 hb2
            have y3 : ∀ a b c : Value, (((w2.setCell ⟨w1.heap.size, 2, none⟩ a).setCell ⟨w1.heap.size, 2, none⟩ b).setCell ⟨w1.heap.size, 2, none⟩ c).cell? ⟨w1.heap.size, 2, none⟩ = some c := fun a b c => World.cell?_setCell_same _ _ _ (World.cell?_setCell_same _ _ _ (World.cell?_setCell_same _ _ _ y2))
            refine wp_loop_rounds 6 ?_
            iterate 6 ((try rw [rounds_succ]); (try go_wp2))
            refine bodyPost_ret (v := .tuple #[.agg #[.int .i64 D1, .int .i64 D2, .int .i64 (P1 * 10)], .string q, .int .i64 0]) (by simp [results, Tryd.results27, go_sem, *]) rfl ⟨by have e9 : P1 * p10 (1) = P1 * 10 := (by simp [p10]); rw [e9], by have hbz9 := HBz.out; (repeat' (first | with_reducible exact Below.refl _ _ | with_reducible assumption | with_reducible refine Below.drew ?_ | with_reducible refine below_drewN' ?_ _ | with_reducible refine Below.alloc ?_ ?_ _ | with_reducible refine Below.setCell ?_ ?_ _ | with_reducible refine below_step (by assumption) ?_ ?_ | omega | (simp; done) | (simp; omega)))⟩
          · subst hR
            clear hj hP hP0
            go_enter Tryd.func27, Tryd.ntmps27
            go_wp2_with (first | (go_at_call 22; (with_reducible refine (HA.out _).mono ?_); rintro e w1 ⟨rfl, hb1⟩; obtain ⟨hc1, hf1⟩ := bcell hb1; have hz1 := hb1.size; (try simp at hz1); have z1_0 : w.heap.size < w1.heap.size := (by omega); have y1_0 : w.heap.size ≤ w1.heap.size := (by omega)) | (go_at_call 22; rw [Ha.out]; (with_reducible refine (HB.out _).mono ?_); rintro e w2 ⟨rfl, hb2⟩; obtain ⟨hc2, hf2⟩ := bcell hb2; have hz2 := hb2.size; (try simp at hz2); have z2_0 : w.heap.size < w2.heap.size := (by omega); have y2_0 : w.heap.size ≤ w2.heap.size := (by omega); have z2_1 : w1.heap.size < w2.heap.size := (by omega); have y2_1 : w1.heap.size ≤ w2.heap.size := (by omega)))
            have y0 : w2.cell? ⟨w1.heap.size, 0, none⟩ = some (.int .i64 D1) := by simp [go_sem, *]
            have y1 : w2.cell? ⟨w1.heap.size, 1, none⟩ = some (.int .i64 D2) := by simp [go_sem, *]
            have y2 : w2.cell? ⟨w1.heap.size, 2, none⟩ = some (.int .i64 0) := by simp [go_sem, *]
            have yf : ∀ j, w2.frozen? ⟨w1.heap.size, j, none⟩ = false := by intro j; simp [go_sem, *]
            have x0 : w2.cell? ⟨w.heap.size, 0, none⟩ = some (.int .i64 0) := by simp [go_sem, *]
            have x1 : w2.cell? ⟨w.heap.size, 1, none⟩ = some (.int .i64 0) := by simp [go_sem, *]
            have x2 : w2.cell? ⟨w.heap.size, 2, none⟩ = some (.int .i64 0) := by simp [go_sem, *]
            have xf : ∀ j, w2.frozen? ⟨w.heap.size, j, none⟩ = false := by intro j; simp [go_sem, *]
            have hne1 : ¬ w.heap.size = w1.heap.size := by omega
            have hne2 : ¬ w1.heap.size = w.heap.size := by omega
            have HBz := Lib.hid (show Below w.heap.size w w2 by (repeat' (first | with_reducible exact Below.refl _ _ | with_reducible assumption | with_reducible refine Below.drew ?_ | with_reducible refine below_drewN' ?_ _ | with_reducible refine Below.alloc ?_ ?_ _ | with_reducible refine Below.setCell ?_ ?_ _ | with_reducible refine below_step (by assumption) ?_ ?_ | omega | (simp; done) | (simp; omega))))
            clear hc1 hf1 hc2 hf2 hb1 hb2
            have y3 : ∀ a b c : Value, (((w2.setCell ⟨w1.heap.size, 2, none⟩ a).setCell ⟨w1.heap.size, 2, none⟩ b).setCell ⟨w1.heap.size, 2, none⟩ c).cell? ⟨w1.heap.size, 2, none⟩ = some c := fun a b c => World.cell?_setCell_same _ _ _ (World.cell?_setCell_same _ _ _ (World.cell?_setCell_same _ _ _ y2))
            refine wp_loop_rounds 6 ?_
            iterate 6 ((try rw [rounds_succ]); (try go_wp2))
            refine bodyPost_ret (v := .tuple #[.agg #[.int .i64 D1, .int .i64 D2, .int .i64 (P1)], .string q, .int .i64 0]) (by simp [results, Tryd.results27, go_sem, *]) rfl ⟨by have e9 : P1 * p10 (0) = P1 := (by simp [p10]); rw [e9], by have hbz9 := HBz.out; (repeat' (first | with_reducible exact Below.refl _ _ | with_reducible assumption | with_reducible refine Below.drew ?_ | with_reducible refine below_drewN' ?_ _ | with_reducible refine Below.alloc ?_ ?_ _ | with_reducible refine Below.setCell ?_ ?_ _ | with_reducible refine below_step (by assumption) ?_ ?_ | omega | (simp; done) | (simp; omega)))⟩
        · rw [if_neg hj] at hR
          subst hR
          clear hsm hb2 hle2
          by_cases hj1 : j < 1
          · clear hj
            go_enter Tryd.func27, Tryd.ntmps27
            go_wp2_with (first | (go_at_call 22; (with_reducible refine (HA.out _).mono ?_); rintro e w1 ⟨rfl, hb1⟩; obtain ⟨hc1, hf1⟩ := bcell hb1; have hz1 := hb1.size; (try simp at hz1); have z1_0 : w.heap.size < w1.heap.size := (by omega); have y1_0 : w.heap.size ≤ w1.heap.size := (by omega)) | (go_at_call 22; rw [Ha.out]; (with_reducible refine (HB.out _).mono ?_); rintro e w2 ⟨rfl, hb2⟩; obtain ⟨hc2, hf2⟩ := bcell hb2; have hz2 := hb2.size; (try simp at hz2); have z2_0 : w.heap.size < w2.heap.size := (by omega); have y2_0 : w.heap.size ≤ w2.heap.size := (by omega); have z2_1 : w1.heap.size < w2.heap.size := (by omega); have y2_1 : w1.heap.size ≤ w2.heap.size := (by omega); have x0 : w2.cell? ⟨w.heap.size, 0, none⟩ = some (.int .i64 0) := (by simp [go_sem, *]); have x1 : w2.cell? ⟨w.heap.size, 1, none⟩ = some (.int .i64 0) := (by simp [go_sem, *]); have x2 : w2.cell? ⟨w.heap.size, 2, none⟩ = some (.int .i64 0) := (by simp [go_sem, *]); have xf : ∀ j, w2.frozen? ⟨w.heap.size, j, none⟩ = false := (by intro j; simp [go_sem, *]); have HBz := Lib.hid (show Below w.heap.size w w2 by (repeat' (first | with_reducible exact Below.refl _ _ | with_reducible assumption | with_reducible refine Below.drew ?_ | with_reducible refine below_drewN' ?_ _ | with_reducible refine Below.alloc ?_ ?_ _ | with_reducible refine Below.setCell ?_ ?_ _ | with_reducible refine below_step (by assumption) ?_ ?_ | omega | (simp; done) | (simp; omega)))); clear hc1 hf1 hc2 hf2 hb1 hb2))
            refine bodyPost_ret (v := .tuple #[.agg #[.int .i64 0, .int .i64 0, .int .i64 0], .string ⟨#[]⟩, .int .i64 8]) (by simp [results, Tryd.results27, go_sem, *]) rfl ⟨rfl, by have hbz9 := HBz.out; (repeat' (first | with_reducible exact Below.refl _ _ | with_reducible assumption | with_reducible refine Below.drew ?_ | with_reducible refine below_drewN' ?_ _ | with_reducible refine Below.alloc ?_ ?_ _ | with_reducible refine Below.setCell ?_ ?_ _ | with_reducible refine below_step (by assumption) ?_ ?_ | omega | (simp; done) | (simp; omega)))⟩
          · have hj3 : 3 < j := by omega
            clear hj
            go_enter Tryd.func27, Tryd.ntmps27
            go_wp2_with (first | (go_at_call 22; (with_reducible refine (HA.out _).mono ?_); rintro e w1 ⟨rfl, hb1⟩; obtain ⟨hc1, hf1⟩ := bcell hb1; have hz1 := hb1.size; (try simp at hz1); have z1_0 : w.heap.size < w1.heap.size := (by omega); have y1_0 : w.heap.size ≤ w1.heap.size := (by omega)) | (go_at_call 22; rw [Ha.out]; (with_reducible refine (HB.out _).mono ?_); rintro e w2 ⟨rfl, hb2⟩; obtain ⟨hc2, hf2⟩ := bcell hb2; have hz2 := hb2.size; (try simp at hz2); have z2_0 : w.heap.size < w2.heap.size := (by omega); have y2_0 : w.heap.size ≤ w2.heap.size := (by omega); have z2_1 : w1.heap.size < w2.heap.size := (by omega); have y2_1 : w1.heap.size ≤ w2.heap.size := (by omega); have x0 : w2.cell? ⟨w.heap.size, 0, none⟩ = some (.int .i64 0) := (by simp [go_sem, *]); have x1 : w2.cell? ⟨w.heap.size, 1, none⟩ = some (.int .i64 0) := (by simp [go_sem, *]); have x2 : w2.cell? ⟨w.heap.size, 2, none⟩ = some (.int .i64 0) := (by simp [go_sem, *]); have xf : ∀ j, w2.frozen? ⟨w.heap.size, j, none⟩ = false := (by intro j; simp [go_sem, *]); have HBz := Lib.hid (show Below w.heap.size w w2 by (repeat' (first | with_reducible exact Below.refl _ _ | with_reducible assumption | with_reducible refine Below.drew ?_ | with_reducible refine below_drewN' ?_ _ | with_reducible refine Below.alloc ?_ ?_ _ | with_reducible refine Below.setCell ?_ ?_ _ | with_reducible refine below_step (by assumption) ?_ ?_ | omega | (simp; done) | (simp; omega)))); clear hc1 hf1 hc2 hf2 hb1 hb2))
            refine bodyPost_ret (v := .tuple #[.agg #[.int .i64 0, .int .i64 0, .int .i64 0], .string ⟨#[]⟩, .int .i64 8]) (by simp [results, Tryd.results27, go_sem, *]) rfl ⟨rfl, by have hbz9 := HBz.out; (repeat' (first | with_reducible exact Below.refl _ _ | with_reducible assumption | with_reducible refine Below.drew ?_ | with_reducible refine below_drewN' ?_ _ | with_reducible refine Below.alloc ?_ ?_ _ | with_reducible refine Below.setCell ?_ ?_ _ | with_reducible refine below_step (by assumption) ?_ ?_ | omega | (simp; done) | (simp; omega)))⟩
      · have g2 : ((p : Int) != 46) = true := by rw [bne_iff_ne]; omega
        rw [if_pos (.inr hdot)] at hR
        subst hR
        clear hk hrs hp he
        go_enter Tryd.func27, Tryd.ntmps27
        go_wp2_with (go_at_call 22; (with_reducible refine (HA.out _).mono ?_); rintro e w1 ⟨rfl, hb1⟩; obtain ⟨hc1, hf1⟩ := bcell hb1; have hz1 := hb1.size; (try simp at hz1); have z1_0 : w.heap.size < w1.heap.size := (by omega); have y1_0 : w.heap.size ≤ w1.heap.size := (by omega))
        refine bodyPost_ret (v := .tuple #[.agg #[.int .i64 D1, .int .i64 D2, .int .i64 0], .string r, .int .i64 0]) (by simp [results, Tryd.results27, go_sem, *]) rfl ⟨rfl, by (repeat' (first | with_reducible exact Below.refl _ _ | with_reducible assumption | with_reducible refine Below.drew ?_ | with_reducible refine below_drewN' ?_ _ | with_reducible refine Below.alloc ?_ ?_ _ | with_reducible refine Below.setCell ?_ ?_ _ | with_reducible refine below_step (by assumption) ?_ ?_ | omega | (simp; done) | (simp; omega)))⟩
end Go.Proofs.YtpajpijkldjmfaaDoor
