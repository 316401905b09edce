/-
  How floats of small numbers stand to each other: a peak is no less than a mean.
-/
import Derived.Test.YtaipiflbigpniaaBase
import Derived.Laws.FloatArith
import Derived.Laws.Cover2
namespace Go.Proofs.Ytaipiflbigpniaa
open Go.RowKit
set_option linter.unusedVariables false
set_option linter.unusedSimpArgs false

theorem signed_shift (s : Bool) (m a b : Nat) : Ieee.signed s m (a + b) = Ieee.signed s m a * ((2 ^ b : Nat) : Int) := by
  unfold Ieee.signed
  simp only [Nat.shiftLeft_eq]
  have e : m * 2 ^ (a + b) = m * 2 ^ a * 2 ^ b := by rw [Nat.pow_add, Nat.mul_assoc]
  cases s
  · simp only [Bool.false_eq_true, if_false]
    rw [e, Int.natCast_mul]
  · simp only [if_true]
    rw [e, Int.natCast_mul, Int.neg_mul]
theorem cmp_scale (a b : Int) (k : Nat) : compare (a * ((2 ^ k : Nat) : Int)) (b * ((2 ^ k : Nat) : Int)) = compare a b := by
  have hp : (0 : Int) < ((2 ^ k : Nat) : Int) := by
    have := Nat.two_pow_pos k
    omega
  simp only [compare, compareOfLessAndEq]
  have h1 : a * ((2 ^ k : Nat) : Int) < b * ((2 ^ k : Nat) : Int) ↔ a < b := ⟨fun h => Int.lt_of_mul_lt_mul_right h (by omega), fun h => Int.mul_lt_mul_of_pos_right h hp⟩
  have h2 : a * ((2 ^ k : Nat) : Int) = b * ((2 ^ k : Nat) : Int) ↔ a = b := ⟨fun h => Int.eq_of_mul_eq_mul_right (by omega) h, fun h => by rw [h]⟩
  simp only [h1, h2]
/-- On one base. -/
theorem order_base (s : Bool) (m : Nat) (i : Int) (t : Bool) (n : Nat) (j : Int) (B : Int) (hi : B ≤ i) (hj : B ≤ j) :
    (Ieee.Datum.number s m i).order (Ieee.Datum.number t n j) = some (compare (Ieee.signed s m (i - B).toNat) (Ieee.signed t n (j - B).toNat)) := by
  show some (compare (Ieee.signed s m (i - min i j).toNat) (Ieee.signed t n (j - min i j).toNat)) = _
  obtain ⟨k, hk⟩ : ∃ k : Nat, min i j - B = (k : Int) := ⟨(min i j - B).toNat, by omega⟩
  have e1 : (i - B).toNat = (i - min i j).toNat + k := by omega
  have e2 : (j - B).toNat = (j - min i j).toNat + k := by omega
  rw [e1, e2, signed_shift, signed_shift, cmp_scale]
def geO (x y : Ieee.Datum) : Prop := x.order y = some .gt ∨ x.order y = some .eq
theorem geO_trans {s t u : Bool} {m n o : Nat} {i j l : Int} (h1 : geO (.number s m i) (.number t n j)) (h2 : geO (.number t n j) (.number u o l)) : geO (.number s m i) (.number u o l) := by
  obtain ⟨B, b1, b2, b3⟩ : ∃ B : Int, B ≤ i ∧ B ≤ j ∧ B ≤ l := ⟨min (min i j) l, by omega, by omega, by omega⟩
  unfold geO at *
  rw [order_base s m i t n j B b1 b2] at h1
  rw [order_base t n j u o l B b2 b3] at h2
  rw [order_base s m i u o l B b1 b3]
  have hc : ∀ a b : Int, (some (compare a b) = some Ordering.gt ∨ some (compare a b) = some Ordering.eq) ↔ b ≤ a := fun a b => by
    simp only [Option.some.injEq, compare, compareOfLessAndEq]
    by_cases h : a < b
    · simp [h]
    · by_cases h' : a = b
      · subst h'; simp
      · simp [h, h']
        omega
  rw [hc] at h1 h2 ⊢
  omega
/-- The mean of s in m, as a float. -/
def meanF (s m : Nat) : Option Nat := floatBits .quo .f64 (floatOfInt .f64 (s : Int)) (floatOfInt .f64 (m : Int))
def isNum (x : Nat) : Bool := match FloatKind.f64.format.read x with
  | .number .. => true
  | _ => false
def geB (x y : Nat) : Bool := match FloatKind.f64.format.order x y with
  | some .gt => true
  | some .eq => true
  | _ => false
theorem geB_trans {x y z : Nat} (hx : isNum x = true) (hy : isNum y = true) (hz : isNum z = true) (h1 : geB x y = true) (h2 : geB y z = true) : geB x z = true := by
  unfold isNum at hx hy hz
  unfold geB Ieee.Format.order at h1 h2 ⊢
  cases ex : FloatKind.f64.format.read x with
  | infinity s => rw [ex] at hx; cases hx
  | nan s f => rw [ex] at hx; cases hx
  | number s m i =>
    cases ey : FloatKind.f64.format.read y with
    | infinity s => rw [ey] at hy; cases hy
    | nan s f => rw [ey] at hy; cases hy
    | number t n j =>
      cases ez : FloatKind.f64.format.read z with
      | infinity s => rw [ez] at hz; cases hz
      | nan s f => rw [ez] at hz; cases hz
      | number u o l =>
        rw [ex, ey] at h1
        rw [ey, ez] at h2
        have g1 : geO (.number s m i) (.number t n j) := by
          unfold geO
          cases h : (Ieee.Datum.number s m i).order (Ieee.Datum.number t n j) with
          | none => rw [h] at h1; cases h1
          | some c => cases c <;> rw [h] at h1 <;> first | (cases h1; done) | exact .inl rfl | exact .inr rfl
        have g2 : geO (.number t n j) (.number u o l) := by
          unfold geO
          cases h : (Ieee.Datum.number t n j).order (Ieee.Datum.number u o l) with
          | none => rw [h] at h2; cases h2
          | some c => cases c <;> rw [h] at h2 <;> first | (cases h2; done) | exact .inl rfl | exact .inr rfl
        rcases geO_trans g1 g2 with h | h <;> rw [h]
theorem inf_rung : FloatKind.f64.format.infRung = 9218868437227405312 := by kernel_rfl
theorem sign_weight : FloatKind.f64.format.signWeight = 9223372036854775808 := by kernel_rfl
theorem num_lt {r : Nat} (h : r < 9218868437227405312) : isNum r = true := by
  unfold isNum Ieee.Format.read
  have e : r % FloatKind.f64.format.signWeight = r := by rw [sign_weight]; exact Nat.mod_eq_of_lt (by omega)
  simp only [e, inf_rung]
  by_cases h1 : r < FloatKind.f64.format.binade
  · rw [if_pos h1]
  · rw [if_neg h1, if_pos h]
theorem num_self {r : Nat} (h : isNum r = true) : FloatKind.f64.format.order r r = some .eq := by
  unfold isNum at h
  unfold Ieee.Format.order
  cases e : FloatKind.f64.format.read r with
  | infinity s => rw [e] at h; cases h
  | nan s f => rw [e] at h; cases h
  | number s m i =>
    rw [order_base s m i s m i i (Int.le_refl _) (Int.le_refl _)]
    simp [compare, compareOfLessAndEq]
/-- The numbers up to 60 as floats. -/
def fl : List Nat := [0, 4607182418800017408, 4611686018427387904, 4613937818241073152, 4616189618054758400, 4617315517961601024, 4618441417868443648, 4619567317775286272, 4620693217682128896, 4621256167635550208, 4621819117588971520, 4622382067542392832, 4622945017495814144, 4623507967449235456, 4624070917402656768, 4624633867356078080, 4625196817309499392, 4625478292286210048, 4625759767262920704, 4626041242239631360, 4626322717216342016, 4626604192193052672, 4626885667169763328, 4627167142146473984, 4627448617123184640, 4627730092099895296, 4628011567076605952, 4628293042053316608, 4628574517030027264, 4628855992006737920, 4629137466983448576, 4629418941960159232, 4629700416936869888, 4629841154425225216, 4629981891913580544, 4630122629401935872, 4630263366890291200, 4630404104378646528, 4630544841867001856, 4630685579355357184, 4630826316843712512, 4630967054332067840, 4631107791820423168, 4631248529308778496, 4631389266797133824, 4631530004285489152, 4631670741773844480, 4631811479262199808, 4631952216750555136, 4632092954238910464, 4632233691727265792, 4632374429215621120, 4632515166703976448, 4632655904192331776, 4632796641680687104, 4632937379169042432, 4633078116657397760, 4633218854145753088, 4633359591634108416, 4633500329122463744, 4633641066610819072]
theorem fl_ok : ∀ p : Fin 61, fl.getD p.val 0 = floatOfInt .f64 (p.val : Int) := by decide +kernel
theorem peak_num : ∀ p : Fin 61, isNum (fl.getD p.val 0) = true := by decide +kernel
theorem peak_asc : ∀ p : Fin 61, ∀ q : Fin 61, q.val ≤ p.val → geB (fl.getD p.val 0) (fl.getD q.val 0) = true := by decide +kernel
/-- For one number of ticks: what the mean of s is, against the least peak that it can have. -/
def tickB (m : Nat) : Bool := (List.range (60 * m + 1)).all fun s => match meanF s m with
  | some r => decide (r < 9218868437227405312) && geB (fl.getD ((s + (m - 1)) / m) 0) r
  | none => false
end Go.Proofs.Ytaipiflbigpniaa
