/-
  The contract of triremeref03.product.
-/
import Derived.Test.YtpajpijkldjmfaaDoorQPar2
namespace Go.Proofs.YtpajpijkldjmfaaDoor
open Go.RowKit
set_option linter.unusedVariables false

def prodM (k i : Value) : Nat := (intOf i + 1).toNat * 100000000000000000 + (intOf k).toNat
set_option maxRecDepth 100000 in
set_option maxHeartbeats 8000000 in
theorem product_any (D : List UInt8) (hD : allIs D) (hDl : D.length ≤ 1000) (u : Nat) (hu : u ≤ 1099511627776000) (w : World) :
    Calls Tryd.prog 33 #[.string (lsB D), .int .i64 (u : Int)] w fun e w' => e = .returned (.string (lsB (prodE u D.reverse 0 []))) ∧ Below w.heap.size w w' := by
  have hPl := prodE_le u hu D.reverse 0 [] (by decide) (fun c hc => hD c (List.mem_reverse.1 hc))
  rw [List.length_reverse] at hPl
  obtain ⟨P, hP⟩ : ∃ P, prodE u D.reverse 0 [] = P := ⟨_, rfl⟩
  rw [hP] at hPl ⊢
  have hP0 : prodE u (D.take D.length).reverse 0 [] = P := by rw [List.take_length]; exact hP
  have hPl2 : P.length ≤ 2000 := by
    have : ([] : List UInt8).length = 0 := rfl
    omega
  have hsz := ls_size D
  obtain ⟨s, hs⟩ : ∃ s, lsB D = s := ⟨_, rfl⟩
  have Hs := Lib.hid hs
  have HP0 := Lib.hid hP0
  rw [hs] at hsz ⊢
  have c0 : IntKind.i64.wrap ((s.size : Int) - 1) = (s.size : Int) - 1 := wrap_in (by omega) (by omega)
  have hun : (0 : Int) ≤ (u : Int) := by omega
  clear hs hP hP0 hPl
  go_enter Tryd.func33, Tryd.ntmps33
  go_wp2
  go_loopw [5, 6, 7] (fun o k i wr => ∃ (m t K : Nat) (out : List UInt8) (j : Int), m ≤ D.length ∧ (m = 0 ∨ t = 0) ∧ o = .string (lsB out) ∧ k = .int .i64 (K : Int) ∧ i = .int .i64 j ∧ j = (m : Int) - 1 - (t : Int) ∧ prodE u (D.take m).reverse K out = P ∧ K ≤ 10000000000000000 ∧ t ≤ out.length ∧ Below w.heap.size w wr) (fun _ k i _ => prodM k i)
  case atStart => exact ⟨D.length, 0, 0, [], _, Nat.le_refl _, .inr rfl, rfl, rfl, rfl, by omega, HP0.out, by decide, Nat.le_refl _, by (repeat' (first | with_reducible exact Below.refl _ _ | with_reducible assumption | with_reducible refine Below.drew ?_ | with_reducible refine below_drewN' ?_ _ | with_reducible refine Below.alloc ?_ ?_ _ | with_reducible refine Below.setCell ?_ ?_ _ | with_reducible refine below_step (by assumption) ?_ ?_ | omega | (simp; done) | (simp; omega)))⟩
  case round =>
    obtain ⟨m, t, K, out, j, hm, hmt, rfl, rfl, rfl, hj, hE, hK, ht, hB⟩ := hrel
    have HE := Lib.hid hE
    have HB := Lib.hid hB
    have hbz := hB.size
    have hol := prodE_ge u (D.take m).reverse K out
    rw [hE] at hol
    have w7 : IntKind.i64.wrap (j - 1) = j - 1 := wrap_in (by omega) (by omega)
    clear hE
    by_cases hm0 : m = 0
    · subst hm0
      have hj0 : j < 0 := by omega
      by_cases hK0 : K = 0
      · subst hK0
        have H2 : lsB out = lsB P := by
          have := HE.out
          exact congrArg lsB this
        have HH := Lib.hid H2
        clear H2
        go_wp2
        go_ret
        exact ⟨by rw [← HH.out]; rfl, by (repeat' (first | with_reducible exact Below.refl _ _ | with_reducible assumption | with_reducible refine Below.drew ?_ | with_reducible refine below_drewN' ?_ _ | with_reducible refine Below.alloc ?_ ?_ _ | with_reducible refine Below.setCell ?_ ?_ _ | with_reducible refine below_step (by assumption) ?_ ?_ | omega | (simp; done) | (simp; omega)))⟩
      · have hKp : 0 < K := by omega
        have hKi : (0 : Int) < (K : Int) := by omega
        have hE2 : prodE u [] K out = P := HE.out
        rw [prodE_nil u K out hKp] at hE2
        obtain ⟨q, hq⟩ : ∃ q, K / 10 = q := ⟨_, rfl⟩
        obtain ⟨r, hr⟩ : ∃ r, K % 10 = r := ⟨_, rfl⟩
        rw [hq, hr] at hE2
        obtain ⟨z, hzz⟩ : ∃ z, UInt8.ofNat (48 + r) = z := ⟨_, rfl⟩
        rw [hzz] at hE2
        have H2 := Lib.hid hE2
        have m1 : Int.tmod (K : Int) 10 = (r : Int) := by rw [Int.tmod_eq_emod_of_nonneg (by omega)]; omega
        have m2 : Int.tdiv (K : Int) 10 = (q : Int) := by rw [Int.tdiv_eq_ediv_of_nonneg (by omega)]; omega
        have m3 : IntKind.i64.wrap (r : Int) = (r : Int) := wrap_in (by omega) (by omega)
        have m4 : IntKind.i64.wrap (q : Int) = (q : Int) := wrap_in (by omega) (by omega)
        have m5 : IntKind.i64.wrap (48 + (r : Int)) = 48 + (r : Int) := wrap_in (by omega) (by omega)
        have m6 : IntKind.u8.wrap (48 + (r : Int)) = 48 + (r : Int) := by rw [IntKind.wrap_u8]; omega
        have hcv : ∀ V : World, (convert 41 9 (.slice (some ⟨V.heap.size, 0, none⟩) 1 1)).run Tryd.prog (V.alloc (.cells #[.int .u8 (48 + (r : Int))] 5)) = .ok (.string ⟨#[z]⟩) (V.alloc (.cells #[.int .u8 (48 + (r : Int))] 5)) := fun V => by
          have := (IsByte.new (48 + (r : Int)) V 5).text (by omega) (by omega)
          rw [show (48 + (r : Int)).toNat = 48 + r by omega, hzz] at this
          exact this
        have hk : ∀ V : World, (Op.stringOp .add ⟨#[z]⟩ (lsB out)).run Tryd.prog V = .ok (.string (lsB (z :: out))) V := fun V => by
          have h1 := cat_run (lsB [z]) (lsB out) (by rw [ls_size, ls_size, List.length_cons, List.length_nil]; omega) V
          rw [ls_add] at h1
          exact h1
        clear hE2 hzz
        have Hj := Lib.hid hj
        clear hj
        go_wp2
        go_roundw
        case rel => exact ⟨0, t + 1, q, _, _, Nat.zero_le _, .inl rfl, rfl, rfl, rfl, (by have := Hj.out; omega), H2.out, by omega, by rw [List.length_cons]; omega, by (repeat' (first | with_reducible exact Below.refl _ _ | with_reducible assumption | with_reducible refine Below.drew ?_ | with_reducible refine below_drewN' ?_ _ | with_reducible refine Below.alloc ?_ ?_ _ | with_reducible refine Below.setCell ?_ ?_ _ | with_reducible refine below_step (by assumption) ?_ ?_ | omega | (simp; done) | (simp; omega)))⟩
        case measure => (unfold prodM; dsimp only [intOf]; omega)
    · obtain rfl : t = 0 := by omega
      obtain ⟨m, rfl⟩ : ∃ m', m = m' + 1 := ⟨m - 1, by omega⟩
      obtain rfl : j = (m : Int) := by omega
      have hms : m < s.size := by omega
      have hx := str_ix s m hms
      have hml : m < D.length := by omega
      have hg : s.get! m = D[m] := by rw [← Hs.out]; exact ls_at D m hml
      rw [hg] at hx
      have htk : (D.take (m + 1)).reverse = D[m] :: (D.take m).reverse := by rw [List.take_succ_eq_append_getElem hml, List.reverse_append]; rfl
      have hcd := hD D[m] (List.getElem_mem hml)
      have hE2 := HE.out
      rw [htk, prodE] at hE2
      obtain ⟨c, hc⟩ : ∃ c, D[m] = c := ⟨_, rfl⟩
      rw [hc] at hx hE2 hcd
      have hst := prod_step hu hK hcd
      unfold isD at hcd
      obtain ⟨p, hp⟩ : ∃ p, c.toNat = p := ⟨_, rfl⟩
      rw [hp] at hx hE2 hcd hst
      obtain ⟨g, hgg⟩ : ∃ g, p - 48 = g := ⟨_, rfl⟩
      rw [hgg] at hE2 hst
      have v1 : IntKind.u8.wrap ((p : Int) - 48) = (g : Int) := by rw [IntKind.wrap_u8]; omega
      have v2 : IntKind.i64.wrap (g : Int) = (g : Int) := wrap_in (by omega) (by omega)
      obtain ⟨gu, hgu⟩ : ∃ gu, g * u = gu := ⟨_, rfl⟩
      have v3 : (g : Int) * (u : Int) = (gu : Int) := by rw [← hgu]; exact (Int.natCast_mul g u).symm
      rw [hgu] at hE2 hst
      have v4 : IntKind.i64.wrap (gu : Int) = (gu : Int) := wrap_in (by omega) (by omega)
      obtain ⟨T, hT⟩ : ∃ T, K + gu = T := ⟨_, rfl⟩
      have v5 : (K : Int) + (gu : Int) = (T : Int) := by omega
      rw [hT] at hE2 hst
      have v6 : IntKind.i64.wrap (T : Int) = (T : Int) := wrap_in (by omega) (by omega)
      have hjn : ¬ (m : Int) < 0 := by omega
      clear hg htk hc hp hgg hgu hT hj
      obtain ⟨q, hq⟩ : ∃ q, T / 10 = q := ⟨_, rfl⟩
      obtain ⟨r, hr⟩ : ∃ r, T % 10 = r := ⟨_, rfl⟩
      rw [hq, hr] at hE2
      obtain ⟨z, hzz⟩ : ∃ z, UInt8.ofNat (48 + r) = z := ⟨_, rfl⟩
      rw [hzz] at hE2
      have H2 := Lib.hid hE2
      have m1 : Int.tmod (T : Int) 10 = (r : Int) := by rw [Int.tmod_eq_emod_of_nonneg (by omega)]; omega
      have m2 : Int.tdiv (T : Int) 10 = (q : Int) := by rw [Int.tdiv_eq_ediv_of_nonneg (by omega)]; omega
      have m3 : IntKind.i64.wrap (r : Int) = (r : Int) := wrap_in (by omega) (by omega)
      have m4 : IntKind.i64.wrap (q : Int) = (q : Int) := wrap_in (by omega) (by omega)
      have m5 : IntKind.i64.wrap (48 + (r : Int)) = 48 + (r : Int) := wrap_in (by omega) (by omega)
      have m6 : IntKind.u8.wrap (48 + (r : Int)) = 48 + (r : Int) := by rw [IntKind.wrap_u8]; omega
      have hcv : ∀ V : World, (convert 41 9 (.slice (some ⟨V.heap.size, 0, none⟩) 1 1)).run Tryd.prog (V.alloc (.cells #[.int .u8 (48 + (r : Int))] 5)) = .ok (.string ⟨#[z]⟩) (V.alloc (.cells #[.int .u8 (48 + (r : Int))] 5)) := fun V => by
        have := (IsByte.new (48 + (r : Int)) V 5).text (by omega) (by omega)
        rw [show (48 + (r : Int)).toNat = 48 + r by omega, hzz] at this
        exact this
      have hk : ∀ V : World, (Op.stringOp .add ⟨#[z]⟩ (lsB out)).run Tryd.prog V = .ok (.string (lsB (z :: out))) V := fun V => by
        have h1 := cat_run (lsB [z]) (lsB out) (by rw [ls_size, ls_size, List.length_cons, List.length_nil]; omega) V
        rw [ls_add] at h1
        exact h1
      clear hE2 hzz
      go_wp2
      go_roundw
      case rel => exact ⟨m, 0, q, _, _, by omega, .inr rfl, rfl, rfl, rfl, by omega, H2.out, by omega, Nat.zero_le _, by (repeat' (first | with_reducible exact Below.refl _ _ | with_reducible assumption | with_reducible refine Below.drew ?_ | with_reducible refine below_drewN' ?_ _ | with_reducible refine Below.alloc ?_ ?_ _ | with_reducible refine Below.setCell ?_ ?_ _ | with_reducible refine below_step (by assumption) ?_ ?_ | omega | (simp; done) | (simp; omega)))⟩
      case measure => (unfold prodM; dsimp only [intOf]; omega)
end Go.Proofs.YtpajpijkldjmfaaDoor
