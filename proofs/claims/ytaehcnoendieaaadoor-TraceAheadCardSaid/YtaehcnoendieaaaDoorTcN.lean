/-
  The contracts of quant.integer, quant.bounded, quant.Number; what digits come to.
-/
import Derived.Test.YtaehcnoendieaaaDoorTcR
namespace Go.Proofs.YtaehcnoendieaaaDoor
set_option linter.unusedSimpArgs false
open Go.RowKit
set_option linter.unusedVariables false

/-- One more digit: the number, but no more than much; and its last three. -/
def addD (d : Int × Int) (k : Int) : Int × Int := (if 112589990684262400 < d.1 then 1127025806749466624 else d.1 * 10 + k, (d.2 * 10 + k) % 1000)
def digB (s : ByteArray) (i : Nat) : Bool := decide (i < s.size ∧ 48 ≤ (s.get! i).toNat ∧ (s.get! i).toNat ≤ 57)
/-- The digits from a place on: what they come to, and where they end. -/
def intF (s : ByteArray) : Nat → Nat → Int × Int → (Int × Int) × Nat
  | 0, i, d => (d, i)
  | f + 1, i, d => if digB s i then intF s f (i + 1) (addD d (((s.get! i).toNat : Int) - 48)) else (d, i)
def intV (s : ByteArray) : (Int × Int) × Nat := intF s s.size 0 (0, 0)
theorem intF_end {s : ByteArray} (f i : Nat) (d : Int × Int) (h : digB s i = false) : intF s f i d = (d, i) := by
  cases f with
  | zero => rfl
  | succ f => rw [intF, h]; rfl
theorem addD_bd {d : Int × Int} {k : Int} (h1 : 0 ≤ d.1 ∧ d.1 ≤ 1127025806749466624) (h2 : 0 ≤ d.2 ∧ d.2 < 1000) (hk : 0 ≤ k ∧ k ≤ 9) : (0 ≤ (addD d k).1 ∧ (addD d k).1 ≤ 1127025806749466624) ∧ (0 ≤ (addD d k).2 ∧ (addD d k).2 < 1000) := by
  unfold addD
  dsimp only
  split <;> omega
theorem intF_le (s : ByteArray) : ∀ f i d, i ≤ s.size → (intF s f i d).2 ≤ s.size := by
  intro f
  induction f with
  | zero => intro i d h; exact h
  | succ f ih =>
    intro i d h
    rw [intF]
    split
    next hd => exact ih _ _ (by unfold digB at hd; simp at hd; omega)
    next => exact h
theorem intF_bd (s : ByteArray) : ∀ f i d, (0 ≤ d.1 ∧ d.1 ≤ 1127025806749466624) → (0 ≤ d.2 ∧ d.2 < 1000) → (0 ≤ (intF s f i d).1.1 ∧ (intF s f i d).1.1 ≤ 1127025806749466624) ∧ (0 ≤ (intF s f i d).1.2 ∧ (intF s f i d).1.2 < 1000) := by
  intro f
  induction f with
  | zero => intro i d h1 h2; exact ⟨h1, h2⟩
  | succ f ih =>
    intro i d h1 h2
    rw [intF]
    split
    next hd =>
      have hk : 0 ≤ (((s.get! i).toNat : Int) - 48) ∧ (((s.get! i).toNat : Int) - 48) ≤ 9 := by unfold digB at hd; simp at hd; omega
      obtain ⟨a, b⟩ := addD_bd h1 h2 hk
      exact ih _ _ a b
    next => exact ⟨h1, h2⟩

/-- A decimal at the head of a block of its own. -/
structure DecAt (b : Nat) (x y z : Int) (wr : World) : Prop where
  sz : b < wr.heap.size
  c0 : wr.cell? ⟨b, 0, none⟩ = some (.int .i64 x)
  c1 : wr.cell? ⟨b, 1, none⟩ = some (.int .i64 y)
  c2 : wr.cell? ⟨b, 2, none⟩ = some (.int .i64 z)
  f : ∀ j, wr.frozen? ⟨b, j, none⟩ = false

set_option maxRecDepth 100000 in
set_option maxHeartbeats 8000000 in
theorem integer_any (s : ByteArray) (hs : s.size ≤ 1000000000) (w : World) :
    Calls Tryd.prog 52 #[.string s] w fun e w' => e = .returned (.tuple #[.agg #[.int .i64 (intV s).1.1, .int .i64 (intV s).1.2, .int .i64 0], .string (s.extract (intV s).2 s.size)]) ∧ Below w.heap.size w w' := by
  obtain ⟨n, hn⟩ : ∃ n, s.size = n := ⟨_, rfl⟩
  go_enter Tryd.func52, Tryd.ntmps52
  go_wp2
  go_loopw [9] (fun i wr => ∃ (k f : Nat) (D : Int × Int), k ≤ s.size ∧ s.size ≤ k + f ∧ i = .int .i64 k ∧ intV s = intF s f k D ∧ (0 ≤ D.1 ∧ D.1 ≤ 1127025806749466624) ∧ (0 ≤ D.2 ∧ D.2 < 1000) ∧ DecAt w.heap.size 0 0 0 wr ∧ DecAt (w.heap.size + 1) D.1 D.2 0 wr ∧ Below w.heap.size w wr) (fun i _ => s.size - (intOf i).toNat)
  case atStart => exact ⟨0, s.size, (0, 0), Nat.zero_le _, by omega, rfl, rfl, by decide, by decide, (by constructor <;> simp [go_sem]), (by constructor <;> simp [go_sem]), by (repeat' (first | with_reducible exact Below.refl _ _ | with_reducible assumption | with_reducible refine Below.drew ?_ | with_reducible refine below_drewN' ?_ _ | with_reducible refine Below.alloc ?_ ?_ _ | with_reducible refine Below.setCell ?_ ?_ _ | with_reducible refine below_step (by assumption) ?_ ?_ | omega | (simp; done) | (simp; omega)))⟩
  case round =>
    obtain ⟨k, f, D, hk, hf, rfl, hE, hD1, hD2, ⟨z0, r0, r1, r2, rf⟩, ⟨z1, d0, d1, d2, df⟩, hB⟩ := hrel
    have HE := Lib.hid hE
    have HB := Lib.hid hB
    have hbz := hB.size
    clear hE
    obtain ⟨D1, D2⟩ := D
    dsimp only at hD1 hD2 d0 d1
    by_cases hlt : k < s.size
    · have hx := str_ix s k hlt
      obtain ⟨p, hp⟩ : ∃ p, (s.get! k).toNat = p := ⟨_, rfl⟩
      have hdg : digB s k = decide (48 ≤ p ∧ p ≤ 57) := by unfold digB; rw [hp]; simp [hlt]
      have hp256 : p < 256 := by rw [← hp]; exact UInt8.toNat_lt _
      rw [hp] at hx
      obtain ⟨f, rfl⟩ : ∃ g, f = g + 1 := ⟨f - 1, by omega⟩
      have hE2 := HE.out
      rw [intF, hp, hdg] at hE2
      clear hp hdg
      by_cases h48 : 48 ≤ p
      · by_cases h57 : p ≤ 57
        · rw [decide_eq_true (⟨h48, h57⟩ : 48 ≤ p ∧ p ≤ 57), if_pos rfl] at hE2
          have H2 := Lib.hid hE2
          have w1 : IntKind.u8.wrap ((p : Int) - 48) = (p : Int) - 48 := by simp [IntKind.wrap, IntKind.bits, IntKind.signed]; omega
          have w2 : IntKind.i64.wrap ((p : Int) - 48) = (p : Int) - 48 := wrap_in (by omega) (by omega)
          have w3 : IntKind.i64.wrap (D2 * 10) = D2 * 10 := wrap_in (by omega) (by omega)
          have w4 : IntKind.i64.wrap (D2 * 10 + ((p : Int) - 48)) = D2 * 10 + ((p : Int) - 48) := wrap_in (by omega) (by omega)
          have w5 : Int.tmod (D2 * 10 + ((p : Int) - 48)) 1000 = (D2 * 10 + ((p : Int) - 48)) % 1000 := Int.tmod_eq_emod_of_nonneg (by omega)
          have w6 : IntKind.i64.wrap ((D2 * 10 + ((p : Int) - 48)) % 1000) = (D2 * 10 + ((p : Int) - 48)) % 1000 := wrap_in (by omega) (by omega)
          clear hE2
          by_cases hbig : 112589990684262400 < D1
          · have Ha := Lib.hid (show addD (D1, D2) ((p : Int) - 48) = (1127025806749466624, (D2 * 10 + ((p : Int) - 48)) % 1000) by unfold addD; dsimp only; rw [if_pos hbig])
            go_wp2
            first | go_end0 | refine bodyPost_ret (results_none rfl _ _ _) rfl ?_
            go_wp2
            go_roundw
            case rel => exact ⟨k + 1, f, addD (D1, D2) ((p : Int) - 48), by omega, by omega, by go_num, H2.out, by rw [Ha.out]; dsimp only; omega, by rw [Ha.out]; dsimp only; omega, (by constructor <;> simp [go_sem, *]), (by rw [Ha.out]; constructor <;> simp [go_sem, *]), by (repeat' (first | with_reducible exact Below.refl _ _ | with_reducible assumption | with_reducible refine Below.drew ?_ | with_reducible refine below_drewN' ?_ _ | with_reducible refine Below.alloc ?_ ?_ _ | with_reducible refine Below.setCell ?_ ?_ _ | with_reducible refine below_step (by assumption) ?_ ?_ | omega | (simp; done) | (simp; omega)))⟩
            case measure => simp [intOf]; omega
          · have Ha := Lib.hid (show addD (D1, D2) ((p : Int) - 48) = (D1 * 10 + ((p : Int) - 48), (D2 * 10 + ((p : Int) - 48)) % 1000) by unfold addD; dsimp only; rw [if_neg hbig])
            have w7 : IntKind.i64.wrap (D1 * 10) = D1 * 10 := wrap_in (by omega) (by omega)
            have w8 : IntKind.i64.wrap (D1 * 10 + ((p : Int) - 48)) = D1 * 10 + ((p : Int) - 48) := wrap_in (by omega) (by omega)
            go_wp2
            first | go_end0 | refine bodyPost_ret (results_none rfl _ _ _) rfl ?_
            go_wp2
            go_roundw
            case rel => exact ⟨k + 1, f, addD (D1, D2) ((p : Int) - 48), by omega, by omega, by go_num, H2.out, by rw [Ha.out]; dsimp only; omega, by rw [Ha.out]; dsimp only; omega, (by constructor <;> simp [go_sem, *]), (by rw [Ha.out]; constructor <;> simp [go_sem, *]), by (repeat' (first | with_reducible exact Below.refl _ _ | with_reducible assumption | with_reducible refine Below.drew ?_ | with_reducible refine below_drewN' ?_ _ | with_reducible refine Below.alloc ?_ ?_ _ | with_reducible refine Below.setCell ?_ ?_ _ | with_reducible refine below_step (by assumption) ?_ ?_ | omega | (simp; done) | (simp; omega)))⟩
            case measure => simp [intOf]; omega
        · rw [decide_eq_false (fun h => h57 h.2), if_neg (by decide)] at hE2
          have H2 := Lib.hid hE2
          clear hE2
          go_wp2
          go_region
          all_goals
            (try go_wp2)
            refine bodyPost_ret (v := .tuple #[.agg #[.int .i64 D1, .int .i64 D2, .int .i64 0], .string (s.extract k n)]) (by simp [results, Tryd.results52, go_sem, *]) rfl ⟨by rw [H2.out, hn], by (repeat' (first | with_reducible exact Below.refl _ _ | with_reducible assumption | with_reducible refine Below.drew ?_ | with_reducible refine below_drewN' ?_ _ | with_reducible refine Below.alloc ?_ ?_ _ | with_reducible refine Below.setCell ?_ ?_ _ | with_reducible refine below_step (by assumption) ?_ ?_ | omega | (simp; done) | (simp; omega)))⟩
      · rw [decide_eq_false (fun h => h48 h.1), if_neg (by decide)] at hE2
        have H2 := Lib.hid hE2
        clear hE2
        go_wp2
        go_region
        all_goals
          (try go_wp2)
          refine bodyPost_ret (v := .tuple #[.agg #[.int .i64 D1, .int .i64 D2, .int .i64 0], .string (s.extract k n)]) (by simp [results, Tryd.results52, go_sem, *]) rfl ⟨by rw [H2.out, hn], by (repeat' (first | with_reducible exact Below.refl _ _ | with_reducible assumption | with_reducible refine Below.drew ?_ | with_reducible refine below_drewN' ?_ _ | with_reducible refine Below.alloc ?_ ?_ _ | with_reducible refine Below.setCell ?_ ?_ _ | with_reducible refine below_step (by assumption) ?_ ?_ | omega | (simp; done) | (simp; omega)))⟩
    · have H2 := Lib.hid (HE.out.trans (intF_end f k (D1, D2) (by unfold digB; simp [hlt])))
      have hkn : k = s.size := by omega
      have He := Lib.hid (show s.extract k s.size = ⟨#[]⟩ by rw [hkn]; exact ByteArray.ext (by simp))
      clear hkn
      go_wp2
      refine bodyPost_ret (v := .tuple #[.agg #[.int .i64 D1, .int .i64 D2, .int .i64 0], .string ⟨#[]⟩]) (by simp [results, Tryd.results52, go_sem, *]) rfl ⟨by rw [H2.out, He.out], by (repeat' (first | with_reducible exact Below.refl _ _ | with_reducible assumption | with_reducible refine Below.drew ?_ | with_reducible refine below_drewN' ?_ _ | with_reducible refine Below.alloc ?_ ?_ _ | with_reducible refine Below.setCell ?_ ?_ _ | with_reducible refine below_step (by assumption) ?_ ?_ | omega | (simp; done) | (simp; omega)))⟩

/-- No more than can be. -/
def overB (n : Int) : Int × Int := if 1125899906842624 < n then (0, 10) else (n, 0)
set_option maxRecDepth 100000 in
theorem bounded_any (n : Int) (w : World) :
    Calls Tryd.prog 53 #[.int .i64 n] w fun e w' => e = .returned (.tuple #[.int .i64 (overB n).1, .int .i64 (overB n).2]) ∧ Below w.heap.size w w' := by
  unfold overB
  by_cases h : 1125899906842624 < n
  · rw [if_pos h]
    go_enter Tryd.func53, Tryd.ntmps53
    go_wp2
    go_ret2
    exact ⟨rfl, by (repeat' (first | with_reducible exact Below.refl _ _ | with_reducible assumption | with_reducible refine Below.drew ?_ | with_reducible refine below_drewN' ?_ _ | with_reducible refine Below.alloc ?_ ?_ _ | with_reducible refine Below.setCell ?_ ?_ _ | with_reducible refine below_step (by assumption) ?_ ?_ | omega | (simp; done) | (simp; omega)))⟩
  · rw [if_neg h]
    go_enter Tryd.func53, Tryd.ntmps53
    go_wp2
    go_ret2
    exact ⟨rfl, by (repeat' (first | with_reducible exact Below.refl _ _ | with_reducible assumption | with_reducible refine Below.drew ?_ | with_reducible refine below_drewN' ?_ _ | with_reducible refine Below.alloc ?_ ?_ _ | with_reducible refine Below.setCell ?_ ?_ _ | with_reducible refine below_step (by assumption) ?_ ?_ | omega | (simp; done) | (simp; omega)))⟩

/-- A number in digits, or what is wrong (8: no number, 10: too much). -/
def numV (s : ByteArray) : Int × Int := if s = emp ∨ (intV s).2 < s.size then (0, 8) else overB (intV s).1.1
theorem extract_emp {s : ByteArray} {k : Nat} (hk : k ≤ s.size) : s.extract k s.size = emp ↔ k = s.size := by
  constructor
  · intro h
    have := congrArg ByteArray.size h
    rw [ByteArray.size_extract] at this
    have e : emp.size = 0 := rfl
    omega
  · rintro rfl
    exact ByteArray.ext (by simp [emp])

set_option maxRecDepth 100000 in
set_option maxHeartbeats 4000000 in
theorem number_any (s : ByteArray) (hs : s.size ≤ 1000000000) (w : World) :
    Calls Tryd.prog 40 #[.string s] w fun e w' => e = .returned (.tuple #[.int .i64 (numV s).1, .int .i64 (numV s).2]) ∧ Below w.heap.size w w' := by
  have A := fun V => integer_any s hs V
  have hle : (intV s).2 ≤ s.size := intF_le s _ _ _ (Nat.zero_le _)
  unfold numV
  obtain ⟨⟨⟨D1, D2⟩, k⟩, hd⟩ : ∃ d, intV s = d := ⟨_, rfl⟩
  rw [hd] at hle ⊢
  simp only [hd] at A
  dsimp only at hle ⊢
  have HA := Lib.hid A
  have hx := extract_emp hle
  obtain ⟨r, hr⟩ : ∃ r, s.extract k s.size = r := ⟨_, rfl⟩
  rw [hr] at hx A
  clear hd
  by_cases h1 : s = emp
  · obtain ⟨e1, e2, e3, e4⟩ := emp_lits h1
    rw [if_pos (.inl h1)]
    clear h1 A hx
    go_enter Tryd.func40, Tryd.ntmps40
    go_wp2_with (go_at_call 52; (with_reducible refine (HA.out _).mono ?_); rintro e w1 ⟨rfl, hb1⟩; obtain ⟨hc1, hf1⟩ := bcell hb1; have hz1 := hb1.size)
    go_ret2
    exact ⟨rfl, by (repeat' (first | with_reducible exact Below.refl _ _ | with_reducible assumption | with_reducible refine Below.drew ?_ | with_reducible refine below_drewN' ?_ _ | with_reducible refine Below.alloc ?_ ?_ _ | with_reducible refine Below.setCell ?_ ?_ _ | with_reducible refine below_step (by assumption) ?_ ?_ | omega | (simp; done) | (simp; omega)))⟩
  · obtain ⟨e1, e2, e3, e4⟩ := emp_litn h1
    by_cases h2 : k < s.size
    · obtain ⟨f1, f2, f3, f4⟩ := emp_litn (s := r) (fun h => by have := hx.1 h; omega)
      rw [if_pos (.inr h2)]
      rw [hr] at HA
      clear h1 A hx h2
      go_enter Tryd.func40, Tryd.ntmps40
      go_wp2_with (go_at_call 52; (with_reducible refine (HA.out _).mono ?_); rintro e w1 ⟨rfl, hb1⟩; obtain ⟨hc1, hf1⟩ := bcell hb1; have hz1 := hb1.size)
      go_ret2
      exact ⟨rfl, by (repeat' (first | with_reducible exact Below.refl _ _ | with_reducible assumption | with_reducible refine Below.drew ?_ | with_reducible refine below_drewN' ?_ _ | with_reducible refine Below.alloc ?_ ?_ _ | with_reducible refine Below.setCell ?_ ?_ _ | with_reducible refine below_step (by assumption) ?_ ?_ | omega | (simp; done) | (simp; omega)))⟩
    · obtain ⟨f1, f2, f3, f4⟩ := emp_lits (s := r) (hx.2 (by omega))
      rw [if_neg (fun h => h.elim h1 h2)]
      rw [hr] at HA
      clear h1 A hx h2
      go_enter Tryd.func40, Tryd.ntmps40
      go_wp2_with (first | (go_at_call 52; (with_reducible refine (HA.out _).mono ?_); rintro e w1 ⟨rfl, hb1⟩; obtain ⟨hc1, hf1⟩ := bcell hb1; have hz1 := hb1.size) | (go_at_call 53; (with_reducible refine (bounded_any D1 _).mono ?_); rintro e w2 ⟨rfl, hb2⟩; have hz2 := hb2.size))
      go_ret2
      exact ⟨rfl, by (repeat' (first | with_reducible exact Below.refl _ _ | with_reducible assumption | with_reducible refine Below.drew ?_ | with_reducible refine below_drewN' ?_ _ | with_reducible refine Below.alloc ?_ ?_ _ | with_reducible refine Below.setCell ?_ ?_ _ | with_reducible refine below_step (by assumption) ?_ ?_ | omega | (simp; done) | (simp; omega)))⟩
def stepD (d : Int × Int) (c : UInt8) : Int × Int := addD d ((c.toNat : Int) - 48)
theorem dec_fold (m : Nat) (hm : m ≤ 1125899906842624000) : (Lib.decDigits m).foldl stepD (0, 0) = ((m : Int), ((m % 1000 : Nat) : Int)) := by
  induction m using Nat.strongRecOn with
  | ind m ih =>
    by_cases h : m < 10
    · rw [dec_one m h]
      show stepD (0, 0) _ = _
      unfold stepD addD
      rw [UInt8.toNat_ofNat']
      dsimp only
      rw [if_neg (by omega)]
      refine Prod.ext ?_ ?_
      · show (0 : Int) * 10 + _ = _
        omega
      · show ((0 : Int) * 10 + _) % 1000 = _
        omega
    · rw [dec_more m h, List.foldl_append, ih (m / 10) (by omega) (by omega)]
      show stepD _ _ = _
      unfold stepD addD
      rw [UInt8.toNat_ofNat']
      dsimp only
      rw [if_neg (by omega)]
      refine Prod.ext ?_ ?_
      · show ((m / 10 : Nat) : Int) * 10 + _ = _
        omega
      · show (((m / 10 % 1000 : Nat) : Int) * 10 + _) % 1000 = _
        omega
theorem intF_run (s : ByteArray) : ∀ (ds : List UInt8) (f i : Nat) (d : Int × Int), (∀ j c, ds[j]? = some c → i + j < s.size ∧ s.get! (i + j) = c ∧ isD c) → ds.length ≤ f → intF s f i d = intF s (f - ds.length) (i + ds.length) (ds.foldl stepD d) := by
  intro ds
  induction ds with
  | nil => intro f i d _ _; rfl
  | cons c ds ih =>
    intro f i d h hf
    obtain ⟨f, rfl⟩ : ∃ g, f = g + 1 := ⟨f - 1, by simp at hf; omega⟩
    obtain ⟨h1, h2, h3⟩ := h 0 c rfl
    rw [Nat.add_zero] at h1 h2
    have hd : digB s i = true := by
      unfold digB
      rw [h2]
      exact decide_eq_true ⟨h1, h3⟩
    rw [intF, hd, if_pos rfl, h2, ih f (i + 1) _ (fun j c' hj => by
      have := h (j + 1) c' (by simpa using hj)
      rw [show i + (j + 1) = i + 1 + j by omega] at this
      exact this) (by simp at hf; omega)]
    rw [List.length_cons, List.foldl_cons, show f + 1 - (ds.length + 1) = f - ds.length by omega, show i + (ds.length + 1) = i + 1 + ds.length by omega]
    rfl
theorem dg_get (m : Nat) (t : ByteArray) (j : Nat) (c : UInt8) (h : (Lib.decDigits m)[j]? = some c) : j < (dgB m ++ t).size ∧ (dgB m ++ t).get! j = c := by
  obtain ⟨hj, rfl⟩ := List.getElem?_eq_some_iff.1 h
  have h1 : j < (dgB m).size := by rw [dg_size]; exact hj
  have h2 : j < (dgB m ++ t).size := by rw [ByteArray.size_append]; omega
  refine ⟨h2, ?_⟩
  rw [get_bang _ _ h2, ByteArray.getElem_append_left h1]
  rfl
/-- What ends digits: nothing, or what is no digit. -/
def endD (t : ByteArray) : Prop := t.size = 0 ∨ (0 < t.size ∧ ¬ isD (t.get! 0) ∧ (t.get! 0).toNat ≠ 46)
theorem dg_int (m : Nat) (hm : m ≤ 1125899906842624000) (t : ByteArray) (ht : endD t) : intV (dgB m ++ t) = (((m : Int), ((m % 1000 : Nat) : Int)), (dgB m).size) := by
  unfold intV
  have hs : (dgB m ++ t).size = (dgB m).size + t.size := ByteArray.size_append
  rw [intF_run (dgB m ++ t) (Lib.decDigits m) _ 0 (0, 0) (fun j c hj => by
    rw [Nat.zero_add]
    obtain ⟨a, b⟩ := dg_get m t j c hj
    exact ⟨a, b, dec_digits m c (List.mem_of_getElem? hj)⟩) (by rw [hs, dg_size]; omega), dec_fold m hm, ← dg_size, Nat.zero_add]
  refine intF_end _ _ _ ?_
  unfold digB
  refine decide_eq_false ?_
  rintro ⟨h1, h2, h3⟩
  rcases ht with ht | ⟨ht, hd, _⟩
  · omega
  · have e : (dgB m ++ t).get! (dgB m).size = t.get! 0 := by
      rw [get_bang _ _ h1, get_bang t 0 ht, ByteArray.getElem_append_right (Nat.le_refl _)]
      simp only [Nat.sub_self]
    rw [e] at h2 h3
    exact hd ⟨h2, h3⟩
end Go.Proofs.YtaehcnoendieaaaDoor
