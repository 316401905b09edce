/-
  How machines are shared, as a plain function; the contract of similar.Share.
-/
import Derived.Test.YtlgbbfaeclaghaaSim3
import Derived.Deep.OwnRows
namespace Go.Proofs.Ytlgbbfaeclaghaa
open Go.RowKit
set_option linter.unusedVariables false

def shStep (D F : Nat → Int) (n : Nat) (S : Nat → Int) : Nat → Int := if smF D S F n < 0 then S else fun j => if (j : Int) = smF D S F n then S j + 1 else S j
/-- What each got of the first k. -/
def shF (D F : Nat → Int) (n : Nat) : Nat → Nat → Int
  | 0 => fun _ => 0
  | k + 1 => shStep D F n (shF D F n k)

theorem smF_room (D S F : Nat → Int) (k : Nat) (h : 0 ≤ smF D S F k) : D (smF D S F k).toNat + S (smF D S F k).toNat < F (smF D S F k).toNat := by
  induction k with
  | zero => simp [smF] at h
  | succ k ih =>
    by_cases h1 : D k + S k < F k
    · by_cases h2 : smF D S F k < 0 ∨ D k + S k < D (smF D S F k).toNat + S (smF D S F k).toNat
      · rw [smF_yes D S F k h1 h2]; simpa using h1
      · rw [smF_no2 D S F k (by omega) (by omega)] at h ⊢; exact ih h
    · rw [smF_no1 D S F k h1] at h ⊢; exact ih h

theorem shF_bd (D F : Nat → Int) (n : Nat) (bD : ∀ i, i < n → 0 ≤ D i ∧ D i ≤ 200) (bF : ∀ i, i < n → 0 ≤ F i ∧ F i ≤ 200) (k : Nat) : ∀ j, j < n → 0 ≤ shF D F n k j ∧ (0 < shF D F n k j → D j + shF D F n k j ≤ F j) := by
  induction k with
  | zero => intro j _; simp [shF]
  | succ k ih =>
    intro j hj
    show 0 ≤ shStep D F n (shF D F n k) j ∧ (0 < shStep D F n (shF D F n k) j → D j + shStep D F n (shF D F n k) j ≤ F j)
    unfold shStep
    split
    · exact ih j hj
    · rename_i h0
      have hr := smF_room D (shF D F n k) F n (by omega)
      have := ih j hj
      simp only
      split
      · rename_i hji
        rw [← hji] at hr
        simp only [Int.toNat_natCast] at hr
        omega
      · exact this

theorem shF_bd2 (D F : Nat → Int) (n : Nat) (bD : ∀ i, i < n → 0 ≤ D i ∧ D i ≤ 200) (bF : ∀ i, i < n → 0 ≤ F i ∧ F i ≤ 200) (k : Nat) (j : Nat) (hj : j < n) : 0 ≤ shF D F n k j ∧ shF D F n k j ≤ 200 := by
  have h1 := shF_bd D F n bD bF k j hj
  have h2 := bD j hj
  have h3 := bF j hj
  omega

theorem shF_done (D F : Nat → Int) (n k : Nat) (h : smF D (shF D F n k) F n < 0) (l : Nat) : shF D F n (k + l) = shF D F n k := by
  induction l with
  | zero => rfl
  | succ l ih =>
    show shStep D F n (shF D F n (k + l)) = _
    rw [ih, shStep, if_pos h]

theorem shF_end (D F : Nat → Int) (n k N : Nat) (h : smF D (shF D F n k) F n < 0) (hk : k ≤ N) : shF D F n N = shF D F n k := by
  obtain ⟨l, rfl⟩ := Nat.le.dest hk
  exact shF_done D F n k h l

theorem shF_succ (D F : Nat → Int) (n k p : Nat) (h : smF D (shF D F n k) F n = p) (j : Nat) : shF D F n (k + 1) j = if j = p then shF D F n k j + 1 else shF D F n k j := by
  show shStep D F n (shF D F n k) j = _
  rw [shStep, h, if_neg (by omega)]
  simp only [Int.ofNat_inj]

theorem wrongB_not (n m : Nat) (D F : Nat → Int) (h : wrongB n m D F = false) : n = m ∧ n ≤ 16 ∧ (∀ i, i < n → 0 ≤ D i ∧ D i ≤ 200) ∧ (∀ i, i < n → 0 ≤ F i ∧ F i ≤ 200) := by
  simp only [wrongB, Bool.not_eq_false', Bool.and_eq_true, decide_eq_true_eq] at h
  obtain ⟨⟨⟨rfl, h1⟩, h2⟩, h3⟩ := h
  exact ⟨rfl, h1, (okI_iff _ _).1 h2, (okI_iff _ _).1 h3⟩

theorem IntsAt.mono {w w' : World} {a : Option Addr} {n : Nat} {D : Nat → Int} (h : IntsAt w a n D) (hb : Below w.heap.size w w') : IntsAt w' a n D := fun h0 => by
  obtain ⟨b, off, rfl, hb', hc⟩ := h h0
  exact ⟨b, off, rfl, by have := hb.size; omega, fun i hi => by rw [hb.cell (p := ⟨b, off + i, none⟩) hb']; exact hc i hi⟩

/-- How many shares come back. -/
def shL (N : Int) (n m : Nat) (D F : Nat → Int) : Nat := if N < 0 ∨ wrongB n m D F = true then 0 else n

set_option maxRecDepth 100000 in
set_option maxHeartbeats 2000000 in
theorem share_any (N : Int) (a c : Option Addr) (n m ka kc : Nat) (D F : Nat → Int) (w : World) (hD : IntsAt w a n D) (hF : IntsAt w c m F) (hn : n ≤ 1000000) (hm : m ≤ 1000000) (hN : N ≤ 9223372036854775807) :
    Calls Try.prog 7 #[.int .i64 N, .slice a n ka, .slice c m kc] w fun e w' => ∃ r kr, e = .returned (.slice r (shL N n m D F) kr) ∧ IntsAt w' r (shL N n m D F) (shF D F n N.toNat) ∧ Below w.heap.size w w' := by
  by_cases h0 : N < 0
  · have He := Lib.hid (show shL N n m D F = 0 from if_pos (.inl h0))
    go_enter Try.func7, Try.ntmps7
    go_wp2
    refine bodyPost_ret (v := .slice none 0 0) (by simp [results, Try.results7, go_sem]) rfl ⟨none, 0, ?_, ?_, ?_⟩
    · rw [He.out]
    · rw [He.out]; exact fun h => absurd h (by omega)
    · (repeat' (first | with_reducible exact Below.refl _ _ | with_reducible assumption | with_reducible refine Below.drew ?_ | with_reducible refine below_drewN' ?_ _ | with_reducible refine Below.alloc ?_ ?_ _ | with_reducible refine Below.setCell ?_ ?_ _ | with_reducible refine below_step (by assumption) ?_ ?_ | omega | (simp; done) | (simp; omega)))
  by_cases hw : wrongB n m D F = true
  · have He := Lib.hid (show shL N n m D F = 0 from if_pos (.inr hw))
    have HD := Lib.hid hD
    have HF := Lib.hid hF
    clear hD hF
    go_enter Try.func7, Try.ntmps7
    go_wp2_with fail
    (go_at_call 16; refine (wrong_any _ _ _ n m ka kc D F _ (HD.out.mono (by (repeat' (first | with_reducible exact Below.refl _ _ | with_reducible assumption | with_reducible refine Below.drew ?_ | with_reducible refine below_drewN' ?_ _ | with_reducible refine Below.alloc ?_ ?_ _ | with_reducible refine Below.setCell ?_ ?_ _ | with_reducible refine below_step (by assumption) ?_ ?_ | omega | (simp; done) | (simp; omega))))) (HF.out.mono (by (repeat' (first | with_reducible exact Below.refl _ _ | with_reducible assumption | with_reducible refine Below.drew ?_ | with_reducible refine below_drewN' ?_ _ | with_reducible refine Below.alloc ?_ ?_ _ | with_reducible refine Below.setCell ?_ ?_ _ | with_reducible refine below_step (by assumption) ?_ ?_ | omega | (simp; done) | (simp; omega))))) hn hm (by simp [go_sem]) (by simp [go_sem]) (by simp)).mono ?_; rintro e w1 ⟨rfl, hb1⟩)
    obtain ⟨hc1, hf1⟩ := bcell hb1
    have hz1 := hb1.size
    (try simp at hz1)
    go_wp2
    refine bodyPost_ret (v := .slice none 0 0) (by simp [results, Try.results7, go_sem]) rfl ⟨none, 0, ?_, ?_, ?_⟩
    · rw [He.out]
    · rw [He.out]; exact fun h => absurd h (by omega)
    · (repeat' (first | with_reducible exact Below.refl _ _ | with_reducible assumption | with_reducible refine Below.drew ?_ | with_reducible refine below_drewN' ?_ _ | with_reducible refine Below.alloc ?_ ?_ _ | with_reducible refine Below.setCell ?_ ?_ _ | with_reducible refine below_step (by assumption) ?_ ?_ | omega | (simp; done) | (simp; omega)))
  · have hw' : wrongB n m D F = false := by simpa using hw
    obtain ⟨rfl, h16, bD, bF⟩ := wrongB_not n m D F hw'
    have He := Lib.hid (show shL N n n D F = n from if_neg (fun t => t.elim h0 hw))
    have HB := Lib.hid (shF_bd2 D F n bD bF)
    have BD := Lib.hid bD
    have HD := Lib.hid hD
    have HF := Lib.hid hF
    obtain ⟨M, rfl⟩ : ∃ M : Nat, N = M := ⟨N.toNat, by omega⟩
    have hmk := run_make_row' (P := Try.prog) 25 3 (.int .i64 0) 8 Try.underlying25 (by kernel_rfl) rfl .i64 .i64 n (by omega) (by omega)
    have hM0 : decide ((M : Int) < 0) = false := by simp
    clear hD hF hw bD bF hm h0
    go_enter Try.func7, Try.ntmps7
    go_wp2_with fail
    (go_at_call 16; refine (wrong_any _ _ _ n n ka kc D F _ (HD.out.mono (by (repeat' (first | with_reducible exact Below.refl _ _ | with_reducible assumption | with_reducible refine Below.drew ?_ | with_reducible refine below_drewN' ?_ _ | with_reducible refine Below.alloc ?_ ?_ _ | with_reducible refine Below.setCell ?_ ?_ _ | with_reducible refine below_step (by assumption) ?_ ?_ | omega | (simp; done) | (simp; omega))))) (HF.out.mono (by (repeat' (first | with_reducible exact Below.refl _ _ | with_reducible assumption | with_reducible refine Below.drew ?_ | with_reducible refine below_drewN' ?_ _ | with_reducible refine Below.alloc ?_ ?_ _ | with_reducible refine Below.setCell ?_ ?_ _ | with_reducible refine below_step (by assumption) ?_ ?_ | omega | (simp; done) | (simp; omega))))) hn hn (by simp [go_sem]) (by simp [go_sem]) (by simp)).mono ?_; rintro e w1 ⟨rfl, hb1⟩)
    obtain ⟨hc1, hf1⟩ := bcell hb1
    have hz1 := hb1.size
    (try simp at hz1)
    go_wp2
    go_loopw [21] (fun i wr => ∃ k : Nat, k ≤ M ∧ i = .int .i64 k ∧ Below w.heap.size w wr ∧ (∀ j, j < n → wr.cell? ⟨w1.heap.size, j, none⟩ = some (.int .i64 (shF D F n k j))) ∧ (∀ j, j < n → wr.frozen? ⟨w1.heap.size, j, none⟩ = false) ∧ w1.heap.size < wr.heap.size) (fun i _ => M - (intOf i).toNat)
    case atStart => exact ⟨0, by omega, rfl, by (repeat' (first | with_reducible exact Below.refl _ _ | with_reducible assumption | with_reducible refine Below.drew ?_ | with_reducible refine below_drewN' ?_ _ | with_reducible refine Below.alloc ?_ ?_ _ | with_reducible refine Below.setCell ?_ ?_ _ | with_reducible refine below_step (by assumption) ?_ ?_ | omega | (simp; done) | (simp; omega))), fun j hj => by simp [go_sem, madeCells, hj, shF, Nat.mod_one], fun j hj => by simp [go_sem, hj], by simp⟩
    case round =>
      obtain ⟨k, hk, rfl, hB, hcs, hfs, hsz⟩ := hrel
      obtain ⟨hcB, hfB⟩ := bcell hB
      have hS : IntsAt wr (some ⟨w1.heap.size, 0, none⟩) n (shF D F n k) := fun h0 => ⟨_, _, rfl, hsz, fun i hi => by simpa using hcs i hi⟩
      by_cases hlt : k < M
      · have cs := fun kr W (hb : Below wr.heap.size wr W ∧ Below w.heap.size w W) => smallest_any a c (some ⟨w1.heap.size, 0, none⟩) n ka kc kr D (shF D F n k) F W (HD.out.mono hb.2) (hS.mono hb.1) (HF.out.mono hb.2) hn BD.out (fun j hj => HB.out k j hj)
        obtain ⟨g1, g2⟩ := smF_lt D (shF D F n k) F n
        obtain ⟨q, hq⟩ : ∃ q, smF D (shF D F n k) F n = q := ⟨_, rfl⟩
        rw [hq] at cs g1 g2
        have HS := Lib.hid hS
        have Hq := Lib.hid hq
        have Hcs := Lib.hid hcs
        have Hfs := Lib.hid hfs
        clear hq hS hcs hfs
        by_cases hneg : q < 0
        · obtain rfl : q = -1 := by omega
          go_wp2_with fail
          (go_at_call 17; refine (cs _ _ ⟨by (repeat' (first | with_reducible exact Below.refl _ _ | with_reducible assumption | with_reducible refine Below.drew ?_ | with_reducible refine below_drewN' ?_ _ | with_reducible refine Below.alloc ?_ ?_ _ | with_reducible refine Below.setCell ?_ ?_ _ | with_reducible refine below_step (by assumption) ?_ ?_ | omega | (simp; done) | (simp; omega))), by (repeat' (first | with_reducible exact Below.refl _ _ | with_reducible assumption | with_reducible refine Below.drew ?_ | with_reducible refine below_drewN' ?_ _ | with_reducible refine Below.alloc ?_ ?_ _ | with_reducible refine Below.setCell ?_ ?_ _ | with_reducible refine below_step (by assumption) ?_ ?_ | omega | (simp; done) | (simp; omega)))⟩).mono ?_; rintro e w2 ⟨rfl, hb2⟩)
          obtain ⟨hc2, hf2⟩ := bcell hb2
          have hz2 := hb2.size
          (try simp at hz2)
          go_wp2
          refine bodyPost_ret (v := .slice (some ⟨w1.heap.size, 0, none⟩) n n) (by simp [results, Try.results7, go_sem]) rfl ⟨some ⟨w1.heap.size, 0, none⟩, n, ?_, ?_, ?_⟩
          · rw [He.out]
          · rw [He.out, show ((M : Int)).toNat = M by simp, shF_end D F n k M (by rw [Hq.out]; omega) (by omega)]
            exact fun h0 => ⟨_, _, rfl, by (first | omega | (simp; omega)), fun i hi => by have := Hcs.out i hi; simp [go_sem, *]⟩
          · (repeat' (first | with_reducible exact Below.refl _ _ | with_reducible assumption | with_reducible refine Below.drew ?_ | with_reducible refine below_drewN' ?_ _ | with_reducible refine Below.alloc ?_ ?_ _ | with_reducible refine Below.setCell ?_ ?_ _ | with_reducible refine below_step (by assumption) ?_ ?_ | omega | (simp; done) | (simp; omega)))
        · obtain ⟨p, rfl⟩ : ∃ p : Nat, q = p := ⟨q.toNat, by omega⟩
          have hp : p < n := by omega
          have hcp := Hcs.out p hp
          have hfp := Hfs.out p hp
          have hbp := HB.out k p hp
          go_wp2_with fail
          (go_at_call 17; refine (cs _ _ ⟨by (repeat' (first | with_reducible exact Below.refl _ _ | with_reducible assumption | with_reducible refine Below.drew ?_ | with_reducible refine below_drewN' ?_ _ | with_reducible refine Below.alloc ?_ ?_ _ | with_reducible refine Below.setCell ?_ ?_ _ | with_reducible refine below_step (by assumption) ?_ ?_ | omega | (simp; done) | (simp; omega))), by (repeat' (first | with_reducible exact Below.refl _ _ | with_reducible assumption | with_reducible refine Below.drew ?_ | with_reducible refine below_drewN' ?_ _ | with_reducible refine Below.alloc ?_ ?_ _ | with_reducible refine Below.setCell ?_ ?_ _ | with_reducible refine below_step (by assumption) ?_ ?_ | omega | (simp; done) | (simp; omega)))⟩).mono ?_; rintro e w2 ⟨rfl, hb2⟩)
          obtain ⟨hc2, hf2⟩ := bcell hb2
          have hz2 := hb2.size
          (try simp at hz2)
          go_wp2
          go_roundw
          case rel => exact ⟨k + 1, by omega, by go_num, by (repeat' (first | with_reducible exact Below.refl _ _ | with_reducible assumption | with_reducible refine Below.drew ?_ | with_reducible refine below_drewN' ?_ _ | with_reducible refine Below.alloc ?_ ?_ _ | with_reducible refine Below.setCell ?_ ?_ _ | with_reducible refine below_step (by assumption) ?_ ?_ | omega | (simp; done) | (simp; omega))), fun j hj => by
            rw [shF_succ D F n k p Hq.out]
            have hc := Hcs.out j hj
            by_cases hjp : j = p
            · subst hjp; simp [go_sem, *]
            · rw [if_neg hjp]; simp [go_sem, *], fun j hj => by have := Hfs.out j hj; simp [go_sem, *], by simp; omega⟩
          case measure => simp [intOf]; omega
      · obtain rfl : k = M := by omega
        go_wp2
        refine bodyPost_ret (v := .slice (some ⟨w1.heap.size, 0, none⟩) n n) (by simp [results, Try.results7, go_sem]) rfl ⟨some ⟨w1.heap.size, 0, none⟩, n, ?_, ?_, ?_⟩
        · rw [He.out]
        · rw [He.out, show ((k : Int)).toNat = k by simp]
          exact fun h0 => ⟨_, _, rfl, by (first | omega | (simp; omega)), fun i hi => by have := hcs i hi; simp [go_sem, *]⟩
        · (repeat' (first | with_reducible exact Below.refl _ _ | with_reducible assumption | with_reducible refine Below.drew ?_ | with_reducible refine below_drewN' ?_ _ | with_reducible refine Below.alloc ?_ ?_ _ | with_reducible refine Below.setCell ?_ ?_ _ | with_reducible refine below_step (by assumption) ?_ ?_ | omega | (simp; done) | (simp; omega)))
end Go.Proofs.Ytlgbbfaeclaghaa
