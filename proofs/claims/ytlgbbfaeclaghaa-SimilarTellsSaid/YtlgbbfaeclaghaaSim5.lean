/-
  The contract of triremeref22.Share.
-/
import Derived.Test.YtlgbbfaeclaghaaSim4
namespace Go.Proofs.Ytlgbbfaeclaghaa
open Go.RowKit
set_option linter.unusedVariables false

theorem wrongB_of (n : Nat) (D F : Nat → Int) (h16 : n ≤ 16) (h1 : okI D n = true) (h2 : okI F n = true) : wrongB n n D F = false := by simp [wrongB, h16, h1, h2]
theorem wrongB_at (n m : Nat) (D F : Nat → Int) (k : Nat) (hk : k < n) (h : D k < 0 ∨ 200 < D k ∨ F k < 0 ∨ 200 < F k) : wrongB n m D F = true := by
  cases hw : wrongB n m D F with
  | true => rfl
  | false =>
    obtain ⟨rfl, _, b1, b2⟩ := wrongB_not n m D F hw
    have := b1 k hk
    have := b2 k hk
    omega

def ShPost (w : World) (L : Nat) (S : Nat → Int) (e : Ending) (w' : World) : Prop := ∃ r kr, e = .returned (.slice r L kr) ∧ IntsAt w' r L S ∧ Below w.heap.size w w'
theorem ShPost.nil {w : World} {L : Nat} {S : Nat → Int} {w' : World} (h : L = 0) (hb : Below w.heap.size w w') : ShPost w L S (.returned (.slice none 0 0)) w' := ⟨none, 0, by rw [h], fun h0 => absurd h0 (by omega), hb⟩
theorem ShPost.mk {w : World} {L : Nat} {S : Nat → Int} {w' : World} {r : Option Addr} {n : Nat} (h : L = n) (hi : IntsAt w' r n S) (hb : Below w.heap.size w w') : ShPost w L S (.returned (.slice r n n)) w' := ⟨r, n, by rw [h], by rw [h]; exact hi, hb⟩

set_option maxRecDepth 100000 in
set_option maxHeartbeats 2000000 in
theorem refshare_any (N : Int) (a c : Option Addr) (n m ka kc : Nat) (D F : Nat → Int) (w : World) (hD : IntsAt w a n D) (hF : IntsAt w c m F) (hn : n ≤ 1000000) (hm : m ≤ 1000000) (hN : N ≤ 9223372036854775807) :
    Calls Try.prog 9 #[.int .i64 N, .slice a n ka, .slice c m kc] w fun e w' => ShPost w (shL N n m D F) (fun j => shF D F n N.toNat j) e w' := by
  by_cases hq : ¬ n = m ∨ ¬ n ≤ 16 ∨ N < 0
  · have He := Lib.hid (show shL N n m D F = 0 from by
      refine if_pos ?_
      rcases hq with h | h | h
      · right; simp [wrongB, h]
      · right; simp [wrongB, h]
      · exact .inl h)
    have hc : (((n : Int) != (m : Int)) || (decide ((16 : Int) < (n : Int)) || decide (N < 0))) = true := by
      rcases hq with h | h | h
      · have : ((n : Int) != (m : Int)) = true := by simp; omega
        simp [this]
      · have : ((16 : Int) < (n : Int)) := by omega
        simp [this]
      · simp [h]
    clear hq
    go_enter Try.func9, Try.ntmps9
    by_cases h1 : n = m
    · subst h1
      by_cases h2 : (16 : Int) < (n : Int)
      · go_wp2
        refine bodyPost_ret (v := .slice none 0 0) (by simp [results, Try.results9, go_sem]) rfl (ShPost.nil He.out ?_)
        (repeat' (first | with_reducible exact Below.refl _ _ | with_reducible assumption | with_reducible refine Below.drew ?_ | with_reducible refine below_drewN' ?_ _ | with_reducible refine Below.alloc ?_ ?_ _ | with_reducible refine Below.setCell ?_ ?_ _ | with_reducible refine below_step (by assumption) ?_ ?_ | omega | (simp; done) | (simp; omega)))
      · have h3 : N < 0 := by simpa [h2] using hc
        go_wp2
        refine bodyPost_ret (v := .slice none 0 0) (by simp [results, Try.results9, go_sem]) rfl (ShPost.nil He.out ?_)
        (repeat' (first | with_reducible exact Below.refl _ _ | with_reducible assumption | with_reducible refine Below.drew ?_ | with_reducible refine below_drewN' ?_ _ | with_reducible refine Below.alloc ?_ ?_ _ | with_reducible refine Below.setCell ?_ ?_ _ | with_reducible refine below_step (by assumption) ?_ ?_ | omega | (simp; done) | (simp; omega)))
    · have h2 : ((n : Int) != (m : Int)) = true := by simp; omega
      go_wp2
      refine bodyPost_ret (v := .slice none 0 0) (by simp [results, Try.results9, go_sem]) rfl (ShPost.nil He.out ?_)
      (repeat' (first | with_reducible exact Below.refl _ _ | with_reducible assumption | with_reducible refine Below.drew ?_ | with_reducible refine below_drewN' ?_ _ | with_reducible refine Below.alloc ?_ ?_ _ | with_reducible refine Below.setCell ?_ ?_ _ | with_reducible refine below_step (by assumption) ?_ ?_ | omega | (simp; done) | (simp; omega)))
  · obtain ⟨rfl, h16, h0⟩ : n = m ∧ n ≤ 16 ∧ 0 ≤ N := ⟨by omega, by omega, by omega⟩
    obtain ⟨M, rfl⟩ : ∃ M : Nat, N = M := ⟨N.toNat, by omega⟩
    have HD := Lib.hid hD
    have HF := Lib.hid hF
    clear hD hF hq hm h0
    have d16 : decide ((16 : Int) < (n : Int)) = false := by simp; omega
    have hM0 : decide ((M : Int) < 0) = false := by simp
    have hmk := run_make_row' (P := Try.prog) 25 3 (.int .i64 0) 8 Try.underlying25 (by kernel_rfl) rfl .i64 .i64 n (by omega) (by omega)
    go_enter Try.func9, Try.ntmps9
    go_wp2
    go_loopw [7] (fun i wr => ∃ k : Nat, k ≤ n ∧ i = .int .i64 k ∧ Below w.heap.size w wr ∧ okI D k = true ∧ okI F k = true) (fun i _ => n - (intOf i).toNat)
    case atStart => exact ⟨0, by omega, rfl, by (repeat' (first | with_reducible exact Below.refl _ _ | with_reducible assumption | with_reducible refine Below.drew ?_ | with_reducible refine below_drewN' ?_ _ | with_reducible refine Below.alloc ?_ ?_ _ | with_reducible refine Below.setCell ?_ ?_ _ | with_reducible refine below_step (by assumption) ?_ ?_ | omega | (simp; done) | (simp; omega))), rfl, rfl⟩
    case round =>
      obtain ⟨k, hk, rfl, hB, hE1, hE2⟩ := hrel
      obtain ⟨hcB, hfB⟩ := bcell hB
      have HE1 := Lib.hid hE1
      have HE2 := Lib.hid hE2
      clear hE1 hE2
      by_cases hlt : k < n
      · obtain ⟨b, off, rfl, hb, hc⟩ := HD.out (by omega)
        obtain ⟨b2, off2, rfl, hb2, hc2⟩ := HF.out (by omega)
        have hbw : b < wr.heap.size := by have := hB.size; omega
        have hbw2 : b2 < wr.heap.size := by have := hB.size; omega
        by_cases h1 : D k < 0
        · have He := Lib.hid (show shL M n n D F = 0 from if_pos (.inr (wrongB_at n n D F k hlt (.inl h1))))
          go_wp2
          refine bodyPost_ret (v := .slice none 0 0) (by simp [results, Try.results9, go_sem]) rfl (ShPost.nil He.out ?_)
          (repeat' (first | with_reducible exact Below.refl _ _ | with_reducible assumption | with_reducible refine Below.drew ?_ | with_reducible refine below_drewN' ?_ _ | with_reducible refine Below.alloc ?_ ?_ _ | with_reducible refine Below.setCell ?_ ?_ _ | with_reducible refine below_step (by assumption) ?_ ?_ | omega | (simp; done) | (simp; omega)))
        by_cases h2 : 200 < D k
        · have He := Lib.hid (show shL M n n D F = 0 from if_pos (.inr (wrongB_at n n D F k hlt (.inr (.inl h2)))))
          go_wp2
          refine bodyPost_ret (v := .slice none 0 0) (by simp [results, Try.results9, go_sem]) rfl (ShPost.nil He.out ?_)
          (repeat' (first | with_reducible exact Below.refl _ _ | with_reducible assumption | with_reducible refine Below.drew ?_ | with_reducible refine below_drewN' ?_ _ | with_reducible refine Below.alloc ?_ ?_ _ | with_reducible refine Below.setCell ?_ ?_ _ | with_reducible refine below_step (by assumption) ?_ ?_ | omega | (simp; done) | (simp; omega)))
        by_cases h3 : F k < 0
        · have He := Lib.hid (show shL M n n D F = 0 from if_pos (.inr (wrongB_at n n D F k hlt (.inr (.inr (.inl h3))))))
          go_wp2
          refine bodyPost_ret (v := .slice none 0 0) (by simp [results, Try.results9, go_sem]) rfl (ShPost.nil He.out ?_)
          (repeat' (first | with_reducible exact Below.refl _ _ | with_reducible assumption | with_reducible refine Below.drew ?_ | with_reducible refine below_drewN' ?_ _ | with_reducible refine Below.alloc ?_ ?_ _ | with_reducible refine Below.setCell ?_ ?_ _ | with_reducible refine below_step (by assumption) ?_ ?_ | omega | (simp; done) | (simp; omega)))
        by_cases h4 : 200 < F k
        · have He := Lib.hid (show shL M n n D F = 0 from if_pos (.inr (wrongB_at n n D F k hlt (.inr (.inr (.inr h4))))))
          go_wp2
          refine bodyPost_ret (v := .slice none 0 0) (by simp [results, Try.results9, go_sem]) rfl (ShPost.nil He.out ?_)
          (repeat' (first | with_reducible exact Below.refl _ _ | with_reducible assumption | with_reducible refine Below.drew ?_ | with_reducible refine below_drewN' ?_ _ | with_reducible refine Below.alloc ?_ ?_ _ | with_reducible refine Below.setCell ?_ ?_ _ | with_reducible refine below_step (by assumption) ?_ ?_ | omega | (simp; done) | (simp; omega)))
        · go_wp2
          go_roundw
          case rel => exact ⟨k + 1, by omega, by go_num, by (repeat' (first | with_reducible exact Below.refl _ _ | with_reducible assumption | with_reducible refine Below.drew ?_ | with_reducible refine below_drewN' ?_ _ | with_reducible refine Below.alloc ?_ ?_ _ | with_reducible refine Below.setCell ?_ ?_ _ | with_reducible refine below_step (by assumption) ?_ ?_ | omega | (simp; done) | (simp; omega))), by simp [okI, HE1.out]; omega, by simp [okI, HE2.out]; omega⟩
          case measure => simp [intOf]; omega
      · obtain rfl : k = n := by omega
        have hw := wrongB_of k D F h16 HE1.out HE2.out
        have He := Lib.hid (show shL M k k D F = k from if_neg (fun t => t.elim (by omega) (by rw [hw]; simp)))
        have BD := Lib.hid ((okI_iff D k).1 HE1.out)
        have BF := Lib.hid ((okI_iff F k).1 HE2.out)
        have HB := Lib.hid (shF_bd2 D F k BD.out BF.out)
        clear hw
        go_wp2
        obtain ⟨w5, hw5⟩ : ∃ w5, w5 = wr := ⟨_, rfl⟩
        subst hw5
        have hzB := hB.size
        go_loopw [0] (fun v wx => ∃ t : Nat, t ≤ M ∧ v = .int .i64 ((M : Int) - t) ∧ Below w.heap.size w wx ∧ (∀ j, j < k → wx.cell? ⟨w5.heap.size, j, none⟩ = some (.int .i64 (shF D F k t j))) ∧ (∀ j, j < k → wx.frozen? ⟨w5.heap.size, j, none⟩ = false) ∧ w5.heap.size < wx.heap.size) (fun v _ => (intOf v).toNat)
        case atStart => exact ⟨0, by omega, by simp, by (repeat' (first | with_reducible exact Below.refl _ _ | with_reducible assumption | with_reducible refine Below.drew ?_ | with_reducible refine below_drewN' ?_ _ | with_reducible refine Below.alloc ?_ ?_ _ | with_reducible refine Below.setCell ?_ ?_ _ | with_reducible refine below_step (by assumption) ?_ ?_ | omega | (simp; done) | (simp; omega))), fun j hj => by simp [go_sem, madeCells, hj, shF, Nat.mod_one], fun j hj => by simp [go_sem, hj], by simp⟩
        case round =>
          obtain ⟨w6, hw6⟩ : ∃ w6, w6 = wr := ⟨_, rfl⟩
          subst hw6
          obtain ⟨t, ht, rfl, hC, hcs, hfs, hsz⟩ := hrel
          obtain ⟨hcC, hfC⟩ := bcell hC
          have hzC := hC.size
          have Hcs := Lib.hid hcs
          have Hfs := Lib.hid hfs
          clear hcs hfs
          by_cases hlt : t < M
          · have hp0 : decide ((0 : Int) < (M : Int) - t) = true := by simp; omega
            go_wp2
            go_loopw [9, 10] (fun v i wx => ∃ l : Nat, l ≤ k ∧ i = .int .i64 l ∧ v = .int .i64 (smF D (shF D F k t) F l) ∧ Below w6.heap.size w6 wx) (fun _ i _ => k - (intOf i).toNat)
            case atStart => exact ⟨0, by omega, rfl, rfl, by (repeat' (first | with_reducible exact Below.refl _ _ | with_reducible assumption | with_reducible refine Below.drew ?_ | with_reducible refine below_drewN' ?_ _ | with_reducible refine Below.alloc ?_ ?_ _ | with_reducible refine Below.setCell ?_ ?_ _ | with_reducible refine below_step (by assumption) ?_ ?_ | omega | (simp; done) | (simp; omega)))⟩
            case round =>
              obtain ⟨l, hl, rfl, rfl, hE⟩ := hrel
              obtain ⟨hcE, hfE⟩ := bcell hE
              have hzE := hE.size
              by_cases hll : l < k
              · obtain ⟨b, off, rfl, hb, hc⟩ := HD.out (by omega)
                obtain ⟨b3, off3, rfl, hb3, hc3⟩ := HF.out (by omega)
                have hbw : b < w6.heap.size := by omega
                have hbw3 : b3 < w6.heap.size := by omega
                have hbx : b < wr.heap.size := by omega
                have hbx3 : b3 < wr.heap.size := by omega
                have hbo : w5.heap.size < wr.heap.size := by omega
                have b1 := BD.out l hll
                have b2' := HB.out t l hll
                have hcl := Hcs.out l hll
                have L1 := smF_yes D (shF D F k t) F l
                have L2 := smF_no1 D (shF D F k t) F l
                have L3 := smF_no2 D (shF D F k t) F l
                obtain ⟨g1, g2⟩ := smF_lt D (shF D F k t) F l
                obtain ⟨q, hq⟩ : ∃ q, smF D (shF D F k t) F l = q := ⟨_, rfl⟩
                rw [hq] at L1 L2 L3 g1 g2 ⊢
                clear hq
                have H1 := Lib.hid L1
                have H2 := Lib.hid L2
                have H3 := Lib.hid L3
                clear L1 L2 L3
                have hwl : IntKind.i64.wrap (D l + shF D F k t l) = D l + shF D F k t l := i64_in _ (by omega) (by omega)
                by_cases h1 : D l + shF D F k t l < F l
                · by_cases h2 : q < 0
                  · obtain rfl : q = -1 := by omega
                    have He := Lib.hid (H1.out h1 (.inl h2))
                    clear g1 g2 h2
                    go_wp2
                    (try go_quiet (fail))
                    (try go_wp2)
                    go_roundw
                    case rel => exact ⟨l + 1, by omega, by go_num, by simp [He.out], by (repeat' (first | with_reducible exact Below.refl _ _ | with_reducible assumption | with_reducible refine Below.drew ?_ | with_reducible refine below_drewN' ?_ _ | with_reducible refine Below.alloc ?_ ?_ _ | with_reducible refine Below.setCell ?_ ?_ _ | with_reducible refine below_step (by assumption) ?_ ?_ | omega | (simp; done) | (simp; omega)))⟩
                    case measure => simp [intOf]; omega
                  · obtain ⟨p, rfl⟩ : ∃ p : Nat, q = p := ⟨q.toNat, by omega⟩
                    have hp : p < k := by omega
                    have c1 := BD.out p hp
                    have c2 := HB.out t p hp
                    have hcp := Hcs.out p hp
                    have hwp : IntKind.i64.wrap (D p + shF D F k t p) = D p + shF D F k t p := i64_in _ (by omega) (by omega)
                    clear g1 g2
                    by_cases h3 : D l + shF D F k t l < D p + shF D F k t p
                    · have He := Lib.hid (H1.out h1 (.inr (by simpa using h3)))
                      go_wp2
                      (try go_quiet (fail))
                      (try go_wp2)
                      go_roundw
                      case rel => exact ⟨l + 1, by omega, by go_num, by simp [He.out], by (repeat' (first | with_reducible exact Below.refl _ _ | with_reducible assumption | with_reducible refine Below.drew ?_ | with_reducible refine below_drewN' ?_ _ | with_reducible refine Below.alloc ?_ ?_ _ | with_reducible refine Below.setCell ?_ ?_ _ | with_reducible refine below_step (by assumption) ?_ ?_ | omega | (simp; done) | (simp; omega)))⟩
                      case measure => simp [intOf]; omega
                    · have He := Lib.hid (H3.out (by omega) (by simpa using h3))
                      go_wp2
                      (try go_quiet (fail))
                      (try go_wp2)
                      go_roundw
                      case rel => exact ⟨l + 1, by omega, by go_num, by simp [He.out], by (repeat' (first | with_reducible exact Below.refl _ _ | with_reducible assumption | with_reducible refine Below.drew ?_ | with_reducible refine below_drewN' ?_ _ | with_reducible refine Below.alloc ?_ ?_ _ | with_reducible refine Below.setCell ?_ ?_ _ | with_reducible refine below_step (by assumption) ?_ ?_ | omega | (simp; done) | (simp; omega)))⟩
                      case measure => simp [intOf]; omega
                · have He := Lib.hid (H2.out h1)
                  have hd1 : decide (D l + shF D F k t l < F l) = false := by simpa using h1
                  clear g1 g2 h1
                  go_wp2
                  (try go_quiet (fail))
                  (try go_wp2)
                  go_roundw
                  case rel => exact ⟨l + 1, by omega, by go_num, by simp [He.out], by (repeat' (first | with_reducible exact Below.refl _ _ | with_reducible assumption | with_reducible refine Below.drew ?_ | with_reducible refine below_drewN' ?_ _ | with_reducible refine Below.alloc ?_ ?_ _ | with_reducible refine Below.setCell ?_ ?_ _ | with_reducible refine below_step (by assumption) ?_ ?_ | omega | (simp; done) | (simp; omega)))⟩
                  case measure => simp [intOf]; omega
              · obtain rfl : l = k := by omega
                have hroom := smF_lt D (shF D F l t) F l
                obtain ⟨q, hq⟩ : ∃ q, smF D (shF D F l t) F l = q := ⟨_, rfl⟩
                rw [hq] at hroom ⊢
                have Hq := Lib.hid hq
                clear hq
                have hbo : w5.heap.size < wr.heap.size := by omega
                by_cases hneg : q < 0
                · obtain rfl : q = -1 := by omega
                  go_wp2
                  refine bodyPost_ret (v := .slice (some ⟨w5.heap.size, 0, none⟩) l l) (by simp [results, Try.results9, go_sem]) rfl (ShPost.mk He.out ?_ ?_)
                  · show IntsAt _ _ _ (shF D F l (M : Int).toNat)
                    rw [show (M : Int).toNat = M by simp, shF_end D F l t M (by rw [Hq.out]; omega) (by omega)]
                    exact fun h0 => ⟨_, _, rfl, by first | omega | (simp; omega), fun i hi => by have := Hcs.out i hi; simp [go_sem, *]⟩
                  · (repeat' (first | with_reducible exact Below.refl _ _ | with_reducible assumption | with_reducible refine Below.drew ?_ | with_reducible refine below_drewN' ?_ _ | with_reducible refine Below.alloc ?_ ?_ _ | with_reducible refine Below.setCell ?_ ?_ _ | with_reducible refine below_step (by assumption) ?_ ?_ | omega | (simp; done) | (simp; omega)))
                · obtain ⟨p, rfl⟩ : ∃ p : Nat, q = p := ⟨q.toNat, by omega⟩
                  have hp : p < l := by omega
                  have hcp := Hcs.out p hp
                  have hfp := Hfs.out p hp
                  have hbp := HB.out t p hp
                  go_wp2
                  go_roundw
                  case rel => exact ⟨t + 1, by omega, by first | (go_num; done) | (simp; omega), by (repeat' (first | with_reducible exact Below.refl _ _ | with_reducible assumption | with_reducible refine Below.drew ?_ | with_reducible refine below_drewN' ?_ _ | with_reducible refine Below.alloc ?_ ?_ _ | with_reducible refine Below.setCell ?_ ?_ _ | with_reducible refine below_step (by assumption) ?_ ?_ | omega | (simp; done) | (simp; omega))), fun j hj => by
                    rw [shF_succ D F l t p Hq.out]
                    have hc := Hcs.out j hj
                    by_cases hjp : j = p
                    · subst hjp; simp [go_sem, *]
                    · rw [if_neg hjp]; simp [go_sem, *], fun j hj => by have := Hfs.out j hj; simp [go_sem, *], by simp; omega⟩
                  case measure => simp [intOf]; omega
          · obtain rfl : t = M := by omega
            go_wp2
            refine bodyPost_ret (v := .slice (some ⟨w5.heap.size, 0, none⟩) k k) (by simp [results, Try.results9, go_sem]) rfl (ShPost.mk He.out ?_ ?_)
            · show IntsAt _ _ _ (shF D F k (t : Int).toNat)
              rw [show (t : Int).toNat = t by simp]
              exact fun h0 => ⟨_, _, rfl, by first | omega | (simp; omega), fun i hi => by have := Hcs.out i hi; simp [go_sem, *]⟩
            · (repeat' (first | with_reducible exact Below.refl _ _ | with_reducible assumption | with_reducible refine Below.drew ?_ | with_reducible refine below_drewN' ?_ _ | with_reducible refine Below.alloc ?_ ?_ _ | with_reducible refine Below.setCell ?_ ?_ _ | with_reducible refine below_step (by assumption) ?_ ?_ | omega | (simp; done) | (simp; omega)))
end Go.Proofs.Ytlgbbfaeclaghaa
