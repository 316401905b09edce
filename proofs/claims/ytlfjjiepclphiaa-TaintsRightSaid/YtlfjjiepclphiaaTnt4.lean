/-
  The contract of taints.Unborne.
-/
import Derived.Test.YtlfjjiepclphiaaTnt3
namespace Go.Proofs.Ytlfjjiepclphiaa
open Go.RowKit
set_option linter.unusedVariables false

/-- What is looked at, and not borne. -/
def leftB (l : List Tol) (eff : Int) (x : Tnt) : Bool := (decide (eff = 0) || decide (x.eff = eff)) && !borneB l x
def unborneL (l : List Tol) (xs : List Tnt) (eff : Int) : List Tnt := xs.filter (leftB l eff)
theorem filt_yes {α : Type} {P : α → Bool} {xs : List α} {k : Nat} {x : α} (h : xs[k]? = some x) (hp : P x = true) : (xs.take (k + 1)).filter P = (xs.take k).filter P ++ [x] := by
  rw [take_at h, List.filter_append]; simp [hp]
theorem filt_no {α : Type} {P : α → Bool} {xs : List α} {k : Nat} {x : α} (h : xs[k]? = some x) (hp : P x = false) : (xs.take (k + 1)).filter P = (xs.take k).filter P := by
  rw [take_at h, List.filter_append]; simp [hp]
theorem filt_len {α : Type} (P : α → Bool) (xs : List α) (k : Nat) : ((xs.take k).filter P).length ≤ k := Nat.le_trans (List.length_filter_le _ _) (List.length_take_le _ _)
theorem filt_all {α : Type} (P : α → Bool) {xs : List α} {n : Nat} (h : xs.length = n) : (xs.take n).filter P = xs.filter P := by rw [← h, List.take_length]

set_option maxRecDepth 100000 in
set_option maxHeartbeats 4000000 in
theorem unborne_any (a c : Option Addr) (ka kc : Nat) (l : List Tol) (xs : List Tnt) (eff : Int) (w : World) (hD : TolsAt w a l) (hn : l.length ≤ 1000000) (hF : TntsAt w c xs) (hm : xs.length ≤ 1000000) :
    Calls Try.prog 10 #[.slice a l.length ka, .slice c xs.length kc, .int .i64 eff] w (Gives w (OwnL tcs 3 w.heap.size 30 (unborneL l xs eff))) := by
  have HD := Lib.hid hD
  have HF := Lib.hid hF
  clear hD hF
  obtain ⟨i0, hi, hz0, hz1, hz2⟩ := info_parts Try.info30
  have Hi := Lib.hid hi
  have Hz0 := Lib.hid hz0
  have Hz1 := Lib.hid hz1
  have Hz2 := Lib.hid hz2
  clear hi hz0 hz1 hz2
  obtain ⟨n, hln⟩ : ∃ n, xs.length = n := ⟨_, rfl⟩
  rw [hln] at hm ⊢
  have Hln := Lib.hid hln
  clear hln
  go_enter Try.func10, Try.ntmps10
  go_wp2
  go_loopw [7, 12] (fun v i wr => ∃ k : Nat, k ≤ n ∧ i = .int .i64 k ∧ wr.ownsRow w.heap.size 30 3 v ((xs.take k).filter (leftB l eff)).length (((xs.take k).filter (leftB l eff)).flatMap tcs) ∧ Below w.heap.size w wr) (fun _ i _ => n - (intOf i).toNat)
  case atStart => exact ⟨0, by omega, rfl, World.ownsRow_nil _ _ _ _, by (repeat' (first | with_reducible exact Below.refl _ _ | with_reducible assumption | with_reducible refine Below.drew ?_ | with_reducible refine below_drewN' ?_ _ | with_reducible refine Below.alloc ?_ ?_ _ | with_reducible refine Below.setCell ?_ ?_ _ | with_reducible refine below_step (by assumption) ?_ ?_ | omega | (simp; done) | (simp; omega)))⟩
  case round =>
    obtain ⟨k, hk, rfl, hown, hB⟩ := hrel
    obtain ⟨hcB, hfB⟩ := bcell hB
    have hbz := hB.size
    have Hown := Lib.hid hown
    have HB := Lib.hid hB
    clear hown
    by_cases hlt : k < n
    · obtain ⟨x, hx⟩ := mem_at (l := xs) (k := k) (by rw [Hln.out]; exact hlt)
      have Hx := Lib.hid hx
      obtain ⟨b, off, rfl, hb, hc⟩ := HF.out (by rw [Hln.out]; omega)
      have hbw : b < wr.heap.size := by omega
      obtain ⟨c0, c1, c2⟩ := tnt_cells (hc k x hx)
      clear hc hx
      have HDr := Lib.hid (HD.out.mono hB)
      by_cases he : eff = 0 ∨ x.eff = eff
      · cases hv : borneB l x
        · have Hs := Lib.hid (filt_yes Hx.out (P := leftB l eff) (show leftB l eff x = true by unfold leftB; rw [hv]; rcases he with h | h <;> simp [h]))
          have Hv := Lib.hid hv
          have hL := filt_len (leftB l eff) xs k
          have hc3 : ((xs.take k).filter (leftB l eff)).length + 1 ≤ maxLen := by unfold maxLen; omega
          have hc4 : (((xs.take k).filter (leftB l eff)).length + 1) * 40 ≤ 140737488355328 := by omega
          have Hrow := Lib.hid (show ((xs.take k).filter (leftB l eff)).flatMap tcs ++ tcs x = ((xs.take (k + 1)).filter (leftB l eff)).flatMap tcs by rw [Hs.out]; simp)
          have Hlen := Lib.hid (show ((xs.take k).filter (leftB l eff)).length + 1 = ((xs.take (k + 1)).filter (leftB l eff)).length by rw [Hs.out]; simp)
          clear hL hv
          by_cases h0 : eff = 0
          all_goals
            first | (have k1 : (eff == 0) = true := by rw [h0]; rfl) | (have k1 : (eff == 0) = false := by simpa using h0)
            first | (have k2 : (x.eff == eff) = true := by rcases he with h | h <;> first | exact absurd h h0 | (rw [h]; simp)) | skip
            clear h0 he
            go_wp2_with (first | (go_at_call 27; (with_reducible refine (borne_any a ka l x _ (HDr.out.mono (by (repeat' (first | with_reducible exact Below.refl _ _ | with_reducible assumption | with_reducible refine Below.drew ?_ | with_reducible refine below_drewN' ?_ _ | with_reducible refine Below.alloc ?_ ?_ _ | with_reducible refine Below.setCell ?_ ?_ _ | with_reducible refine below_step (by assumption) ?_ ?_ | omega | (simp; done) | (simp; omega))))) hn).mono ?_); rintro e w5 ⟨rfl, hb5⟩; rw [Hv.out]; obtain ⟨hc5, hf5⟩ := bcell hb5; have hz5 := hb5.size; (try simp at hz5); have HOx := Lib.hid (own_kept (Hown.out.alloc _) hb5); have HBx := Lib.hid (show Below w.heap.size w w5 by (repeat' (first | with_reducible exact Below.refl _ _ | with_reducible assumption | with_reducible refine Below.drew ?_ | with_reducible refine below_drewN' ?_ _ | with_reducible refine Below.alloc ?_ ?_ _ | with_reducible refine Below.setCell ?_ ?_ _ | with_reducible refine below_step (by assumption) ?_ ?_ | omega | (simp; done) | (simp; omega)))); have hbx : w.heap.size ≤ w5.heap.size := by omega) | (at_builtin; refine wpList_append_own _ rfl (.tmp 30) (.tmp 32) 23 rfl w.heap.size 30 i0 _ 3 40 Try.underlying23 Hi.out Hz0.out Hz1.out Hz2.out rfl (by decide) _ ((xs.take k).filter (leftB l eff)).length (((xs.take k).filter (leftB l eff)).flatMap tcs) rfl (HOx.out.alloc _) ⟨w5.heap.size, 0, none⟩ 1 1 (tcs x) rfl rfl (news_at _ _ _) (by first | exact tcs_one _ | exact ocs_one _) hc3 hc4 (le_alloc hbx _) ?_; intro v1 w1 hown1 hgrow1 _; rw [Hrow.out, Hlen.out] at hown1; have hB1 := own_below (HOx.out.alloc _) (HBx.out.alloc hbx _) (le_alloc hbx _) hgrow1; have HO1 := Lib.hid hown1; clear hown1 hgrow1))
            go_roundw
            case rel => exact ⟨k + 1, by omega, by go_num, HO1.out, hB1⟩
            case measure => simp [intOf]; omega
        · have Hs := Lib.hid (filt_no Hx.out (P := leftB l eff) (show leftB l eff x = false by unfold leftB; rw [hv]; simp))
          have Hv := Lib.hid hv
          clear hv
          by_cases h0 : eff = 0
          all_goals
            first | (have k1 : (eff == 0) = true := by rw [h0]; rfl) | (have k1 : (eff == 0) = false := by simpa using h0)
            first | (have k2 : (x.eff == eff) = true := by rcases he with h | h <;> first | exact absurd h h0 | (rw [h]; simp)) | skip
            clear h0 he
            go_wp2_with (go_at_call 27; (with_reducible refine (borne_any a ka l x _ (HDr.out.mono (by (repeat' (first | with_reducible exact Below.refl _ _ | with_reducible assumption | with_reducible refine Below.drew ?_ | with_reducible refine below_drewN' ?_ _ | with_reducible refine Below.alloc ?_ ?_ _ | with_reducible refine Below.setCell ?_ ?_ _ | with_reducible refine below_step (by assumption) ?_ ?_ | omega | (simp; done) | (simp; omega))))) hn).mono ?_); rintro e w5 ⟨rfl, hb5⟩; rw [Hv.out]; obtain ⟨hc5, hf5⟩ := bcell hb5; have hz5 := hb5.size; (try simp at hz5); have HOx := Lib.hid (own_kept (Hown.out.alloc _) hb5))
            go_roundw
            case rel => exact ⟨k + 1, by omega, by go_num, by rw [Hs.out]; exact HOx.out, by (repeat' (first | with_reducible exact Below.refl _ _ | with_reducible assumption | with_reducible refine Below.drew ?_ | with_reducible refine below_drewN' ?_ _ | with_reducible refine Below.alloc ?_ ?_ _ | with_reducible refine Below.setCell ?_ ?_ _ | with_reducible refine below_step (by assumption) ?_ ?_ | omega | (simp; done) | (simp; omega)))⟩
            case measure => simp [intOf]; omega
      · have Hs := Lib.hid (filt_no Hx.out (P := leftB l eff) (show leftB l eff x = false by unfold leftB; rw [decide_eq_false (fun h => he (.inl h)), decide_eq_false (fun h => he (.inr h))]; rfl))
        have k1 : (eff == 0) = false := by simpa using fun h => he (.inl h)
        have k2 : (x.eff == eff) = false := by simpa using fun h => he (.inr h)
        clear he
        go_wp2
        go_roundw
        case rel => exact ⟨k + 1, by omega, by go_num, by rw [Hs.out]; exact Hown.out.alloc _, by (repeat' (first | with_reducible exact Below.refl _ _ | with_reducible assumption | with_reducible refine Below.drew ?_ | with_reducible refine below_drewN' ?_ _ | with_reducible refine Below.alloc ?_ ?_ _ | with_reducible refine Below.setCell ?_ ?_ _ | with_reducible refine below_step (by assumption) ?_ ?_ | omega | (simp; done) | (simp; omega)))⟩
        case measure => simp [intOf]; omega
    · obtain rfl : k = n := by omega
      have HP := Lib.hid (show ∀ v, wr.ownsRow w.heap.size 30 3 v ((xs.take k).filter (leftB l eff)).length (((xs.take k).filter (leftB l eff)).flatMap tcs) → Gives w (OwnL tcs 3 w.heap.size 30 (unborneL l xs eff)) (.returned v) wr from fun v h => Gives.ownL (filt_all _ Hln.out).symm h HB.out)
      go_wp2
      refine bodyPost_ret (by simp [results, Try.results10, go_sem]) rfl (HP.out _ Hown.out)
end Go.Proofs.Ytlfjjiepclphiaa
