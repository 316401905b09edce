/-
  Which operations are short enough; Note at any time.
-/
import Derived.Test.YteccmjbgedmfhaaTmOp
import Derived.Test.YteccmjbgedmfhaaTm2
namespace Go.Proofs.Yteccmjbgedmfhaa
open Go.RowKit
set_option linter.unusedVariables false
set_option linter.unusedSimpArgs false

def lightB (l : List ByteArray) : Bool := decide (l.length ≤ 20) && l.all fun s => decide (s.size ≤ 300)
theorem light_le {l : List ByteArray} (h : lightB l = true) : l.length ≤ 20 ∧ ∀ s ∈ l, s.size ≤ 300 := by
  unfold lightB at h
  rw [Bool.and_eq_true, List.all_eq_true] at h
  exact ⟨of_decide_eq_true h.1, fun s hs => of_decide_eq_true (h.2 s hs)⟩
def opagg (x : Opn) : Value := .agg (oprow x).toArray
set_option maxRecDepth 100000 in
set_option maxHeartbeats 4000000 in
theorem light_any (x : Opn) (w : World) (hF : TxtL w x.ad x.nm) : Calls Try.prog 8 #[.agg #[.int .i64 x.kd, .slice x.ad x.nm.length x.cp, .int .i64 x.nw, .int .i64 x.lg]] w fun e w' => e = .returned (.bool (lightB x.nm)) ∧ Below w.heap.size w w' := by
  obtain ⟨kd, a, cp, l, nw, lg⟩ := x
  dsimp only at hF ⊢
  have HF := Lib.hid hF
  clear hF
  obtain ⟨q, hq⟩ : ∃ q, l.length = q := ⟨_, rfl⟩
  have Hq := Lib.hid hq
  by_cases h3 : q ≤ 20
  · have k3 : decide ((20 : Int) < (q : Int)) = false := decide_eq_false (by omega)
    rw [hq]
    clear hq
    go_enter Try.func8, Try.ntmps8
    go_wp2
    go_loopw [3] (fun i wr => ∃ k : Nat, k ≤ q ∧ i = .int .i64 k ∧ (∀ s ∈ l.take k, s.size ≤ 300) ∧ wr = w.alloc (.cells #[.int .i64 kd, .slice a q cp, .int .i64 nw, .int .i64 lg] 31)) (fun i _ => q - (intOf i).toNat)
    case atStart => exact ⟨0, Nat.zero_le _, rfl, by simp, by first | rfl | trivial⟩
    case round =>
      obtain ⟨k, hk, rfl, hs, rfl⟩ := hrel
      have Hs := Lib.hid hs
      clear hs
      by_cases hlt : k < q
      · obtain ⟨x, hx⟩ := mem_at (l := l) (k := k) (by rw [Hq.out]; exact hlt)
        obtain ⟨b1, o1, rfl, hb1, hc1⟩ := HF.out (by rw [Hq.out]; omega)
        have d1 := txt_cell (hc1 k x hx)
        rw [Nat.mul_one] at d1
        have Hx := Lib.hid hx
        have hb2 : b1 ≤ w.heap.size := by omega
        clear hc1 hx
        by_cases hsz : x.size ≤ 300
        · have k4 : decide ((300 : Int) < (x.size : Int)) = false := decide_eq_false (by omega)
          go_wp2
          go_roundw
          case rel =>
            refine ⟨k + 1, by omega, by go_num, fun s hs => ?_, trivial⟩
            rw [take_at Hx.out, List.mem_append] at hs
            rcases hs with hs | hs
            · exact Hs.out s hs
            · obtain rfl : s = x := by simpa using hs
              exact hsz
          case measure => simp [intOf]; omega
        · have k4 : decide ((300 : Int) < (x.size : Int)) = true := decide_eq_true (by omega)
          have e : lightB l = false := by
            cases h : lightB l with
            | false => rfl
            | true => exact absurd ((light_le h).2 x (List.mem_of_getElem? Hx.out)) hsz
          go_wp2
          go_ret
          exact ⟨by rw [e]; rfl, by (repeat' (first | with_reducible exact Below.refl _ _ | with_reducible assumption | with_reducible refine Below.drew ?_ | with_reducible refine below_drewN' ?_ _ | with_reducible refine Below.alloc ?_ ?_ _ | with_reducible refine Below.setCell ?_ ?_ _ | with_reducible refine below_step (by assumption) ?_ ?_ | omega | (simp; done) | (simp; omega)))⟩
      · obtain rfl : k = q := by omega
        have e : lightB l = true := by
          unfold lightB
          rw [Bool.and_eq_true, List.all_eq_true]
          refine ⟨decide_eq_true (by rw [Hq.out]; exact h3), fun s hs => decide_eq_true (Hs.out s ?_)⟩
          rwa [List.take_of_length_le (Nat.le_of_eq Hq.out)]
        go_wp2
        go_ret
        exact ⟨by rw [e]; rfl, by (repeat' (first | with_reducible exact Below.refl _ _ | with_reducible assumption | with_reducible refine Below.drew ?_ | with_reducible refine below_drewN' ?_ _ | with_reducible refine Below.alloc ?_ ?_ _ | with_reducible refine Below.setCell ?_ ?_ _ | with_reducible refine below_step (by assumption) ?_ ?_ | omega | (simp; done) | (simp; omega)))⟩
  · have k3 : decide ((20 : Int) < (q : Int)) = true := decide_eq_true (by omega)
    have e : lightB l = false := by
      cases h : lightB l with
      | false => rfl
      | true => exact absurd (light_le h).1 (by rw [hq]; exact h3)
    rw [hq, e]
    clear hq
    go_enter Try.func8, Try.ntmps8
    go_wp2
    go_ret
    exact ⟨rfl, by (repeat' (first | with_reducible exact Below.refl _ _ | with_reducible assumption | with_reducible refine Below.drew ?_ | with_reducible refine below_drewN' ?_ _ | with_reducible refine Below.alloc ?_ ?_ _ | with_reducible refine Below.setCell ?_ ?_ _ | with_reducible refine below_step (by assumption) ?_ ?_ | omega | (simp; done) | (simp; omega)))⟩
/-- What a Note leaves, whatever the time. -/
def noteA (T : ByteArray → Option Int) (l : List ByteArray) (now : Int) : ByteArray → Option Int := if timeB now then noteT T l now else T
theorem note_all (b m : Nat) (T : ByteArray → Option Int) (n : Nat) (a : Option Addr) (ka : Nat) (l : List ByteArray) (now : Int) (w : World) (h : TB w b m T n) (hn : n ≤ 1000000) (hF : TxtL w a l) (hl : l.length ≤ 1000000) (hs : ∀ s ∈ l, s.size ≤ maxLen) :
    Calls Try.prog 9 #[.pointer (some ⟨b, 0, none⟩), .slice a l.length ka, .int .i64 now] w fun e w' => e = .returned (.tuple #[]) ∧ TB w' b m (noteA T l now) (n + l.length) ∧ Only [b, m] w w' := by
  cases ht : timeB now with
  | true =>
    have h1 := of_decide_eq_true ht
    have e : noteA T l now = noteT T l now := if_pos ht
    rw [e]
    exact note_yes b m T n a ka l now w h hn hF hl hs h1.1 h1.2
  | false =>
    have e : noteA T l now = T := if_neg (by rw [ht]; exact Bool.false_ne_true)
    rw [e]
    exact (note_not b m T n _ now w h ht).mono fun e w' ⟨he, hw⟩ => ⟨he, by rw [hw]; exact h.mono (by omega), by rw [hw]; exact Only.refl _ _⟩
end Go.Proofs.Yteccmjbgedmfhaa
