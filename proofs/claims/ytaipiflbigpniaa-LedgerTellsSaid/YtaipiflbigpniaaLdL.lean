/-
  The ledger's law: light, of lists of instances.
-/
import Derived.Test.YtaipiflbigpniaaLd4
namespace Go.Proofs.Ytaipiflbigpniaa
open Go.RowKit
set_option linter.unusedVariables false
set_option linter.unusedSimpArgs false

structure Sl where
  c : Option Addr
  k : Nat
  L : List Ins
def slr (x : Sl) : List Value := [.slice x.c x.L.length x.k]
theorem slr_len (x : Sl) : (slr x).length = 1 := rfl
abbrev SlL := RowsAt slr 1
def litI (y : Ins) : Bool := decide (y.gp.size ≤ 300) && decide (y.nm.size ≤ 300)
def litR (x : Sl) : Bool := decide (x.L.length ≤ 60) && x.L.all litI
def litS (xs : List Sl) : Bool := decide (xs.length ≤ 30) && xs.all litR
theorem all_step {α : Type} {P : α → Bool} {l : List α} {k : Nat} {x : α} (h : (l.take k).all P = true) (hx : l[k]? = some x) (hp : P x = true) : (l.take (k + 1)).all P = true := by
  rw [take_at hx, List.all_append, h]
  simp [hp]
theorem all_not {α : Type} {P : α → Bool} {l : List α} {k : Nat} {x : α} (hx : l[k]? = some x) (hp : P x = false) : l.all P = false := by
  rw [Bool.eq_false_iff]
  intro e
  have := List.all_eq_true.1 e x (List.mem_of_getElem? hx)
  rw [hp] at this
  cases this

set_option maxRecDepth 100000 in
set_option maxHeartbeats 8000000 in
theorem llight_any (a : Option Addr) (ka : Nat) (xs : List Sl) (w : World) (hF : SlL w a xs) (hI : ∀ x ∈ xs, InsL w x.c x.L ∧ x.L.length ≤ maxLen) (hm : xs.length ≤ maxLen) :
    Calls Try.prog 8 #[.slice a xs.length ka] w fun e w' => e = .returned (.bool (litS xs)) ∧ w' = w := by
  have HF := Lib.hid hF
  have HI := Lib.hid hI
  obtain ⟨n, hn⟩ : ∃ n, xs.length = n := ⟨_, rfl⟩
  have Hn := Lib.hid hn
  unfold maxLen at hm
  by_cases h30 : n ≤ 30
  · have hr : litS xs = xs.all litR := by unfold litS; rw [hn, decide_eq_true h30]; rfl
    have Hr := Lib.hid hr
    rw [hn] at hm ⊢
    have k1 : decide ((30 : Int) < (n : Int)) = false := decide_eq_false (by omega)
    clear hF hI hn hr
    go_enter Try.func8, Try.ntmps8
    go_wp2
    go_loopw [3] (fun i wr => ∃ k : Nat, k ≤ n ∧ i = .int .i64 k ∧ (xs.take k).all litR = true ∧ wr = w) (fun i _ => n - (intOf i).toNat)
    case atStart => exact ⟨0, by omega, rfl, rfl, rfl⟩
    case round =>
      obtain ⟨k, hk, rfl, hE, rfl⟩ := hrel
      have HE := Lib.hid hE
      clear hE
      by_cases hlt : k < n
      · obtain ⟨x, hx⟩ := mem_at (l := xs) (k := k) (by rw [Hn.out]; exact hlt)
        obtain ⟨q, off, rfl, hq, hc⟩ := HF.out (by rw [Hn.out]; omega)
        have d0 := hc k x hx 0 (by decide)
        have d1 : wr.cell? ⟨q, off + k, none⟩ = some (.slice x.c x.L.length x.k) := by
          have h9 := d0
          rw [Nat.mul_one, Nat.add_zero] at h9
          exact h9
        obtain ⟨hi1, hi2⟩ := HI.out x (List.mem_of_getElem? hx)
        obtain ⟨m, hmm⟩ : ∃ m, x.L.length = m := ⟨_, rfl⟩
        have Hmm := Lib.hid hmm
        rw [hmm] at d1 hi2
        unfold maxLen at hi2
        have Hx := Lib.hid hx
        have HIx := Lib.hid hi1
        clear hc d0 hx hi1
        by_cases h60 : m ≤ 60
        · have k2 : decide ((60 : Int) < (m : Int)) = false := decide_eq_false (by omega)
          clear hmm
          have Hlr := Lib.hid (show x.L.all litI = true → litR x = true from fun h => by unfold litR; rw [h, Hmm.out, decide_eq_true h60]; rfl)
          have Hlb := Lib.hid (show x.L.all litI = false → xs.all litR = false from fun h => all_not Hx.out (by unfold litR; rw [h, Bool.and_false]))
          go_wp2
          obtain ⟨w5, h5⟩ : ∃ w5, w5 = wr := ⟨_, rfl⟩
          subst h5
          go_loopw [4] (fun i wr => ∃ j : Nat, j ≤ m ∧ i = .int .i64 j ∧ (x.L.take j).all litI = true ∧ wr = w5) (fun i _ => m - (intOf i).toNat)
          case atStart => exact ⟨0, by omega, rfl, rfl, rfl⟩
          case round =>
            obtain ⟨j, hj, rfl, hE2, rfl⟩ := hrel
            have HE2 := Lib.hid hE2
            clear hE2
            by_cases hlt2 : j < m
            · obtain ⟨y, hy⟩ := mem_at (l := x.L) (k := j) (by rw [Hmm.out]; exact hlt2)
              obtain ⟨g, o, e1, hg, hcy⟩ := HIx.out (by rw [Hmm.out]; omega)
              obtain ⟨f0, f1, f2, f3, f4⟩ := irow_cells (hcy j y hy)
              rw [e1] at d1
              have Hy := Lib.hid hy
              clear hcy hy
              by_cases hg3 : y.gp.size ≤ 300
              · have k3 : decide ((300 : Int) < (y.gp.size : Int)) = false := decide_eq_false (by omega)
                by_cases hn3 : y.nm.size ≤ 300
                · have k4 : decide ((300 : Int) < (y.nm.size : Int)) = false := decide_eq_false (by omega)
                  have Hs := Lib.hid (all_step HE2.out Hy.out (show litI y = true by unfold litI; rw [decide_eq_true hg3, decide_eq_true hn3]; rfl))
                  go_wp2
                  go_roundw
                  case rel => exact ⟨j + 1, by omega, by go_num, Hs.out, trivial⟩
                  case measure => simp [intOf]; omega
                · have k4 : decide ((300 : Int) < (y.nm.size : Int)) = true := decide_eq_true (by omega)
                  have Hs := Lib.hid (Hlb.out (all_not Hy.out (show litI y = false by unfold litI; rw [decide_eq_false hn3, Bool.and_false])))
                  go_wp2
                  go_ret
                  exact ⟨by rw [Hr.out, Hs.out]; (first | done | rfl), rfl⟩
              · have k3 : decide ((300 : Int) < (y.gp.size : Int)) = true := decide_eq_true (by omega)
                have Hs := Lib.hid (Hlb.out (all_not Hy.out (show litI y = false by unfold litI; rw [decide_eq_false hg3, Bool.false_and])))
                go_wp2
                go_ret
                exact ⟨by rw [Hr.out, Hs.out]; (first | done | rfl), rfl⟩
            · obtain rfl : j = m := by omega
              have Hs := Lib.hid (all_step HE.out Hx.out (Hlr.out (by
                have h9 := HE2.out
                rwa [List.take_of_length_le (Nat.le_of_eq Hmm.out)] at h9)))
              go_wp2
              go_roundw
              case rel => exact ⟨k + 1, by omega, by go_num, Hs.out, trivial⟩
              case measure => simp [intOf]; omega
        · have k2 : decide ((60 : Int) < (m : Int)) = true := decide_eq_true (by omega)
          have HB := Lib.hid (all_not Hx.out (show litR x = false by unfold litR; rw [hmm, decide_eq_false h60]; rfl))
          clear hmm
          go_wp2
          go_ret
          exact ⟨by rw [Hr.out, HB.out]; (first | done | rfl), rfl⟩
      · obtain rfl : k = n := by omega
        have HB := Lib.hid (show xs.all litR = true from by
          have h9 := HE.out
          rwa [List.take_of_length_le (Nat.le_of_eq Hn.out)] at h9)
        go_wp2
        go_ret
        exact ⟨by rw [Hr.out, HB.out]; (first | done | rfl), rfl⟩
  · have hr : litS xs = false := by unfold litS; rw [hn, decide_eq_false h30]; rfl
    rw [hr, hn]
    have k1 : decide ((30 : Int) < (n : Int)) = true := decide_eq_true (by omega)
    rw [hn] at hm
    clear hF hI hn hr
    go_enter Try.func8, Try.ntmps8
    go_wp2
    go_ret
    exact ⟨rfl, rfl⟩
end Go.Proofs.Ytaipiflbigpniaa
