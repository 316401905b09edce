/-
  Tokens alike but for their places: the document's way to tell.
-/
import Derived.Test.YtpoeaeemjhnkkaaLexM
import Derived.BigQuiet
namespace Go.Proofs.Ytpoeaeemjhnkkaa
open Go.RowKit
set_option linter.unusedVariables false
set_option linter.unusedSimpArgs false

def kt (t : Tk) : Int × ByteArray := (t.kd, t.tx)
/-- An own slice of tokens, empty or not. -/
theorem own_slice {w : World} {B : Nat} {v : Value} {l : List Tk} (h : w.ownsRow B 28 5 v l.length (l.flatMap tkrow)) : ∃ a k, v = .slice a l.length k ∧ (a = none → l.length = 0 ∧ k = 0) ∧ TkL w a l := by
  obtain ⟨a, k, e, hc⟩ := own_rows tkrow_len h (by decide)
  refine ⟨a, k, e, fun hn => ?_, fun h0 => ?_⟩
  · subst hn
    rcases h.2 with ⟨e2, h0⟩ | ⟨g, c, cur, e2, _⟩
    · rw [e] at e2
      injection e2 with _ h1 h2
      exact ⟨h1, h2⟩
    · rw [e] at e2
      injection e2 with h1
      cases h1
  · obtain ⟨g, e1, _, h2, h3⟩ := hc h0
    exact ⟨g, 0, e1, h2, h3⟩
theorem kt_at {l m : List Tk} (h : l.map kt = m.map kt) {i : Nat} {x y : Tk} (hx : l[i]? = some x) (hy : m[i]? = some y) : x.kd = y.kd ∧ x.tx = y.tx := by
  have e : (l.map kt)[i]? = (m.map kt)[i]? := by rw [h]
  rw [List.getElem?_map, List.getElem?_map, hx, hy] at e
  have e : kt x = kt y := by injection e
  exact Prod.mk.inj e
set_option maxRecDepth 100000 in
set_option maxHeartbeats 2000000 in
theorem same_any (a : Option Addr) (ka : Nat) (l : List Tk) (b : Option Addr) (kb : Nat) (m : List Tk) (w : World) (hF : TkL w a l) (hG : TkL w b m) (hl : l.length ≤ 1000000) (h : l.map kt = m.map kt) :
    Calls Try.prog 19 #[.slice a l.length ka, .slice b m.length kb, .bool false] w fun e w' => e = .returned (.bool true) ∧ Below w.heap.size w w' := by
  have hlm : m.length = l.length := by have := congrArg List.length h; simp only [List.length_map] at this; exact this.symm
  rw [hlm]
  have HF := Lib.hid hF
  have HG := Lib.hid hG
  obtain ⟨n, hn⟩ : ∃ n, l.length = n := ⟨_, rfl⟩
  rw [hn] at hlm hl ⊢
  have Hln := Lib.hid hn
  have Hmn := Lib.hid hlm
  have HK := Lib.hid h
  clear hF hG hn hlm h
  have hq : ((n : Int) != n) = false := by simp
  go_enter Try.func19, Try.ntmps19
  go_wp2
  go_loopw [7] (fun i wr => ∃ k : Nat, k ≤ n ∧ i = .int .i64 k ∧ Below w.heap.size w wr) (fun i _ => n - (intOf i).toNat)
  case atStart => exact ⟨0, by omega, rfl, by (repeat' (first | with_reducible exact Below.refl _ _ | with_reducible assumption | with_reducible refine Below.drew ?_ | with_reducible refine below_drewN' ?_ _ | with_reducible refine Below.alloc ?_ ?_ _ | with_reducible refine Below.setCell ?_ ?_ _ | with_reducible refine below_step (by assumption) ?_ ?_ | omega | (simp; done) | (simp; omega)))⟩
  case round =>
    obtain ⟨k, hk, rfl, hB⟩ := hrel
    obtain ⟨hcB, hfB⟩ := bcell hB
    have hbz := hB.size
    by_cases hlt : k < n
    · obtain ⟨x, hx⟩ := mem_at (l := l) (k := k) (by rw [Hln.out]; exact hlt)
      obtain ⟨y, hy⟩ := mem_at (l := m) (k := k) (by rw [Hmn.out]; exact hlt)
      obtain ⟨b1, o1, rfl, hb1, hc1⟩ := HF.out (by rw [Hln.out]; omega)
      obtain ⟨b2, o2, rfl, hb2, hc2⟩ := HG.out (by rw [Hmn.out]; omega)
      obtain ⟨c0, c1, _, _, _⟩ := tk_cells (hc1 k x hx)
      obtain ⟨d0, d1, _, _, _⟩ := tk_cells (hc2 k y hy)
      obtain ⟨e1, e2⟩ := kt_at HK.out hx hy
      rw [← e1] at d0
      rw [← e2] at d1
      obtain ⟨kd, hkd⟩ : ∃ kd, x.kd = kd := ⟨_, rfl⟩
      obtain ⟨tx, htx⟩ : ∃ tx, x.tx = tx := ⟨_, rfl⟩
      rw [hkd] at c0 d0
      rw [htx] at c1 d1
      have q1 : (kd != kd) = false := by simp
      have q2 : (tx.toList != tx.toList) = false := by simp
      have hbw1 : b1 < wr.heap.size := by omega
      have hbw2 : b2 < wr.heap.size := by omega
      clear hc1 hc2 hx hy e1 e2 hkd htx
      go_wp2
      go_quiet (fail)
      go_wp2
      go_roundw
      case rel => exact ⟨k + 1, by omega, by go_num, by (repeat' (first | with_reducible exact Below.refl _ _ | with_reducible assumption | with_reducible refine Below.drew ?_ | with_reducible refine below_drewN' ?_ _ | with_reducible refine Below.alloc ?_ ?_ _ | with_reducible refine Below.setCell ?_ ?_ _ | with_reducible refine below_step (by assumption) ?_ ?_ | omega | (simp; done) | (simp; omega)))⟩
      case measure => simp [intOf]; omega
    · obtain rfl : k = n := by omega
      go_wp2
      go_ret
      exact ⟨rfl, by (repeat' (first | with_reducible exact Below.refl _ _ | with_reducible assumption | with_reducible refine Below.drew ?_ | with_reducible refine below_drewN' ?_ _ | with_reducible refine Below.alloc ?_ ?_ _ | with_reducible refine Below.setCell ?_ ?_ _ | with_reducible refine below_step (by assumption) ?_ ?_ | omega | (simp; done) | (simp; omega)))⟩
end Go.Proofs.Ytpoeaeemjhnkkaa
