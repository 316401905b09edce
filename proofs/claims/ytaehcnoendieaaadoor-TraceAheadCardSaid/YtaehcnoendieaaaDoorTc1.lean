/-
  Events in memory; is: one of some kinds.
-/
import Derived.Test.YtaehcnoendieaaaDoorTcQ
import Derived.Test.YtaehcnoendieaaaDoorMA
namespace Go.Proofs.YtaehcnoendieaaaDoor
open Go.RowKit
set_option linter.unusedVariables false
set_option linter.unusedSimpArgs false

def scs (s : ByteArray) : List Value := [.string s]
theorem scs_len (s : ByteArray) : (scs s).length = 1 := rfl
abbrev TxtL := RowsAt scs 1
theorem ev_len (e : Ev) : (evrow e).length = 4 := rfl
theorem ev_one (e : Ev) : ∀ u ∈ evrow e, u.oneCell' = true := by
  intro u hu
  unfold evrow at hu
  simp at hu
  rcases hu with rfl | rfl | rfl | rfl <;> rfl
abbrev EvL := RowsAt evrow 4
/-- An event's four cells. -/
structure EvAt (b o : Nat) (e : Ev) (wr : World) : Prop where
  c0 : wr.cell? ⟨b, o, none⟩ = some (.int .i64 e.now)
  c1 : wr.cell? ⟨b, o + 1, none⟩ = some (.string e.what)
  c2 : wr.cell? ⟨b, o + 2, none⟩ = some (.string e.name)
  c3 : wr.cell? ⟨b, o + 3, none⟩ = some (.int .i64 e.n)
theorem ev_cells {b o : Nat} {e : Ev} {wr : World} (h : ∀ r, r < 4 → wr.cell? ⟨b, o + r, none⟩ = (evrow e)[r]?) : EvAt b o e wr :=
  ⟨h 0 (by decide), h 1 (by decide), h 2 (by decide), h 3 (by decide)⟩
theorem inB_at {K : List ByteArray} {k : Nat} {x s : ByteArray} (h : K[k]? = some x) : inB (K.drop k) s = (decide (s = x) || inB (K.drop (k + 1)) s) := by
  obtain ⟨h1, h2⟩ := List.getElem?_eq_some_iff.1 h
  rw [List.drop_eq_getElem_cons h1, h2]
  rfl
set_option maxRecDepth 100000 in
set_option maxHeartbeats 2000000 in
theorem is_any (e : Ev) (K : List ByteArray) (a : Option Addr) (c : Nat) (w : World) (hF : TxtL w a K) (hl : K.length ≤ 1000) :
    Calls Tryd.prog 27 #[.agg #[.int .i64 e.now, .string e.what, .string e.name, .int .i64 e.n], .slice a K.length c] w fun r w' => r = .returned (.bool (inB K e.what)) ∧ Below w.heap.size w w' := by
  obtain ⟨n, hn⟩ : ∃ n, K.length = n := ⟨_, rfl⟩
  have HN := Lib.hid hn
  obtain ⟨R, hR⟩ : ∃ R, inB K e.what = R := ⟨_, rfl⟩
  have HR := Lib.hid (show inB (K.drop 0) e.what = R from hR)
  rw [hn] at hl ⊢
  rw [hR]
  clear hn hR
  have HF := Lib.hid hF
  clear hF
  obtain ⟨now, what, name, en⟩ := e
  go_enter Tryd.func27, Tryd.ntmps27
  go_wp2
  obtain ⟨W, hW⟩ : ∃ W, W = w.alloc (.cells #[.int .i64 now, .string what, .string name, .int .i64 en] 37) := ⟨_, rfl⟩
  have HW := Lib.hid (show Below w.heap.size w W by rw [hW]; (repeat' (first | with_reducible exact Below.refl _ _ | with_reducible assumption | with_reducible refine Below.drew ?_ | with_reducible refine below_drewN' ?_ _ | with_reducible refine Below.alloc ?_ ?_ _ | with_reducible refine Below.setCell ?_ ?_ _ | with_reducible refine below_step (by assumption) ?_ ?_ | omega | (simp; done) | (simp; omega))))
  have hWz : w.heap.size ≤ W.heap.size := HW.out.size
  have HFW := Lib.hid (HF.out.mono HW.out)
  (try rw [← hW])
  have hc : W.cell? ⟨w.heap.size, 1, none⟩ = some (.string what) := by rw [hW, World.cell?_alloc_at _ _ _ _ rfl]; rfl
  have hwb : w.heap.size < W.heap.size := by rw [hW]; simp
  clear hW HF
  go_loopw [9] (fun vi wr => ∃ k : Nat, k ≤ n ∧ vi = .int .i64 k ∧ inB (K.drop k) what = R ∧ wr = W) (fun vi _ => n - (intOf vi).toNat)
  case atStart => exact ⟨0, Nat.zero_le _, rfl, HR.out, rfl⟩
  case round =>
    clear HR
    obtain ⟨k, hk, rfl, hE, rfl⟩ := hrel
    have HE := Lib.hid hE
    clear hE
    by_cases hlt : k < n
    · obtain ⟨x, hx⟩ := mem_at (l := K) (k := k) (by rw [HN.out]; exact hlt)
      obtain ⟨b, o, rfl, hb, hcc⟩ := HFW.out (by rw [HN.out]; omega)
      have c0 : wr.cell? ⟨b, o + k * 1, none⟩ = some (.string x) := hcc k x hx 0 (by decide)
      rw [Nat.mul_one] at c0
      have HNx := Lib.hid ((inB_at (s := what) hx).symm.trans HE.out)
      clear hcc hx
      by_cases he : what = x
      · have q := tnt_str he
        obtain rfl : R = true := by have := HNx.out; rw [decide_eq_true he] at this; exact this.symm
        clear he
        go_wp2
        go_ret
        exact ⟨rfl, HW.out⟩
      · have q := tnt_strn he
        have HNy := Lib.hid (show inB (K.drop (k + 1)) what = R by have := HNx.out; rw [decide_eq_false he] at this; exact this)
        clear he
        go_wp2
        go_roundw
        case rel => exact ⟨k + 1, by omega, by go_num, HNy.out, by trivial⟩
        case measure => simp [intOf]; omega
    · obtain rfl : k = n := by omega
      obtain rfl : R = false := by
        rw [← HE.out, List.drop_of_length_le (by rw [HN.out]; exact Nat.le_refl _)]
        rfl
      go_wp2
      go_ret
      exact ⟨rfl, HW.out⟩
end Go.Proofs.YtaehcnoendieaaaDoor
