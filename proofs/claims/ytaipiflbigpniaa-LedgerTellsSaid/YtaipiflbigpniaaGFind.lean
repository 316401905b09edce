/-
  The contracts of group.Find, triremeref16.Find, Light, group.Right, triremeref16.Right.
-/
import Derived.Test.YtaipiflbigpniaaGRg
namespace Go.Proofs.Ytaipiflbigpniaa
open Go.RowKit
set_option linter.unusedVariables false
set_option linter.unusedSimpArgs false

theorem grow_cells {w : World} {b o : Nat} {g : Gp} (h : ∀ r, r < 15 → w.cell? ⟨b, o + r, none⟩ = (grow g)[r]?) :
    w.cell? ⟨b, o, none⟩ = some (.string g.nm) ∧ w.cell? ⟨b, o + 1, none⟩ = some (.int .i64 g.mn) ∧ w.cell? ⟨b, o + 2, none⟩ = some (.int .i64 g.mx) ∧ w.cell? ⟨b, o + 3, none⟩ = some (.string g.like.nm) ∧ w.cell? ⟨b, o + 4, none⟩ = some (.string g.like.gp) ∧
    w.cell? ⟨b, o + 5, none⟩ = some (.int .i64 g.like.r0) ∧ w.cell? ⟨b, o + 6, none⟩ = some (.int .i64 g.like.r1) ∧ w.cell? ⟨b, o + 7, none⟩ = some (.int .i64 g.like.r2) ∧ w.cell? ⟨b, o + 8, none⟩ = some (.int .i64 g.like.r3) ∧ w.cell? ⟨b, o + 9, none⟩ = some (.int .i64 g.like.r4) ∧
    w.cell? ⟨b, o + 10, none⟩ = some (.slice g.like.la g.like.labs.length g.like.lk) ∧ w.cell? ⟨b, o + 11, none⟩ = some (.slice g.like.ta g.like.tnts.length g.like.tk) ∧ w.cell? ⟨b, o + 12, none⟩ = some (.bool g.like.rd) ∧ w.cell? ⟨b, o + 13, none⟩ = some (.int .i64 g.pr) ∧ w.cell? ⟨b, o + 14, none⟩ = some (.int .i64 g.rk) :=
  ⟨h 0 (by decide), h 1 (by decide), h 2 (by decide), h 3 (by decide), h 4 (by decide), h 5 (by decide), h 6 (by decide), h 7 (by decide), h 8 (by decide), h 9 (by decide), h 10 (by decide), h 11 (by decide), h 12 (by decide), h 13 (by decide), h 14 (by decide)⟩

/-- The first of that name. -/
def findA : List Gp → ByteArray → Int → Int
  | [], _, _ => -1
  | g :: l, key, i => if g.nm = key then i else findA l key (i + 1)

set_option maxRecDepth 100000 in
set_option maxHeartbeats 2000000 in
theorem find_any (a : Option Addr) (l : List Gp) (ka : Nat) (key : ByteArray) (w : World) (hF : GpL w a l) (hn : l.length ≤ maxLen) :
    Calls Try.prog 37 #[.slice a l.length ka, .string key] w fun e w' => e = .returned (.int .i64 (findA l key 0)) ∧ Below w.heap.size w w' := by
  have HF := Lib.hid hF
  clear hF
  obtain ⟨n, hln⟩ : ∃ n, l.length = n := ⟨_, rfl⟩
  have Hln := Lib.hid hln
  rw [hln] at hn ⊢
  unfold maxLen at hn
  clear hln
  go_enter Try.func37, Try.ntmps37
  go_wp2
  go_loopw [5, 8] (fun _ i wr => ∃ k : Nat, k ≤ n ∧ i = .int .i64 k ∧ Below w.heap.size w wr ∧ findA l key 0 = findA (l.drop k) key k) (fun _ i _ => n - (intOf i).toNat)
  case atStart => exact ⟨0, by omega, rfl, by (repeat' (first | with_reducible exact Below.refl _ _ | with_reducible assumption | with_reducible refine Below.drew ?_ | with_reducible refine below_drewN' ?_ _ | with_reducible refine Below.alloc ?_ ?_ _ | with_reducible refine Below.setCell ?_ ?_ _ | with_reducible refine below_step (by assumption) ?_ ?_ | omega | (simp; done) | (simp; omega))), rfl⟩
  case round =>
    obtain ⟨k, hk, rfl, hB, hE⟩ := hrel
    obtain ⟨hcB, hfB⟩ := bcell hB
    have HE := Lib.hid hE
    have hzB := hB.size
    clear hE
    by_cases hlt : k < n
    · have hkl : k < l.length := by rw [Hln.out]; exact hlt
      obtain ⟨b2, off, rfl, hb2, hc2⟩ := HF.out (by omega)
      have hbw2 : b2 < wr.heap.size := by omega
      obtain ⟨c0, -⟩ := grow_cells (hc2 k l[k] (List.getElem?_eq_getElem hkl))
      have hE2 := HE.out
      rw [List.drop_eq_getElem_cons hkl, findA] at hE2
      obtain ⟨g, hg⟩ : ∃ g, l[k] = g := ⟨_, rfl⟩
      rw [hg] at c0 hE2
      clear hc2 hg hkl
      by_cases he : g.nm = key
      · rw [if_pos he] at hE2
        have Hr := Lib.hid hE2
        have k8 := tnt_str he
        clear he hE2
        go_wp2
        go_ret
        exact ⟨by rw [Hr.out]; rfl, by (repeat' (first | with_reducible exact Below.refl _ _ | with_reducible assumption | with_reducible refine Below.drew ?_ | with_reducible refine below_drewN' ?_ _ | with_reducible refine Below.alloc ?_ ?_ _ | with_reducible refine Below.setCell ?_ ?_ _ | with_reducible refine below_step (by assumption) ?_ ?_ | omega | (simp; done) | (simp; omega)))⟩
      · rw [if_neg he] at hE2
        have Hr := Lib.hid hE2
        have k8 := tnt_strn he
        clear he hE2
        go_wp2
        go_roundw
        case rel => exact ⟨k + 1, by omega, by go_num, by (repeat' (first | with_reducible exact Below.refl _ _ | with_reducible assumption | with_reducible refine Below.drew ?_ | with_reducible refine below_drewN' ?_ _ | with_reducible refine Below.alloc ?_ ?_ _ | with_reducible refine Below.setCell ?_ ?_ _ | with_reducible refine below_step (by assumption) ?_ ?_ | omega | (simp; done) | (simp; omega))), Hr.out⟩
        case measure => simp [intOf]; omega
    · obtain rfl : k = n := by omega
      have Hr := Lib.hid (show findA l key 0 = -1 by rw [HE.out, List.drop_eq_nil_of_le (by rw [Hln.out]; exact Nat.le_refl _)]; rfl)
      go_wp2
      go_ret
      exact ⟨by rw [Hr.out]; rfl, by (repeat' (first | with_reducible exact Below.refl _ _ | with_reducible assumption | with_reducible refine Below.drew ?_ | with_reducible refine below_drewN' ?_ _ | with_reducible refine Below.alloc ?_ ?_ _ | with_reducible refine Below.setCell ?_ ?_ _ | with_reducible refine below_step (by assumption) ?_ ?_ | omega | (simp; done) | (simp; omega)))⟩
set_option maxRecDepth 100000 in
set_option maxHeartbeats 2000000 in
theorem reffind_any (a : Option Addr) (l : List Gp) (ka : Nat) (key : ByteArray) (w : World) (hF : GpL w a l) (hn : l.length ≤ maxLen) :
    Calls Try.prog 31 #[.slice a l.length ka, .string key] w fun e w' => e = .returned (.int .i64 (findA l key 0)) ∧ Below w.heap.size w w' := by
  have HF := Lib.hid hF
  clear hF
  obtain ⟨n, hln⟩ : ∃ n, l.length = n := ⟨_, rfl⟩
  have Hln := Lib.hid hln
  rw [hln] at hn ⊢
  unfold maxLen at hn
  clear hln
  go_enter Try.func31, Try.ntmps31
  go_wp2
  go_loopw [5] (fun i wr => ∃ k : Nat, k ≤ n ∧ i = .int .i64 k ∧ Below w.heap.size w wr ∧ findA l key 0 = findA (l.drop k) key k) (fun i _ => n - (intOf i).toNat)
  case atStart => exact ⟨0, by omega, rfl, by (repeat' (first | with_reducible exact Below.refl _ _ | with_reducible assumption | with_reducible refine Below.drew ?_ | with_reducible refine below_drewN' ?_ _ | with_reducible refine Below.alloc ?_ ?_ _ | with_reducible refine Below.setCell ?_ ?_ _ | with_reducible refine below_step (by assumption) ?_ ?_ | omega | (simp; done) | (simp; omega))), rfl⟩
  case round =>
    obtain ⟨k, hk, rfl, hB, hE⟩ := hrel
    obtain ⟨hcB, hfB⟩ := bcell hB
    have HE := Lib.hid hE
    have hzB := hB.size
    clear hE
    by_cases hlt : k < n
    · have hkl : k < l.length := by rw [Hln.out]; exact hlt
      obtain ⟨b2, off, rfl, hb2, hc2⟩ := HF.out (by omega)
      have hbw2 : b2 < wr.heap.size := by omega
      obtain ⟨c0, -⟩ := grow_cells (hc2 k l[k] (List.getElem?_eq_getElem hkl))
      have hE2 := HE.out
      rw [List.drop_eq_getElem_cons hkl, findA] at hE2
      obtain ⟨g, hg⟩ : ∃ g, l[k] = g := ⟨_, rfl⟩
      rw [hg] at c0 hE2
      clear hc2 hg hkl
      by_cases he : g.nm = key
      · rw [if_pos he] at hE2
        have Hr := Lib.hid hE2
        have k8 := tnt_str he
        clear he hE2
        go_wp2
        go_ret
        exact ⟨by rw [Hr.out]; rfl, by (repeat' (first | with_reducible exact Below.refl _ _ | with_reducible assumption | with_reducible refine Below.drew ?_ | with_reducible refine below_drewN' ?_ _ | with_reducible refine Below.alloc ?_ ?_ _ | with_reducible refine Below.setCell ?_ ?_ _ | with_reducible refine below_step (by assumption) ?_ ?_ | omega | (simp; done) | (simp; omega)))⟩
      · rw [if_neg he] at hE2
        have Hr := Lib.hid hE2
        have k8 := tnt_strn he
        clear he hE2
        go_wp2
        go_roundw
        case rel => exact ⟨k + 1, by omega, by go_num, by (repeat' (first | with_reducible exact Below.refl _ _ | with_reducible assumption | with_reducible refine Below.drew ?_ | with_reducible refine below_drewN' ?_ _ | with_reducible refine Below.alloc ?_ ?_ _ | with_reducible refine Below.setCell ?_ ?_ _ | with_reducible refine below_step (by assumption) ?_ ?_ | omega | (simp; done) | (simp; omega))), Hr.out⟩
        case measure => simp [intOf]; omega
    · obtain rfl : k = n := by omega
      have Hr := Lib.hid (show findA l key 0 = -1 by rw [HE.out, List.drop_eq_nil_of_le (by rw [Hln.out]; exact Nat.le_refl _)]; rfl)
      go_wp2
      go_ret
      exact ⟨by rw [Hr.out]; rfl, by (repeat' (first | with_reducible exact Below.refl _ _ | with_reducible assumption | with_reducible refine Below.drew ?_ | with_reducible refine below_drewN' ?_ _ | with_reducible refine Below.alloc ?_ ?_ _ | with_reducible refine Below.setCell ?_ ?_ _ | with_reducible refine below_step (by assumption) ?_ ?_ | omega | (simp; done) | (simp; omega)))⟩
end Go.Proofs.Ytaipiflbigpniaa
