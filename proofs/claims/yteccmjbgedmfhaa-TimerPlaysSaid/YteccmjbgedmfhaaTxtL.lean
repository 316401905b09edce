/-
  Lists of texts: their cells, and the contract of triremeref09.Texts. (XTxt for seats that have no machines.)
-/
import Derived.Test.YteccmjbgedmfhaaLst
import Derived.Test.YteccmjbgedmfhaaTail
namespace Go.Proofs.Yteccmjbgedmfhaa
open Go.RowKit
set_option linter.unusedVariables false
set_option linter.unusedSimpArgs false

theorem txt_eq {a b : ByteArray} (h : a = b) : (a.toList == b.toList) = true := by rw [h]; simp
theorem txt_ne {a b : ByteArray} (h : ¬ a = b) : (a.toList == b.toList) = false := by
  rw [beq_eq_false_iff_ne]
  intro e
  rw [ByteArray.toList_eq, ByteArray.toList_eq] at e
  exact h (ByteArray.ext (Array.toList_inj.1 e))
def scs (s : ByteArray) : List Value := [.string s]
theorem scs_len (s : ByteArray) : (scs s).length = 1 := rfl
theorem scs_one (s : ByteArray) : ∀ u ∈ scs s, u.oneCell' = true := by
  intro u hu
  obtain rfl : u = .string s := by simpa [scs] using hu
  rfl
abbrev TxtL := RowsAt scs 1
theorem txt_cell {w : World} {b o : Nat} {s : ByteArray} (h : ∀ r, r < 1 → w.cell? ⟨b, o + r, none⟩ = (scs s)[r]?) : w.cell? ⟨b, o, none⟩ = some (.string s) := h 0 (by decide)
theorem Try.info9 : (Try.prog.info? 9).map (fun i => (i.zero, i.size, i.bytes)) = some (some (.string ⟨#[]⟩), 1, 16) := by kernel_rfl
theorem map_rows {α : Type} (f : α → ByteArray) (l : List α) : (l.map f).flatMap scs = l.flatMap fun x => scs (f x) := by
  induction l with
  | nil => rfl
  | cons x l ih => simp [List.flatMap_cons, ih]
theorem OwnL.texts {α : Type} {f : α → ByteArray} {base : Nat} {t : TypeId} {l : List α} {v : Value} {w : World} (h : OwnL (fun x => scs (f x)) 1 base t l v w) : OwnL scs 1 base t (l.map f) v w := by
  unfold OwnL at h ⊢
  rw [map_rows, List.length_map]
  exact h

theorem take_eq {l m : List ByteArray} {k : Nat} {x y : ByteArray} (h1 : l[k]? = some x) (h2 : m[k]? = some y) (h : l.take k = m.take k) : (x = y → l.take (k + 1) = m.take (k + 1)) ∧ (x ≠ y → l ≠ m) :=
  ⟨fun e => by rw [take_at h1, take_at h2, h, e], fun e h3 => e (by rw [h3, h2] at h1; exact (Option.some.inj h1).symm)⟩

set_option maxRecDepth 100000 in
set_option maxHeartbeats 4000000 in
theorem texts_any (a b : Option Addr) (ka kb : Nat) (l m : List ByteArray) (w : World) (hF : TxtL w a l) (hG : TxtL w b m) (hl : l.length ≤ 1000000) (hm : m.length ≤ 1000000) :
    Calls Try.prog 16 #[.slice a l.length ka, .slice b m.length kb] w fun e w' => e = .returned (.bool (decide (l = m))) ∧ Below w.heap.size w w' := by
  have HF := Lib.hid hF
  have HG := Lib.hid hG
  clear hF hG
  by_cases hn : l.length = m.length
  · obtain ⟨n, hln⟩ : ∃ n, l.length = n := ⟨_, rfl⟩
    have hmn : m.length = n := by omega
    have Hln := Lib.hid hln
    have Hmn := Lib.hid hmn
    rw [hln] at hl ⊢
    rw [hmn] at hm ⊢
    clear hln hmn hn
    have hq : ((n : Int) != n) = false := by simp
    go_enter Try.func16, Try.ntmps16
    go_wp2
    go_loopw [5] (fun i wr => ∃ k : Nat, k ≤ n ∧ i = .int .i64 k ∧ l.take k = m.take k ∧ Below w.heap.size w wr) (fun i _ => n - (intOf i).toNat)
    case atStart => exact ⟨0, by omega, rfl, rfl, by (repeat' (first | with_reducible exact Below.refl _ _ | with_reducible assumption | with_reducible refine Below.drew ?_ | with_reducible refine below_drewN' ?_ _ | with_reducible refine Below.alloc ?_ ?_ _ | with_reducible refine Below.setCell ?_ ?_ _ | with_reducible refine below_step (by assumption) ?_ ?_ | omega | (simp; done) | (simp; omega)))⟩
    case round =>
      obtain ⟨k, hk, rfl, hE, hB⟩ := hrel
      obtain ⟨hcB, hfB⟩ := bcell hB
      have hbz := hB.size
      have HE := Lib.hid hE
      clear hE
      by_cases hlt : k < n
      · obtain ⟨x, hx⟩ := mem_at (l := l) (k := k) (by rw [Hln.out]; exact hlt)
        obtain ⟨y, hy⟩ := mem_at (l := m) (k := k) (by rw [Hmn.out]; exact hlt)
        obtain ⟨b1, o1, rfl, hb1, hc1⟩ := HF.out (by rw [Hln.out]; omega)
        obtain ⟨b2, o2, rfl, hb2, hc2⟩ := HG.out (by rw [Hmn.out]; omega)
        have c1 := txt_cell (hc1 k x hx)
        have c2 := txt_cell (hc2 k y hy)
        rw [Nat.mul_one] at c1 c2
        obtain ⟨hs1, hs2⟩ := take_eq hx hy HE.out
        have hbw1 : b1 < wr.heap.size := by omega
        have hbw2 : b2 < wr.heap.size := by omega
        clear hc1 hc2 hx hy
        by_cases he : x = y
        · have Hs := Lib.hid (hs1 he)
          have k1 := txt_eq he
          clear hs1 hs2 he
          go_wp2
          go_quiet (fail)
          go_wp2
          go_roundw
          case rel => exact ⟨k + 1, by omega, by go_num, Hs.out, by (repeat' (first | with_reducible exact Below.refl _ _ | with_reducible assumption | with_reducible refine Below.drew ?_ | with_reducible refine below_drewN' ?_ _ | with_reducible refine Below.alloc ?_ ?_ _ | with_reducible refine Below.setCell ?_ ?_ _ | with_reducible refine below_step (by assumption) ?_ ?_ | omega | (simp; done) | (simp; omega)))⟩
          case measure => simp [intOf]; omega
        · have Hs := Lib.hid (hs2 he)
          have k1 := txt_ne he
          clear hs1 hs2 he
          go_wp2
          go_quiet (fail)
          go_wp2
          go_ret
          exact ⟨by rw [decide_eq_false Hs.out]; rfl, by (repeat' (first | with_reducible exact Below.refl _ _ | with_reducible assumption | with_reducible refine Below.drew ?_ | with_reducible refine below_drewN' ?_ _ | with_reducible refine Below.alloc ?_ ?_ _ | with_reducible refine Below.setCell ?_ ?_ _ | with_reducible refine below_step (by assumption) ?_ ?_ | omega | (simp; done) | (simp; omega)))⟩
      · obtain rfl : k = n := by omega
        have Hs := Lib.hid (show l = m from by
          have h := HE.out
          rwa [List.take_of_length_le (Nat.le_of_eq Hln.out), List.take_of_length_le (Nat.le_of_eq Hmn.out)] at h)
        go_wp2
        go_ret
        exact ⟨by rw [decide_eq_true Hs.out]; rfl, by (repeat' (first | with_reducible exact Below.refl _ _ | with_reducible assumption | with_reducible refine Below.drew ?_ | with_reducible refine below_drewN' ?_ _ | with_reducible refine Below.alloc ?_ ?_ _ | with_reducible refine Below.setCell ?_ ?_ _ | with_reducible refine below_step (by assumption) ?_ ?_ | omega | (simp; done) | (simp; omega)))⟩
  · have hne : l ≠ m := fun h => hn (by rw [h])
    rw [decide_eq_false hne]
    obtain ⟨n, hln⟩ : ∃ n, l.length = n := ⟨_, rfl⟩
    obtain ⟨n2, hmn⟩ : ∃ n2, m.length = n2 := ⟨_, rfl⟩
    rw [hln, hmn] at hn
    rw [hln] at hl ⊢
    rw [hmn] at hm ⊢
    have hq : ((n : Int) != n2) = true := by rw [bne_iff_ne]; omega
    clear hln hmn hne hn
    go_enter Try.func16, Try.ntmps16
    go_wp2
    go_ret
    exact ⟨rfl, by (repeat' (first | with_reducible exact Below.refl _ _ | with_reducible assumption | with_reducible refine Below.drew ?_ | with_reducible refine below_drewN' ?_ _ | with_reducible refine Below.alloc ?_ ?_ _ | with_reducible refine Below.setCell ?_ ?_ _ | with_reducible refine below_step (by assumption) ?_ ?_ | omega | (simp; done) | (simp; omega)))⟩
end Go.Proofs.Yteccmjbgedmfhaa
