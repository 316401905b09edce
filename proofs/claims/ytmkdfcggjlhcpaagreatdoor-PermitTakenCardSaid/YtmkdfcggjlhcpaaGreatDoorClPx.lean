/-
  A provider, in plain words: groups, pools, instances; what each call answers, and leaves.
-/
import Derived.Test.YtmkdfcggjlhcpaaGreatDoorMGx
import Derived.Test.YtmkdfcggjlhcpaaGreatDoorMBx
import Derived.Test.YtmkdfcggjlhcpaaGreatDoorMAx
import Derived.Lib.ItoaLen
namespace Go.Proofs.YtmkdfcggjlhcpaaGreatDoor
open Go.RowKit
set_option linter.unusedVariables false
set_option linter.unusedSimpArgs false
theorem grow_cells {w : World} {b o : Nat} {g : Gp} (h : ∀ r, r < 15 → w.cell? ⟨b, o + r, none⟩ = (grow g)[r]?) :
    w.cell? ⟨b, o, none⟩ = some (.string g.nm) ∧ w.cell? ⟨b, o + 1, none⟩ = some (.int .i64 g.mn) ∧ w.cell? ⟨b, o + 2, none⟩ = some (.int .i64 g.mx) ∧ w.cell? ⟨b, o + 3, none⟩ = some (.string g.like.nm) ∧ w.cell? ⟨b, o + 4, none⟩ = some (.string g.like.gp) ∧
    w.cell? ⟨b, o + 5, none⟩ = some (.int .i64 g.like.r0) ∧ w.cell? ⟨b, o + 6, none⟩ = some (.int .i64 g.like.r1) ∧ w.cell? ⟨b, o + 7, none⟩ = some (.int .i64 g.like.r2) ∧ w.cell? ⟨b, o + 8, none⟩ = some (.int .i64 g.like.r3) ∧ w.cell? ⟨b, o + 9, none⟩ = some (.int .i64 g.like.r4) ∧
    w.cell? ⟨b, o + 10, none⟩ = some (.slice g.like.la g.like.labs.length g.like.lk) ∧ w.cell? ⟨b, o + 11, none⟩ = some (.slice g.like.ta g.like.tnts.length g.like.tk) ∧ w.cell? ⟨b, o + 12, none⟩ = some (.bool g.like.rd) ∧ w.cell? ⟨b, o + 13, none⟩ = some (.int .i64 g.pr) ∧ w.cell? ⟨b, o + 14, none⟩ = some (.int .i64 g.rk) :=
  ⟨h 0 (by decide), h 1 (by decide), h 2 (by decide), h 3 (by decide), h 4 (by decide), h 5 (by decide), h 6 (by decide), h 7 (by decide), h 8 (by decide), h 9 (by decide), h 10 (by decide), h 11 (by decide), h 12 (by decide), h 13 (by decide), h 14 (by decide)⟩
def findA : List Gp → ByteArray → Int → Int
  | [], _, _ => -1
  | g :: l, key, i => if g.nm = key then i else findA l key (i + 1)
set_option maxRecDepth 100000 in
set_option maxHeartbeats 2000000 in
theorem find_any (a : Option Addr) (l : List Gp) (ka : Nat) (key : ByteArray) (w : World) (hF : GpL w a l) (hn : l.length ≤ maxLen) :
    Calls Tryz.prog 38 #[.slice a l.length ka, .string key] w fun e w' => e = .returned (.int .i64 (findA l key 0)) ∧ Below w.heap.size w w' := by
  have HF := Lib.hid hF
  clear hF
  obtain ⟨n, hln⟩ : ∃ n, l.length = n := ⟨_, rfl⟩
  have Hln := Lib.hid hln
  rw [hln] at hn ⊢
  unfold maxLen at hn
  clear hln
  go_enter Tryz.func38, Tryz.ntmps38
  go_wp2
  go_loopw [5, 8] (fun _ i wr => ∃ k : Nat, k ≤ n ∧ i = .int .i64 k ∧ Below w.heap.size w wr ∧ findA l key 0 = findA (l.drop k) key k) (fun _ i _ => n - (intOf i).toNat)
  case atStart => exact ⟨0, by omega, rfl, by (repeat' (first | with_reducible exact Below.refl _ _ | with_reducible assumption | with_reducible refine Below.drew ?_ | with_reducible refine below_drewN' ?_ _ | with_reducible refine Below.alloc ?_ ?_ _ | with_reducible refine Below.setCell ?_ ?_ _ | with_reducible refine below_step (by assumption) ?_ ?_ | omega | (simp; done) | (simp; omega))), rfl⟩
  case round =>
    obtain ⟨k, hk, rfl, hB, hE⟩ := hrel
    obtain ⟨hcB, hfB⟩ := bcell hB
    have HE := Lib.hid hE
    have hzB := hB.size
    clear hE
    by_cases hlt : k < n
    · have hkl : k < l.length := by rw [Hln.out]; exact hlt
      obtain ⟨b2, off, rfl, hb2, hc2⟩ := HF.out (by omega)
      have hbw2 : b2 < wr.heap.size := by omega
      obtain ⟨c0, -⟩ := grow_cells (hc2 k l[k] (List.getElem?_eq_getElem hkl))
      have hE2 := HE.out
      rw [List.drop_eq_getElem_cons hkl, findA] at hE2
      obtain ⟨g, hg⟩ : ∃ g, l[k] = g := ⟨_, rfl⟩
      rw [hg] at c0 hE2
      clear hc2 hg hkl
      by_cases he : g.nm = key
      · rw [if_pos he] at hE2
        have Hr := Lib.hid hE2
        have k8 := tnt_str he
        clear he hE2
        go_wp2
        go_ret
        exact ⟨by rw [Hr.out]; rfl, by (repeat' (first | with_reducible exact Below.refl _ _ | with_reducible assumption | with_reducible refine Below.drew ?_ | with_reducible refine below_drewN' ?_ _ | with_reducible refine Below.alloc ?_ ?_ _ | with_reducible refine Below.setCell ?_ ?_ _ | with_reducible refine below_step (by assumption) ?_ ?_ | omega | (simp; done) | (simp; omega)))⟩
      · rw [if_neg he] at hE2
        have Hr := Lib.hid hE2
        have k8 := tnt_strn he
        clear he hE2
        go_wp2
        go_roundw
        case rel => exact ⟨k + 1, by omega, by go_num, by (repeat' (first | with_reducible exact Below.refl _ _ | with_reducible assumption | with_reducible refine Below.drew ?_ | with_reducible refine below_drewN' ?_ _ | with_reducible refine Below.alloc ?_ ?_ _ | with_reducible refine Below.setCell ?_ ?_ _ | with_reducible refine below_step (by assumption) ?_ ?_ | omega | (simp; done) | (simp; omega))), Hr.out⟩
        case measure => simp [intOf]; omega
    · obtain rfl : k = n := by omega
      have Hr := Lib.hid (show findA l key 0 = -1 by rw [HE.out, List.drop_eq_nil_of_le (by rw [Hln.out]; exact Nat.le_refl _)]; rfl)
      go_wp2
      go_ret
      exact ⟨by rw [Hr.out]; rfl, by (repeat' (first | with_reducible exact Below.refl _ _ | with_reducible assumption | with_reducible refine Below.drew ?_ | with_reducible refine below_drewN' ?_ _ | with_reducible refine Below.alloc ?_ ?_ _ | with_reducible refine Below.setCell ?_ ?_ _ | with_reducible refine below_step (by assumption) ?_ ?_ | omega | (simp; done) | (simp; omega)))⟩
set_option maxRecDepth 100000 in
set_option maxHeartbeats 2000000 in
theorem reffind_any (a : Option Addr) (l : List Gp) (ka : Nat) (key : ByteArray) (w : World) (hF : GpL w a l) (hn : l.length ≤ maxLen) :
    Calls Tryz.prog 20 #[.slice a l.length ka, .string key] w fun e w' => e = .returned (.int .i64 (findA l key 0)) ∧ Below w.heap.size w w' := by
  have HF := Lib.hid hF
  clear hF
  obtain ⟨n, hln⟩ : ∃ n, l.length = n := ⟨_, rfl⟩
  have Hln := Lib.hid hln
  rw [hln] at hn ⊢
  unfold maxLen at hn
  clear hln
  go_enter Tryz.func20, Tryz.ntmps20
  go_wp2
  go_loopw [5] (fun i wr => ∃ k : Nat, k ≤ n ∧ i = .int .i64 k ∧ Below w.heap.size w wr ∧ findA l key 0 = findA (l.drop k) key k) (fun i _ => n - (intOf i).toNat)
  case atStart => exact ⟨0, by omega, rfl, by (repeat' (first | with_reducible exact Below.refl _ _ | with_reducible assumption | with_reducible refine Below.drew ?_ | with_reducible refine below_drewN' ?_ _ | with_reducible refine Below.alloc ?_ ?_ _ | with_reducible refine Below.setCell ?_ ?_ _ | with_reducible refine below_step (by assumption) ?_ ?_ | omega | (simp; done) | (simp; omega))), rfl⟩
  case round =>
    obtain ⟨k, hk, rfl, hB, hE⟩ := hrel
    obtain ⟨hcB, hfB⟩ := bcell hB
    have HE := Lib.hid hE
    have hzB := hB.size
    clear hE
    by_cases hlt : k < n
    · have hkl : k < l.length := by rw [Hln.out]; exact hlt
      obtain ⟨b2, off, rfl, hb2, hc2⟩ := HF.out (by omega)
      have hbw2 : b2 < wr.heap.size := by omega
      obtain ⟨c0, -⟩ := grow_cells (hc2 k l[k] (List.getElem?_eq_getElem hkl))
      have hE2 := HE.out
      rw [List.drop_eq_getElem_cons hkl, findA] at hE2
      obtain ⟨g, hg⟩ : ∃ g, l[k] = g := ⟨_, rfl⟩
      rw [hg] at c0 hE2
      clear hc2 hg hkl
      by_cases he : g.nm = key
      · rw [if_pos he] at hE2
        have Hr := Lib.hid hE2
        have k8 := tnt_str he
        clear he hE2
        go_wp2
        go_ret
        exact ⟨by rw [Hr.out]; rfl, by (repeat' (first | with_reducible exact Below.refl _ _ | with_reducible assumption | with_reducible refine Below.drew ?_ | with_reducible refine below_drewN' ?_ _ | with_reducible refine Below.alloc ?_ ?_ _ | with_reducible refine Below.setCell ?_ ?_ _ | with_reducible refine below_step (by assumption) ?_ ?_ | omega | (simp; done) | (simp; omega)))⟩
      · rw [if_neg he] at hE2
        have Hr := Lib.hid hE2
        have k8 := tnt_strn he
        clear he hE2
        go_wp2
        go_roundw
        case rel => exact ⟨k + 1, by omega, by go_num, by (repeat' (first | with_reducible exact Below.refl _ _ | with_reducible assumption | with_reducible refine Below.drew ?_ | with_reducible refine below_drewN' ?_ _ | with_reducible refine Below.alloc ?_ ?_ _ | with_reducible refine Below.setCell ?_ ?_ _ | with_reducible refine below_step (by assumption) ?_ ?_ | omega | (simp; done) | (simp; omega))), Hr.out⟩
        case measure => simp [intOf]; omega
    · obtain rfl : k = n := by omega
      have Hr := Lib.hid (show findA l key 0 = -1 by rw [HE.out, List.drop_eq_nil_of_le (by rw [Hln.out]; exact Nat.le_refl _)]; rfl)
      go_wp2
      go_ret
      exact ⟨by rw [Hr.out]; rfl, by (repeat' (first | with_reducible exact Below.refl _ _ | with_reducible assumption | with_reducible refine Below.drew ?_ | with_reducible refine below_drewN' ?_ _ | with_reducible refine Below.alloc ?_ ?_ _ | with_reducible refine Below.setCell ?_ ?_ _ | with_reducible refine below_step (by assumption) ?_ ?_ | omega | (simp; done) | (simp; omega)))⟩
def lightG (g : Gp) : Bool := decide (g.nm.size ≤ 300) && lightM g.like
def lightGs (l : List Gp) : Bool := decide (l.length ≤ 20) && l.all lightG
theorem lightGs_iff (l : List Gp) : lightGs l = true ↔ l.length ≤ 20 ∧ ∀ g ∈ l, g.nm.size ≤ 300 ∧ lightM g.like = true := by
  unfold lightGs
  rw [Bool.and_eq_true, decide_eq_true_eq, List.all_eq_true]
  refine and_congr Iff.rfl (forall_congr' fun g => imp_congr Iff.rfl ?_)
  unfold lightG
  rw [Bool.and_eq_true, decide_eq_true_eq]
theorem all_drop {α : Type} {P : α → Bool} {l : List α} {k : Nat} (hk : k < l.length) : (l.drop k).all P = (P l[k] && (l.drop (k + 1)).all P) := by
  rw [List.drop_eq_getElem_cons hk]
  rfl
set_option maxRecDepth 100000 in
set_option maxHeartbeats 4000000 in
theorem lightgs_any (a : Option Addr) (l : List Gp) (ka : Nat) (w : World) (hF : GpL w a l) (hm : l.length ≤ maxLen) (hI : ∀ g ∈ l, MacIn w g.like) :
    Calls Tryz.prog 4 #[.slice a l.length ka] w fun e w' => e = .returned (.bool (lightGs l)) ∧ Below w.heap.size w w' := by
  have HF := Lib.hid hF
  have HI := Lib.hid hI
  clear hF hI
  obtain ⟨n, hln⟩ : ∃ n, l.length = n := ⟨_, rfl⟩
  have Hln := Lib.hid hln
  unfold maxLen at hm
  by_cases h20 : n ≤ 20
  · have hr : lightGs l = l.all lightG := by unfold lightGs; rw [hln, decide_eq_true h20]; rfl
    rw [hr]
    rw [hln] at hm ⊢
    clear hr hln
    go_enter Tryz.func4, Tryz.ntmps4
    go_wp2
    go_loopw [3] (fun i wr => ∃ k : Nat, k ≤ n ∧ i = .int .i64 k ∧ l.all lightG = (l.drop k).all lightG ∧ Below w.heap.size w wr) (fun i _ => n - (intOf i).toNat)
    case atStart => exact ⟨0, by omega, rfl, rfl, by (repeat' (first | with_reducible exact Below.refl _ _ | with_reducible assumption | with_reducible refine Below.drew ?_ | with_reducible refine below_drewN' ?_ _ | with_reducible refine Below.alloc ?_ ?_ _ | with_reducible refine Below.setCell ?_ ?_ _ | with_reducible refine below_step (by assumption) ?_ ?_ | omega | (simp; done) | (simp; omega)))⟩
    case round =>
      obtain ⟨j, hj, rfl, hE, hC⟩ := hrel
      obtain ⟨hcC, hfC⟩ := bcell hC
      have hcz := hC.size
      have HE := Lib.hid hE
      have HC := Lib.hid hC
      clear hE
      by_cases hlj : j < n
      · have hkl : j < l.length := by rw [Hln.out]; exact hlj
        obtain ⟨b, off, rfl, hb, hc⟩ := HF.out (by omega)
        have hbw : b < wr.heap.size := by omega
        obtain ⟨c0, c1, c2, c3, c4, c5, c6, c7, c8, c9, c10, c11, c12, c13, c14⟩ := grow_cells (hc j l[j] (List.getElem?_eq_getElem hkl))
        have hE2 := HE.out
        rw [all_drop hkl] at hE2
        have HIj := Lib.hid ((HI.out l[j] (List.getElem_mem hkl)).mono HC.out)
        obtain ⟨g, hg⟩ : ∃ g, l[j] = g := ⟨_, rfl⟩
        rw [hg] at c0 c1 c2 c3 c4 c5 c6 c7 c8 c9 c10 c11 c12 c13 c14 hE2 HIj
        clear hc hg hkl
        by_cases h1 : g.nm.size ≤ 300
        · cases h2 : lightM g.like
          · have Hs := Lib.hid (show l.all lightG = false by rw [hE2]; unfold lightG; rw [h2, Bool.and_false, Bool.false_and])
            have H2 := Lib.hid h2
            clear h2 hE2
            go_wp2_with (go_at_call 21; (with_reducible refine (lightm_any g.like _ HIj.out.here).mono ?_); rw [H2.out]; rintro e w5 ⟨rfl, hb5⟩; have hz5 := hb5.size)
            go_ret
            exact ⟨by rw [Hs.out]; rfl, by (repeat' (first | with_reducible exact Below.refl _ _ | with_reducible assumption | with_reducible refine Below.drew ?_ | with_reducible refine below_drewN' ?_ _ | with_reducible refine Below.alloc ?_ ?_ _ | with_reducible refine Below.setCell ?_ ?_ _ | with_reducible refine below_step (by assumption) ?_ ?_ | omega | (simp; done) | (simp; omega)))⟩
          · have Hs := Lib.hid (show l.all lightG = (l.drop (j + 1)).all lightG by rw [hE2]; unfold lightG; rw [h2, decide_eq_true h1]; rfl)
            have H2 := Lib.hid h2
            clear h2 hE2
            go_wp2_with (go_at_call 21; (with_reducible refine (lightm_any g.like _ HIj.out.here).mono ?_); rw [H2.out]; rintro e w5 ⟨rfl, hb5⟩; have hz5 := hb5.size)
            go_roundw
            case rel => exact ⟨j + 1, by omega, by go_num, Hs.out, by (repeat' (first | with_reducible exact Below.refl _ _ | with_reducible assumption | with_reducible refine Below.drew ?_ | with_reducible refine below_drewN' ?_ _ | with_reducible refine Below.alloc ?_ ?_ _ | with_reducible refine Below.setCell ?_ ?_ _ | with_reducible refine below_step (by assumption) ?_ ?_ | omega | (simp; done) | (simp; omega)))⟩
            case measure => simp [intOf]; omega
        · have Hs := Lib.hid (show l.all lightG = false by rw [hE2]; unfold lightG; rw [decide_eq_false h1]; rfl)
          have h1' : 300 < g.nm.size := by omega
          clear hE2
          go_wp2
          go_ret
          exact ⟨by rw [Hs.out]; rfl, by (repeat' (first | with_reducible exact Below.refl _ _ | with_reducible assumption | with_reducible refine Below.drew ?_ | with_reducible refine below_drewN' ?_ _ | with_reducible refine Below.alloc ?_ ?_ _ | with_reducible refine Below.setCell ?_ ?_ _ | with_reducible refine below_step (by assumption) ?_ ?_ | omega | (simp; done) | (simp; omega)))⟩
      · obtain rfl : j = n := by omega
        have Hs := Lib.hid (show l.all lightG = true by rw [HE.out, List.drop_eq_nil_of_le (by rw [Hln.out]; exact Nat.le_refl _)]; rfl)
        go_wp2
        go_ret
        exact ⟨by rw [Hs.out]; rfl, by (repeat' (first | with_reducible exact Below.refl _ _ | with_reducible assumption | with_reducible refine Below.drew ?_ | with_reducible refine below_drewN' ?_ _ | with_reducible refine Below.alloc ?_ ?_ _ | with_reducible refine Below.setCell ?_ ?_ _ | with_reducible refine below_step (by assumption) ?_ ?_ | omega | (simp; done) | (simp; omega)))⟩
  · have hr : lightGs l = false := by unfold lightGs; rw [hln, decide_eq_false h20]; rfl
    rw [hr]
    rw [hln] at hm ⊢
    clear hr hln
    have h2 : 20 < n := by omega
    go_enter Tryz.func4, Tryz.ntmps4
    go_wp2
    go_ret
    exact ⟨rfl, by (repeat' (first | with_reducible exact Below.refl _ _ | with_reducible assumption | with_reducible refine Below.drew ?_ | with_reducible refine below_drewN' ?_ _ | with_reducible refine Below.alloc ?_ ?_ _ | with_reducible refine Below.setCell ?_ ?_ _ | with_reducible refine below_step (by assumption) ?_ ?_ | omega | (simp; done) | (simp; omega)))⟩
theorem findA_le : ∀ (l : List Gp) (key : ByteArray) (i : Int) (j : Nat) (g : Gp), l[j]? = some g → g.nm = key → i ≤ findA l key i ∧ findA l key i ≤ i + j
  | [], _, _, _, _, h, _ => by cases h
  | x :: l, key, i, j, g, h, hk => by
    rw [findA]
    by_cases hx : x.nm = key
    · rw [if_pos hx]
      omega
    · rw [if_neg hx]
      cases j with
      | zero =>
        obtain rfl : x = g := by simpa using h
        exact absurd hk hx
      | succ j =>
        have := findA_le l key (i + 1) j g (by simpa using h) hk
        omega
def okG (l : List Gp) (i : Nat) : Bool := match l[i]? with
  | some g => rightG g && decide (g.nm.size ≤ 48) && decide (findA l g.nm 0 = (i : Int))
  | none => true
def rightGs (l : List Gp) : Bool := decide (l.length ≤ 16) && (List.range l.length).all (okG l)
theorem okG_at {l : List Gp} {k : Nat} {g : Gp} (h : l[k]? = some g) : okG l k = (rightG g && decide (g.nm.size ≤ 48) && decide (findA l g.nm 0 = (k : Int))) := by
  unfold okG
  rw [h]
theorem rightGs_bad {l : List Gp} {k : Nat} (hk : k < l.length) (h : okG l k = false) : rightGs l = false := by
  unfold rightGs
  rw [Bool.and_eq_false_iff]
  right
  rw [Bool.eq_false_iff]
  intro he
  have := List.all_eq_true.1 he k (List.mem_range.2 hk)
  rw [h] at this
  cases this
theorem range_step {l : List Gp} {k : Nat} (h : (List.range k).all (okG l) = true) (hk : okG l k = true) : (List.range (k + 1)).all (okG l) = true := by
  rw [List.range_succ, List.all_append, h]
  simp [hk]
set_option maxRecDepth 100000 in
set_option maxHeartbeats 8000000 in
theorem refrightgs_any (a : Option Addr) (l : List Gp) (ka : Nat) (w : World) (hF : GpL w a l) (hI : ∀ g ∈ l, MacIn w g.like) (hL : lightGs l = true) :
    Calls Tryz.prog 5 #[.slice a l.length ka] w fun e w' => e = .returned (.bool (rightGs l)) ∧ Below w.heap.size w w' := by
  obtain ⟨h20, hlg⟩ := (lightGs_iff l).1 hL
  have HF := Lib.hid hF
  have HI := Lib.hid hI
  have HL := Lib.hid hlg
  clear hF hI hL hlg
  obtain ⟨n, hln⟩ : ∃ n, l.length = n := ⟨_, rfl⟩
  have Hln := Lib.hid hln
  by_cases h16 : 16 < n
  · have hr : rightGs l = false := by unfold rightGs; rw [hln, decide_eq_false (by omega)]; rfl
    rw [hr]
    rw [hln] at h20 ⊢
    clear hr hln
    go_enter Tryz.func5, Tryz.ntmps5
    go_wp2
    go_ret
    exact ⟨rfl, by (repeat' (first | with_reducible exact Below.refl _ _ | with_reducible assumption | with_reducible refine Below.drew ?_ | with_reducible refine below_drewN' ?_ _ | with_reducible refine Below.alloc ?_ ?_ _ | with_reducible refine Below.setCell ?_ ?_ _ | with_reducible refine below_step (by assumption) ?_ ?_ | omega | (simp; done) | (simp; omega)))⟩
  · have Hend := Lib.hid (show (List.range n).all (okG l) = true → rightGs l = true from fun h => by unfold rightGs; rw [hln, h, decide_eq_true (by omega)]; rfl)
    rw [hln] at h20 ⊢
    clear hln
    go_enter Tryz.func5, Tryz.ntmps5
    go_wp2
    go_loopw [3] (fun i wr => ∃ k : Nat, k ≤ n ∧ i = .int .i64 k ∧ (List.range k).all (okG l) = true ∧ Below w.heap.size w wr) (fun i _ => n - (intOf i).toNat)
    case atStart => exact ⟨0, by omega, rfl, rfl, by (repeat' (first | with_reducible exact Below.refl _ _ | with_reducible assumption | with_reducible refine Below.drew ?_ | with_reducible refine below_drewN' ?_ _ | with_reducible refine Below.alloc ?_ ?_ _ | with_reducible refine Below.setCell ?_ ?_ _ | with_reducible refine below_step (by assumption) ?_ ?_ | omega | (simp; done) | (simp; omega)))⟩
    case round =>
      obtain ⟨j, hj, rfl, hE, hC⟩ := hrel
      obtain ⟨hcC, hfC⟩ := bcell hC
      have hcz := hC.size
      have HE := Lib.hid hE
      have HC := Lib.hid hC
      clear hE
      by_cases hlj : j < n
      · have hkl : j < l.length := by rw [Hln.out]; exact hlj
        obtain ⟨b, off, rfl, hb, hc⟩ := HF.out (by omega)
        have hbw : b < wr.heap.size := by omega
        have hgj : l[j]? = some l[j] := List.getElem?_eq_getElem hkl
        obtain ⟨c0, c1, c2, c3, c4, c5, c6, c7, c8, c9, c10, c11, c12, c13, c14⟩ := grow_cells (hc j l[j] hgj)
        have HIj := Lib.hid ((HI.out l[j] (List.getElem_mem hkl)).mono HC.out)
        obtain ⟨h1, h2⟩ := HL.out l[j] (List.getElem_mem hkl)
        obtain ⟨g, hg⟩ : ∃ g, l[j] = g := ⟨_, rfl⟩
        rw [hg] at c0 c1 c2 c3 c4 c5 c6 c7 c8 c9 c10 c11 c12 c13 c14 HIj h1 h2 hgj
        have hok := okG_at hgj
        obtain ⟨hf0, hf1⟩ := findA_le l g.nm 0 j g hgj rfl
        obtain ⟨f, hff⟩ : ∃ f, findA l g.nm 0 = f := ⟨_, rfl⟩
        have Hff := Lib.hid hff
        rw [hff] at hok hf0 hf1
        have HRG : Hid (∀ V : World, Below wr.heap.size wr V → Calls Tryz.prog 22 #[.agg #[.string (g).nm, .int .i64 (g).mn, .int .i64 (g).mx, .string (g).like.nm, .string (g).like.gp, .int .i64 (g).like.r0, .int .i64 (g).like.r1, .int .i64 (g).like.r2, .int .i64 (g).like.r3, .int .i64 (g).like.r4, .slice (g).like.la (g).like.labs.length (g).like.lk, .slice (g).like.ta (g).like.tnts.length (g).like.tk, .bool (g).like.rd, .int .i64 (g).pr, .int .i64 (g).rk]] V fun e w' => e = .returned (.bool (rightG g)) ∧ Below V.heap.size V w') := Lib.hid fun V hV => refrightgroup_any g V ((HIj.out.mono hV).here) h1 h2
        have HFD : Hid (∀ V : World, Below wr.heap.size wr V → Calls Tryz.prog 20 #[.slice (some ⟨b, off, none⟩) n ka, .string g.nm] V fun e w' => e = .returned (.int .i64 (findA l g.nm 0)) ∧ Below V.heap.size V w') := Lib.hid fun V hV => by
          have := reffind_any (some ⟨b, off, none⟩) l ka g.nm V ((HF.out.mono HC.out).mono hV) (by rw [Hln.out]; unfold maxLen; omega)
          rw [Hln.out] at this
          exact this
        have Hbad := Lib.hid (fun h => rightGs_bad (l := l) (k := j) hkl h)
        clear hc hg hkl h2 hgj hff
        cases hr : rightG g
        · have Hs := Lib.hid (Hbad.out (by rw [hok, hr]; rfl))
          have H1 := Lib.hid hr
          clear hr hok
          go_wp2_with (first
            | (go_at_call 22; (with_reducible refine (HRG.out _ (by (repeat' (first | with_reducible exact Below.refl _ _ | with_reducible assumption | with_reducible refine Below.drew ?_ | with_reducible refine below_drewN' ?_ _ | with_reducible refine Below.alloc ?_ ?_ _ | with_reducible refine Below.setCell ?_ ?_ _ | with_reducible refine below_step (by assumption) ?_ ?_ | omega | (simp; done) | (simp; omega))))).mono ?_); rw [H1.out]; rintro e w5 ⟨rfl, hb5⟩; obtain ⟨hc5, hf5⟩ := bcell hb5; have hz5 := hb5.size; (try simp at hz5); have hbx5 : b < w5.heap.size := (by omega); have hbz5 : wr.heap.size ≤ w5.heap.size := (by omega))
            | (go_at_call 20; (with_reducible refine (HFD.out _ (by (repeat' (first | with_reducible exact Below.refl _ _ | with_reducible assumption | with_reducible refine Below.drew ?_ | with_reducible refine below_drewN' ?_ _ | with_reducible refine Below.alloc ?_ ?_ _ | with_reducible refine Below.setCell ?_ ?_ _ | with_reducible refine below_step (by assumption) ?_ ?_ | omega | (simp; done) | (simp; omega))))).mono ?_); rw [Hff.out]; rintro e w6 ⟨rfl, hb6⟩; have hz6 := hb6.size))
          go_ret
          exact ⟨by rw [Hs.out]; rfl, by (repeat' (first | with_reducible exact Below.refl _ _ | with_reducible assumption | with_reducible refine Below.drew ?_ | with_reducible refine below_drewN' ?_ _ | with_reducible refine Below.alloc ?_ ?_ _ | with_reducible refine Below.setCell ?_ ?_ _ | with_reducible refine below_step (by assumption) ?_ ?_ | omega | (simp; done) | (simp; omega)))⟩
        · have H1 := Lib.hid hr
          by_cases h48 : 48 < g.nm.size
          · have Hs := Lib.hid (Hbad.out (by rw [hok, decide_eq_false (show ¬ g.nm.size ≤ 48 by omega), Bool.and_false]; rfl))
            clear hr hok
            go_wp2_with (first
            | (go_at_call 22; (with_reducible refine (HRG.out _ (by (repeat' (first | with_reducible exact Below.refl _ _ | with_reducible assumption | with_reducible refine Below.drew ?_ | with_reducible refine below_drewN' ?_ _ | with_reducible refine Below.alloc ?_ ?_ _ | with_reducible refine Below.setCell ?_ ?_ _ | with_reducible refine below_step (by assumption) ?_ ?_ | omega | (simp; done) | (simp; omega))))).mono ?_); rw [H1.out]; rintro e w5 ⟨rfl, hb5⟩; obtain ⟨hc5, hf5⟩ := bcell hb5; have hz5 := hb5.size; (try simp at hz5); have hbx5 : b < w5.heap.size := (by omega); have hbz5 : wr.heap.size ≤ w5.heap.size := (by omega))
            | (go_at_call 20; (with_reducible refine (HFD.out _ (by (repeat' (first | with_reducible exact Below.refl _ _ | with_reducible assumption | with_reducible refine Below.drew ?_ | with_reducible refine below_drewN' ?_ _ | with_reducible refine Below.alloc ?_ ?_ _ | with_reducible refine Below.setCell ?_ ?_ _ | with_reducible refine below_step (by assumption) ?_ ?_ | omega | (simp; done) | (simp; omega))))).mono ?_); rw [Hff.out]; rintro e w6 ⟨rfl, hb6⟩; have hz6 := hb6.size))
            go_ret
            exact ⟨by rw [Hs.out]; rfl, by (repeat' (first | with_reducible exact Below.refl _ _ | with_reducible assumption | with_reducible refine Below.drew ?_ | with_reducible refine below_drewN' ?_ _ | with_reducible refine Below.alloc ?_ ?_ _ | with_reducible refine Below.setCell ?_ ?_ _ | with_reducible refine below_step (by assumption) ?_ ?_ | omega | (simp; done) | (simp; omega)))⟩
          · by_cases hfj : f = (j : Int)
            · have Hs := Lib.hid (range_step HE.out (by rw [hok, hr, decide_eq_true (show g.nm.size ≤ 48 by omega), decide_eq_true hfj]; rfl))
              subst hfj
              clear hr hok hf0 hf1
              go_wp2_with (first
            | (go_at_call 22; (with_reducible refine (HRG.out _ (by (repeat' (first | with_reducible exact Below.refl _ _ | with_reducible assumption | with_reducible refine Below.drew ?_ | with_reducible refine below_drewN' ?_ _ | with_reducible refine Below.alloc ?_ ?_ _ | with_reducible refine Below.setCell ?_ ?_ _ | with_reducible refine below_step (by assumption) ?_ ?_ | omega | (simp; done) | (simp; omega))))).mono ?_); rw [H1.out]; rintro e w5 ⟨rfl, hb5⟩; obtain ⟨hc5, hf5⟩ := bcell hb5; have hz5 := hb5.size; (try simp at hz5); have hbx5 : b < w5.heap.size := (by omega); have hbz5 : wr.heap.size ≤ w5.heap.size := (by omega))
            | (go_at_call 20; (with_reducible refine (HFD.out _ (by (repeat' (first | with_reducible exact Below.refl _ _ | with_reducible assumption | with_reducible refine Below.drew ?_ | with_reducible refine below_drewN' ?_ _ | with_reducible refine Below.alloc ?_ ?_ _ | with_reducible refine Below.setCell ?_ ?_ _ | with_reducible refine below_step (by assumption) ?_ ?_ | omega | (simp; done) | (simp; omega))))).mono ?_); rw [Hff.out]; rintro e w6 ⟨rfl, hb6⟩; have hz6 := hb6.size))
              go_roundw
              case rel => exact ⟨j + 1, by omega, by go_num, Hs.out, by (repeat' (first | with_reducible exact Below.refl _ _ | with_reducible assumption | with_reducible refine Below.drew ?_ | with_reducible refine below_drewN' ?_ _ | with_reducible refine Below.alloc ?_ ?_ _ | with_reducible refine Below.setCell ?_ ?_ _ | with_reducible refine below_step (by assumption) ?_ ?_ | omega | (simp; done) | (simp; omega)))⟩
              case measure => simp [intOf]; omega
            · have Hs := Lib.hid (Hbad.out (by rw [hok, decide_eq_false hfj, Bool.and_false]))
              have hflt : f < (j : Int) := by omega
              have hfne : (f != (j : Int)) = true := by simpa using hfj
              clear hr hok hfj
              go_wp2_with (first
            | (go_at_call 22; (with_reducible refine (HRG.out _ (by (repeat' (first | with_reducible exact Below.refl _ _ | with_reducible assumption | with_reducible refine Below.drew ?_ | with_reducible refine below_drewN' ?_ _ | with_reducible refine Below.alloc ?_ ?_ _ | with_reducible refine Below.setCell ?_ ?_ _ | with_reducible refine below_step (by assumption) ?_ ?_ | omega | (simp; done) | (simp; omega))))).mono ?_); rw [H1.out]; rintro e w5 ⟨rfl, hb5⟩; obtain ⟨hc5, hf5⟩ := bcell hb5; have hz5 := hb5.size; (try simp at hz5); have hbx5 : b < w5.heap.size := (by omega); have hbz5 : wr.heap.size ≤ w5.heap.size := (by omega))
            | (go_at_call 20; (with_reducible refine (HFD.out _ (by (repeat' (first | with_reducible exact Below.refl _ _ | with_reducible assumption | with_reducible refine Below.drew ?_ | with_reducible refine below_drewN' ?_ _ | with_reducible refine Below.alloc ?_ ?_ _ | with_reducible refine Below.setCell ?_ ?_ _ | with_reducible refine below_step (by assumption) ?_ ?_ | omega | (simp; done) | (simp; omega))))).mono ?_); rw [Hff.out]; rintro e w6 ⟨rfl, hb6⟩; have hz6 := hb6.size))
              go_ret
              exact ⟨by rw [Hs.out]; rfl, by (repeat' (first | with_reducible exact Below.refl _ _ | with_reducible assumption | with_reducible refine Below.drew ?_ | with_reducible refine below_drewN' ?_ _ | with_reducible refine Below.alloc ?_ ?_ _ | with_reducible refine Below.setCell ?_ ?_ _ | with_reducible refine below_step (by assumption) ?_ ?_ | omega | (simp; done) | (simp; omega)))⟩
      · obtain rfl : j = n := by omega
        have Hs := Lib.hid (Hend.out HE.out)
        go_wp2
        go_ret
        exact ⟨by rw [Hs.out]; rfl, by (repeat' (first | with_reducible exact Below.refl _ _ | with_reducible assumption | with_reducible refine Below.drew ?_ | with_reducible refine below_drewN' ?_ _ | with_reducible refine Below.alloc ?_ ?_ _ | with_reducible refine Below.setCell ?_ ?_ _ | with_reducible refine below_step (by assumption) ?_ ?_ | omega | (simp; done) | (simp; omega)))⟩
set_option maxRecDepth 100000 in
set_option maxHeartbeats 8000000 in
theorem rightgs_any (a : Option Addr) (l : List Gp) (ka : Nat) (w : World) (hF : GpL w a l) (hI : ∀ g ∈ l, MacIn w g.like) (hL : lightGs l = true) :
    Calls Tryz.prog 26 #[.slice a l.length ka] w fun e w' => e = .returned (.bool (rightGs l)) ∧ Below w.heap.size w w' := by
  obtain ⟨h20, hlg⟩ := (lightGs_iff l).1 hL
  have HF := Lib.hid hF
  have HI := Lib.hid hI
  have HL := Lib.hid hlg
  clear hF hI hL hlg
  obtain ⟨n, hln⟩ : ∃ n, l.length = n := ⟨_, rfl⟩
  have Hln := Lib.hid hln
  by_cases h16 : 16 < n
  · have hr : rightGs l = false := by unfold rightGs; rw [hln, decide_eq_false (by omega)]; rfl
    rw [hr]
    rw [hln] at h20 ⊢
    clear hr hln
    go_enter Tryz.func26, Tryz.ntmps26
    go_wp2
    go_ret
    exact ⟨rfl, by (repeat' (first | with_reducible exact Below.refl _ _ | with_reducible assumption | with_reducible refine Below.drew ?_ | with_reducible refine below_drewN' ?_ _ | with_reducible refine Below.alloc ?_ ?_ _ | with_reducible refine Below.setCell ?_ ?_ _ | with_reducible refine below_step (by assumption) ?_ ?_ | omega | (simp; done) | (simp; omega)))⟩
  · have Hend := Lib.hid (show (List.range n).all (okG l) = true → rightGs l = true from fun h => by unfold rightGs; rw [hln, h, decide_eq_true (by omega)]; rfl)
    rw [hln] at h20 ⊢
    clear hln
    go_enter Tryz.func26, Tryz.ntmps26
    go_wp2
    go_loopw [3, 4, 10] (fun _ _ i wr => ∃ k : Nat, k ≤ n ∧ i = .int .i64 k ∧ (List.range k).all (okG l) = true ∧ Below w.heap.size w wr) (fun _ _ i _ => n - (intOf i).toNat)
    case atStart => exact ⟨0, by omega, rfl, rfl, by (repeat' (first | with_reducible exact Below.refl _ _ | with_reducible assumption | with_reducible refine Below.drew ?_ | with_reducible refine below_drewN' ?_ _ | with_reducible refine Below.alloc ?_ ?_ _ | with_reducible refine Below.setCell ?_ ?_ _ | with_reducible refine below_step (by assumption) ?_ ?_ | omega | (simp; done) | (simp; omega)))⟩
    case round =>
      obtain ⟨j, hj, rfl, hE, hC⟩ := hrel
      obtain ⟨hcC, hfC⟩ := bcell hC
      have hcz := hC.size
      have HE := Lib.hid hE
      have HC := Lib.hid hC
      clear hE
      by_cases hlj : j < n
      · have hkl : j < l.length := by rw [Hln.out]; exact hlj
        obtain ⟨b, off, rfl, hb, hc⟩ := HF.out (by omega)
        have hbw : b < wr.heap.size := by omega
        have hgj : l[j]? = some l[j] := List.getElem?_eq_getElem hkl
        obtain ⟨c0, c1, c2, c3, c4, c5, c6, c7, c8, c9, c10, c11, c12, c13, c14⟩ := grow_cells (hc j l[j] hgj)
        have HIj := Lib.hid ((HI.out l[j] (List.getElem_mem hkl)).mono HC.out)
        obtain ⟨h1, h2⟩ := HL.out l[j] (List.getElem_mem hkl)
        obtain ⟨g, hg⟩ : ∃ g, l[j] = g := ⟨_, rfl⟩
        rw [hg] at c0 c1 c2 c3 c4 c5 c6 c7 c8 c9 c10 c11 c12 c13 c14 HIj h1 h2 hgj
        have hok := okG_at hgj
        obtain ⟨hf0, hf1⟩ := findA_le l g.nm 0 j g hgj rfl
        obtain ⟨f, hff⟩ : ∃ f, findA l g.nm 0 = f := ⟨_, rfl⟩
        have Hff := Lib.hid hff
        rw [hff] at hok hf0 hf1
        have HRG : Hid (∀ V : World, Below wr.heap.size wr V → Calls Tryz.prog 48 #[.agg #[.string (g).nm, .int .i64 (g).mn, .int .i64 (g).mx, .string (g).like.nm, .string (g).like.gp, .int .i64 (g).like.r0, .int .i64 (g).like.r1, .int .i64 (g).like.r2, .int .i64 (g).like.r3, .int .i64 (g).like.r4, .slice (g).like.la (g).like.labs.length (g).like.lk, .slice (g).like.ta (g).like.tnts.length (g).like.tk, .bool (g).like.rd, .int .i64 (g).pr, .int .i64 (g).rk]] V fun e w' => e = .returned (.bool (rightG g)) ∧ Below V.heap.size V w') := Lib.hid fun V hV => srightgroup_any g V (HIj.out.mono hV) h1 h2
        have HFD : Hid (∀ V : World, Below wr.heap.size wr V → Calls Tryz.prog 38 #[.slice (some ⟨b, off, none⟩) n ka, .string g.nm] V fun e w' => e = .returned (.int .i64 (findA l g.nm 0)) ∧ Below V.heap.size V w') := Lib.hid fun V hV => by
          have := find_any (some ⟨b, off, none⟩) l ka g.nm V ((HF.out.mono HC.out).mono hV) (by rw [Hln.out]; unfold maxLen; omega)
          rw [Hln.out] at this
          exact this
        have Hbad := Lib.hid (fun h => rightGs_bad (l := l) (k := j) hkl h)
        clear hc hg hkl h2 hgj hff
        cases hr : rightG g
        · have Hs := Lib.hid (Hbad.out (by rw [hok, hr]; rfl))
          have H1 := Lib.hid hr
          clear hr hok
          go_wp2_with (first
            | (go_at_call 48; (with_reducible refine (HRG.out _ (by (repeat' (first | with_reducible exact Below.refl _ _ | with_reducible assumption | with_reducible refine Below.drew ?_ | with_reducible refine below_drewN' ?_ _ | with_reducible refine Below.alloc ?_ ?_ _ | with_reducible refine Below.setCell ?_ ?_ _ | with_reducible refine below_step (by assumption) ?_ ?_ | omega | (simp; done) | (simp; omega))))).mono ?_); rw [H1.out]; rintro e w5 ⟨rfl, hb5⟩; obtain ⟨hc5, hf5⟩ := bcell hb5; have hz5 := hb5.size; (try simp at hz5); have hbx5 : b < w5.heap.size := (by omega); have hbz5 : wr.heap.size ≤ w5.heap.size := (by omega); have hby5 : wr.heap.size < w5.heap.size := (by omega))
            | (go_at_call 38; (with_reducible refine (HFD.out _ (by (repeat' (first | with_reducible exact Below.refl _ _ | with_reducible assumption | with_reducible refine Below.drew ?_ | with_reducible refine below_drewN' ?_ _ | with_reducible refine Below.alloc ?_ ?_ _ | with_reducible refine Below.setCell ?_ ?_ _ | with_reducible refine below_step (by assumption) ?_ ?_ | omega | (simp; done) | (simp; omega))))).mono ?_); rw [Hff.out]; rintro e w6 ⟨rfl, hb6⟩; have hz6 := hb6.size))
          go_ret
          exact ⟨by rw [Hs.out]; rfl, by (repeat' (first | with_reducible exact Below.refl _ _ | with_reducible assumption | with_reducible refine Below.drew ?_ | with_reducible refine below_drewN' ?_ _ | with_reducible refine Below.alloc ?_ ?_ _ | with_reducible refine Below.setCell ?_ ?_ _ | with_reducible refine below_step (by assumption) ?_ ?_ | omega | (simp; done) | (simp; omega)))⟩
        · have H1 := Lib.hid hr
          by_cases h48 : 48 < g.nm.size
          · have Hs := Lib.hid (Hbad.out (by rw [hok, decide_eq_false (show ¬ g.nm.size ≤ 48 by omega), Bool.and_false]; rfl))
            clear hr hok
            go_wp2_with (first
            | (go_at_call 48; (with_reducible refine (HRG.out _ (by (repeat' (first | with_reducible exact Below.refl _ _ | with_reducible assumption | with_reducible refine Below.drew ?_ | with_reducible refine below_drewN' ?_ _ | with_reducible refine Below.alloc ?_ ?_ _ | with_reducible refine Below.setCell ?_ ?_ _ | with_reducible refine below_step (by assumption) ?_ ?_ | omega | (simp; done) | (simp; omega))))).mono ?_); rw [H1.out]; rintro e w5 ⟨rfl, hb5⟩; obtain ⟨hc5, hf5⟩ := bcell hb5; have hz5 := hb5.size; (try simp at hz5); have hbx5 : b < w5.heap.size := (by omega); have hbz5 : wr.heap.size ≤ w5.heap.size := (by omega); have hby5 : wr.heap.size < w5.heap.size := (by omega))
            | (go_at_call 38; (with_reducible refine (HFD.out _ (by (repeat' (first | with_reducible exact Below.refl _ _ | with_reducible assumption | with_reducible refine Below.drew ?_ | with_reducible refine below_drewN' ?_ _ | with_reducible refine Below.alloc ?_ ?_ _ | with_reducible refine Below.setCell ?_ ?_ _ | with_reducible refine below_step (by assumption) ?_ ?_ | omega | (simp; done) | (simp; omega))))).mono ?_); rw [Hff.out]; rintro e w6 ⟨rfl, hb6⟩; have hz6 := hb6.size))
            go_ret
            exact ⟨by rw [Hs.out]; rfl, by (repeat' (first | with_reducible exact Below.refl _ _ | with_reducible assumption | with_reducible refine Below.drew ?_ | with_reducible refine below_drewN' ?_ _ | with_reducible refine Below.alloc ?_ ?_ _ | with_reducible refine Below.setCell ?_ ?_ _ | with_reducible refine below_step (by assumption) ?_ ?_ | omega | (simp; done) | (simp; omega)))⟩
          · by_cases hfj : f = (j : Int)
            · have Hs := Lib.hid (range_step HE.out (by rw [hok, hr, decide_eq_true (show g.nm.size ≤ 48 by omega), decide_eq_true hfj]; rfl))
              subst hfj
              clear hr hok hf0 hf1
              go_wp2_with (first
            | (go_at_call 48; (with_reducible refine (HRG.out _ (by (repeat' (first | with_reducible exact Below.refl _ _ | with_reducible assumption | with_reducible refine Below.drew ?_ | with_reducible refine below_drewN' ?_ _ | with_reducible refine Below.alloc ?_ ?_ _ | with_reducible refine Below.setCell ?_ ?_ _ | with_reducible refine below_step (by assumption) ?_ ?_ | omega | (simp; done) | (simp; omega))))).mono ?_); rw [H1.out]; rintro e w5 ⟨rfl, hb5⟩; obtain ⟨hc5, hf5⟩ := bcell hb5; have hz5 := hb5.size; (try simp at hz5); have hbx5 : b < w5.heap.size := (by omega); have hbz5 : wr.heap.size ≤ w5.heap.size := (by omega); have hby5 : wr.heap.size < w5.heap.size := (by omega))
            | (go_at_call 38; (with_reducible refine (HFD.out _ (by (repeat' (first | with_reducible exact Below.refl _ _ | with_reducible assumption | with_reducible refine Below.drew ?_ | with_reducible refine below_drewN' ?_ _ | with_reducible refine Below.alloc ?_ ?_ _ | with_reducible refine Below.setCell ?_ ?_ _ | with_reducible refine below_step (by assumption) ?_ ?_ | omega | (simp; done) | (simp; omega))))).mono ?_); rw [Hff.out]; rintro e w6 ⟨rfl, hb6⟩; have hz6 := hb6.size))
              go_roundw
              case rel => exact ⟨j + 1, by omega, by go_num, Hs.out, by (repeat' (first | with_reducible exact Below.refl _ _ | with_reducible assumption | with_reducible refine Below.drew ?_ | with_reducible refine below_drewN' ?_ _ | with_reducible refine Below.alloc ?_ ?_ _ | with_reducible refine Below.setCell ?_ ?_ _ | with_reducible refine below_step (by assumption) ?_ ?_ | omega | (simp; done) | (simp; omega)))⟩
              case measure => simp [intOf]; omega
            · have Hs := Lib.hid (Hbad.out (by rw [hok, decide_eq_false hfj, Bool.and_false]))
              have hflt : f < (j : Int) := by omega
              have hfne : (f != (j : Int)) = true := by simpa using hfj
              clear hr hok hfj
              go_wp2_with (first
            | (go_at_call 48; (with_reducible refine (HRG.out _ (by (repeat' (first | with_reducible exact Below.refl _ _ | with_reducible assumption | with_reducible refine Below.drew ?_ | with_reducible refine below_drewN' ?_ _ | with_reducible refine Below.alloc ?_ ?_ _ | with_reducible refine Below.setCell ?_ ?_ _ | with_reducible refine below_step (by assumption) ?_ ?_ | omega | (simp; done) | (simp; omega))))).mono ?_); rw [H1.out]; rintro e w5 ⟨rfl, hb5⟩; obtain ⟨hc5, hf5⟩ := bcell hb5; have hz5 := hb5.size; (try simp at hz5); have hbx5 : b < w5.heap.size := (by omega); have hbz5 : wr.heap.size ≤ w5.heap.size := (by omega); have hby5 : wr.heap.size < w5.heap.size := (by omega))
            | (go_at_call 38; (with_reducible refine (HFD.out _ (by (repeat' (first | with_reducible exact Below.refl _ _ | with_reducible assumption | with_reducible refine Below.drew ?_ | with_reducible refine below_drewN' ?_ _ | with_reducible refine Below.alloc ?_ ?_ _ | with_reducible refine Below.setCell ?_ ?_ _ | with_reducible refine below_step (by assumption) ?_ ?_ | omega | (simp; done) | (simp; omega))))).mono ?_); rw [Hff.out]; rintro e w6 ⟨rfl, hb6⟩; have hz6 := hb6.size))
              go_ret
              exact ⟨by rw [Hs.out]; rfl, by (repeat' (first | with_reducible exact Below.refl _ _ | with_reducible assumption | with_reducible refine Below.drew ?_ | with_reducible refine below_drewN' ?_ _ | with_reducible refine Below.alloc ?_ ?_ _ | with_reducible refine Below.setCell ?_ ?_ _ | with_reducible refine below_step (by assumption) ?_ ?_ | omega | (simp; done) | (simp; omega)))⟩
      · obtain rfl : j = n := by omega
        have Hs := Lib.hid (Hend.out HE.out)
        go_wp2
        go_ret
        exact ⟨by rw [Hs.out]; rfl, by (repeat' (first | with_reducible exact Below.refl _ _ | with_reducible assumption | with_reducible refine Below.drew ?_ | with_reducible refine below_drewN' ?_ _ | with_reducible refine Below.alloc ?_ ?_ _ | with_reducible refine Below.setCell ?_ ?_ _ | with_reducible refine below_step (by assumption) ?_ ?_ | omega | (simp; done) | (simp; omega)))⟩
end Go.Proofs.YtmkdfcggjlhcpaaGreatDoor
namespace Go.Proofs.YtmkdfcggjlhcpaaGreatDoor
open Go.RowKit
set_option linter.unusedVariables false
set_option linter.unusedSimpArgs false
def itoaB (n : Int) : ByteArray := ⟨(Lib.itoa n).toArray⟩
theorem itoaB_size (n : Int) (h0 : -9223372036854775808 ≤ n) (h1 : n ≤ 9223372036854775807) : (itoaB n).size ≤ 21 := by
  have := Lib.itoa_length_le n h0 h1
  show (Lib.itoa n).toArray.size ≤ 21
  simpa using this
theorem cat_run (a b : ByteArray) (h : a.size + b.size ≤ 1000000) (w : World) : (Op.stringOp .add a b).run Tryz.prog w = .ok (.string (a ++ b)) w := run_string_add_sum w a b (by omega)
theorem itoa_nat (n : Nat) : itoaB (n : Int) = ⟨(Lib.decDigits n).toArray⟩ := by
  unfold itoaB Lib.itoa
  rw [if_neg (by omega)]
  rfl
def dgB (m : Nat) : ByteArray := ⟨(Lib.decDigits m).toArray⟩
theorem dg_size (m : Nat) : (dgB m).size = (Lib.decDigits m).length := by
  show (Lib.decDigits m).toArray.size = _
  simp
theorem itoa_dg {x : Int} (h : 0 ≤ x) : itoaB x = dgB x.toNat := by
  obtain ⟨k, rfl⟩ := Int.eq_ofNat_of_zero_le h
  exact itoa_nat k
end Go.Proofs.YtmkdfcggjlhcpaaGreatDoor
namespace Go.Proofs.YtmkdfcggjlhcpaaGreatDoor
open Go.RowKit
set_option linter.unusedVariables false
set_option linter.unusedSimpArgs false
structure Ins where
  nm : ByteArray
  gp : ByteArray
  st : Int
  lf : Int
  si : Int
def irow (x : Ins) : List Value := [.string x.nm, .string x.gp, .int .i64 x.st, .int .i64 x.lf, .int .i64 x.si]
abbrev InsL := RowsAt irow 5
theorem irow_len (x : Ins) : (irow x).length = 5 := rfl
theorem irow_cells {w : World} {b o : Nat} {x : Ins} (h : ∀ r, r < 5 → w.cell? ⟨b, o + r, none⟩ = (irow x)[r]?) :
    w.cell? ⟨b, o, none⟩ = some (.string x.nm) ∧ w.cell? ⟨b, o + 1, none⟩ = some (.string x.gp) ∧ w.cell? ⟨b, o + 2, none⟩ = some (.int .i64 x.st) ∧ w.cell? ⟨b, o + 3, none⟩ = some (.int .i64 x.lf) ∧ w.cell? ⟨b, o + 4, none⟩ = some (.int .i64 x.si) :=
  ⟨h 0 (by decide), h 1 (by decide), h 2 (by decide), h 3 (by decide), h 4 (by decide)⟩
structure Gk where
  nm : ByteArray
  mn : Int
  mx : Int
structure Pl where
  t : Int
  la : Int
  br : Bool
structure CS where
  G : List Gk
  P : List Pl
  L : List Ins
  dl : Int
  nw : Int
  ca : Int
def gkOf (g : Gp) : Gk := ⟨g.nm, g.mn, g.mx⟩
def mnm (nm : ByteArray) (n : Int) : ByteArray := if 1 ≤ n ∧ n ≤ 999999999 then (nm ++ (⟨#[45]⟩ : ByteArray)) ++ dgB n.toNat else emp
def fndK : List Gk → ByteArray → Option Nat
  | [], _ => none
  | g :: l, s => if g.nm = s then some 0 else (fndK l s).map (· + 1)
theorem findA_off (s : ByteArray) : ∀ (l : List Gp) (i : Int), findA l s i = match fndK (l.map gkOf) s with | none => -1 | some j => i + j
  | [], i => rfl
  | g :: l, i => by
    have ih := findA_off s l (i + 1)
    unfold findA
    rw [List.map_cons]
    unfold fndK
    by_cases h : g.nm = s
    · rw [if_pos h, if_pos (by exact h)]
      simp
    · rw [if_neg h, if_neg (by exact h), ih]
      cases fndK (l.map gkOf) s with
      | none => rfl
      | some j =>
        show i + 1 + (j : Int) = i + ((j + 1 : Nat) : Int)
        omega
theorem findA_none {s : ByteArray} {l : List Gp} (h : fndK (l.map gkOf) s = none) : findA l s 0 = -1 := by rw [findA_off, h]
theorem findA_some {s : ByteArray} {l : List Gp} {j : Nat} (h : fndK (l.map gkOf) s = some j) : findA l s 0 = j := by rw [findA_off, h]; simp
theorem fndK_lt {s : ByteArray} : ∀ {l : List Gk} {j : Nat}, fndK l s = some j → ∃ g, l[j]? = some g ∧ g.nm = s
  | [], j, h => by simp [fndK] at h
  | g :: l, j, h => by
    unfold fndK at h
    by_cases e : g.nm = s
    · rw [if_pos e] at h
      obtain rfl := Option.some.inj h
      exact ⟨g, rfl, e⟩
    · rw [if_neg e] at h
      cases hk : fndK l s with
      | none => rw [hk] at h; simp at h
      | some k =>
        rw [hk] at h
        simp only [Option.map_some, Option.some.injEq] at h
        subst h
        obtain ⟨g2, h1, h2⟩ := fndK_lt hk
        exact ⟨g2, by simpa using h1, h2⟩
def fndI : List Ins → ByteArray → Option Nat
  | [], _ => none
  | x :: l, s => if x.nm = s then some 0 else (fndI l s).map (· + 1)
theorem fndI_lt {s : ByteArray} : ∀ {l : List Ins} {j : Nat}, fndI l s = some j → ∃ x, l[j]? = some x ∧ x.nm = s
  | [], j, h => by simp [fndI] at h
  | g :: l, j, h => by
    unfold fndI at h
    by_cases e : g.nm = s
    · rw [if_pos e] at h
      obtain rfl := Option.some.inj h
      exact ⟨g, rfl, e⟩
    · rw [if_neg e] at h
      cases hk : fndI l s with
      | none => rw [hk] at h; simp at h
      | some k =>
        rw [hk] at h
        simp only [Option.map_some, Option.some.injEq] at h
        subst h
        obtain ⟨g2, h1, h2⟩ := fndI_lt hk
        exact ⟨g2, by simpa using h1, h2⟩
def sizeI (L : List Ins) (s : ByteArray) : Nat := L.countP fun x => decide (x.gp = s) && !decide (x.st = 3)
def moreI (nm : ByteArray) (la : Int) (like : Ins) (n : Nat) : List Ins := (List.range n).map fun (k : Nat) => { like with nm := mnm nm (la + 1 + (k : Int)), gp := nm }
theorem moreI_succ (nm : ByteArray) (la : Int) (like : Ins) (n : Nat) : moreI nm la like (n + 1) = moreI nm la like n ++ [{ like with nm := mnm nm (la + 1 + n), gp := nm }] := by
  unfold moreI
  rw [List.range_succ, List.map_append]
  rfl
def CS.req (s : CS) (j : Nat) (g : Gk) (p : Pl) (like : Ins) (n : Nat) : CS := { s with P := s.P.set j ⟨p.t + n, p.la + n, p.br⟩, L := s.L ++ moreI g.nm p.la like n }
def CS.inc (s : CS) (nm : ByteArray) (n : Int) : CS × Int :=
  match fndK s.G nm with
  | none => (s, 16)
  | some j =>
    match s.G[j]?, s.P[j]? with
    | some g, some p => if n < 1 then (s, 1) else if g.mx - p.t < n then (s, 21) else if p.br then (s, 26) else ({ s.req j g p ⟨emp, emp, 1, s.dl, s.nw⟩ n.toNat with ca := s.ca + 1 }, 0)
    | _, _ => (s, 16)
def CS.del (s : CS) (nm : ByteArray) : CS × Int :=
  match fndI s.L nm with
  | none => (s, 16)
  | some k =>
    match s.L[k]? with
    | none => (s, 16)
    | some x =>
      match fndK s.G x.gp with
      | none => (s, 16)
      | some j =>
        match s.G[j]?, s.P[j]? with
        | some g, some p => if x.st = 3 then (s, 22) else if x.st = 2 ∧ p.t ≤ g.mn then (s, 20) else
          ({ s with L := s.L.set k { x with st := 3, lf := 1 }, P := s.P.set j ⟨max g.mn (p.t - 1), p.la, p.br⟩, ca := s.ca + 1 }, 0)
        | _, _ => (s, 16)
def CS.dec (s : CS) (nm : ByteArray) (n : Int) : CS × Int :=
  match fndK s.G nm with
  | none => (s, 16)
  | some j =>
    match s.G[j]?, s.P[j]? with
    | some g, some p => if n < 1 then (s, 1) else if p.t - n < g.mn ∨ p.t - n < sizeI s.L nm then (s, 20) else ({ s with P := s.P.set j ⟨p.t - n, p.la, p.br⟩, ca := s.ca + 1 }, 0)
    | _, _ => (s, 16)
def CS.brk (s : CS) (nm : ByteArray) (is : Bool) : CS × Int :=
  match fndK s.G nm with
  | none => (s, 16)
  | some j =>
    match s.P[j]? with
    | some p => ({ s with P := s.P.set j ⟨p.t, p.la, is⟩ }, 0)
    | none => (s, 16)
def CS.fail (s : CS) (nm : ByteArray) : CS × Int :=
  match fndI s.L nm with
  | none => (s, 16)
  | some k =>
    match s.L[k]? with
    | none => (s, 16)
    | some x => if x.st = 1 then ({ s with L := s.L.set k { x with st := 4, lf := 0 } }, 0) else (s, 22)
def CS.tgt (s : CS) (nm : ByteArray) : Int :=
  match fndK s.G nm with
  | none => 0
  | some j => match s.P[j]? with
    | some p => p.t
    | none => 0
def brOf (s : CS) (nm : ByteArray) : Bool :=
  match fndK s.G nm with
  | none => false
  | some j => match s.P[j]? with
    | some p => p.br
    | none => false
def tickI (br : Bool) (x : Ins) : Option Ins :=
  if x.st = 3 then none else if x.st = 1 then (if x.lf - 1 = 0 then some { x with st := (if br then 4 else 2), lf := 0 } else some { x with lf := x.lf - 1 }) else some x
def CS.tick (s : CS) : CS := { s with nw := s.nw + 1, L := s.L.filterMap fun x => tickI (brOf s x.gp) x }
structure CS.Ok (s : CS) (m : Nat) : Prop where
  ln : s.P.length = s.G.length
  g16 : s.G.length ≤ 16
  nd : (s.G.map Gk.nm).Nodup
  gb : ∀ g ∈ s.G, 0 ≤ g.mn ∧ g.mn ≤ g.mx ∧ 1 ≤ g.mx ∧ g.mx ≤ 200 ∧ g.nm.size ≤ 300
  tb : ∀ (j : Nat) (g : Gk) (p : Pl), s.G[j]? = some g → s.P[j]? = some p → g.mn ≤ p.t ∧ p.t ≤ g.mx ∧ 0 ≤ p.la ∧ p.la ≤ 200 * (m : Int)
  ib : ∀ x ∈ s.L, (∃ j, fndK s.G x.gp = some j) ∧ 0 ≤ x.lf ∧ x.lf ≤ 1000 ∧ (x.st = 1 → 1 ≤ x.lf) ∧ 1 ≤ x.st ∧ x.st ≤ 4 ∧ x.nm.size ≤ 1000 ∧ (x.st = 2 ∨ x.st = 4 → x.lf = 0) ∧ x.si ≤ s.nw ∧ 0 ≤ x.si
  lb : s.L.length ≤ 3200 * m
  db : 1 ≤ s.dl ∧ s.dl ≤ 1000
  nb : 0 ≤ s.nw ∧ s.nw ≤ m ∧ 0 ≤ s.ca ∧ s.ca ≤ m
end Go.Proofs.YtmkdfcggjlhcpaaGreatDoor
