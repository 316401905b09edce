/-
  Kin: Ints; what known speaks of.
-/
import Derived.Test.YtccplljbljpjpaaDoorKi6
import Derived.Test.YtccplljbljpjpaaDoorKi3
namespace Go.Proofs.YtccplljbljpjpaaDoor
open Go.ChangeShapes Go.WideShapes Go.ChangeAt Go.RowKit
set_option linter.unusedVariables false
set_option linter.unusedSimpArgs false

theorem icl_at {w : World} {b o : Nat} {g : List Int} (h : ∀ i x, g[i]? = some x → ∀ r, r < 1 → w.cell? ⟨b, o + i * 1 + r, none⟩ = (icl x)[r]?) {k : Nat} {x : Int} (hx : g[k]? = some x) : w.cell? ⟨b, o + k, none⟩ = some (.int .i64 x) := by
  have := h k x hx 0 (by decide)
  rw [Nat.mul_one, Nat.add_zero] at this
  exact this
set_option maxRecDepth 100000 in
set_option maxHeartbeats 2000000 in
theorem ints_any (c d : Option Addr) (kc kd : Nat) (g h : List Int) (w : World) (hg : RowsAt icl 1 w c g) (hh : RowsAt icl 1 w d h) (hl : g.length ≤ 1000000) (hm : h.length ≤ 1000000) :
    Calls Tryd.prog 13 #[.slice c g.length kc, .slice d h.length kd] w fun e w' => e = .returned (.bool (decide (g = h))) ∧ Below w.heap.size w w' := by
  by_cases hlen : g.length = h.length
  · obtain ⟨n, hn⟩ : ∃ n, g.length = n := ⟨_, rfl⟩
    have hn2 : h.length = n := by omega
    have HN := Lib.hid hn
    have HN2 := Lib.hid hn2
    have HGg := Lib.hid hg
    have HHh := Lib.hid hh
    rw [hn] at hl ⊢
    rw [hn2]
    obtain ⟨R, hR⟩ : ∃ R, decide (g = h) = R := ⟨_, rfl⟩
    have HR := Lib.hid hR
    rw [hR]
    clear hn hn2 hg hh hm hlen hR
    go_enter Tryd.func13, Tryd.ntmps13
    go_wp2
    go_loopw [5] (fun vi wr => ∃ k : Nat, k ≤ n ∧ vi = .int .i64 k ∧ (∀ i, i < k → g[i]? = h[i]?) ∧ Below w.heap.size w wr) (fun vi _ => n - (intOf vi).toNat)
    case atStart => exact ⟨0, Nat.zero_le _, rfl, fun i hi => absurd hi (Nat.not_lt_zero _), Below.refl _ _⟩
    case round =>
      obtain ⟨k, hk, rfl, hE, hB⟩ := hrel
      have HB := Lib.hid hB
      have HE := Lib.hid hE
      clear hE hB
      by_cases hlt : k < n
      · obtain ⟨x, hx⟩ := mem_at (l := g) (k := k) (by rw [HN.out]; exact hlt)
        obtain ⟨y, hy⟩ := mem_at (l := h) (k := k) (by rw [HN2.out]; exact hlt)
        obtain ⟨b, o, rfl, hb, hc⟩ := (HGg.out.mono HB.out) (by rw [HN.out]; omega)
        obtain ⟨b2, o2, rfl, hb2, hc2⟩ := (HHh.out.mono HB.out) (by rw [HN2.out]; omega)
        have c0 := icl_at hc hx
        have d0 := icl_at hc2 hy
        have HX := Lib.hid hx
        have HY := Lib.hid hy
        clear hc hc2 hx hy
        by_cases he : x = y
        · have HNx := Lib.hid (show ∀ i, i < k + 1 → g[i]? = h[i]? from fun i hi => by
            by_cases hik : i = k
            · subst hik
              rw [HX.out, HY.out, he]
            · exact HE.out i (by omega))
          subst he
          go_wp2
          go_region
          all_goals
            go_wp2
            go_roundw
            case rel => exact ⟨k + 1, by omega, by go_num, HNx.out, HB.out.drew⟩
            case measure => simp [intOf]; omega
        · have q1 : (x == y) = false := by simpa using he
          have q2 : (x = y) = False := eq_false he
          obtain rfl : R = false := by
            rw [← HR.out]
            refine decide_eq_false fun e => he ?_
            have h9 := HX.out
            rw [e, HY.out] at h9
            exact (Option.some.inj h9).symm
          clear he
          go_wp2
          go_region
          all_goals
            go_wp2
            go_ret
            exact ⟨rfl, HB.out.drew⟩
      · obtain rfl : k = n := by omega
        obtain rfl : R = true := by
          rw [← HR.out]
          refine decide_eq_true (List.ext_getElem? fun i => ?_)
          by_cases hi : i < k
          · exact HE.out i hi
          · rw [List.getElem?_eq_none (by rw [HN.out]; omega), List.getElem?_eq_none (by rw [HN2.out]; omega)]
        go_wp2
        go_ret
        exact ⟨rfl, HB.out⟩
  · rw [decide_eq_false (fun e => hlen (by rw [e]))]
    generalize g.length = m at hl hlen ⊢
    generalize h.length = n at hm hlen ⊢
    have q1 : ((m : Int) == (n : Int)) = false := by simp; omega
    have q2 : ((m : Int) = (n : Int)) = False := by simp; omega
    clear hg hh
    go_enter Tryd.func13, Tryd.ntmps13
    go_wp2
    go_ret
    exact ⟨rfl, Below.refl _ _⟩
/-- The pods that known speaks of. -/
def pO (nm : ByteArray) (c k : Int) : Pd := ⟨nm, c, 0, 0, k, 0, none, 0, [], none, 0, [], none, 0, [], none, 0, [], none, 0, [], none, 0, [], false, none, 0, [], 0, 0, emp, false, false, false⟩
theorem pO_at (w : World) (nm : ByteArray) (c k : Int) : PodAt w (pO nm c k) := ⟨RowsAt.nil, RowsAt.nil, RowsAt.nil, (fun t ht => by cases ht), RowsAt.nil, RowsAt.nil, RowsAt.nil, RowsAt.nil, Nat.zero_le _, Nat.zero_le _, Nat.zero_le _, Nat.zero_le _, Nat.zero_le _, Nat.zero_le _, Nat.zero_le _⟩
def pA : Pd := pO ⟨#[97]⟩ 5 1
def pB : Pd := pO ⟨#[98]⟩ 6 1
def pC : Pd := pO ⟨#[99]⟩ 5 1
def pD : Pd := pO ⟨#[97]⟩ 6 1
def pE : Pd := pO emp 0 0
set_option maxRecDepth 100000 in
theorem k_lightO : lightP pA = true ∧ lightP pB = true ∧ lightP pC = true ∧ lightP pD = true ∧ lightP pE = true := ⟨by decide +kernel, by decide +kernel, by decide +kernel, by decide +kernel, by decide +kernel⟩
set_option maxRecDepth 100000 in
theorem k_rightO : rightP pA = true ∧ rightP pB = true ∧ rightP pC = true ∧ rightP pD = true ∧ rightP pE = false := ⟨by decide +kernel, by decide +kernel, by decide +kernel, by decide +kernel, by decide +kernel⟩
set_option maxRecDepth 100000 in
theorem k_keyA : keyP pA = ⟨#[40, 112, 111, 100, 32, 120, 32, 40, 110, 101, 101, 100, 32, 53, 109, 32, 48, 32, 48, 32, 48, 41, 41]⟩ := by decide +kernel
set_option maxRecDepth 100000 in
theorem k_keyAB : keyP pA ≠ keyP pB := by decide +kernel
set_option maxRecDepth 100000 in
theorem k_tot : totK [pA, pB, pC] = (0, ⟨16, 0, 0, 3, 0⟩) := by kernel_rfl
set_option maxRecDepth 100000 in
theorem k_tot0 : totK [pE] = (12, R5.z) := by kernel_rfl
set_option maxRecDepth 100000 in
theorem k_grp : grpK [pA, pB, pC] = ([[0, 2], [1]], 0) := by decide +kernel
set_option maxRecDepth 100000 in
theorem k_grp2 : grpK [pA, pD] = ([], 15) := by decide +kernel
set_option maxRecDepth 100000 in
theorem k_al : alikeK pA pC = true ∧ alikeK pA pB = false := ⟨by decide +kernel, by decide +kernel⟩
theorem k_fnd : findN ([pA, pB, pC].map Pd.nm) ⟨#[98]⟩ 0 = 1 ∧ findN ([pA, pB, pC].map Pd.nm) ⟨#[122]⟩ 0 = -1 := ⟨by decide +kernel, by decide +kernel⟩
set_option maxRecDepth 100000 in
set_option maxHeartbeats 2000000 in
theorem one_any (nm : ByteArray) (c : Int) (w : World) :
    Calls Tryd.prog 12 #[.string nm, .int .i64 c] w fun e w' => e = .returned (.agg (prow (pO nm c 1)).toArray) ∧ Below w.heap.size w w' := by
  show Calls Tryd.prog 12 #[.string nm, .int .i64 c] w fun e w' => e = .returned (.agg #[.string nm, .int .i64 (c), .int .i64 0, .int .i64 0, .int .i64 1, .int .i64 0, .slice none 0 0, .slice none 0 0, .slice none 0 0, .slice none 0 0, .slice none 0 0, .slice none 0 0, .bool false, .slice none 0 0, .int .i64 0, .int .i64 0, .string ⟨#[]⟩, .bool false, .bool false, .bool false]) ∧ Below w.heap.size w w'
  obtain ⟨W, hW⟩ : ∃ W, W = w.alloc (.cells #[.string nm, .int .i64 (c), .int .i64 0, .int .i64 0, .int .i64 1, .int .i64 0, .slice none 0 0, .slice none 0 0, .slice none 0 0, .slice none 0 0, .slice none 0 0, .slice none 0 0, .bool false, .slice none 0 0, .int .i64 0, .int .i64 0, .string ⟨#[]⟩, .bool false, .bool false, .bool false] 37) := ⟨_, rfl⟩
  have HX := Lib.hid (show Blk W w.heap.size 37 [.string nm, .int .i64 (c), .int .i64 0, .int .i64 0, .int .i64 1, .int .i64 0, .slice none 0 0, .slice none 0 0, .slice none 0 0, .slice none 0 0, .slice none 0 0, .slice none 0 0, .bool false, .slice none 0 0, .int .i64 0, .int .i64 0, .string ⟨#[]⟩, .bool false, .bool false, .bool false] by rw [hW]; exact Blk.new w 37 [.string nm, .int .i64 (c), .int .i64 0, .int .i64 0, .int .i64 1, .int .i64 0, .slice none 0 0, .slice none 0 0, .slice none 0 0, .slice none 0 0, .slice none 0 0, .slice none 0 0, .bool false, .slice none 0 0, .int .i64 0, .int .i64 0, .string ⟨#[]⟩, .bool false, .bool false, .bool false])
  have h1 : ∀ u ∈ ([.string nm, .int .i64 (c), .int .i64 0, .int .i64 0, .int .i64 1, .int .i64 0, .slice none 0 0, .slice none 0 0, .slice none 0 0, .slice none 0 0, .slice none 0 0, .slice none 0 0, .bool false, .slice none 0 0, .int .i64 0, .int .i64 0, .string ⟨#[]⟩, .bool false, .bool false, .bool false] : List Value), u.oneCell' = true := kprow_one (pO nm c 1)
  have HB := Lib.hid (show Below w.heap.size w W by rw [hW]; exact (Below.refl _ _).alloc (Nat.le_refl _) _)
  go_enter Tryd.func12, Tryd.ntmps12
  go_wp2_with ((with_reducible refine at_store (ty := 37) ?_); refine store_new rfl 37 (.tmp 4) (.tmp 8) rfl _ _ rfl rfl (by kernel_rfl) rfl (List.all_eq_true.2 h1) rfl ?_)
  rw [← hW]
  clear hW
  exact bodyPost_ret (results_cell_row Tryd.results12 _ W w.heap.size 37 #[.string nm, .int .i64 (c), .int .i64 0, .int .i64 0, .int .i64 1, .int .i64 0, .slice none 0 0, .slice none 0 0, .slice none 0 0, .slice none 0 0, .slice none 0 0, .slice none 0 0, .bool false, .slice none 0 0, .int .i64 0, .int .i64 0, .string ⟨#[]⟩, .bool false, .bool false, .bool false] (0, 0) _ rfl HX.out Tryd.underlying37 rfl (by kernel_rfl)) rfl ⟨rfl, HB.out⟩
end Go.Proofs.YtccplljbljpjpaaDoor
