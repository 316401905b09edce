/-
  The contracts of triremeref05.Less, maybe, Right, Light.
-/
import Derived.Test.YtaipiflbigpniaaRefT
namespace Go.Proofs.Ytaipiflbigpniaa
open Go.RowKit
set_option linter.unusedVariables false
set_option linter.unusedSimpArgs false

/-- Byte by byte, which of two texts stands ahead. -/
def lessF (a b : ByteArray) : Nat → Nat → Bool
  | 0, _ => decide (a.size < b.size)
  | f + 1, i => if i < a.size ∧ i < b.size then (if (a.get! i).toNat = (b.get! i).toNat then lessF a b f (i + 1) else decide ((a.get! i).toNat < (b.get! i).toNat)) else decide (a.size < b.size)
def lessB (a b : ByteArray) : Bool := lessF a b a.size 0
theorem lessF_end {a b : ByteArray} (f i : Nat) (h : ¬ (i < a.size ∧ i < b.size)) : lessF a b f i = decide (a.size < b.size) := by
  cases f with
  | zero => rfl
  | succ f => rw [lessF, if_neg h]

set_option maxRecDepth 100000 in
set_option maxHeartbeats 2000000 in
theorem less_any (a b : ByteArray) (ha : a.size ≤ 1000000000) (w : World) :
    Calls Try.prog 59 #[.string a, .string b] w fun e w' => e = .returned (.bool (lessB a b)) ∧ Below w.heap.size w w' := by
  go_enter Try.func59, Try.ntmps59
  go_wp2
  go_loopw [5] (fun u wr => ∃ i f : Nat, u = .int .i64 i ∧ i ≤ a.size ∧ a.size ≤ i + f ∧ lessB a b = lessF a b f i ∧ Below w.heap.size w wr) (fun u _ => a.size - (intOf u).toNat)
  case atStart => exact ⟨0, a.size, rfl, Nat.zero_le _, by omega, rfl, by (repeat' (first | with_reducible exact Below.refl _ _ | with_reducible assumption | with_reducible refine Below.drew ?_ | with_reducible refine below_drewN' ?_ _ | with_reducible refine Below.alloc ?_ ?_ _ | with_reducible refine Below.setCell ?_ ?_ _ | with_reducible refine below_step (by assumption) ?_ ?_ | omega | (simp; done) | (simp; omega)))⟩
  case round =>
    obtain ⟨i, f, rfl, hi, hf, hE, hB⟩ := hrel
    have hbz := hB.size
    have HE := Lib.hid hE
    clear hE
    by_cases h : i < a.size ∧ i < b.size
    · obtain ⟨h1, h2⟩ := h
      obtain ⟨f, rfl⟩ : ∃ g, f = g + 1 := ⟨f - 1, by omega⟩
      have hx := str_ix a i h1
      have hy := str_ix b i h2
      have hE2 := HE.out
      rw [lessF, if_pos ⟨h1, h2⟩] at hE2
      obtain ⟨p, hp⟩ : ∃ p, (a.get! i).toNat = p := ⟨_, rfl⟩
      obtain ⟨q, hq⟩ : ∃ q, (b.get! i).toNat = q := ⟨_, rfl⟩
      rw [hp] at hx hE2
      rw [hq] at hy hE2
      clear hp hq
      by_cases hpq : p = q
      · rw [if_pos hpq] at hE2
        have H2 := Lib.hid hE2
        clear hE2
        subst hpq
        go_wp2
        have hcH := held_cell
        refine region_rel (by kernel_rfl) (by kernel_rfl) ?_
        repeat
          ((with_reducible refine relStep (fun K hK => ?_))
           (have HK := Lib.hid hK)
           clear hK
           (first
             | (apply relInl
                · intro r n hf
                  have Hf := Lib.hid hf
                  clear hf
                  unfold relAt
                  go_simp
                  (first | (refine relUpon_val ?_ (Below.refl _ _); exact rfl) | exact rfl | (refine relUpon_enter ?_; fail))
                (simp only [Act.put, List.setIfInBounds_toArray, List.set_cons_zero, List.set_cons_succ])
                (with_reducible refine HK.out _ _ ?_)
                clear HK K)
             | (fail)))
        refine relNil ?_
        intro r5 n5 hx5
        clear hcH
        (try simp only [List.nil_append, List.cons_append, List.mem_cons, List.not_mem_nil, or_false, forall_eq_or_imp, forall_eq, false_implies, implies_true] at hx5)
        obtain ⟨w5, hb5⟩ := n5
        (try dsimp only)
        obtain ⟨hc5, hf5⟩ := bcell hb5
        have hz5 := hb5.size
        (try simp at hz5)
        go_wp2
        go_roundw
        case rel => exact ⟨i + 1, f, by go_num, by omega, by omega, H2.out, by (repeat' (first | with_reducible exact Below.refl _ _ | with_reducible assumption | with_reducible refine Below.drew ?_ | with_reducible refine below_drewN' ?_ _ | with_reducible refine Below.alloc ?_ ?_ _ | with_reducible refine Below.setCell ?_ ?_ _ | with_reducible refine below_step (by assumption) ?_ ?_ | omega | (simp; done) | (simp; omega)))⟩
        case measure => simp [intOf]; omega
      · rw [if_neg hpq] at hE2
        have H2 := Lib.hid hE2
        clear hE2
        have hne : (((p : Nat) : Int) != ((q : Nat) : Int)) = true := by rw [bne_iff_ne]; omega
        go_wp2
        have hcH := held_cell
        refine region_rel (by kernel_rfl) (by kernel_rfl) ?_
        repeat
          ((with_reducible refine relStep (fun K hK => ?_))
           (have HK := Lib.hid hK)
           clear hK
           (first
             | (apply relInl
                · intro r n hf
                  have Hf := Lib.hid hf
                  clear hf
                  unfold relAt
                  go_simp
                  (first | (refine relUpon_val ?_ (Below.refl _ _); exact rfl) | exact rfl | (refine relUpon_enter ?_; fail))
                (simp only [Act.put, List.setIfInBounds_toArray, List.set_cons_zero, List.set_cons_succ])
                (with_reducible refine HK.out _ _ ?_)
                clear HK K)
             | (fail)))
        refine relNil ?_
        intro r5 n5 hx5
        clear hcH
        (try simp only [List.nil_append, List.cons_append, List.mem_cons, List.not_mem_nil, or_false, forall_eq_or_imp, forall_eq, false_implies, implies_true] at hx5)
        obtain ⟨w5, hb5⟩ := n5
        (try dsimp only)
        obtain ⟨hc5, hf5⟩ := bcell hb5
        have hz5 := hb5.size
        (try simp at hz5)
        go_wp2
        have hcH := held_cell
        refine region_rel (by kernel_rfl) (by kernel_rfl) ?_
        repeat
          ((with_reducible refine relStep (fun K hK => ?_))
           (have HK := Lib.hid hK)
           clear hK
           (first
             | (apply relInl
                · intro r n hf
                  have Hf := Lib.hid hf
                  clear hf
                  unfold relAt
                  go_simp
                  (first | (refine relUpon_val ?_ (Below.refl _ _); exact rfl) | exact rfl | (refine relUpon_enter ?_; fail))
                (simp only [Act.put, List.setIfInBounds_toArray, List.set_cons_zero, List.set_cons_succ])
                (with_reducible refine HK.out _ _ ?_)
                clear HK K)
             | (fail)))
        refine relNil ?_
        intro r6 n6 hx6
        clear hcH
        (try simp only [List.nil_append, List.cons_append, List.mem_cons, List.not_mem_nil, or_false, forall_eq_or_imp, forall_eq, false_implies, implies_true] at hx6)
        obtain ⟨w6, hb6⟩ := n6
        (try dsimp only)
        obtain ⟨hc6, hf6⟩ := bcell hb6
        have hz6 := hb6.size
        (try simp at hz6)
        go_wp2
        go_ret
        exact ⟨by rw [H2.out]; simp, by (repeat' (first | with_reducible exact Below.refl _ _ | with_reducible assumption | with_reducible refine Below.drew ?_ | with_reducible refine below_drewN' ?_ _ | with_reducible refine Below.alloc ?_ ?_ _ | with_reducible refine Below.setCell ?_ ?_ _ | with_reducible refine below_step (by assumption) ?_ ?_ | omega | (simp; done) | (simp; omega)))⟩
    · have H2 := Lib.hid (HE.out.trans (lessF_end f i h))
      have h3 : ¬ i < a.size ∨ (i < a.size ∧ ¬ i < b.size) := by omega
      clear h
      rcases h3 with h1 | ⟨h1, h2⟩
      · go_wp2
        go_ret
        exact ⟨by rw [H2.out]; simp, by (repeat' (first | with_reducible exact Below.refl _ _ | with_reducible assumption | with_reducible refine Below.drew ?_ | with_reducible refine below_drewN' ?_ _ | with_reducible refine Below.alloc ?_ ?_ _ | with_reducible refine Below.setCell ?_ ?_ _ | with_reducible refine below_step (by assumption) ?_ ?_ | omega | (simp; done) | (simp; omega)))⟩
      · go_wp2
        go_ret
        exact ⟨by rw [H2.out]; simp, by (repeat' (first | with_reducible exact Below.refl _ _ | with_reducible assumption | with_reducible refine Below.drew ?_ | with_reducible refine below_drewN' ?_ _ | with_reducible refine Below.alloc ?_ ?_ _ | with_reducible refine Below.setCell ?_ ?_ _ | with_reducible refine below_step (by assumption) ?_ ?_ | omega | (simp; done) | (simp; omega)))⟩

set_option maxRecDepth 100000 in
theorem maybe5_any (s : ByteArray) (hs : s.size ≤ 1000000000) (w : World) :
    Calls Try.prog 58 #[.string s] w fun e w' => e = .returned (.bool (weB s)) ∧ Below w.heap.size w w' := by
  unfold weB
  by_cases h : s = emp
  · obtain ⟨h1, h2, h3, h4⟩ := emp_lits h
    rw [decide_eq_true h]
    clear h
    go_enter Try.func58, Try.ntmps58
    go_wp2
    go_ret
    exact ⟨rfl, by (repeat' (first | with_reducible exact Below.refl _ _ | with_reducible assumption | with_reducible refine Below.drew ?_ | with_reducible refine below_drewN' ?_ _ | with_reducible refine Below.alloc ?_ ?_ _ | with_reducible refine Below.setCell ?_ ?_ _ | with_reducible refine below_step (by assumption) ?_ ?_ | omega | (simp; done) | (simp; omega)))⟩
  · obtain ⟨h1, h2, h3, h4⟩ := emp_litn h
    rw [decide_eq_false h]
    clear h
    go_enter Try.func58, Try.ntmps58
    go_wp2_with (go_at_call 38; refine (refword_any _ hs _).mono ?_; rintro e w1 ⟨rfl, hb1⟩; obtain ⟨hc1, hf1⟩ := bcell hb1; have hz1 := hb1.size; (try simp at hz1); (try have hza : w.heap.size < w1.heap.size := by omega); (try have hzb : w.heap.size + 1 < w1.heap.size := by omega); (try have hzc : w.heap.size + 1 + 1 < w1.heap.size := by omega); (try have hzd : w.heap.size + 1 + 1 + 1 < w1.heap.size := by omega))
    go_ret
    exact ⟨rfl, by (repeat' (first | with_reducible exact Below.refl _ _ | with_reducible assumption | with_reducible refine Below.drew ?_ | with_reducible refine below_drewN' ?_ _ | with_reducible refine Below.alloc ?_ ?_ _ | with_reducible refine Below.setCell ?_ ?_ _ | with_reducible refine below_step (by assumption) ?_ ?_ | omega | (simp; done) | (simp; omega)))⟩

structure Lab where
  key : ByteArray
  val : ByteArray
deriving DecidableEq
def kcs (x : Lab) : List Value := [.string x.key, .string x.val]
theorem kcs_len (x : Lab) : (kcs x).length = 2 := rfl
abbrev LabL := RowsAt kcs 2
theorem lab_cells {w : World} {b o : Nat} {x : Lab} (h : ∀ r, r < 2 → w.cell? ⟨b, o + r, none⟩ = (kcs x)[r]?) :
    w.cell? ⟨b, o, none⟩ = some (.string x.key) ∧ w.cell? ⟨b, o + 1, none⟩ = some (.string x.val) := ⟨h 0 (by decide), h 1 (by decide)⟩

def okL (l : List Lab) (i : Nat) : Bool := match l[i]? with
  | some x => wordB x.key && weB x.val && (match i with
    | 0 => true
    | j + 1 => match l[j]? with
      | some y => lessB y.key x.key
      | none => true)
  | none => true
def labsTo (l : List Lab) (k : Nat) : Bool := (List.range k).all (okL l)
def labsB (l : List Lab) : Bool := decide (l.length ≤ 16) && labsTo l l.length
theorem labsTo_succ (l : List Lab) (k : Nat) : labsTo l (k + 1) = (labsTo l k && okL l k) := by
  unfold labsTo; rw [List.range_succ, List.all_append]; simp
theorem labs_bad {l : List Lab} {k : Nat} (hk : k < l.length) (h : okL l k = false) : labsB l = false := by
  unfold labsB
  have : labsTo l l.length = false := by
    unfold labsTo
    rw [Bool.eq_false_iff]
    intro he
    have := List.all_eq_true.1 he k (List.mem_range.2 hk)
    rw [h] at this
    cases this
  rw [this, Bool.and_false]
/-- What the test of a label comes to, given what its parts come to. -/
theorem okL_zero {l : List Lab} {x : Lab} (h : l[0]? = some x) : okL l 0 = (wordB x.key && weB x.val) := by
  unfold okL; rw [h]; simp
theorem okL_succ {l : List Lab} {j : Nat} {x y : Lab} (h : l[j + 1]? = some x) (hy : l[j]? = some y) : okL l (j + 1) = (wordB x.key && weB x.val && lessB y.key x.key) := by
  unfold okL; simp only [h, hy]

def shortL (x : Lab) : Bool := decide (x.key.size ≤ 300 ∧ x.val.size ≤ 300)
def lightL (l : List Lab) : Bool := decide (l.length ≤ 40) && l.all shortL
theorem lightL_iff (l : List Lab) : lightL l = true ↔ l.length ≤ 40 ∧ ∀ x ∈ l, x.key.size ≤ 300 ∧ x.val.size ≤ 300 := by
  unfold lightL
  rw [Bool.and_eq_true, decide_eq_true_eq, List.all_eq_true]
  simp [shortL]

set_option maxRecDepth 100000 in
set_option maxHeartbeats 4000000 in
theorem lightl_any (c : Option Addr) (kc : Nat) (xs : List Lab) (w : World) (hF : LabL w c xs) (hm : xs.length ≤ maxLen) :
    Calls Try.prog 34 #[.slice c xs.length kc] w fun e w' => e = .returned (.bool (lightL xs)) ∧ Below w.heap.size w w' := by
  have HF := Lib.hid hF
  clear hF
  by_cases h40 : xs.length ≤ 40
  · have Hl := Lib.hid (show lightL xs = xs.all shortL by unfold lightL; rw [decide_eq_true h40]; rfl)
    obtain ⟨n, hln⟩ : ∃ n, xs.length = n := ⟨_, rfl⟩
    rw [hln] at h40 ⊢
    have Hln := Lib.hid hln
    clear hln hm
    go_enter Try.func34, Try.ntmps34
    go_wp2
    go_loopw [3] (fun i wr => ∃ k : Nat, k ≤ n ∧ i = .int .i64 k ∧ (xs.take k).all shortL = true ∧ Below w.heap.size w wr) (fun i _ => n - (intOf i).toNat)
    case atStart => exact ⟨0, by omega, rfl, rfl, by (repeat' (first | with_reducible exact Below.refl _ _ | with_reducible assumption | with_reducible refine Below.drew ?_ | with_reducible refine below_drewN' ?_ _ | with_reducible refine Below.alloc ?_ ?_ _ | with_reducible refine Below.setCell ?_ ?_ _ | with_reducible refine below_step (by assumption) ?_ ?_ | omega | (simp; done) | (simp; omega)))⟩
    case round =>
      obtain ⟨j, hj, rfl, hE, hC⟩ := hrel
      obtain ⟨hcC, hfC⟩ := bcell hC
      have hcz := hC.size
      have HE := Lib.hid hE
      clear hE
      by_cases hlj : j < n
      · obtain ⟨x, hx⟩ := mem_at (l := xs) (k := j) (by rw [Hln.out]; exact hlj)
        obtain ⟨b, off, rfl, hb, hc⟩ := HF.out (by rw [Hln.out]; omega)
        have hbw : b < wr.heap.size := by omega
        obtain ⟨c0, c1⟩ := lab_cells (hc j x hx)
        have Hx := Lib.hid hx
        clear hc hx
        rcases short_cases x.key.size x.val.size with ⟨k1, hv⟩ | ⟨k1, k2, hv⟩ | ⟨k1, k2, hv⟩
        · have Hs := Lib.hid (show lightL xs = false by rw [Hl.out, all_bad Hx.out (decide_eq_false hv)])
          clear hv
          go_wp2
          go_ret
          exact ⟨by rw [Hs.out]; rfl, by (repeat' (first | with_reducible exact Below.refl _ _ | with_reducible assumption | with_reducible refine Below.drew ?_ | with_reducible refine below_drewN' ?_ _ | with_reducible refine Below.alloc ?_ ?_ _ | with_reducible refine Below.setCell ?_ ?_ _ | with_reducible refine below_step (by assumption) ?_ ?_ | omega | (simp; done) | (simp; omega)))⟩
        · have Hs := Lib.hid (show lightL xs = false by rw [Hl.out, all_bad Hx.out (decide_eq_false hv)])
          clear hv
          go_wp2
          go_ret
          exact ⟨by rw [Hs.out]; rfl, by (repeat' (first | with_reducible exact Below.refl _ _ | with_reducible assumption | with_reducible refine Below.drew ?_ | with_reducible refine below_drewN' ?_ _ | with_reducible refine Below.alloc ?_ ?_ _ | with_reducible refine Below.setCell ?_ ?_ _ | with_reducible refine below_step (by assumption) ?_ ?_ | omega | (simp; done) | (simp; omega)))⟩
        · have Hs := Lib.hid (all_take1 (P := shortL) Hx.out (decide_eq_true hv) HE.out)
          clear hv
          go_wp2
          go_roundw
          case rel => exact ⟨j + 1, by omega, by go_num, Hs.out, by (repeat' (first | with_reducible exact Below.refl _ _ | with_reducible assumption | with_reducible refine Below.drew ?_ | with_reducible refine below_drewN' ?_ _ | with_reducible refine Below.alloc ?_ ?_ _ | with_reducible refine Below.setCell ?_ ?_ _ | with_reducible refine below_step (by assumption) ?_ ?_ | omega | (simp; done) | (simp; omega)))⟩
          case measure => simp [intOf]; omega
      · obtain rfl : j = n := by omega
        have Hs := Lib.hid (show lightL xs = true by rw [Hl.out, all_done Hln.out HE.out])
        go_wp2
        go_ret
        exact ⟨by rw [Hs.out]; rfl, by (repeat' (first | with_reducible exact Below.refl _ _ | with_reducible assumption | with_reducible refine Below.drew ?_ | with_reducible refine below_drewN' ?_ _ | with_reducible refine Below.alloc ?_ ?_ _ | with_reducible refine Below.setCell ?_ ?_ _ | with_reducible refine below_step (by assumption) ?_ ?_ | omega | (simp; done) | (simp; omega)))⟩
  · have hr : lightL xs = false := by unfold lightL; rw [decide_eq_false h40]; rfl
    rw [hr]
    clear hr
    unfold maxLen at hm
    have h2 : 40 < xs.length := by omega
    go_enter Try.func34, Try.ntmps34
    go_wp2
    go_ret
    exact ⟨rfl, by (repeat' (first | with_reducible exact Below.refl _ _ | with_reducible assumption | with_reducible refine Below.drew ?_ | with_reducible refine below_drewN' ?_ _ | with_reducible refine Below.alloc ?_ ?_ _ | with_reducible refine Below.setCell ?_ ?_ _ | with_reducible refine below_step (by assumption) ?_ ?_ | omega | (simp; done) | (simp; omega)))⟩
end Go.Proofs.Ytaipiflbigpniaa
