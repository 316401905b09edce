/-
  Taints, labels and machines, as the document has them.
-/
import Derived.Test.YtmkdfcggjlhcpaaGreatDoorMCx
import Derived.Laws.StructEq
namespace Go.Proofs.YtmkdfcggjlhcpaaGreatDoor
open Go.RowKit
set_option linter.unusedVariables false
set_option linter.unusedSimpArgs false
structure Tnt where
  key : ByteArray
  val : ByteArray
  eff : Int
deriving DecidableEq
structure Tol where
  key : ByteArray
  val : ByteArray
  any : Bool
  eff : Int
deriving DecidableEq
def tcs (x : Tnt) : List Value := [.string x.key, .string x.val, .int .i64 x.eff]
theorem tcs_len (x : Tnt) : (tcs x).length = 3 := rfl
theorem tcs_one (x : Tnt) : ∀ u ∈ tcs x, u.oneCell' = true := by
  intro u hu
  simp only [tcs, List.mem_cons, List.not_mem_nil, or_false] at hu
  rcases hu with rfl | rfl | rfl <;> rfl
def ocs (x : Tol) : List Value := [.string x.key, .string x.val, .bool x.any, .int .i64 x.eff]
theorem Tryz.info119 : (Tryz.prog.info? 119).map (fun i => (i.zero, i.size, i.bytes)) = some (some (.agg #[.string ⟨#[]⟩, .string ⟨#[]⟩, .int .i64 0]), 3, 40) := by kernel_rfl
theorem str_inj (a b : ByteArray) : a.toList = b.toList ↔ a = b := by
  rw [ByteArray.toList_eq, ByteArray.toList_eq]
  exact ⟨fun h => ByteArray.ext (Array.toList_inj.mp h), fun h => by rw [h]⟩
def strB (a b : ByteArray) : Bool := decide (a = b)
theorem strB_list (a b : ByteArray) : (a.toList == b.toList) = strB a b := by
  unfold strB
  by_cases h : a = b
  · subst h; simp
  · rw [decide_eq_false h, beq_eq_false_iff_ne]; exact fun e => h ((str_inj _ _).1 e)
def emp : ByteArray := ⟨#[]⟩
theorem emp_list : emp.toList = [] := by rw [ByteArray.toList_eq]; rfl
theorem emp_no {s : ByteArray} (h : ¬ s = emp) : ((s.toList = []) = False) ∧ (!s.toList.isEmpty) = true ∧ s.toList.isEmpty = false := by
  have h' : s.toList ≠ [] := fun e => h ((str_inj _ _).1 (e.trans emp_list.symm))
  refine ⟨eq_iff_iff.2 ⟨h', False.elim⟩, ?_, ?_⟩ <;> cases hx : s.toList <;> first | exact absurd hx h' | rfl
abbrev TntsAt := RowsAt tcs 3
abbrev TolsAt := RowsAt ocs 4
theorem tnt_cells {w : World} {b o : Nat} {x : Tnt} (h : ∀ r, r < 3 → w.cell? ⟨b, o + r, none⟩ = (tcs x)[r]?) :
    w.cell? ⟨b, o, none⟩ = some (.string x.key) ∧ w.cell? ⟨b, o + 1, none⟩ = some (.string x.val) ∧ w.cell? ⟨b, o + 2, none⟩ = some (.int .i64 x.eff) := ⟨h 0 (by decide), h 1 (by decide), h 2 (by decide)⟩
theorem tol_cells {w : World} {b o : Nat} {x : Tol} (h : ∀ r, r < 4 → w.cell? ⟨b, o + r, none⟩ = (ocs x)[r]?) :
    w.cell? ⟨b, o, none⟩ = some (.string x.key) ∧ w.cell? ⟨b, o + 1, none⟩ = some (.string x.val) ∧ w.cell? ⟨b, o + 2, none⟩ = some (.bool x.any) ∧ w.cell? ⟨b, o + 3, none⟩ = some (.int .i64 x.eff) := ⟨h 0 (by decide), h 1 (by decide), h 2 (by decide), h 3 (by decide)⟩
def weB (s : ByteArray) : Bool := decide (s = emp) || wordB s
def reB (e : Int) : Bool := decide (e = 0 ∨ e = 1 ∨ e = 2 ∨ e = 3)
theorem emp_lits {s : ByteArray} (h : s = emp) : (s.toList == []) = true ∧ s.toList.isEmpty = true ∧ ((s.toList = []) = True) ∧ (!s.toList.isEmpty) = false := by
  subst h
  rw [emp_list]
  exact ⟨rfl, rfl, eq_true rfl, rfl⟩
theorem emp_litn {s : ByteArray} (h : ¬ s = emp) : (s.toList == []) = false ∧ s.toList.isEmpty = false ∧ ((s.toList = []) = False) ∧ (!s.toList.isEmpty) = true := by
  obtain ⟨a, b, c⟩ := emp_no h
  refine ⟨?_, c, a, b⟩
  rw [beq_eq_false_iff_ne]
  intro e
  rw [e] at c
  cases c
theorem reB_cases (e : Int) : ((e == 0) = true ∧ reB e = true) ∨ ((e == 0) = false ∧ (e == 1) = true ∧ reB e = true) ∨ ((e == 0) = false ∧ (e == 1) = false ∧ (e == 2) = true ∧ reB e = true) ∨ ((e == 0) = false ∧ (e == 1) = false ∧ (e == 2) = false ∧ (e == 3) = true ∧ reB e = true) ∨ ((e == 0) = false ∧ (e == 1) = false ∧ (e == 2) = false ∧ (e == 3) = false ∧ reB e = false) := by
  unfold reB
  by_cases h0 : e = 0 <;> by_cases h1 : e = 1 <;> by_cases h2 : e = 2 <;> by_cases h3 : e = 3 <;> simp [h0, h1, h2, h3]
def slotE (y x : Tnt) : Bool := decide (x.key = y.key ∧ x.eff = y.eff)
def okT (x : Tnt) : Bool := wordB x.key && weB x.val && !decide (x.eff = 0) && reB x.eff
def okAt (xs : List Tnt) (i : Nat) : Bool := match xs[i]? with
  | some x => okT x && (xs.take i).all fun y => !slotE y x
  | none => true
def okTo (xs : List Tnt) (k : Nat) : Bool := (List.range k).all (okAt xs)
def rightT (xs : List Tnt) : Bool := decide (xs.length ≤ 16) && okTo xs xs.length
theorem okTo_succ (xs : List Tnt) (k : Nat) : okTo xs (k + 1) = (okTo xs k && okAt xs k) := by
  unfold okTo; rw [List.range_succ, List.all_append]; simp
theorem okTo_bad {xs : List Tnt} {k : Nat} (hk : k < xs.length) (h : okAt xs k = false) : rightT xs = false := by
  unfold rightT
  have : okTo xs xs.length = false := by
    unfold okTo
    rw [Bool.eq_false_iff]
    intro he
    have := List.all_eq_true.1 he k (List.mem_range.2 hk)
    rw [h] at this
    cases this
  rw [this, Bool.and_false]
theorem okAt_tnt {xs : List Tnt} {k : Nat} {x : Tnt} (hx : xs[k]? = some x) (h : okT x = false) : okAt xs k = false := by
  unfold okAt; rw [hx]; simp [h]
theorem okAt_slot {xs : List Tnt} {k j : Nat} {x y : Tnt} (hx : xs[k]? = some x) (hy : xs[j]? = some y) (hj : j < k) (h : slotE y x = true) : okAt xs k = false := by
  unfold okAt
  rw [hx]
  have : ((xs.take k).all fun y => !slotE y x) = false := by
    rw [Bool.eq_false_iff]
    intro he
    have hm : y ∈ xs.take k := List.mem_of_getElem? (i := j) (by rw [List.getElem?_take, if_pos hj]; exact hy)
    have := List.all_eq_true.1 he y hm
    rw [h] at this
    cases this
  simp [this]
theorem okAt_yes {xs : List Tnt} {k : Nat} {x : Tnt} (hx : xs[k]? = some x) (h : okT x = true) (hs : ((xs.take k).all fun y => !slotE y x) = true) : okAt xs k = true := by
  unfold okAt; rw [hx]; simp only [h, hs]; rfl
theorem all_take {xs : List Tnt} {j : Nat} {x y : Tnt} (hy : xs[j]? = some y) (h : ((xs.take j).all fun y => !slotE y x) = true) (h1 : slotE y x = false) : ((xs.take (j + 1)).all fun y => !slotE y x) = true := by
  rw [take_at hy, List.all_append, h]; simp [h1]
theorem okT_cases (x : Tnt) : (wordB x.key = false ∧ okT x = false) ∨ (wordB x.key = true ∧ weB x.val = false ∧ okT x = false) ∨ (wordB x.key = true ∧ weB x.val = true ∧ (x.eff == 0) = true ∧ okT x = false) ∨
    (wordB x.key = true ∧ weB x.val = true ∧ (x.eff == 0) = false ∧ reB x.eff = false ∧ okT x = false) ∨ (wordB x.key = true ∧ weB x.val = true ∧ (x.eff == 0) = false ∧ reB x.eff = true ∧ okT x = true) := by
  unfold okT
  cases wordB x.key <;> cases weB x.val <;> by_cases h : x.eff = 0 <;> cases hr : reB x.eff <;> simp [h, hr]
theorem tnt_str {a b : ByteArray} (h : a = b) : (a.toList == b.toList) = true := by rw [h]; simp
theorem tnt_strn {a b : ByteArray} (h : ¬ a = b) : (a.toList == b.toList) = false := by rw [beq_eq_false_iff_ne]; exact fun e => h ((str_inj _ _).1 e)
def shortO (t : Tol) : Bool := decide (t.key.size ≤ 300 ∧ t.val.size ≤ 300)
def shortT (t : Tnt) : Bool := decide (t.key.size ≤ 300 ∧ t.val.size ≤ 300)
def lightB (l : List Tol) (xs : List Tnt) : Bool := decide (l.length ≤ 40 ∧ xs.length ≤ 40) && (l.all shortO && xs.all shortT)
theorem all_bad {α : Type} {P : α → Bool} {l : List α} {k : Nat} {x : α} (h : l[k]? = some x) (hp : P x = false) : l.all P = false := by
  rw [Bool.eq_false_iff]
  intro he
  have := List.all_eq_true.1 he x (List.mem_of_getElem? h)
  rw [hp] at this
  cases this
theorem all_take1 {α : Type} {P : α → Bool} {l : List α} {k : Nat} {x : α} (h : l[k]? = some x) (hp : P x = true) (ha : (l.take k).all P = true) : (l.take (k + 1)).all P = true := by
  rw [take_at h, List.all_append, ha]; simp [hp]
theorem all_done {α : Type} {P : α → Bool} {l : List α} {n : Nat} (h : l.length = n) (ha : (l.take n).all P = true) : l.all P = true := by
  rw [List.take_of_length_le (Nat.le_of_eq h)] at ha
  exact ha
theorem short_cases (a b : Nat) : (300 < a ∧ ¬ (a ≤ 300 ∧ b ≤ 300)) ∨ (a ≤ 300 ∧ 300 < b ∧ ¬ (a ≤ 300 ∧ b ≤ 300)) ∨ (a ≤ 300 ∧ b ≤ 300 ∧ (a ≤ 300 ∧ b ≤ 300)) := by omega
def effB (e : Int) : Bool := decide (1 ≤ e ∧ e ≤ 3)
theorem okT_ref (x : Tnt) : okT x = (wordB x.key && weB x.val && effB x.eff) := by
  unfold okT reB effB
  have : ((!decide (x.eff = 0)) && decide (x.eff = 0 ∨ x.eff = 1 ∨ x.eff = 2 ∨ x.eff = 3)) = decide (1 ≤ x.eff ∧ x.eff ≤ 3) := by
    rw [← decide_not, ← Bool.decide_and]
    exact decide_eq_decide.2 (by omega)
  rw [Bool.and_assoc, this]
set_option maxRecDepth 100000 in
theorem refmaybe_any (s : ByteArray) (hs : s.size ≤ 1000000000) (w : World) :
    Calls Tryz.prog 81 #[.string s] w fun e w' => e = .returned (.bool (weB s)) ∧ Below w.heap.size w w' := by
  unfold weB
  by_cases h : s = emp
  · obtain ⟨h1, h2, h3, h4⟩ := emp_lits h
    rw [decide_eq_true h]
    clear h
    go_enter Tryz.func81, Tryz.ntmps81
    go_wp2
    go_ret
    exact ⟨rfl, by (repeat' (first | with_reducible exact Below.refl _ _ | with_reducible assumption | with_reducible refine Below.drew ?_ | with_reducible refine below_drewN' ?_ _ | with_reducible refine Below.alloc ?_ ?_ _ | with_reducible refine Below.setCell ?_ ?_ _ | with_reducible refine below_step (by assumption) ?_ ?_ | omega | (simp; done) | (simp; omega)))⟩
  · obtain ⟨h1, h2, h3, h4⟩ := emp_litn h
    rw [decide_eq_false h]
    clear h
    go_enter Tryz.func81, Tryz.ntmps81
    go_wp2_with (go_at_call 43; refine (refword_any _ hs _).mono ?_; rintro e w1 ⟨rfl, hb1⟩; obtain ⟨hc1, hf1⟩ := bcell hb1; have hz1 := hb1.size; (try simp at hz1); (try have hza : w.heap.size < w1.heap.size := by omega); (try have hzb : w.heap.size + 1 < w1.heap.size := by omega); (try have hzc : w.heap.size + 1 + 1 < w1.heap.size := by omega); (try have hzd : w.heap.size + 1 + 1 + 1 < w1.heap.size := by omega))
    go_ret
    exact ⟨rfl, by (repeat' (first | with_reducible exact Below.refl _ _ | with_reducible assumption | with_reducible refine Below.drew ?_ | with_reducible refine below_drewN' ?_ _ | with_reducible refine Below.alloc ?_ ?_ _ | with_reducible refine Below.setCell ?_ ?_ _ | with_reducible refine below_step (by assumption) ?_ ?_ | omega | (simp; done) | (simp; omega)))⟩
set_option maxRecDepth 100000 in
theorem refeffect_any (x : Int) (w : World) :
    Calls Tryz.prog 82 #[.int .i64 x] w fun e w' => e = .returned (.bool (effB x)) ∧ Below w.heap.size w w' := by
  unfold effB
  by_cases h1 : 1 ≤ x
  · by_cases h2 : x ≤ 3
    · rw [decide_eq_true ⟨h1, h2⟩]
      go_enter Tryz.func82, Tryz.ntmps82
      go_wp2
      go_ret
      exact ⟨by first | rfl | (simp; omega), by (repeat' (first | with_reducible exact Below.refl _ _ | with_reducible assumption | with_reducible refine Below.drew ?_ | with_reducible refine below_drewN' ?_ _ | with_reducible refine Below.alloc ?_ ?_ _ | with_reducible refine Below.setCell ?_ ?_ _ | with_reducible refine below_step (by assumption) ?_ ?_ | omega | (simp; done) | (simp; omega)))⟩
    · rw [decide_eq_false (fun h => h2 h.2)]
      go_enter Tryz.func82, Tryz.ntmps82
      go_wp2
      go_ret
      exact ⟨by first | rfl | (simp; omega), by (repeat' (first | with_reducible exact Below.refl _ _ | with_reducible assumption | with_reducible refine Below.drew ?_ | with_reducible refine below_drewN' ?_ _ | with_reducible refine Below.alloc ?_ ?_ _ | with_reducible refine Below.setCell ?_ ?_ _ | with_reducible refine below_step (by assumption) ?_ ?_ | omega | (simp; done) | (simp; omega)))⟩
  · rw [decide_eq_false (fun h => h1 h.1)]
    go_enter Tryz.func82, Tryz.ntmps82
    go_wp2
    go_ret
    exact ⟨by first | rfl | (simp; omega), by (repeat' (first | with_reducible exact Below.refl _ _ | with_reducible assumption | with_reducible refine Below.drew ?_ | with_reducible refine below_drewN' ?_ _ | with_reducible refine Below.alloc ?_ ?_ _ | with_reducible refine Below.setCell ?_ ?_ _ | with_reducible refine below_step (by assumption) ?_ ?_ | omega | (simp; done) | (simp; omega)))⟩
theorem okR_cases (x : Tnt) : (wordB x.key = false ∧ okT x = false) ∨ (wordB x.key = true ∧ weB x.val = false ∧ okT x = false) ∨ (wordB x.key = true ∧ weB x.val = true ∧ effB x.eff = false ∧ okT x = false) ∨ (wordB x.key = true ∧ weB x.val = true ∧ effB x.eff = true ∧ okT x = true) := by
  rw [okT_ref]
  cases wordB x.key <;> cases weB x.val <;> cases effB x.eff <;> simp
theorem slotE_cases (y x : Tnt) : ((y.key.toList == x.key.toList) = false ∧ slotE y x = false) ∨ ((y.key.toList == x.key.toList) = true ∧ (y.eff == x.eff) = false ∧ slotE y x = false) ∨ ((y.key.toList == x.key.toList) = true ∧ (y.eff == x.eff) = true ∧ slotE y x = true) := by
  unfold slotE
  by_cases h1 : y.key = x.key
  · by_cases h3 : y.eff = x.eff
    · exact .inr (.inr ⟨tnt_str h1, beq_iff_eq.2 h3, decide_eq_true ⟨h1.symm, h3.symm⟩⟩)
    · exact .inr (.inl ⟨tnt_str h1, beq_eq_false_iff_ne.2 h3, decide_eq_false fun h => h3 h.2.symm⟩)
  · exact .inl ⟨tnt_strn h1, decide_eq_false fun h => h1 h.1.symm⟩
set_option maxRecDepth 100000 in
set_option maxHeartbeats 4000000 in
theorem refright_t (c : Option Addr) (kc : Nat) (xs : List Tnt) (w : World) (hF : TntsAt w c xs) (hsz : ∀ x ∈ xs, x.key.size ≤ 1000000000 ∧ x.val.size ≤ 1000000000) (hm : xs.length ≤ 1000000) :
    Calls Tryz.prog 66 #[.slice c xs.length kc] w fun e w' => e = .returned (.bool (rightT xs)) ∧ Below w.heap.size w w' := by
  have HF := Lib.hid hF
  have Hsz := Lib.hid hsz
  clear hF hsz
  by_cases h16 : 16 < xs.length
  · have hr : rightT xs = false := by unfold rightT; rw [decide_eq_false (by omega)]; rfl
    rw [hr]
    clear hr
    go_enter Tryz.func66, Tryz.ntmps66
    go_wp2
    go_ret
    exact ⟨rfl, by (repeat' (first | with_reducible exact Below.refl _ _ | with_reducible assumption | with_reducible refine Below.drew ?_ | with_reducible refine below_drewN' ?_ _ | with_reducible refine Below.alloc ?_ ?_ _ | with_reducible refine Below.setCell ?_ ?_ _ | with_reducible refine below_step (by assumption) ?_ ?_ | omega | (simp; done) | (simp; omega)))⟩
  · have hrt : rightT xs = okTo xs xs.length := by unfold rightT; rw [decide_eq_true (by omega)]; rfl
    have Hrt := Lib.hid hrt
    have Hbad := Lib.hid (fun k hk h => okTo_bad (xs := xs) (k := k) hk h)
    clear hrt
    replace hm : xs.length ≤ 16 := by omega
    clear h16
    obtain ⟨n, hln⟩ : ∃ n, xs.length = n := ⟨_, rfl⟩
    rw [hln] at hm ⊢
    have Hln := Lib.hid hln
    clear hln
    go_enter Tryz.func66, Tryz.ntmps66
    go_wp2
    go_loopw [3] (fun i wr => ∃ k : Nat, k ≤ n ∧ i = .int .i64 k ∧ okTo xs k = true ∧ Below w.heap.size w wr) (fun i _ => n - (intOf i).toNat)
    case atStart => exact ⟨0, by omega, rfl, rfl, by (repeat' (first | with_reducible exact Below.refl _ _ | with_reducible assumption | with_reducible refine Below.drew ?_ | with_reducible refine below_drewN' ?_ _ | with_reducible refine Below.alloc ?_ ?_ _ | with_reducible refine Below.setCell ?_ ?_ _ | with_reducible refine below_step (by assumption) ?_ ?_ | omega | (simp; done) | (simp; omega)))⟩
    case round =>
      obtain ⟨k, hk, rfl, hE, hB⟩ := hrel
      obtain ⟨hcB, hfB⟩ := bcell hB
      have hbz := hB.size
      have HE := Lib.hid hE
      have HB := Lib.hid hB
      clear hE
      by_cases hlt : k < n
      · obtain ⟨x, hx⟩ := mem_at (l := xs) (k := k) (by rw [Hln.out]; exact hlt)
        obtain ⟨b, off, rfl, hb, hc⟩ := HF.out (by rw [Hln.out]; omega)
        have hbw : b < wr.heap.size := by omega
        obtain ⟨c0, c1, c2⟩ := tnt_cells (hc k x hx)
        obtain ⟨hs1, hs2⟩ := Hsz.out x (List.mem_of_getElem? hx)
        have Hx := Lib.hid hx
        have Hc := Lib.hid hc
        clear hc hx
        rcases okR_cases x with ⟨k1, hv⟩ | ⟨k1, k2, hv⟩ | ⟨k1, k2, k3, hv⟩ | ⟨k1, k2, k3, hv⟩
        rotate_right
        · have Hok := Lib.hid hv
          have K1 := Lib.hid k1
          have K2 := Lib.hid k2
          have K3 := Lib.hid k3
          clear hv k1 k2 k3
          go_wp2_with (first | (go_at_call 43; (with_reducible refine (refword_any _ hs1 _).mono ?_); rintro e w5 ⟨rfl, hb5⟩; rw [K1.out]; obtain ⟨hc5, hf5⟩ := bcell hb5; have hz5 := hb5.size) | (go_at_call 81; (with_reducible refine (refmaybe_any _ hs2 _).mono ?_); rintro e w6 ⟨rfl, hb6⟩; rw [K2.out]; obtain ⟨hc6, hf6⟩ := bcell hb6; have hz6 := hb6.size; have hbx6 : b < w5.heap.size := by omega) | (go_at_call 82; (with_reducible refine (refeffect_any _ _).mono ?_); rintro e w7 ⟨rfl, hb7⟩; rw [K3.out]; obtain ⟨hc7, hf7⟩ := bcell hb7; have hz7 := hb7.size; have hbx7 : b < w6.heap.size := by omega))
          have HB7 := Lib.hid (show Below wr.heap.size wr w7 by (repeat' (first | with_reducible exact Below.refl _ _ | with_reducible assumption | with_reducible refine Below.drew ?_ | with_reducible refine below_drewN' ?_ _ | with_reducible refine Below.alloc ?_ ?_ _ | with_reducible refine Below.setCell ?_ ?_ _ | with_reducible refine below_step (by assumption) ?_ ?_ | omega | (simp; done) | (simp; omega))))
          obtain ⟨w3, hw3⟩ : ∃ w3, w3 = wr := ⟨_, rfl⟩
          subst hw3
          clear hB
          have hB := HB.out
          go_loopw [4] (fun i wy => ∃ j : Nat, j ≤ k ∧ i = .int .i64 j ∧ ((xs.take j).all fun y => !slotE y x) = true ∧ Below w3.heap.size w3 wy) (fun i _ => k - (intOf i).toNat)
          case atStart => exact ⟨0, by omega, rfl, rfl, HB7.out⟩
          case round =>
            obtain ⟨j, hj, rfl, hS, hC⟩ := hrel
            obtain ⟨hcC, hfC⟩ := bcell hC
            have hzC := hC.size
            have HS := Lib.hid hS
            clear hS
            by_cases hlj : j < k
            · obtain ⟨y, hy⟩ := mem_at (l := xs) (k := j) (by rw [Hln.out]; omega)
              obtain ⟨d0, d1, d2⟩ := tnt_cells (Hc.out j y hy)
              have Hy := Lib.hid hy
              clear hy
              have hbx : b < wr.heap.size := by omega
              have hjn : j < n := by omega
              rcases slotE_cases y x with ⟨e1, hv⟩ | ⟨e1, e2, hv⟩ | ⟨e1, e2, hv⟩
              · have Hs := Lib.hid (all_take Hy.out HS.out hv)
                clear hv
                go_wp2
                have hcH := held_cell
                refine region_rel (by kernel_rfl) (by kernel_rfl) ?_
                repeat
                  ((with_reducible refine relStep (fun K hK => ?_))
                   (have HK := Lib.hid hK)
                   clear hK
                   (first
                     | (apply relInl
                        · intro r n hf
                          have Hf := Lib.hid hf
                          clear hf
                          unfold relAt
                          go_simp
                          (first | (refine relUpon_val ?_ (Below.refl _ _); exact rfl) | exact rfl | (refine relUpon_enter ?_; fail))
                        (simp only [Act.put, List.setIfInBounds_toArray, List.set_cons_zero, List.set_cons_succ])
                        (with_reducible refine HK.out _ _ ?_)
                        clear HK K)
                     | (fail)))
                refine relNil ?_
                intro r5 n5 hx5
                clear hcH
                (try simp only [List.nil_append, List.cons_append, List.mem_cons, List.not_mem_nil, or_false, forall_eq_or_imp, forall_eq, false_implies, implies_true] at hx5)
                obtain ⟨w5, hb5⟩ := n5
                (try dsimp only)
                obtain ⟨hc5, hf5⟩ := bcell hb5
                have hz5 := hb5.size
                (try simp at hz5)
                go_wp2
                go_roundw
                case rel => exact ⟨j + 1, by omega, by go_num, Hs.out, by (repeat' (first | with_reducible exact Below.refl _ _ | with_reducible assumption | with_reducible refine Below.drew ?_ | with_reducible refine below_drewN' ?_ _ | with_reducible refine Below.alloc ?_ ?_ _ | with_reducible refine Below.setCell ?_ ?_ _ | with_reducible refine below_step (by assumption) ?_ ?_ | omega | (simp; done) | (simp; omega)))⟩
                case measure => simp [intOf]; omega
              · have Hs := Lib.hid (all_take Hy.out HS.out hv)
                clear hv
                go_wp2
                have hcH := held_cell
                refine region_rel (by kernel_rfl) (by kernel_rfl) ?_
                repeat
                  ((with_reducible refine relStep (fun K hK => ?_))
                   (have HK := Lib.hid hK)
                   clear hK
                   (first
                     | (apply relInl
                        · intro r n hf
                          have Hf := Lib.hid hf
                          clear hf
                          unfold relAt
                          go_simp
                          (first | (refine relUpon_val ?_ (Below.refl _ _); exact rfl) | exact rfl | (refine relUpon_enter ?_; fail))
                        (simp only [Act.put, List.setIfInBounds_toArray, List.set_cons_zero, List.set_cons_succ])
                        (with_reducible refine HK.out _ _ ?_)
                        clear HK K)
                     | (fail)))
                refine relNil ?_
                intro r5 n5 hx5
                clear hcH
                (try simp only [List.nil_append, List.cons_append, List.mem_cons, List.not_mem_nil, or_false, forall_eq_or_imp, forall_eq, false_implies, implies_true] at hx5)
                obtain ⟨w5, hb5⟩ := n5
                (try dsimp only)
                obtain ⟨hc5, hf5⟩ := bcell hb5
                have hz5 := hb5.size
                (try simp at hz5)
                go_wp2
                go_roundw
                case rel => exact ⟨j + 1, by omega, by go_num, Hs.out, by (repeat' (first | with_reducible exact Below.refl _ _ | with_reducible assumption | with_reducible refine Below.drew ?_ | with_reducible refine below_drewN' ?_ _ | with_reducible refine Below.alloc ?_ ?_ _ | with_reducible refine Below.setCell ?_ ?_ _ | with_reducible refine below_step (by assumption) ?_ ?_ | omega | (simp; done) | (simp; omega)))⟩
                case measure => simp [intOf]; omega
              · have Hs := Lib.hid (Hbad.out k (by rw [Hln.out]; exact hlt) (okAt_slot Hx.out Hy.out hlj hv))
                clear hv
                go_wp2
                have hcH := held_cell
                refine region_rel (by kernel_rfl) (by kernel_rfl) ?_
                repeat
                  ((with_reducible refine relStep (fun K hK => ?_))
                   (have HK := Lib.hid hK)
                   clear hK
                   (first
                     | (apply relInl
                        · intro r n hf
                          have Hf := Lib.hid hf
                          clear hf
                          unfold relAt
                          go_simp
                          (first | (refine relUpon_val ?_ (Below.refl _ _); exact rfl) | exact rfl | (refine relUpon_enter ?_; fail))
                        (simp only [Act.put, List.setIfInBounds_toArray, List.set_cons_zero, List.set_cons_succ])
                        (with_reducible refine HK.out _ _ ?_)
                        clear HK K)
                     | (fail)))
                refine relNil ?_
                intro r5 n5 hx5
                clear hcH
                (try simp only [List.nil_append, List.cons_append, List.mem_cons, List.not_mem_nil, or_false, forall_eq_or_imp, forall_eq, false_implies, implies_true] at hx5)
                obtain ⟨w5, hb5⟩ := n5
                (try dsimp only)
                obtain ⟨hc5, hf5⟩ := bcell hb5
                have hz5 := hb5.size
                (try simp at hz5)
                go_wp2
                go_ret
                exact ⟨by rw [Hs.out]; rfl, by (repeat' (first | with_reducible exact Below.refl _ _ | with_reducible assumption | with_reducible refine Below.drew ?_ | with_reducible refine below_drewN' ?_ _ | with_reducible refine Below.alloc ?_ ?_ _ | with_reducible refine Below.setCell ?_ ?_ _ | with_reducible refine below_step (by assumption) ?_ ?_ | omega | (simp; done) | (simp; omega)))⟩
            · obtain rfl : j = k := by omega
              have Hs := Lib.hid (show okTo xs (j + 1) = true by rw [okTo_succ, HE.out, okAt_yes Hx.out Hok.out HS.out]; rfl)
              have HBB := Lib.hid (hB.trans (hC.mono hbz))
              go_wp2
              go_roundw
              case rel => exact ⟨j + 1, by omega, by go_num, Hs.out, HBB.out⟩
              case measure => simp [intOf]; omega
        all_goals
          have Hs := Lib.hid (Hbad.out k (by rw [Hln.out]; exact hlt) (okAt_tnt Hx.out hv))
          have K1 := Lib.hid k1
          first | (have K2 := Lib.hid k2) | skip
          first | (have K3 := Lib.hid k3) | skip
          clear hv k1
          first | clear k2 | skip
          first | clear k3 | skip
          go_wp2_with (first | (go_at_call 43; (with_reducible refine (refword_any _ hs1 _).mono ?_); rintro e w5 ⟨rfl, hb5⟩; rw [K1.out]; obtain ⟨hc5, hf5⟩ := bcell hb5; have hz5 := hb5.size) | (go_at_call 81; (with_reducible refine (refmaybe_any _ hs2 _).mono ?_); rintro e w6 ⟨rfl, hb6⟩; rw [K2.out]; obtain ⟨hc6, hf6⟩ := bcell hb6; have hz6 := hb6.size; have hbx6 : b < w5.heap.size := by omega) | (go_at_call 82; (with_reducible refine (refeffect_any _ _).mono ?_); rintro e w7 ⟨rfl, hb7⟩; rw [K3.out]; obtain ⟨hc7, hf7⟩ := bcell hb7; have hz7 := hb7.size; have hbx7 : b < w6.heap.size := by omega))
          go_ret
          exact ⟨by rw [Hs.out]; rfl, by (repeat' (first | with_reducible exact Below.refl _ _ | with_reducible assumption | with_reducible refine Below.drew ?_ | with_reducible refine below_drewN' ?_ _ | with_reducible refine Below.alloc ?_ ?_ _ | with_reducible refine Below.setCell ?_ ?_ _ | with_reducible refine below_step (by assumption) ?_ ?_ | omega | (simp; done) | (simp; omega)))⟩
      · obtain rfl : k = n := by omega
        have Hs := Lib.hid (show rightT xs = true from Hrt.out.trans ((congrArg (okTo xs) Hln.out).trans HE.out))
        go_wp2
        go_ret
        exact ⟨by rw [Hs.out]; rfl, by (repeat' (first | with_reducible exact Below.refl _ _ | with_reducible assumption | with_reducible refine Below.drew ?_ | with_reducible refine below_drewN' ?_ _ | with_reducible refine Below.alloc ?_ ?_ _ | with_reducible refine Below.setCell ?_ ?_ _ | with_reducible refine below_step (by assumption) ?_ ?_ | omega | (simp; done) | (simp; omega)))⟩
def lessF (a b : ByteArray) : Nat → Nat → Bool
  | 0, _ => decide (a.size < b.size)
  | f + 1, i => if i < a.size ∧ i < b.size then (if (a.get! i).toNat = (b.get! i).toNat then lessF a b f (i + 1) else decide ((a.get! i).toNat < (b.get! i).toNat)) else decide (a.size < b.size)
def lessB (a b : ByteArray) : Bool := lessF a b a.size 0
theorem lessF_end {a b : ByteArray} (f i : Nat) (h : ¬ (i < a.size ∧ i < b.size)) : lessF a b f i = decide (a.size < b.size) := by
  cases f with
  | zero => rfl
  | succ f => rw [lessF, if_neg h]
set_option maxRecDepth 100000 in
set_option maxHeartbeats 2000000 in
theorem less_any (a b : ByteArray) (ha : a.size ≤ 1000000000) (w : World) :
    Calls Tryz.prog 80 #[.string a, .string b] w fun e w' => e = .returned (.bool (lessB a b)) ∧ Below w.heap.size w w' := by
  go_enter Tryz.func80, Tryz.ntmps80
  go_wp2
  go_loopw [5] (fun u wr => ∃ i f : Nat, u = .int .i64 i ∧ i ≤ a.size ∧ a.size ≤ i + f ∧ lessB a b = lessF a b f i ∧ Below w.heap.size w wr) (fun u _ => a.size - (intOf u).toNat)
  case atStart => exact ⟨0, a.size, rfl, Nat.zero_le _, by omega, rfl, by (repeat' (first | with_reducible exact Below.refl _ _ | with_reducible assumption | with_reducible refine Below.drew ?_ | with_reducible refine below_drewN' ?_ _ | with_reducible refine Below.alloc ?_ ?_ _ | with_reducible refine Below.setCell ?_ ?_ _ | with_reducible refine below_step (by assumption) ?_ ?_ | omega | (simp; done) | (simp; omega)))⟩
  case round =>
    obtain ⟨i, f, rfl, hi, hf, hE, hB⟩ := hrel
    have hbz := hB.size
    have HE := Lib.hid hE
    clear hE
    by_cases h : i < a.size ∧ i < b.size
    · obtain ⟨h1, h2⟩ := h
      obtain ⟨f, rfl⟩ : ∃ g, f = g + 1 := ⟨f - 1, by omega⟩
      have hx := str_ix a i h1
      have hy := str_ix b i h2
      have hE2 := HE.out
      rw [lessF, if_pos ⟨h1, h2⟩] at hE2
      obtain ⟨p, hp⟩ : ∃ p, (a.get! i).toNat = p := ⟨_, rfl⟩
      obtain ⟨q, hq⟩ : ∃ q, (b.get! i).toNat = q := ⟨_, rfl⟩
      rw [hp] at hx hE2
      rw [hq] at hy hE2
      clear hp hq
      by_cases hpq : p = q
      · rw [if_pos hpq] at hE2
        have H2 := Lib.hid hE2
        clear hE2
        subst hpq
        go_wp2
        have hcH := held_cell
        refine region_rel (by kernel_rfl) (by kernel_rfl) ?_
        repeat
          ((with_reducible refine relStep (fun K hK => ?_))
           (have HK := Lib.hid hK)
           clear hK
           (first
             | (apply relInl
                · intro r n hf
                  have Hf := Lib.hid hf
                  clear hf
                  unfold relAt
                  go_simp
                  (first | (refine relUpon_val ?_ (Below.refl _ _); exact rfl) | exact rfl | (refine relUpon_enter ?_; fail))
                (simp only [Act.put, List.setIfInBounds_toArray, List.set_cons_zero, List.set_cons_succ])
                (with_reducible refine HK.out _ _ ?_)
                clear HK K)
             | (fail)))
        refine relNil ?_
        intro r5 n5 hx5
        clear hcH
        (try simp only [List.nil_append, List.cons_append, List.mem_cons, List.not_mem_nil, or_false, forall_eq_or_imp, forall_eq, false_implies, implies_true] at hx5)
        obtain ⟨w5, hb5⟩ := n5
        (try dsimp only)
        obtain ⟨hc5, hf5⟩ := bcell hb5
        have hz5 := hb5.size
        (try simp at hz5)
        go_wp2
        go_roundw
        case rel => exact ⟨i + 1, f, by go_num, by omega, by omega, H2.out, by (repeat' (first | with_reducible exact Below.refl _ _ | with_reducible assumption | with_reducible refine Below.drew ?_ | with_reducible refine below_drewN' ?_ _ | with_reducible refine Below.alloc ?_ ?_ _ | with_reducible refine Below.setCell ?_ ?_ _ | with_reducible refine below_step (by assumption) ?_ ?_ | omega | (simp; done) | (simp; omega)))⟩
        case measure => simp [intOf]; omega
      · rw [if_neg hpq] at hE2
        have H2 := Lib.hid hE2
        clear hE2
        have hne : (((p : Nat) : Int) != ((q : Nat) : Int)) = true := by rw [bne_iff_ne]; omega
        go_wp2
        have hcH := held_cell
        refine region_rel (by kernel_rfl) (by kernel_rfl) ?_
        repeat
          ((with_reducible refine relStep (fun K hK => ?_))
           (have HK := Lib.hid hK)
           clear hK
           (first
             | (apply relInl
                · intro r n hf
                  have Hf := Lib.hid hf
                  clear hf
                  unfold relAt
                  go_simp
                  (first | (refine relUpon_val ?_ (Below.refl _ _); exact rfl) | exact rfl | (refine relUpon_enter ?_; fail))
                (simp only [Act.put, List.setIfInBounds_toArray, List.set_cons_zero, List.set_cons_succ])
                (with_reducible refine HK.out _ _ ?_)
                clear HK K)
             | (fail)))
        refine relNil ?_
        intro r5 n5 hx5
        clear hcH
        (try simp only [List.nil_append, List.cons_append, List.mem_cons, List.not_mem_nil, or_false, forall_eq_or_imp, forall_eq, false_implies, implies_true] at hx5)
        obtain ⟨w5, hb5⟩ := n5
        (try dsimp only)
        obtain ⟨hc5, hf5⟩ := bcell hb5
        have hz5 := hb5.size
        (try simp at hz5)
        go_wp2
        have hcH := held_cell
        refine region_rel (by kernel_rfl) (by kernel_rfl) ?_
        repeat
          ((with_reducible refine relStep (fun K hK => ?_))
           (have HK := Lib.hid hK)
           clear hK
           (first
             | (apply relInl
                · intro r n hf
                  have Hf := Lib.hid hf
                  clear hf
                  unfold relAt
                  go_simp
                  (first | (refine relUpon_val ?_ (Below.refl _ _); exact rfl) | exact rfl | (refine relUpon_enter ?_; fail))
                (simp only [Act.put, List.setIfInBounds_toArray, List.set_cons_zero, List.set_cons_succ])
                (with_reducible refine HK.out _ _ ?_)
                clear HK K)
             | (fail)))
        refine relNil ?_
        intro r6 n6 hx6
        clear hcH
        (try simp only [List.nil_append, List.cons_append, List.mem_cons, List.not_mem_nil, or_false, forall_eq_or_imp, forall_eq, false_implies, implies_true] at hx6)
        obtain ⟨w6, hb6⟩ := n6
        (try dsimp only)
        obtain ⟨hc6, hf6⟩ := bcell hb6
        have hz6 := hb6.size
        (try simp at hz6)
        go_wp2
        go_ret
        exact ⟨by rw [H2.out]; simp, by (repeat' (first | with_reducible exact Below.refl _ _ | with_reducible assumption | with_reducible refine Below.drew ?_ | with_reducible refine below_drewN' ?_ _ | with_reducible refine Below.alloc ?_ ?_ _ | with_reducible refine Below.setCell ?_ ?_ _ | with_reducible refine below_step (by assumption) ?_ ?_ | omega | (simp; done) | (simp; omega)))⟩
    · have H2 := Lib.hid (HE.out.trans (lessF_end f i h))
      have h3 : ¬ i < a.size ∨ (i < a.size ∧ ¬ i < b.size) := by omega
      clear h
      rcases h3 with h1 | ⟨h1, h2⟩
      · go_wp2
        go_ret
        exact ⟨by rw [H2.out]; simp, by (repeat' (first | with_reducible exact Below.refl _ _ | with_reducible assumption | with_reducible refine Below.drew ?_ | with_reducible refine below_drewN' ?_ _ | with_reducible refine Below.alloc ?_ ?_ _ | with_reducible refine Below.setCell ?_ ?_ _ | with_reducible refine below_step (by assumption) ?_ ?_ | omega | (simp; done) | (simp; omega)))⟩
      · go_wp2
        go_ret
        exact ⟨by rw [H2.out]; simp, by (repeat' (first | with_reducible exact Below.refl _ _ | with_reducible assumption | with_reducible refine Below.drew ?_ | with_reducible refine below_drewN' ?_ _ | with_reducible refine Below.alloc ?_ ?_ _ | with_reducible refine Below.setCell ?_ ?_ _ | with_reducible refine below_step (by assumption) ?_ ?_ | omega | (simp; done) | (simp; omega)))⟩
set_option maxRecDepth 100000 in
theorem maybe5_any (s : ByteArray) (hs : s.size ≤ 1000000000) (w : World) :
    Calls Tryz.prog 79 #[.string s] w fun e w' => e = .returned (.bool (weB s)) ∧ Below w.heap.size w w' := by
  unfold weB
  by_cases h : s = emp
  · obtain ⟨h1, h2, h3, h4⟩ := emp_lits h
    rw [decide_eq_true h]
    clear h
    go_enter Tryz.func79, Tryz.ntmps79
    go_wp2
    go_ret
    exact ⟨rfl, by (repeat' (first | with_reducible exact Below.refl _ _ | with_reducible assumption | with_reducible refine Below.drew ?_ | with_reducible refine below_drewN' ?_ _ | with_reducible refine Below.alloc ?_ ?_ _ | with_reducible refine Below.setCell ?_ ?_ _ | with_reducible refine below_step (by assumption) ?_ ?_ | omega | (simp; done) | (simp; omega)))⟩
  · obtain ⟨h1, h2, h3, h4⟩ := emp_litn h
    rw [decide_eq_false h]
    clear h
    go_enter Tryz.func79, Tryz.ntmps79
    go_wp2_with (go_at_call 43; refine (refword_any _ hs _).mono ?_; rintro e w1 ⟨rfl, hb1⟩; obtain ⟨hc1, hf1⟩ := bcell hb1; have hz1 := hb1.size; (try simp at hz1); (try have hza : w.heap.size < w1.heap.size := by omega); (try have hzb : w.heap.size + 1 < w1.heap.size := by omega); (try have hzc : w.heap.size + 1 + 1 < w1.heap.size := by omega); (try have hzd : w.heap.size + 1 + 1 + 1 < w1.heap.size := by omega))
    go_ret
    exact ⟨rfl, by (repeat' (first | with_reducible exact Below.refl _ _ | with_reducible assumption | with_reducible refine Below.drew ?_ | with_reducible refine below_drewN' ?_ _ | with_reducible refine Below.alloc ?_ ?_ _ | with_reducible refine Below.setCell ?_ ?_ _ | with_reducible refine below_step (by assumption) ?_ ?_ | omega | (simp; done) | (simp; omega)))⟩
structure Lab where
  key : ByteArray
  val : ByteArray
deriving DecidableEq
def kcs (x : Lab) : List Value := [.string x.key, .string x.val]
theorem kcs_len (x : Lab) : (kcs x).length = 2 := rfl
abbrev LabL := RowsAt kcs 2
theorem lab_cells {w : World} {b o : Nat} {x : Lab} (h : ∀ r, r < 2 → w.cell? ⟨b, o + r, none⟩ = (kcs x)[r]?) :
    w.cell? ⟨b, o, none⟩ = some (.string x.key) ∧ w.cell? ⟨b, o + 1, none⟩ = some (.string x.val) := ⟨h 0 (by decide), h 1 (by decide)⟩
def okL (l : List Lab) (i : Nat) : Bool := match l[i]? with
  | some x => wordB x.key && weB x.val && (match i with
    | 0 => true
    | j + 1 => match l[j]? with
      | some y => lessB y.key x.key
      | none => true)
  | none => true
def labsTo (l : List Lab) (k : Nat) : Bool := (List.range k).all (okL l)
def labsB (l : List Lab) : Bool := decide (l.length ≤ 16) && labsTo l l.length
theorem labsTo_succ (l : List Lab) (k : Nat) : labsTo l (k + 1) = (labsTo l k && okL l k) := by
  unfold labsTo; rw [List.range_succ, List.all_append]; simp
theorem labs_bad {l : List Lab} {k : Nat} (hk : k < l.length) (h : okL l k = false) : labsB l = false := by
  unfold labsB
  have : labsTo l l.length = false := by
    unfold labsTo
    rw [Bool.eq_false_iff]
    intro he
    have := List.all_eq_true.1 he k (List.mem_range.2 hk)
    rw [h] at this
    cases this
  rw [this, Bool.and_false]
theorem okL_zero {l : List Lab} {x : Lab} (h : l[0]? = some x) : okL l 0 = (wordB x.key && weB x.val) := by
  unfold okL; rw [h]; simp
theorem okL_succ {l : List Lab} {j : Nat} {x y : Lab} (h : l[j + 1]? = some x) (hy : l[j]? = some y) : okL l (j + 1) = (wordB x.key && weB x.val && lessB y.key x.key) := by
  unfold okL; simp only [h, hy]
def shortL (x : Lab) : Bool := decide (x.key.size ≤ 300 ∧ x.val.size ≤ 300)
def lightL (l : List Lab) : Bool := decide (l.length ≤ 40) && l.all shortL
theorem lightL_iff (l : List Lab) : lightL l = true ↔ l.length ≤ 40 ∧ ∀ x ∈ l, x.key.size ≤ 300 ∧ x.val.size ≤ 300 := by
  unfold lightL
  rw [Bool.and_eq_true, decide_eq_true_eq, List.all_eq_true]
  simp [shortL]
set_option maxRecDepth 100000 in
set_option maxHeartbeats 4000000 in
theorem lightl_any (c : Option Addr) (kc : Nat) (xs : List Lab) (w : World) (hF : LabL w c xs) (hm : xs.length ≤ maxLen) :
    Calls Tryz.prog 41 #[.slice c xs.length kc] w fun e w' => e = .returned (.bool (lightL xs)) ∧ Below w.heap.size w w' := by
  have HF := Lib.hid hF
  clear hF
  by_cases h40 : xs.length ≤ 40
  · have Hl := Lib.hid (show lightL xs = xs.all shortL by unfold lightL; rw [decide_eq_true h40]; rfl)
    obtain ⟨n, hln⟩ : ∃ n, xs.length = n := ⟨_, rfl⟩
    rw [hln] at h40 ⊢
    have Hln := Lib.hid hln
    clear hln hm
    go_enter Tryz.func41, Tryz.ntmps41
    go_wp2
    go_loopw [3] (fun i wr => ∃ k : Nat, k ≤ n ∧ i = .int .i64 k ∧ (xs.take k).all shortL = true ∧ Below w.heap.size w wr) (fun i _ => n - (intOf i).toNat)
    case atStart => exact ⟨0, by omega, rfl, rfl, by (repeat' (first | with_reducible exact Below.refl _ _ | with_reducible assumption | with_reducible refine Below.drew ?_ | with_reducible refine below_drewN' ?_ _ | with_reducible refine Below.alloc ?_ ?_ _ | with_reducible refine Below.setCell ?_ ?_ _ | with_reducible refine below_step (by assumption) ?_ ?_ | omega | (simp; done) | (simp; omega)))⟩
    case round =>
      obtain ⟨j, hj, rfl, hE, hC⟩ := hrel
      obtain ⟨hcC, hfC⟩ := bcell hC
      have hcz := hC.size
      have HE := Lib.hid hE
      clear hE
      by_cases hlj : j < n
      · obtain ⟨x, hx⟩ := mem_at (l := xs) (k := j) (by rw [Hln.out]; exact hlj)
        obtain ⟨b, off, rfl, hb, hc⟩ := HF.out (by rw [Hln.out]; omega)
        have hbw : b < wr.heap.size := by omega
        obtain ⟨c0, c1⟩ := lab_cells (hc j x hx)
        have Hx := Lib.hid hx
        clear hc hx
        rcases short_cases x.key.size x.val.size with ⟨k1, hv⟩ | ⟨k1, k2, hv⟩ | ⟨k1, k2, hv⟩
        · have Hs := Lib.hid (show lightL xs = false by rw [Hl.out, all_bad Hx.out (decide_eq_false hv)])
          clear hv
          go_wp2
          go_ret
          exact ⟨by rw [Hs.out]; rfl, by (repeat' (first | with_reducible exact Below.refl _ _ | with_reducible assumption | with_reducible refine Below.drew ?_ | with_reducible refine below_drewN' ?_ _ | with_reducible refine Below.alloc ?_ ?_ _ | with_reducible refine Below.setCell ?_ ?_ _ | with_reducible refine below_step (by assumption) ?_ ?_ | omega | (simp; done) | (simp; omega)))⟩
        · have Hs := Lib.hid (show lightL xs = false by rw [Hl.out, all_bad Hx.out (decide_eq_false hv)])
          clear hv
          go_wp2
          go_ret
          exact ⟨by rw [Hs.out]; rfl, by (repeat' (first | with_reducible exact Below.refl _ _ | with_reducible assumption | with_reducible refine Below.drew ?_ | with_reducible refine below_drewN' ?_ _ | with_reducible refine Below.alloc ?_ ?_ _ | with_reducible refine Below.setCell ?_ ?_ _ | with_reducible refine below_step (by assumption) ?_ ?_ | omega | (simp; done) | (simp; omega)))⟩
        · have Hs := Lib.hid (all_take1 (P := shortL) Hx.out (decide_eq_true hv) HE.out)
          clear hv
          go_wp2
          go_roundw
          case rel => exact ⟨j + 1, by omega, by go_num, Hs.out, by (repeat' (first | with_reducible exact Below.refl _ _ | with_reducible assumption | with_reducible refine Below.drew ?_ | with_reducible refine below_drewN' ?_ _ | with_reducible refine Below.alloc ?_ ?_ _ | with_reducible refine Below.setCell ?_ ?_ _ | with_reducible refine below_step (by assumption) ?_ ?_ | omega | (simp; done) | (simp; omega)))⟩
          case measure => simp [intOf]; omega
      · obtain rfl : j = n := by omega
        have Hs := Lib.hid (show lightL xs = true by rw [Hl.out, all_done Hln.out HE.out])
        go_wp2
        go_ret
        exact ⟨by rw [Hs.out]; rfl, by (repeat' (first | with_reducible exact Below.refl _ _ | with_reducible assumption | with_reducible refine Below.drew ?_ | with_reducible refine below_drewN' ?_ _ | with_reducible refine Below.alloc ?_ ?_ _ | with_reducible refine Below.setCell ?_ ?_ _ | with_reducible refine below_step (by assumption) ?_ ?_ | omega | (simp; done) | (simp; omega)))⟩
  · have hr : lightL xs = false := by unfold lightL; rw [decide_eq_false h40]; rfl
    rw [hr]
    clear hr
    unfold maxLen at hm
    have h2 : 40 < xs.length := by omega
    go_enter Tryz.func41, Tryz.ntmps41
    go_wp2
    go_ret
    exact ⟨rfl, by (repeat' (first | with_reducible exact Below.refl _ _ | with_reducible assumption | with_reducible refine Below.drew ?_ | with_reducible refine below_drewN' ?_ _ | with_reducible refine Below.alloc ?_ ?_ _ | with_reducible refine Below.setCell ?_ ?_ _ | with_reducible refine below_step (by assumption) ?_ ?_ | omega | (simp; done) | (simp; omega)))⟩
set_option maxRecDepth 100000 in
set_option maxHeartbeats 4000000 in
theorem refright_l (c : Option Addr) (kc : Nat) (xs : List Lab) (w : World) (hF : LabL w c xs) (hsz : ∀ x ∈ xs, x.key.size ≤ 1000000000 ∧ x.val.size ≤ 1000000000) (hm : xs.length ≤ maxLen) :
    Calls Tryz.prog 65 #[.slice c xs.length kc] w fun e w' => e = .returned (.bool (labsB xs)) ∧ Below w.heap.size w w' := by
  have HF := Lib.hid hF
  have Hsz := Lib.hid hsz
  clear hF hsz
  by_cases h16 : 16 < xs.length
  · have hr : labsB xs = false := by unfold labsB; rw [decide_eq_false (by omega)]; rfl
    rw [hr]
    clear hr
    unfold maxLen at hm
    go_enter Tryz.func65, Tryz.ntmps65
    go_wp2
    go_ret
    exact ⟨rfl, by (repeat' (first | with_reducible exact Below.refl _ _ | with_reducible assumption | with_reducible refine Below.drew ?_ | with_reducible refine below_drewN' ?_ _ | with_reducible refine Below.alloc ?_ ?_ _ | with_reducible refine Below.setCell ?_ ?_ _ | with_reducible refine below_step (by assumption) ?_ ?_ | omega | (simp; done) | (simp; omega)))⟩
  · have hrt : labsB xs = labsTo xs xs.length := by unfold labsB; rw [decide_eq_true (by omega)]; rfl
    have Hrt := Lib.hid hrt
    have Hbad := Lib.hid (fun k hk h => labs_bad (l := xs) (k := k) hk h)
    clear hrt
    replace hm : xs.length ≤ 16 := by omega
    clear h16
    obtain ⟨n, hln⟩ : ∃ n, xs.length = n := ⟨_, rfl⟩
    rw [hln] at hm ⊢
    have Hln := Lib.hid hln
    clear hln
    go_enter Tryz.func65, Tryz.ntmps65
    go_wp2
    go_loopw [3] (fun i wr => ∃ k : Nat, k ≤ n ∧ i = .int .i64 k ∧ labsTo xs k = true ∧ Below w.heap.size w wr) (fun i _ => n - (intOf i).toNat)
    case atStart => exact ⟨0, by omega, rfl, rfl, by (repeat' (first | with_reducible exact Below.refl _ _ | with_reducible assumption | with_reducible refine Below.drew ?_ | with_reducible refine below_drewN' ?_ _ | with_reducible refine Below.alloc ?_ ?_ _ | with_reducible refine Below.setCell ?_ ?_ _ | with_reducible refine below_step (by assumption) ?_ ?_ | omega | (simp; done) | (simp; omega)))⟩
    case round =>
      obtain ⟨k, hk, rfl, hE, hB⟩ := hrel
      obtain ⟨hcB, hfB⟩ := bcell hB
      have hbz := hB.size
      have HE := Lib.hid hE
      clear hE
      by_cases hlt : k < n
      · obtain ⟨x, hx⟩ := mem_at (l := xs) (k := k) (by rw [Hln.out]; exact hlt)
        obtain ⟨b, off, rfl, hb, hc⟩ := HF.out (by rw [Hln.out]; omega)
        have hbw : b < wr.heap.size := by omega
        obtain ⟨c0, c1⟩ := lab_cells (hc k x hx)
        obtain ⟨hs1, hs2⟩ := Hsz.out x (List.mem_of_getElem? hx)
        have Hx := Lib.hid hx
        have Hb := Lib.hid (Hbad.out k (by rw [Hln.out]; exact hlt))
        cases k1 : wordB x.key
        · have Hs := Lib.hid (Hb.out (by
            rcases k with _ | j
            · rw [okL_zero Hx.out, k1]; rfl
            · obtain ⟨y, hy⟩ := mem_at (l := xs) (k := j) (by rw [Hln.out]; omega)
              rw [okL_succ Hx.out hy, k1]; rfl))
          have K1 := Lib.hid k1
          clear k1 hc hx
          go_wp2
          have hcH := held_cell
          refine region_rel (by kernel_rfl) (by kernel_rfl) ?_
          repeat
            ((with_reducible refine relStep (fun K hK => ?_))
             (have HK := Lib.hid hK)
             clear hK
             (first
               | (apply relInl
                  · intro r n hf
                    have Hf := Lib.hid hf
                    clear hf
                    unfold relAt
                    go_simp
                    (first | (refine relUpon_val ?_ (Below.refl _ _); exact rfl) | exact rfl | (refine relUpon_enter ?_; (go_at_call 43; (with_reducible refine (refword_any _ hs1 _).mono ?_); rw [K1.out]; rintro e w1 ⟨rfl, hb⟩; exact ⟨⟨_, rfl, rfl⟩, hb⟩)))
                  (simp only [Act.put, List.setIfInBounds_toArray, List.set_cons_zero, List.set_cons_succ])
                  (with_reducible refine HK.out _ _ ?_)
                  clear HK K)
               | (fail)))
          refine relNil ?_
          intro r5 n5 hx5
          clear hcH
          (try simp only [List.nil_append, List.cons_append, List.mem_cons, List.not_mem_nil, or_false, forall_eq_or_imp, forall_eq, false_implies, implies_true] at hx5)
          obtain ⟨w5, hb5⟩ := n5
          (try dsimp only)
          obtain ⟨hc5, hf5⟩ := bcell hb5
          have hz5 := hb5.size
          (try simp at hz5)
          go_wp2
          go_ret
          exact ⟨by rw [Hs.out]; rfl, by (repeat' (first | with_reducible exact Below.refl _ _ | with_reducible assumption | with_reducible refine Below.drew ?_ | with_reducible refine below_drewN' ?_ _ | with_reducible refine Below.alloc ?_ ?_ _ | with_reducible refine Below.setCell ?_ ?_ _ | with_reducible refine below_step (by assumption) ?_ ?_ | omega | (simp; done) | (simp; omega)))⟩
        · cases k2 : weB x.val
          · have Hs := Lib.hid (Hb.out (by
              rcases k with _ | j
              · rw [okL_zero Hx.out, k1, k2]; rfl
              · obtain ⟨y, hy⟩ := mem_at (l := xs) (k := j) (by rw [Hln.out]; omega)
                rw [okL_succ Hx.out hy, k1, k2]; rfl))
            have K1 := Lib.hid k1
            have K2 := Lib.hid k2
            clear k1 k2 hc hx
            go_wp2
            have hcH := held_cell
            refine region_rel (by kernel_rfl) (by kernel_rfl) ?_
            repeat
              ((with_reducible refine relStep (fun K hK => ?_))
               (have HK := Lib.hid hK)
               clear hK
               (first
                 | (apply relInl
                    · intro r n hf
                      have Hf := Lib.hid hf
                      clear hf
                      unfold relAt
                      go_simp
                      (first | (refine relUpon_val ?_ (Below.refl _ _); exact rfl) | exact rfl | (refine relUpon_enter ?_; (first | (go_at_call 43; (with_reducible refine (refword_any _ hs1 _).mono ?_); rw [K1.out]; rintro e w1 ⟨rfl, hb⟩; exact ⟨⟨_, rfl, rfl⟩, hb⟩) | (go_at_call 79; (with_reducible refine (maybe5_any _ hs2 _).mono ?_); rw [K2.out]; rintro e w1 ⟨rfl, hb⟩; exact ⟨⟨_, rfl, rfl⟩, hb⟩))))
                    (simp only [Act.put, List.setIfInBounds_toArray, List.set_cons_zero, List.set_cons_succ])
                    (with_reducible refine HK.out _ _ ?_)
                    clear HK K)
                 | (fail)))
            refine relNil ?_
            intro r5 n5 hx5
            clear hcH
            (try simp only [List.nil_append, List.cons_append, List.mem_cons, List.not_mem_nil, or_false, forall_eq_or_imp, forall_eq, false_implies, implies_true] at hx5)
            obtain ⟨w5, hb5⟩ := n5
            (try dsimp only)
            obtain ⟨hc5, hf5⟩ := bcell hb5
            have hz5 := hb5.size
            (try simp at hz5)
            go_wp2
            go_ret
            exact ⟨by rw [Hs.out]; rfl, by (repeat' (first | with_reducible exact Below.refl _ _ | with_reducible assumption | with_reducible refine Below.drew ?_ | with_reducible refine below_drewN' ?_ _ | with_reducible refine Below.alloc ?_ ?_ _ | with_reducible refine Below.setCell ?_ ?_ _ | with_reducible refine below_step (by assumption) ?_ ?_ | omega | (simp; done) | (simp; omega)))⟩
          · have K1 := Lib.hid k1
            have K2 := Lib.hid k2
            clear k1 k2 hx
            rcases k with _ | j
            · rw [Nat.zero_mul, Nat.add_zero] at c0 c1
              have Hs := Lib.hid (show labsTo xs 1 = true by rw [labsTo_succ, HE.out, okL_zero Hx.out, K1.out, K2.out]; rfl)
              clear hc
              go_wp2
              have hcH := held_cell
              refine region_rel (by kernel_rfl) (by kernel_rfl) ?_
              repeat
                ((with_reducible refine relStep (fun K hK => ?_))
                 (have HK := Lib.hid hK)
                 clear hK
                 (first
                   | (apply relInl
                      · intro r n hf
                        have Hf := Lib.hid hf
                        clear hf
                        unfold relAt
                        go_simp
                        (first | (refine relUpon_val ?_ (Below.refl _ _); exact rfl) | exact rfl | (refine relUpon_enter ?_; (first | (go_at_call 43; (with_reducible refine (refword_any _ hs1 _).mono ?_); rw [K1.out]; rintro e w1 ⟨rfl, hb⟩; exact ⟨⟨_, rfl, rfl⟩, hb⟩) | (go_at_call 79; (with_reducible refine (maybe5_any _ hs2 _).mono ?_); rw [K2.out]; rintro e w1 ⟨rfl, hb⟩; exact ⟨⟨_, rfl, rfl⟩, hb⟩))))
                      (simp only [Act.put, List.setIfInBounds_toArray, List.set_cons_zero, List.set_cons_succ])
                      (with_reducible refine HK.out _ _ ?_)
                      clear HK K)
                   | (fail)))
              refine relNil ?_
              intro r5 n5 hx5
              clear hcH
              (try simp only [List.nil_append, List.cons_append, List.mem_cons, List.not_mem_nil, or_false, forall_eq_or_imp, forall_eq, false_implies, implies_true] at hx5)
              obtain ⟨w5, hb5⟩ := n5
              (try dsimp only)
              obtain ⟨hc5, hf5⟩ := bcell hb5
              have hz5 := hb5.size
              (try simp at hz5)
              go_wp2
              go_roundw
              case rel => exact ⟨1, by omega, by go_num, Hs.out, by (repeat' (first | with_reducible exact Below.refl _ _ | with_reducible assumption | with_reducible refine Below.drew ?_ | with_reducible refine below_drewN' ?_ _ | with_reducible refine Below.alloc ?_ ?_ _ | with_reducible refine Below.setCell ?_ ?_ _ | with_reducible refine below_step (by assumption) ?_ ?_ | omega | (simp; done) | (simp; omega)))⟩
              case measure => simp [intOf]; omega
            · obtain ⟨y, hy⟩ := mem_at (l := xs) (k := j) (by rw [Hln.out]; omega)
              obtain ⟨d0, d1⟩ := lab_cells (hc j y hy)
              obtain ⟨hs3, hs4⟩ := Hsz.out y (List.mem_of_getElem? hy)
              have Hy := Lib.hid hy
              clear hc hy
              have hjn : j < n := by omega
              have f1 := wrap_in (x := (j : Int)) (by omega) (by omega)
              have f2 := wrap_in (x := (j : Int) + 1 - 1) (by omega) (by omega)
              have f3 : (j : Int) + 1 - 1 = (j : Int) := by omega
              cases k3 : lessB y.key x.key
              · have Hs := Lib.hid (Hb.out (by rw [okL_succ Hx.out Hy.out, K1.out, K2.out, k3]; rfl))
                have K3 := Lib.hid k3
                clear k3
                go_wp2
                have hcH := held_cell
                refine region_rel (by kernel_rfl) (by kernel_rfl) ?_
                repeat
                  ((with_reducible refine relStep (fun K hK => ?_))
                   (have HK := Lib.hid hK)
                   clear hK
                   (first
                     | (apply relInl
                        · intro r n hf
                          have Hf := Lib.hid hf
                          clear hf
                          unfold relAt
                          go_simp
                          (first | (refine relUpon_val ?_ (Below.refl _ _); exact rfl) | exact rfl | (refine relUpon_enter ?_; (first | (go_at_call 43; (with_reducible refine (refword_any _ hs1 _).mono ?_); rw [K1.out]; rintro e w1 ⟨rfl, hb⟩; exact ⟨⟨_, rfl, rfl⟩, hb⟩) | (go_at_call 79; (with_reducible refine (maybe5_any _ hs2 _).mono ?_); rw [K2.out]; rintro e w1 ⟨rfl, hb⟩; exact ⟨⟨_, rfl, rfl⟩, hb⟩) | (go_at_call 80; (with_reducible refine (less_any _ _ hs3 _).mono ?_); rw [K3.out]; rintro e w1 ⟨rfl, hb⟩; exact ⟨⟨_, rfl, rfl⟩, hb⟩))))
                        (simp only [Act.put, List.setIfInBounds_toArray, List.set_cons_zero, List.set_cons_succ])
                        (with_reducible refine HK.out _ _ ?_)
                        clear HK K)
                     | (fail)))
                refine relNil ?_
                intro r5 n5 hx5
                clear hcH
                (try simp only [List.nil_append, List.cons_append, List.mem_cons, List.not_mem_nil, or_false, forall_eq_or_imp, forall_eq, false_implies, implies_true] at hx5)
                obtain ⟨w5, hb5⟩ := n5
                (try dsimp only)
                obtain ⟨hc5, hf5⟩ := bcell hb5
                have hz5 := hb5.size
                (try simp at hz5)
                go_wp2
                go_ret
                exact ⟨by rw [Hs.out]; rfl, by (repeat' (first | with_reducible exact Below.refl _ _ | with_reducible assumption | with_reducible refine Below.drew ?_ | with_reducible refine below_drewN' ?_ _ | with_reducible refine Below.alloc ?_ ?_ _ | with_reducible refine Below.setCell ?_ ?_ _ | with_reducible refine below_step (by assumption) ?_ ?_ | omega | (simp; done) | (simp; omega)))⟩
              · have Hs := Lib.hid (show labsTo xs (j + 1 + 1) = true by rw [labsTo_succ, HE.out, okL_succ Hx.out Hy.out, K1.out, K2.out, k3]; rfl)
                have K3 := Lib.hid k3
                clear k3
                go_wp2
                have hcH := held_cell
                refine region_rel (by kernel_rfl) (by kernel_rfl) ?_
                repeat
                  ((with_reducible refine relStep (fun K hK => ?_))
                   (have HK := Lib.hid hK)
                   clear hK
                   (first
                     | (apply relInl
                        · intro r n hf
                          have Hf := Lib.hid hf
                          clear hf
                          unfold relAt
                          go_simp
                          (first | (refine relUpon_val ?_ (Below.refl _ _); exact rfl) | exact rfl | (refine relUpon_enter ?_; (first | (go_at_call 43; (with_reducible refine (refword_any _ hs1 _).mono ?_); rw [K1.out]; rintro e w1 ⟨rfl, hb⟩; exact ⟨⟨_, rfl, rfl⟩, hb⟩) | (go_at_call 79; (with_reducible refine (maybe5_any _ hs2 _).mono ?_); rw [K2.out]; rintro e w1 ⟨rfl, hb⟩; exact ⟨⟨_, rfl, rfl⟩, hb⟩) | (go_at_call 80; (with_reducible refine (less_any _ _ hs3 _).mono ?_); rw [K3.out]; rintro e w1 ⟨rfl, hb⟩; exact ⟨⟨_, rfl, rfl⟩, hb⟩))))
                        (simp only [Act.put, List.setIfInBounds_toArray, List.set_cons_zero, List.set_cons_succ])
                        (with_reducible refine HK.out _ _ ?_)
                        clear HK K)
                     | (fail)))
                refine relNil ?_
                intro r5 n5 hx5
                clear hcH
                (try simp only [List.nil_append, List.cons_append, List.mem_cons, List.not_mem_nil, or_false, forall_eq_or_imp, forall_eq, false_implies, implies_true] at hx5)
                obtain ⟨w5, hb5⟩ := n5
                (try dsimp only)
                obtain ⟨hc5, hf5⟩ := bcell hb5
                have hz5 := hb5.size
                (try simp at hz5)
                go_wp2
                go_roundw
                case rel => exact ⟨j + 1 + 1, by omega, by go_num, Hs.out, by (repeat' (first | with_reducible exact Below.refl _ _ | with_reducible assumption | with_reducible refine Below.drew ?_ | with_reducible refine below_drewN' ?_ _ | with_reducible refine Below.alloc ?_ ?_ _ | with_reducible refine Below.setCell ?_ ?_ _ | with_reducible refine below_step (by assumption) ?_ ?_ | omega | (simp; done) | (simp; omega)))⟩
                case measure => simp [intOf]; omega
      · obtain rfl : k = n := by omega
        have Hs := Lib.hid (show labsB xs = true from Hrt.out.trans ((congrArg (labsTo xs) Hln.out).trans HE.out))
        go_wp2
        go_ret
        exact ⟨by rw [Hs.out]; rfl, by (repeat' (first | with_reducible exact Below.refl _ _ | with_reducible assumption | with_reducible refine Below.drew ?_ | with_reducible refine below_drewN' ?_ _ | with_reducible refine Below.alloc ?_ ?_ _ | with_reducible refine Below.setCell ?_ ?_ _ | with_reducible refine below_step (by assumption) ?_ ?_ | omega | (simp; done) | (simp; omega)))⟩
set_option maxRecDepth 100000 in
set_option maxHeartbeats 4000000 in
theorem light_any (a c : Option Addr) (ka kc : Nat) (l : List Tol) (xs : List Tnt) (w : World) (hD : TolsAt w a l) (hn : l.length ≤ maxLen) (hF : TntsAt w c xs) (hm : xs.length ≤ maxLen) :
    Calls Tryz.prog 42 #[.slice a l.length ka, .slice c xs.length kc] w fun e w' => e = .returned (.bool (lightB l xs)) ∧ Below w.heap.size w w' := by
  have HD := Lib.hid hD
  have HF := Lib.hid hF
  clear hD hF
  by_cases h40 : l.length ≤ 40 ∧ xs.length ≤ 40
  · have Hl := Lib.hid (show lightB l xs = (l.all shortO && xs.all shortT) by unfold lightB; rw [decide_eq_true h40]; rfl)
    obtain ⟨h1, h2⟩ := h40
    obtain ⟨m, hlm⟩ : ∃ m, l.length = m := ⟨_, rfl⟩
    rw [hlm] at h1 ⊢
    have Hlm := Lib.hid hlm
    clear hlm hn hm
    obtain ⟨n, hln⟩ : ∃ n, xs.length = n := ⟨_, rfl⟩
    rw [hln] at h2 ⊢
    have Hln := Lib.hid hln
    clear hln
    go_enter Tryz.func42, Tryz.ntmps42
    go_wp2
    go_loopw [5] (fun i wr => ∃ k : Nat, k ≤ m ∧ i = .int .i64 k ∧ (l.take k).all shortO = true ∧ Below w.heap.size w wr) (fun i _ => m - (intOf i).toNat)
    case atStart => exact ⟨0, by omega, rfl, rfl, by (repeat' (first | with_reducible exact Below.refl _ _ | with_reducible assumption | with_reducible refine Below.drew ?_ | with_reducible refine below_drewN' ?_ _ | with_reducible refine Below.alloc ?_ ?_ _ | with_reducible refine Below.setCell ?_ ?_ _ | with_reducible refine below_step (by assumption) ?_ ?_ | omega | (simp; done) | (simp; omega)))⟩
    case round =>
      obtain ⟨k, hk, rfl, hE, hB⟩ := hrel
      obtain ⟨hcB, hfB⟩ := bcell hB
      have hbz := hB.size
      have HE := Lib.hid hE
      clear hE
      by_cases hlt : k < m
      · obtain ⟨x, hx⟩ := mem_at (l := l) (k := k) (by rw [Hlm.out]; exact hlt)
        obtain ⟨b, off, rfl, hb, hc⟩ := HD.out (by rw [Hlm.out]; omega)
        have hbw : b < wr.heap.size := by omega
        obtain ⟨c0, c1, c2, c3⟩ := tol_cells (hc k x hx)
        have Hx := Lib.hid hx
        clear hc hx
        rcases short_cases x.key.size x.val.size with ⟨k1, hv⟩ | ⟨k1, k2, hv⟩ | ⟨k1, k2, hv⟩
        · have Hs := Lib.hid (show lightB l xs = false by rw [Hl.out, all_bad Hx.out (decide_eq_false hv)]; rfl)
          clear hv
          go_wp2
          go_ret
          exact ⟨by rw [Hs.out]; rfl, by (repeat' (first | with_reducible exact Below.refl _ _ | with_reducible assumption | with_reducible refine Below.drew ?_ | with_reducible refine below_drewN' ?_ _ | with_reducible refine Below.alloc ?_ ?_ _ | with_reducible refine Below.setCell ?_ ?_ _ | with_reducible refine below_step (by assumption) ?_ ?_ | omega | (simp; done) | (simp; omega)))⟩
        · have Hs := Lib.hid (show lightB l xs = false by rw [Hl.out, all_bad Hx.out (decide_eq_false hv)]; rfl)
          clear hv
          go_wp2
          go_ret
          exact ⟨by rw [Hs.out]; rfl, by (repeat' (first | with_reducible exact Below.refl _ _ | with_reducible assumption | with_reducible refine Below.drew ?_ | with_reducible refine below_drewN' ?_ _ | with_reducible refine Below.alloc ?_ ?_ _ | with_reducible refine Below.setCell ?_ ?_ _ | with_reducible refine below_step (by assumption) ?_ ?_ | omega | (simp; done) | (simp; omega)))⟩
        · have Hs := Lib.hid (all_take1 (P := shortO) Hx.out (decide_eq_true hv) HE.out)
          clear hv
          go_wp2
          go_roundw
          case rel => exact ⟨k + 1, by omega, by go_num, Hs.out, by (repeat' (first | with_reducible exact Below.refl _ _ | with_reducible assumption | with_reducible refine Below.drew ?_ | with_reducible refine below_drewN' ?_ _ | with_reducible refine Below.alloc ?_ ?_ _ | with_reducible refine Below.setCell ?_ ?_ _ | with_reducible refine below_step (by assumption) ?_ ?_ | omega | (simp; done) | (simp; omega)))⟩
          case measure => simp [intOf]; omega
      · obtain rfl : k = m := by omega
        have HA := Lib.hid (all_done Hlm.out HE.out)
        obtain ⟨w3, hw3⟩ : ∃ w3, w3 = wr := ⟨_, rfl⟩
        subst hw3
        go_wp2
        go_loopw [6] (fun i wr => ∃ k : Nat, k ≤ n ∧ i = .int .i64 k ∧ (xs.take k).all shortT = true ∧ Below w.heap.size w wr) (fun i _ => n - (intOf i).toNat)
        case atStart => exact ⟨0, by omega, rfl, rfl, by (repeat' (first | with_reducible exact Below.refl _ _ | with_reducible assumption | with_reducible refine Below.drew ?_ | with_reducible refine below_drewN' ?_ _ | with_reducible refine Below.alloc ?_ ?_ _ | with_reducible refine Below.setCell ?_ ?_ _ | with_reducible refine below_step (by assumption) ?_ ?_ | omega | (simp; done) | (simp; omega)))⟩
        case round =>
          obtain ⟨j, hj, rfl, hE, hC⟩ := hrel
          obtain ⟨hcC, hfC⟩ := bcell hC
          have hcz := hC.size
          have HE := Lib.hid hE
          clear hE
          by_cases hlj : j < n
          · obtain ⟨x, hx⟩ := mem_at (l := xs) (k := j) (by rw [Hln.out]; exact hlj)
            obtain ⟨b, off, rfl, hb, hc⟩ := HF.out (by rw [Hln.out]; omega)
            have hbw : b < wr.heap.size := by omega
            obtain ⟨c0, c1, c2⟩ := tnt_cells (hc j x hx)
            have Hx := Lib.hid hx
            clear hc hx
            rcases short_cases x.key.size x.val.size with ⟨k1, hv⟩ | ⟨k1, k2, hv⟩ | ⟨k1, k2, hv⟩
            · have Hs := Lib.hid (show lightB l xs = false by rw [Hl.out, HA.out, all_bad Hx.out (decide_eq_false hv)]; rfl)
              clear hv
              go_wp2
              go_ret
              exact ⟨by rw [Hs.out]; rfl, by (repeat' (first | with_reducible exact Below.refl _ _ | with_reducible assumption | with_reducible refine Below.drew ?_ | with_reducible refine below_drewN' ?_ _ | with_reducible refine Below.alloc ?_ ?_ _ | with_reducible refine Below.setCell ?_ ?_ _ | with_reducible refine below_step (by assumption) ?_ ?_ | omega | (simp; done) | (simp; omega)))⟩
            · have Hs := Lib.hid (show lightB l xs = false by rw [Hl.out, HA.out, all_bad Hx.out (decide_eq_false hv)]; rfl)
              clear hv
              go_wp2
              go_ret
              exact ⟨by rw [Hs.out]; rfl, by (repeat' (first | with_reducible exact Below.refl _ _ | with_reducible assumption | with_reducible refine Below.drew ?_ | with_reducible refine below_drewN' ?_ _ | with_reducible refine Below.alloc ?_ ?_ _ | with_reducible refine Below.setCell ?_ ?_ _ | with_reducible refine below_step (by assumption) ?_ ?_ | omega | (simp; done) | (simp; omega)))⟩
            · have Hs := Lib.hid (all_take1 (P := shortT) Hx.out (decide_eq_true hv) HE.out)
              clear hv
              go_wp2
              go_roundw
              case rel => exact ⟨j + 1, by omega, by go_num, Hs.out, by (repeat' (first | with_reducible exact Below.refl _ _ | with_reducible assumption | with_reducible refine Below.drew ?_ | with_reducible refine below_drewN' ?_ _ | with_reducible refine Below.alloc ?_ ?_ _ | with_reducible refine Below.setCell ?_ ?_ _ | with_reducible refine below_step (by assumption) ?_ ?_ | omega | (simp; done) | (simp; omega)))⟩
              case measure => simp [intOf]; omega
          · obtain rfl : j = n := by omega
            have Hs := Lib.hid (show lightB l xs = true by rw [Hl.out, HA.out, all_done Hln.out HE.out]; rfl)
            go_wp2
            go_ret
            exact ⟨by rw [Hs.out]; rfl, by (repeat' (first | with_reducible exact Below.refl _ _ | with_reducible assumption | with_reducible refine Below.drew ?_ | with_reducible refine below_drewN' ?_ _ | with_reducible refine Below.alloc ?_ ?_ _ | with_reducible refine Below.setCell ?_ ?_ _ | with_reducible refine below_step (by assumption) ?_ ?_ | omega | (simp; done) | (simp; omega)))⟩
  · have hr : lightB l xs = false := by unfold lightB; rw [decide_eq_false h40]; rfl
    rw [hr]
    clear hr
    unfold maxLen at hn hm
    by_cases h1 : 40 < l.length
    · go_enter Tryz.func42, Tryz.ntmps42
      go_wp2
      go_ret
      exact ⟨rfl, by (repeat' (first | with_reducible exact Below.refl _ _ | with_reducible assumption | with_reducible refine Below.drew ?_ | with_reducible refine below_drewN' ?_ _ | with_reducible refine Below.alloc ?_ ?_ _ | with_reducible refine Below.setCell ?_ ?_ _ | with_reducible refine below_step (by assumption) ?_ ?_ | omega | (simp; done) | (simp; omega)))⟩
    · have h2 : 40 < xs.length := by omega
      have h3 : l.length ≤ 40 := by omega
      go_enter Tryz.func42, Tryz.ntmps42
      go_wp2
      go_ret
      exact ⟨rfl, by (repeat' (first | with_reducible exact Below.refl _ _ | with_reducible assumption | with_reducible refine Below.drew ?_ | with_reducible refine below_drewN' ?_ _ | with_reducible refine Below.alloc ?_ ?_ _ | with_reducible refine Below.setCell ?_ ?_ _ | with_reducible refine below_step (by assumption) ?_ ?_ | omega | (simp; done) | (simp; omega)))⟩
def okB (n : Int) : Bool := decide (0 ≤ n ∧ n ≤ 1125899906842624)
def rtB (a0 a1 a2 a3 a4 : Int) : Bool := okB a0 && okB a1 && okB a2 && okB a3 && okB a4
theorem rtB_iff (a0 a1 a2 a3 a4 : Int) : rtB a0 a1 a2 a3 a4 = true ↔ (0 ≤ a0 ∧ a0 ≤ 1125899906842624) ∧ (0 ≤ a1 ∧ a1 ≤ 1125899906842624) ∧ (0 ≤ a2 ∧ a2 ≤ 1125899906842624) ∧ (0 ≤ a3 ∧ a3 ≤ 1125899906842624) ∧ (0 ≤ a4 ∧ a4 ≤ 1125899906842624) := by
  simp [rtB, okB]; omega
set_option maxHeartbeats 400000 in
theorem refone_any (n : Int) (w : World) :
    Calls Tryz.prog 78 #[.int .i64 n] w fun e w' => e = .returned (.bool (okB n)) ∧ w = w' := by
  by_cases h : 0 ≤ n
  · go_enter Tryz.func78, Tryz.ntmps78
    go_wp2
    go_ret
    exact ⟨by simp [okB, h], rfl⟩
  · have h' : n < 0 := by omega
    go_enter Tryz.func78, Tryz.ntmps78
    go_wp2
    go_ret
    exact ⟨by simp [okB]; omega, rfl⟩
set_option maxHeartbeats 4000000 in
theorem refright_any (a0 a1 a2 a3 a4 : Int) (w : World) :
    Calls Tryz.prog 64 #[.agg #[.int .i64 a0, .int .i64 a1, .int .i64 a2, .int .i64 a3, .int .i64 a4]] w fun e w' => e = .returned (.bool (rtB a0 a1 a2 a3 a4)) ∧ Below w.heap.size w w' := by
  cases h0 : okB a0
  all_goals cases h1 : okB a1
  all_goals cases h2 : okB a2
  all_goals cases h3 : okB a3
  all_goals cases h4 : okB a4
  all_goals
    go_enter Tryz.func64, Tryz.ntmps64
    go_wp2_with (go_at_call 78; refine (refone_any _ _).mono ?_; rintro e w1 ⟨rfl, rfl⟩)
    go_ret
    exact ⟨by simp [rtB, h0, h1, h2, h3, h4], by (repeat' (first | with_reducible exact Below.refl _ _ | with_reducible assumption | with_reducible refine Below.drew ?_ | with_reducible refine below_drewN' ?_ _ | with_reducible refine Below.alloc ?_ ?_ _ | with_reducible refine Below.setCell ?_ ?_ _ | with_reducible refine below_step (by assumption) ?_ ?_ | omega | (simp; done) | (simp; omega)))⟩
set_option maxRecDepth 100000 in
theorem maybe7_any (s : ByteArray) (hs : s.size ≤ 1000000000) (w : World) :
    Calls Tryz.prog 63 #[.string s] w fun e w' => e = .returned (.bool (weB s)) ∧ Below w.heap.size w w' := by
  unfold weB
  by_cases h : s = emp
  · obtain ⟨h1, h2, h3, h4⟩ := emp_lits h
    rw [decide_eq_true h]
    clear h
    go_enter Tryz.func63, Tryz.ntmps63
    go_wp2
    go_ret
    exact ⟨rfl, by (repeat' (first | with_reducible exact Below.refl _ _ | with_reducible assumption | with_reducible refine Below.drew ?_ | with_reducible refine below_drewN' ?_ _ | with_reducible refine Below.alloc ?_ ?_ _ | with_reducible refine Below.setCell ?_ ?_ _ | with_reducible refine below_step (by assumption) ?_ ?_ | omega | (simp; done) | (simp; omega)))⟩
  · obtain ⟨h1, h2, h3, h4⟩ := emp_litn h
    rw [decide_eq_false h]
    clear h
    go_enter Tryz.func63, Tryz.ntmps63
    go_wp2_with (go_at_call 43; refine (refword_any _ hs _).mono ?_; rintro e w1 ⟨rfl, hb1⟩; obtain ⟨hc1, hf1⟩ := bcell hb1; have hz1 := hb1.size; (try simp at hz1); (try have hza : w.heap.size < w1.heap.size := by omega); (try have hzb : w.heap.size + 1 < w1.heap.size := by omega); (try have hzc : w.heap.size + 1 + 1 < w1.heap.size := by omega); (try have hzd : w.heap.size + 1 + 1 + 1 < w1.heap.size := by omega))
    go_ret
    exact ⟨rfl, by (repeat' (first | with_reducible exact Below.refl _ _ | with_reducible assumption | with_reducible refine Below.drew ?_ | with_reducible refine below_drewN' ?_ _ | with_reducible refine Below.alloc ?_ ?_ _ | with_reducible refine Below.setCell ?_ ?_ _ | with_reducible refine below_step (by assumption) ?_ ?_ | omega | (simp; done) | (simp; omega)))⟩
structure Mac where
  nm : ByteArray
  gp : ByteArray
  r0 : Int
  r1 : Int
  r2 : Int
  r3 : Int
  r4 : Int
  la : Option Addr
  lk : Nat
  labs : List Lab
  ta : Option Addr
  tk : Nat
  tnts : List Tnt
  rd : Bool
structure MacAt (w : World) (m : Mac) : Prop where
  labs : LabL w m.la m.labs
  tnts : TntsAt w m.ta m.tnts
  ll : m.labs.length ≤ maxLen
  tl : m.tnts.length ≤ maxLen
theorem MacAt.mono {w w' : World} {m : Mac} (h : MacAt w m) (hb : Below w.heap.size w w') : MacAt w' m := ⟨h.labs.mono hb, h.tnts.mono hb, h.ll, h.tl⟩
def lightM (m : Mac) : Bool := decide (m.nm.size ≤ 300) && decide (m.gp.size ≤ 300) && lightL m.labs && lightB [] m.tnts
def rightM (m : Mac) : Bool := weB m.nm && weB m.gp && rtB m.r0 m.r1 m.r2 m.r3 m.r4 && labsB m.labs && rightT m.tnts
theorem light0 (c : Option Addr) (kc : Nat) (xs : List Tnt) (w : World) (hF : TntsAt w c xs) (hm : xs.length ≤ maxLen) :
    Calls Tryz.prog 42 #[.slice none 0 0, .slice c xs.length kc] w fun e w' => e = .returned (.bool (lightB [] xs)) ∧ Below w.heap.size w w' := light_any none c 0 kc [] xs w RowsAt.nil (Nat.zero_le _) hF hm
set_option maxRecDepth 100000 in
set_option maxHeartbeats 4000000 in
theorem lightm_any (m : Mac) (w : World) (hA : MacAt w m) :
    Calls Tryz.prog 21 #[.agg #[.string (m).nm, .string (m).gp, .int .i64 (m).r0, .int .i64 (m).r1, .int .i64 (m).r2, .int .i64 (m).r3, .int .i64 (m).r4, .slice (m).la (m).labs.length (m).lk, .slice (m).ta (m).tnts.length (m).tk, .bool (m).rd]] w fun e w' => e = .returned (.bool (lightM m)) ∧ Below w.heap.size w w' := by
  obtain ⟨nm, gp, r0, r1, r2, r3, r4, la, lk, L, ta, tk, T, rd⟩ := m
  obtain ⟨hL, hT, hl, ht⟩ := hA
  simp only at hL hT hl ht
  have HL := Lib.hid (hL.mono ((Below.refl _ w).alloc (Nat.le_refl _) (.cells #[.string nm, .string gp, .int .i64 r0, .int .i64 r1, .int .i64 r2, .int .i64 r3, .int .i64 r4, .slice la L.length lk, .slice ta T.length tk, .bool rd] 35)))
  have HT := Lib.hid (hT.mono ((Below.refl _ w).alloc (Nat.le_refl _) (.cells #[.string nm, .string gp, .int .i64 r0, .int .i64 r1, .int .i64 r2, .int .i64 r3, .int .i64 r4, .slice la L.length lk, .slice ta T.length tk, .bool rd] 35)))
  clear hL hT
  have hv : lightM ⟨nm, gp, r0, r1, r2, r3, r4, la, lk, L, ta, tk, T, rd⟩ = (decide (nm.size ≤ 300) && decide (gp.size ≤ 300) && lightL L && lightB [] T) := rfl
  rw [hv]
  clear hv
  by_cases h1 : nm.size ≤ 300
  · by_cases h2 : gp.size ≤ 300
    · cases h3 : lightL L
      all_goals
        have H3 := Lib.hid h3
        clear h3
        go_enter Tryz.func21, Tryz.ntmps21
        go_wp2_with (first | (go_at_call 41; (with_reducible refine (lightl_any la lk L _ HL.out hl).mono ?_); rw [H3.out]; rintro e w5 ⟨rfl, hb5⟩; obtain ⟨hc5, hf5⟩ := bcell hb5; have hz5 := hb5.size; (try simp at hz5); have HT5 := Lib.hid (HT.out.mono hb5)) | (go_at_call 42; (with_reducible refine (light0 ta tk T _ HT5.out ht).mono ?_); rintro e w6 ⟨rfl, hb6⟩; have hz6 := hb6.size))
        go_ret
        exact ⟨by simp [h1, h2], by (repeat' (first | with_reducible exact Below.refl _ _ | with_reducible assumption | with_reducible refine Below.drew ?_ | with_reducible refine below_drewN' ?_ _ | with_reducible refine Below.alloc ?_ ?_ _ | with_reducible refine Below.setCell ?_ ?_ _ | with_reducible refine below_step (by assumption) ?_ ?_ | omega | (simp; done) | (simp; omega)))⟩
    · have h2' : 300 < gp.size := by omega
      have e2 : decide (gp.size ≤ 300) = false := decide_eq_false h2
      go_enter Tryz.func21, Tryz.ntmps21
      go_wp2
      go_ret
      exact ⟨by simp [h1, h2], by (repeat' (first | with_reducible exact Below.refl _ _ | with_reducible assumption | with_reducible refine Below.drew ?_ | with_reducible refine below_drewN' ?_ _ | with_reducible refine Below.alloc ?_ ?_ _ | with_reducible refine Below.setCell ?_ ?_ _ | with_reducible refine below_step (by assumption) ?_ ?_ | omega | (simp; done) | (simp; omega)))⟩
  · have h1' : 300 < nm.size := by omega
    go_enter Tryz.func21, Tryz.ntmps21
    go_wp2
    go_ret
    exact ⟨by simp [h1], by (repeat' (first | with_reducible exact Below.refl _ _ | with_reducible assumption | with_reducible refine Below.drew ?_ | with_reducible refine below_drewN' ?_ _ | with_reducible refine Below.alloc ?_ ?_ _ | with_reducible refine Below.setCell ?_ ?_ _ | with_reducible refine below_step (by assumption) ?_ ?_ | omega | (simp; done) | (simp; omega)))⟩
set_option maxRecDepth 100000 in
set_option maxHeartbeats 8000000 in
theorem rightm_any (m : Mac) (w : World) (hA : MacAt w m) (hLt : lightM m = true) :
    Calls Tryz.prog 45 #[.agg #[.string (m).nm, .string (m).gp, .int .i64 (m).r0, .int .i64 (m).r1, .int .i64 (m).r2, .int .i64 (m).r3, .int .i64 (m).r4, .slice (m).la (m).labs.length (m).lk, .slice (m).ta (m).tnts.length (m).tk, .bool (m).rd]] w fun e w' => e = .returned (.bool (rightM m)) ∧ Below w.heap.size w w' := by
  obtain ⟨nm, gp, r0, r1, r2, r3, r4, la, lk, L, ta, tk, T, rd⟩ := m
  obtain ⟨hL, hT, hl, ht⟩ := hA
  simp only at hL hT hl ht
  have hx : (decide (nm.size ≤ 300) && decide (gp.size ≤ 300) && lightL L && lightB [] T) = true := hLt
  rw [Bool.and_eq_true, Bool.and_eq_true, Bool.and_eq_true, decide_eq_true_eq, decide_eq_true_eq] at hx
  obtain ⟨⟨⟨hn, hg⟩, hlL⟩, hlT⟩ := hx
  have hs1 : nm.size ≤ 1000000000 := by omega
  have hs2 : gp.size ≤ 1000000000 := by omega
  have HsL := Lib.hid (show ∀ x ∈ L, x.key.size ≤ 1000000000 ∧ x.val.size ≤ 1000000000 from fun x hx => by
    have := ((lightL_iff L).1 hlL).2 x hx
    omega)
  have HsT := Lib.hid (show ∀ x ∈ T, x.key.size ≤ 1000000000 ∧ x.val.size ≤ 1000000000 from fun x hx => by
    unfold lightB at hlT
    rw [Bool.and_eq_true, Bool.and_eq_true] at hlT
    have := List.all_eq_true.1 hlT.2.2 x hx
    unfold shortT at this
    rw [decide_eq_true_eq] at this
    omega)
  have htT : T.length ≤ 1000000 := by
    unfold lightB at hlT
    rw [Bool.and_eq_true, decide_eq_true_eq] at hlT
    have := hlT.1.2
    omega
  clear hlL hlT hLt ht
  have HL := Lib.hid (hL.mono ((Below.refl _ w).alloc (Nat.le_refl _) (.cells #[.string nm, .string gp, .int .i64 r0, .int .i64 r1, .int .i64 r2, .int .i64 r3, .int .i64 r4, .slice la L.length lk, .slice ta T.length tk, .bool rd] 35)))
  have HT := Lib.hid (hT.mono ((Below.refl _ w).alloc (Nat.le_refl _) (.cells #[.string nm, .string gp, .int .i64 r0, .int .i64 r1, .int .i64 r2, .int .i64 r3, .int .i64 r4, .slice la L.length lk, .slice ta T.length tk, .bool rd] 35)))
  clear hL hT
  have hv : rightM ⟨nm, gp, r0, r1, r2, r3, r4, la, lk, L, ta, tk, T, rd⟩ = (weB nm && weB gp && rtB r0 r1 r2 r3 r4 && labsB L && rightT T) := rfl
  rw [hv]
  clear hv
  cases h1 : weB nm
  rotate_left
  cases h2 : weB gp
  rotate_left
  cases h3 : rtB r0 r1 r2 r3 r4
  rotate_left
  cases h4 : labsB L
  rotate_left
  all_goals
    have H1 := Lib.hid h1
    first | (have H2 := Lib.hid h2) | skip
    first | (have H3 := Lib.hid h3) | skip
    first | (have H4 := Lib.hid h4) | skip
    clear h1
    first | clear h2 | skip
    first | clear h3 | skip
    first | clear h4 | skip
    go_enter Tryz.func45, Tryz.ntmps45
    go_wp2_with (first
      | (go_at_call 63; (with_reducible refine (maybe7_any nm hs1 _).mono ?_); rw [H1.out]; rintro e w1 ⟨rfl, hb1⟩; obtain ⟨hc1, hf1⟩ := bcell hb1; have hz1 := hb1.size; (try simp at hz1); have hw1 : w.heap.size < w1.heap.size := by omega)
      | (go_at_call 63; (with_reducible refine (maybe7_any gp hs2 _).mono ?_); rw [H2.out]; rintro e w2 ⟨rfl, hb2⟩; obtain ⟨hc2, hf2⟩ := bcell hb2; have hz2 := hb2.size; have hw2 : w.heap.size < w2.heap.size := by omega)
      | (go_at_call 64; (with_reducible refine (refright_any r0 r1 r2 r3 r4 _).mono ?_); rw [H3.out]; rintro e w3 ⟨rfl, hb3⟩; obtain ⟨hc3, hf3⟩ := bcell hb3; have hz3 := hb3.size; have hw3 : w.heap.size < w3.heap.size := by omega)
      | (go_at_call 65; (with_reducible refine (refright_l la lk L _ (((HL.out.mono hb1).mono hb2).mono hb3) HsL.out hl).mono ?_); rw [H4.out]; rintro e w4 ⟨rfl, hb4⟩; obtain ⟨hc4, hf4⟩ := bcell hb4; have hz4 := hb4.size; have hw4 : w.heap.size < w4.heap.size := by omega)
      | (go_at_call 66; (with_reducible refine (refright_t ta tk T _ ((((HT.out.mono hb1).mono hb2).mono hb3).mono hb4) HsT.out htT).mono ?_); rintro e w5 ⟨rfl, hb5⟩; have hz5 := hb5.size))
    go_ret
    exact ⟨by simp, by (repeat' (first | with_reducible exact Below.refl _ _ | with_reducible assumption | with_reducible refine Below.drew ?_ | with_reducible refine below_drewN' ?_ _ | with_reducible refine Below.alloc ?_ ?_ _ | with_reducible refine Below.setCell ?_ ?_ _ | with_reducible refine below_step (by assumption) ?_ ?_ | omega | (simp; done) | (simp; omega)))⟩
end Go.Proofs.YtmkdfcggjlhcpaaGreatDoor
