/-
  Taints, labels and machines, as the document has them.
-/
import Derived.Test.YtccplljbljpjpaaDoorMC
import Derived.Laws.StructEq
namespace Go.Proofs.YtccplljbljpjpaaDoor
open Go.RowKit
set_option linter.unusedVariables false
set_option linter.unusedSimpArgs false

structure Tnt where
  key : ByteArray
  val : ByteArray
  eff : Int
deriving DecidableEq
structure Tol where
  key : ByteArray
  val : ByteArray
  any : Bool
  eff : Int
deriving DecidableEq

def tcs (x : Tnt) : List Value := [.string x.key, .string x.val, .int .i64 x.eff]
theorem tcs_len (x : Tnt) : (tcs x).length = 3 := rfl
theorem tcs_one (x : Tnt) : ∀ u ∈ tcs x, u.oneCell' = true := by
  intro u hu
  simp only [tcs, List.mem_cons, List.not_mem_nil, or_false] at hu
  rcases hu with rfl | rfl | rfl <;> rfl
def ocs (x : Tol) : List Value := [.string x.key, .string x.val, .bool x.any, .int .i64 x.eff]
theorem ocs_len (x : Tol) : (ocs x).length = 4 := rfl
theorem ocs_one (x : Tol) : ∀ u ∈ ocs x, u.oneCell' = true := by
  intro u hu
  simp only [ocs, List.mem_cons, List.not_mem_nil, or_false] at hu
  rcases hu with rfl | rfl | rfl | rfl <;> rfl

theorem Tryd.info72 : (Tryd.prog.info? 72).map (fun i => (i.zero, i.size, i.bytes)) = some (some (.agg #[.string ⟨#[]⟩, .string ⟨#[]⟩, .int .i64 0]), 3, 40) := by kernel_rfl
theorem Tryd.info70 : (Tryd.prog.info? 70).map (fun i => (i.zero, i.size, i.bytes)) = some (some (.agg #[.string ⟨#[]⟩, .string ⟨#[]⟩, .bool false, .int .i64 0]), 4, 48) := by kernel_rfl

theorem str_inj (a b : ByteArray) : a.toList = b.toList ↔ a = b := by
  rw [ByteArray.toList_eq, ByteArray.toList_eq]
  exact ⟨fun h => ByteArray.ext (Array.toList_inj.mp h), fun h => by rw [h]⟩
/-- Two texts are the same. -/
def strB (a b : ByteArray) : Bool := decide (a = b)
theorem strB_list (a b : ByteArray) : (a.toList == b.toList) = strB a b := by
  unfold strB
  by_cases h : a = b
  · subst h; simp
  · rw [decide_eq_false h, beq_eq_false_iff_ne]; exact fun e => h ((str_inj _ _).1 e)

def tntB (x y : Tnt) : Bool := decide (x = y)
theorem guard_tnt (op : BinOp) (x y : Operand) (xs ys : Array Value) (w : World) : (eqGuard op 72 x y (.agg xs) (.agg ys)).run Tryd.prog w = .ok () w := run_eqGuard_agg w op _ x y xs ys (by kernel_rfl)
theorem eql_tnt0 (x y : Tnt) (w : World) : (Op.equalIn 10000 72 (.agg #[.string x.key, .string x.val, .int .i64 x.eff]) (.agg #[.string y.key, .string y.val, .int .i64 y.eff])).run Tryd.prog w = .ok (tntB x y) w := by
  have hus := Tryd.underlying9
  have has := Tryd.isAgg9
  have hzs := Tryd.sizeOf9
  have hui := Tryd.underlying3
  have hai := Tryd.isAgg3
  have hzi := Tryd.sizeOf3
  have hS : Tryd.prog.underlying 72 = some (.struct (Tryd.prog.fieldsOf 72)) := by kernel_rfl
  have hp : Tryd.prog.stoodInHeld 72 = false := by kernel_rfl
  rw [show (10000 : Nat) = 9999 + 1 from rfl, run_equalIn_agg w 9999 72 _ _ hS hp]
  simp only [Program.fieldsOf, Tryd.underlying72]
  go_simp
  obtain ⟨x1, x2, x3⟩ := x
  obtain ⟨y1, y2, y3⟩ := y
  unfold tntB
  by_cases h1 : x1 = y1 <;> by_cases h2 : x2 = y2 <;> by_cases h3 : x3 = y3 <;> simp [h1, h2, h3, str_inj]
theorem eql_tnt (x y : Tnt) (w : World) : (binOp .eql 72 (.agg #[.string x.key, .string x.val, .int .i64 x.eff]) (.agg #[.string y.key, .string y.val, .int .i64 y.eff])).run Tryd.prog w = .ok (.bool (tntB x y)) w := by
  rw [run_eql_struct, eql_tnt0]; rfl
theorem neq_tnt (x y : Tnt) (w : World) : (binOp .neq 72 (.agg #[.string x.key, .string x.val, .int .i64 x.eff]) (.agg #[.string y.key, .string y.val, .int .i64 y.eff])).run Tryd.prog w = .ok (.bool (!tntB x y)) w := by
  rw [run_neq_struct, eql_tnt0]; rfl

def emp : ByteArray := ⟨#[]⟩
theorem emp_list : emp.toList = [] := by rw [ByteArray.toList_eq]; rfl
theorem emp_yes {s : ByteArray} (h : s = emp) : s.toList = [] ∧ (!s.toList.isEmpty) = false ∧ s.toList.isEmpty = true := by
  subst h
  rw [emp_list]
  exact ⟨rfl, rfl, rfl⟩
theorem emp_no {s : ByteArray} (h : ¬ s = emp) : ((s.toList = []) = False) ∧ (!s.toList.isEmpty) = true ∧ s.toList.isEmpty = false := by
  have h' : s.toList ≠ [] := fun e => h ((str_inj _ _).1 (e.trans emp_list.symm))
  refine ⟨eq_iff_iff.2 ⟨h', False.elim⟩, ?_, ?_⟩ <;> cases hx : s.toList <;> first | exact absurd hx h' | rfl

abbrev TntsAt := RowsAt tcs 3
abbrev TolsAt := RowsAt ocs 4
theorem tnt_cells {w : World} {b o : Nat} {x : Tnt} (h : ∀ r, r < 3 → w.cell? ⟨b, o + r, none⟩ = (tcs x)[r]?) :
    w.cell? ⟨b, o, none⟩ = some (.string x.key) ∧ w.cell? ⟨b, o + 1, none⟩ = some (.string x.val) ∧ w.cell? ⟨b, o + 2, none⟩ = some (.int .i64 x.eff) := ⟨h 0 (by decide), h 1 (by decide), h 2 (by decide)⟩
theorem tol_cells {w : World} {b o : Nat} {x : Tol} (h : ∀ r, r < 4 → w.cell? ⟨b, o + r, none⟩ = (ocs x)[r]?) :
    w.cell? ⟨b, o, none⟩ = some (.string x.key) ∧ w.cell? ⟨b, o + 1, none⟩ = some (.string x.val) ∧ w.cell? ⟨b, o + 2, none⟩ = some (.bool x.any) ∧ w.cell? ⟨b, o + 3, none⟩ = some (.int .i64 x.eff) := ⟨h 0 (by decide), h 1 (by decide), h 2 (by decide), h 3 (by decide)⟩

def weB (s : ByteArray) : Bool := decide (s = emp) || wordB s
def reB (e : Int) : Bool := decide (e = 0 ∨ e = 1 ∨ e = 2 ∨ e = 3)
theorem emp_lits {s : ByteArray} (h : s = emp) : (s.toList == []) = true ∧ s.toList.isEmpty = true ∧ ((s.toList = []) = True) ∧ (!s.toList.isEmpty) = false := by
  subst h
  rw [emp_list]
  exact ⟨rfl, rfl, eq_true rfl, rfl⟩
theorem emp_litn {s : ByteArray} (h : ¬ s = emp) : (s.toList == []) = false ∧ s.toList.isEmpty = false ∧ ((s.toList = []) = False) ∧ (!s.toList.isEmpty) = true := by
  obtain ⟨a, b, c⟩ := emp_no h
  refine ⟨?_, c, a, b⟩
  rw [beq_eq_false_iff_ne]
  intro e
  rw [e] at c
  cases c

theorem reB_cases (e : Int) : ((e == 0) = true ∧ reB e = true) ∨ ((e == 0) = false ∧ (e == 1) = true ∧ reB e = true) ∨ ((e == 0) = false ∧ (e == 1) = false ∧ (e == 2) = true ∧ reB e = true) ∨ ((e == 0) = false ∧ (e == 1) = false ∧ (e == 2) = false ∧ (e == 3) = true ∧ reB e = true) ∨ ((e == 0) = false ∧ (e == 1) = false ∧ (e == 2) = false ∧ (e == 3) = false ∧ reB e = false) := by
  unfold reB
  by_cases h0 : e = 0 <;> by_cases h1 : e = 1 <;> by_cases h2 : e = 2 <;> by_cases h3 : e = 3 <;> simp [h0, h1, h2, h3]
def slotE (y x : Tnt) : Bool := decide (x.key = y.key ∧ x.eff = y.eff)
def okT (x : Tnt) : Bool := wordB x.key && weB x.val && !decide (x.eff = 0) && reB x.eff
def okAt (xs : List Tnt) (i : Nat) : Bool := match xs[i]? with
  | some x => okT x && (xs.take i).all fun y => !slotE y x
  | none => true
def okTo (xs : List Tnt) (k : Nat) : Bool := (List.range k).all (okAt xs)
def rightT (xs : List Tnt) : Bool := decide (xs.length ≤ 16) && okTo xs xs.length
theorem okTo_succ (xs : List Tnt) (k : Nat) : okTo xs (k + 1) = (okTo xs k && okAt xs k) := by
  unfold okTo; rw [List.range_succ, List.all_append]; simp
theorem okTo_bad {xs : List Tnt} {k : Nat} (hk : k < xs.length) (h : okAt xs k = false) : rightT xs = false := by
  unfold rightT
  have : okTo xs xs.length = false := by
    unfold okTo
    rw [Bool.eq_false_iff]
    intro he
    have := List.all_eq_true.1 he k (List.mem_range.2 hk)
    rw [h] at this
    cases this
  rw [this, Bool.and_false]
theorem okAt_tnt {xs : List Tnt} {k : Nat} {x : Tnt} (hx : xs[k]? = some x) (h : okT x = false) : okAt xs k = false := by
  unfold okAt; rw [hx]; simp [h]
theorem okAt_slot {xs : List Tnt} {k j : Nat} {x y : Tnt} (hx : xs[k]? = some x) (hy : xs[j]? = some y) (hj : j < k) (h : slotE y x = true) : okAt xs k = false := by
  unfold okAt
  rw [hx]
  have : ((xs.take k).all fun y => !slotE y x) = false := by
    rw [Bool.eq_false_iff]
    intro he
    have hm : y ∈ xs.take k := List.mem_of_getElem? (i := j) (by rw [List.getElem?_take, if_pos hj]; exact hy)
    have := List.all_eq_true.1 he y hm
    rw [h] at this
    cases this
  simp [this]
theorem okAt_yes {xs : List Tnt} {k : Nat} {x : Tnt} (hx : xs[k]? = some x) (h : okT x = true) (hs : ((xs.take k).all fun y => !slotE y x) = true) : okAt xs k = true := by
  unfold okAt; rw [hx]; simp only [h, hs]; rfl
theorem all_take {xs : List Tnt} {j : Nat} {x y : Tnt} (hy : xs[j]? = some y) (h : ((xs.take j).all fun y => !slotE y x) = true) (h1 : slotE y x = false) : ((xs.take (j + 1)).all fun y => !slotE y x) = true := by
  rw [take_at hy, List.all_append, h]; simp [h1]
theorem okT_cases (x : Tnt) : (wordB x.key = false ∧ okT x = false) ∨ (wordB x.key = true ∧ weB x.val = false ∧ okT x = false) ∨ (wordB x.key = true ∧ weB x.val = true ∧ (x.eff == 0) = true ∧ okT x = false) ∨
    (wordB x.key = true ∧ weB x.val = true ∧ (x.eff == 0) = false ∧ reB x.eff = false ∧ okT x = false) ∨ (wordB x.key = true ∧ weB x.val = true ∧ (x.eff == 0) = false ∧ reB x.eff = true ∧ okT x = true) := by
  unfold okT
  cases wordB x.key <;> cases weB x.val <;> by_cases h : x.eff = 0 <;> cases hr : reB x.eff <;> simp [h, hr]
theorem tnt_str {a b : ByteArray} (h : a = b) : (a.toList == b.toList) = true := by rw [h]; simp
theorem tnt_strn {a b : ByteArray} (h : ¬ a = b) : (a.toList == b.toList) = false := by rw [beq_eq_false_iff_ne]; exact fun e => h ((str_inj _ _).1 e)

def shortO (t : Tol) : Bool := decide (t.key.size ≤ 300 ∧ t.val.size ≤ 300)
def shortT (t : Tnt) : Bool := decide (t.key.size ≤ 300 ∧ t.val.size ≤ 300)
def lightB (l : List Tol) (xs : List Tnt) : Bool := decide (l.length ≤ 40 ∧ xs.length ≤ 40) && (l.all shortO && xs.all shortT)
theorem all_bad {α : Type} {P : α → Bool} {l : List α} {k : Nat} {x : α} (h : l[k]? = some x) (hp : P x = false) : l.all P = false := by
  rw [Bool.eq_false_iff]
  intro he
  have := List.all_eq_true.1 he x (List.mem_of_getElem? h)
  rw [hp] at this
  cases this
theorem all_take1 {α : Type} {P : α → Bool} {l : List α} {k : Nat} {x : α} (h : l[k]? = some x) (hp : P x = true) (ha : (l.take k).all P = true) : (l.take (k + 1)).all P = true := by
  rw [take_at h, List.all_append, ha]; simp [hp]
theorem all_done {α : Type} {P : α → Bool} {l : List α} {n : Nat} (h : l.length = n) (ha : (l.take n).all P = true) : l.all P = true := by
  rw [List.take_of_length_le (Nat.le_of_eq h)] at ha
  exact ha
theorem short_cases (a b : Nat) : (300 < a ∧ ¬ (a ≤ 300 ∧ b ≤ 300)) ∨ (a ≤ 300 ∧ 300 < b ∧ ¬ (a ≤ 300 ∧ b ≤ 300)) ∨ (a ≤ 300 ∧ b ≤ 300 ∧ (a ≤ 300 ∧ b ≤ 300)) := by omega
def effB (e : Int) : Bool := decide (1 ≤ e ∧ e ≤ 3)
theorem okT_ref (x : Tnt) : okT x = (wordB x.key && weB x.val && effB x.eff) := by
  unfold okT reB effB
  have : ((!decide (x.eff = 0)) && decide (x.eff = 0 ∨ x.eff = 1 ∨ x.eff = 2 ∨ x.eff = 3)) = decide (1 ≤ x.eff ∧ x.eff ≤ 3) := by
    rw [← decide_not, ← Bool.decide_and]
    exact decide_eq_decide.2 (by omega)
  rw [Bool.and_assoc, this]

theorem okR_cases (x : Tnt) : (wordB x.key = false ∧ okT x = false) ∨ (wordB x.key = true ∧ weB x.val = false ∧ okT x = false) ∨ (wordB x.key = true ∧ weB x.val = true ∧ effB x.eff = false ∧ okT x = false) ∨ (wordB x.key = true ∧ weB x.val = true ∧ effB x.eff = true ∧ okT x = true) := by
  rw [okT_ref]
  cases wordB x.key <;> cases weB x.val <;> cases effB x.eff <;> simp
theorem slotE_cases (y x : Tnt) : ((y.key.toList == x.key.toList) = false ∧ slotE y x = false) ∨ ((y.key.toList == x.key.toList) = true ∧ (y.eff == x.eff) = false ∧ slotE y x = false) ∨ ((y.key.toList == x.key.toList) = true ∧ (y.eff == x.eff) = true ∧ slotE y x = true) := by
  unfold slotE
  by_cases h1 : y.key = x.key
  · by_cases h3 : y.eff = x.eff
    · exact .inr (.inr ⟨tnt_str h1, beq_iff_eq.2 h3, decide_eq_true ⟨h1.symm, h3.symm⟩⟩)
    · exact .inr (.inl ⟨tnt_str h1, beq_eq_false_iff_ne.2 h3, decide_eq_false fun h => h3 h.2.symm⟩)
  · exact .inl ⟨tnt_strn h1, decide_eq_false fun h => h1 h.1.symm⟩

/-- Byte by byte, which of two texts stands ahead. -/
def lessF (a b : ByteArray) : Nat → Nat → Bool
  | 0, _ => decide (a.size < b.size)
  | f + 1, i => if i < a.size ∧ i < b.size then (if (a.get! i).toNat = (b.get! i).toNat then lessF a b f (i + 1) else decide ((a.get! i).toNat < (b.get! i).toNat)) else decide (a.size < b.size)
def lessB (a b : ByteArray) : Bool := lessF a b a.size 0
theorem lessF_end {a b : ByteArray} (f i : Nat) (h : ¬ (i < a.size ∧ i < b.size)) : lessF a b f i = decide (a.size < b.size) := by
  cases f with
  | zero => rfl
  | succ f => rw [lessF, if_neg h]

structure Lab where
  key : ByteArray
  val : ByteArray
deriving DecidableEq
def kcs (x : Lab) : List Value := [.string x.key, .string x.val]
theorem kcs_len (x : Lab) : (kcs x).length = 2 := rfl
abbrev LabL := RowsAt kcs 2
theorem lab_cells {w : World} {b o : Nat} {x : Lab} (h : ∀ r, r < 2 → w.cell? ⟨b, o + r, none⟩ = (kcs x)[r]?) :
    w.cell? ⟨b, o, none⟩ = some (.string x.key) ∧ w.cell? ⟨b, o + 1, none⟩ = some (.string x.val) := ⟨h 0 (by decide), h 1 (by decide)⟩

def okL (l : List Lab) (i : Nat) : Bool := match l[i]? with
  | some x => wordB x.key && weB x.val && (match i with
    | 0 => true
    | j + 1 => match l[j]? with
      | some y => lessB y.key x.key
      | none => true)
  | none => true
def labsTo (l : List Lab) (k : Nat) : Bool := (List.range k).all (okL l)
def labsB (l : List Lab) : Bool := decide (l.length ≤ 16) && labsTo l l.length
theorem labsTo_succ (l : List Lab) (k : Nat) : labsTo l (k + 1) = (labsTo l k && okL l k) := by
  unfold labsTo; rw [List.range_succ, List.all_append]; simp
theorem labs_bad {l : List Lab} {k : Nat} (hk : k < l.length) (h : okL l k = false) : labsB l = false := by
  unfold labsB
  have : labsTo l l.length = false := by
    unfold labsTo
    rw [Bool.eq_false_iff]
    intro he
    have := List.all_eq_true.1 he k (List.mem_range.2 hk)
    rw [h] at this
    cases this
  rw [this, Bool.and_false]
/-- What the test of a label comes to, given what its parts come to. -/
theorem okL_zero {l : List Lab} {x : Lab} (h : l[0]? = some x) : okL l 0 = (wordB x.key && weB x.val) := by
  unfold okL; rw [h]; simp
theorem okL_succ {l : List Lab} {j : Nat} {x y : Lab} (h : l[j + 1]? = some x) (hy : l[j]? = some y) : okL l (j + 1) = (wordB x.key && weB x.val && lessB y.key x.key) := by
  unfold okL; simp only [h, hy]

def shortL (x : Lab) : Bool := decide (x.key.size ≤ 300 ∧ x.val.size ≤ 300)
def lightL (l : List Lab) : Bool := decide (l.length ≤ 40) && l.all shortL
theorem lightL_iff (l : List Lab) : lightL l = true ↔ l.length ≤ 40 ∧ ∀ x ∈ l, x.key.size ≤ 300 ∧ x.val.size ≤ 300 := by
  unfold lightL
  rw [Bool.and_eq_true, decide_eq_true_eq, List.all_eq_true]
  simp [shortL]

set_option maxRecDepth 100000 in
set_option maxHeartbeats 4000000 in
theorem lightl_any (c : Option Addr) (kc : Nat) (xs : List Lab) (w : World) (hF : LabL w c xs) (hm : xs.length ≤ maxLen) :
    Calls Tryd.prog 20 #[.slice c xs.length kc] w fun e w' => e = .returned (.bool (lightL xs)) ∧ Below w.heap.size w w' := by
  have HF := Lib.hid hF
  clear hF
  by_cases h40 : xs.length ≤ 40
  · have Hl := Lib.hid (show lightL xs = xs.all shortL by unfold lightL; rw [decide_eq_true h40]; rfl)
    obtain ⟨n, hln⟩ : ∃ n, xs.length = n := ⟨_, rfl⟩
    rw [hln] at h40 ⊢
    have Hln := Lib.hid hln
    clear hln hm
    go_enter Tryd.func20, Tryd.ntmps20
    go_wp2
    go_loopw [3] (fun i wr => ∃ k : Nat, k ≤ n ∧ i = .int .i64 k ∧ (xs.take k).all shortL = true ∧ Below w.heap.size w wr) (fun i _ => n - (intOf i).toNat)
    case atStart => exact ⟨0, by omega, rfl, rfl, by (repeat' (first | with_reducible exact Below.refl _ _ | with_reducible assumption | with_reducible refine Below.drew ?_ | with_reducible refine below_drewN' ?_ _ | with_reducible refine Below.alloc ?_ ?_ _ | with_reducible refine Below.setCell ?_ ?_ _ | with_reducible refine below_step (by assumption) ?_ ?_ | omega | (simp; done) | (simp; omega)))⟩
    case round =>
      obtain ⟨j, hj, rfl, hE, hC⟩ := hrel
      obtain ⟨hcC, hfC⟩ := bcell hC
      have hcz := hC.size
      have HE := Lib.hid hE
      clear hE
      by_cases hlj : j < n
      · obtain ⟨x, hx⟩ := mem_at (l := xs) (k := j) (by rw [Hln.out]; exact hlj)
        obtain ⟨b, off, rfl, hb, hc⟩ := HF.out (by rw [Hln.out]; omega)
        have hbw : b < wr.heap.size := by omega
        obtain ⟨c0, c1⟩ := lab_cells (hc j x hx)
        have Hx := Lib.hid hx
        clear hc hx
        rcases short_cases x.key.size x.val.size with ⟨k1, hv⟩ | ⟨k1, k2, hv⟩ | ⟨k1, k2, hv⟩
        · have Hs := Lib.hid (show lightL xs = false by rw [Hl.out, all_bad Hx.out (decide_eq_false hv)])
          clear hv
          go_wp2
          go_ret
          exact ⟨by rw [Hs.out]; rfl, by (repeat' (first | with_reducible exact Below.refl _ _ | with_reducible assumption | with_reducible refine Below.drew ?_ | with_reducible refine below_drewN' ?_ _ | with_reducible refine Below.alloc ?_ ?_ _ | with_reducible refine Below.setCell ?_ ?_ _ | with_reducible refine below_step (by assumption) ?_ ?_ | omega | (simp; done) | (simp; omega)))⟩
        · have Hs := Lib.hid (show lightL xs = false by rw [Hl.out, all_bad Hx.out (decide_eq_false hv)])
          clear hv
          go_wp2
          go_ret
          exact ⟨by rw [Hs.out]; rfl, by (repeat' (first | with_reducible exact Below.refl _ _ | with_reducible assumption | with_reducible refine Below.drew ?_ | with_reducible refine below_drewN' ?_ _ | with_reducible refine Below.alloc ?_ ?_ _ | with_reducible refine Below.setCell ?_ ?_ _ | with_reducible refine below_step (by assumption) ?_ ?_ | omega | (simp; done) | (simp; omega)))⟩
        · have Hs := Lib.hid (all_take1 (P := shortL) Hx.out (decide_eq_true hv) HE.out)
          clear hv
          go_wp2
          go_roundw
          case rel => exact ⟨j + 1, by omega, by go_num, Hs.out, by (repeat' (first | with_reducible exact Below.refl _ _ | with_reducible assumption | with_reducible refine Below.drew ?_ | with_reducible refine below_drewN' ?_ _ | with_reducible refine Below.alloc ?_ ?_ _ | with_reducible refine Below.setCell ?_ ?_ _ | with_reducible refine below_step (by assumption) ?_ ?_ | omega | (simp; done) | (simp; omega)))⟩
          case measure => simp [intOf]; omega
      · obtain rfl : j = n := by omega
        have Hs := Lib.hid (show lightL xs = true by rw [Hl.out, all_done Hln.out HE.out])
        go_wp2
        go_ret
        exact ⟨by rw [Hs.out]; rfl, by (repeat' (first | with_reducible exact Below.refl _ _ | with_reducible assumption | with_reducible refine Below.drew ?_ | with_reducible refine below_drewN' ?_ _ | with_reducible refine Below.alloc ?_ ?_ _ | with_reducible refine Below.setCell ?_ ?_ _ | with_reducible refine below_step (by assumption) ?_ ?_ | omega | (simp; done) | (simp; omega)))⟩
  · have hr : lightL xs = false := by unfold lightL; rw [decide_eq_false h40]; rfl
    rw [hr]
    clear hr
    unfold maxLen at hm
    have h2 : 40 < xs.length := by omega
    go_enter Tryd.func20, Tryd.ntmps20
    go_wp2
    go_ret
    exact ⟨rfl, by (repeat' (first | with_reducible exact Below.refl _ _ | with_reducible assumption | with_reducible refine Below.drew ?_ | with_reducible refine below_drewN' ?_ _ | with_reducible refine Below.alloc ?_ ?_ _ | with_reducible refine Below.setCell ?_ ?_ _ | with_reducible refine below_step (by assumption) ?_ ?_ | omega | (simp; done) | (simp; omega)))⟩
set_option maxRecDepth 100000 in
set_option maxHeartbeats 4000000 in
theorem light_any (a c : Option Addr) (ka kc : Nat) (l : List Tol) (xs : List Tnt) (w : World) (hD : TolsAt w a l) (hn : l.length ≤ maxLen) (hF : TntsAt w c xs) (hm : xs.length ≤ maxLen) :
    Calls Tryd.prog 21 #[.slice a l.length ka, .slice c xs.length kc] w fun e w' => e = .returned (.bool (lightB l xs)) ∧ Below w.heap.size w w' := by
  have HD := Lib.hid hD
  have HF := Lib.hid hF
  clear hD hF
  by_cases h40 : l.length ≤ 40 ∧ xs.length ≤ 40
  · have Hl := Lib.hid (show lightB l xs = (l.all shortO && xs.all shortT) by unfold lightB; rw [decide_eq_true h40]; rfl)
    obtain ⟨h1, h2⟩ := h40
    obtain ⟨m, hlm⟩ : ∃ m, l.length = m := ⟨_, rfl⟩
    rw [hlm] at h1 ⊢
    have Hlm := Lib.hid hlm
    clear hlm hn hm
    obtain ⟨n, hln⟩ : ∃ n, xs.length = n := ⟨_, rfl⟩
    rw [hln] at h2 ⊢
    have Hln := Lib.hid hln
    clear hln
    go_enter Tryd.func21, Tryd.ntmps21
    go_wp2
    go_loopw [5] (fun i wr => ∃ k : Nat, k ≤ m ∧ i = .int .i64 k ∧ (l.take k).all shortO = true ∧ Below w.heap.size w wr) (fun i _ => m - (intOf i).toNat)
    case atStart => exact ⟨0, by omega, rfl, rfl, by (repeat' (first | with_reducible exact Below.refl _ _ | with_reducible assumption | with_reducible refine Below.drew ?_ | with_reducible refine below_drewN' ?_ _ | with_reducible refine Below.alloc ?_ ?_ _ | with_reducible refine Below.setCell ?_ ?_ _ | with_reducible refine below_step (by assumption) ?_ ?_ | omega | (simp; done) | (simp; omega)))⟩
    case round =>
      obtain ⟨k, hk, rfl, hE, hB⟩ := hrel
      obtain ⟨hcB, hfB⟩ := bcell hB
      have hbz := hB.size
      have HE := Lib.hid hE
      clear hE
      by_cases hlt : k < m
      · obtain ⟨x, hx⟩ := mem_at (l := l) (k := k) (by rw [Hlm.out]; exact hlt)
        obtain ⟨b, off, rfl, hb, hc⟩ := HD.out (by rw [Hlm.out]; omega)
        have hbw : b < wr.heap.size := by omega
        obtain ⟨c0, c1, c2, c3⟩ := tol_cells (hc k x hx)
        have Hx := Lib.hid hx
        clear hc hx
        rcases short_cases x.key.size x.val.size with ⟨k1, hv⟩ | ⟨k1, k2, hv⟩ | ⟨k1, k2, hv⟩
        · have Hs := Lib.hid (show lightB l xs = false by rw [Hl.out, all_bad Hx.out (decide_eq_false hv)]; rfl)
          clear hv
          go_wp2
          go_ret
          exact ⟨by rw [Hs.out]; rfl, by (repeat' (first | with_reducible exact Below.refl _ _ | with_reducible assumption | with_reducible refine Below.drew ?_ | with_reducible refine below_drewN' ?_ _ | with_reducible refine Below.alloc ?_ ?_ _ | with_reducible refine Below.setCell ?_ ?_ _ | with_reducible refine below_step (by assumption) ?_ ?_ | omega | (simp; done) | (simp; omega)))⟩
        · have Hs := Lib.hid (show lightB l xs = false by rw [Hl.out, all_bad Hx.out (decide_eq_false hv)]; rfl)
          clear hv
          go_wp2
          go_ret
          exact ⟨by rw [Hs.out]; rfl, by (repeat' (first | with_reducible exact Below.refl _ _ | with_reducible assumption | with_reducible refine Below.drew ?_ | with_reducible refine below_drewN' ?_ _ | with_reducible refine Below.alloc ?_ ?_ _ | with_reducible refine Below.setCell ?_ ?_ _ | with_reducible refine below_step (by assumption) ?_ ?_ | omega | (simp; done) | (simp; omega)))⟩
        · have Hs := Lib.hid (all_take1 (P := shortO) Hx.out (decide_eq_true hv) HE.out)
          clear hv
          go_wp2
          go_roundw
          case rel => exact ⟨k + 1, by omega, by go_num, Hs.out, by (repeat' (first | with_reducible exact Below.refl _ _ | with_reducible assumption | with_reducible refine Below.drew ?_ | with_reducible refine below_drewN' ?_ _ | with_reducible refine Below.alloc ?_ ?_ _ | with_reducible refine Below.setCell ?_ ?_ _ | with_reducible refine below_step (by assumption) ?_ ?_ | omega | (simp; done) | (simp; omega)))⟩
          case measure => simp [intOf]; omega
      · obtain rfl : k = m := by omega
        have HA := Lib.hid (all_done Hlm.out HE.out)
        obtain ⟨w3, hw3⟩ : ∃ w3, w3 = wr := ⟨_, rfl⟩
        subst hw3
        go_wp2
        go_loopw [6] (fun i wr => ∃ k : Nat, k ≤ n ∧ i = .int .i64 k ∧ (xs.take k).all shortT = true ∧ Below w.heap.size w wr) (fun i _ => n - (intOf i).toNat)
        case atStart => exact ⟨0, by omega, rfl, rfl, by (repeat' (first | with_reducible exact Below.refl _ _ | with_reducible assumption | with_reducible refine Below.drew ?_ | with_reducible refine below_drewN' ?_ _ | with_reducible refine Below.alloc ?_ ?_ _ | with_reducible refine Below.setCell ?_ ?_ _ | with_reducible refine below_step (by assumption) ?_ ?_ | omega | (simp; done) | (simp; omega)))⟩
        case round =>
          obtain ⟨j, hj, rfl, hE, hC⟩ := hrel
          obtain ⟨hcC, hfC⟩ := bcell hC
          have hcz := hC.size
          have HE := Lib.hid hE
          clear hE
          by_cases hlj : j < n
          · obtain ⟨x, hx⟩ := mem_at (l := xs) (k := j) (by rw [Hln.out]; exact hlj)
            obtain ⟨b, off, rfl, hb, hc⟩ := HF.out (by rw [Hln.out]; omega)
            have hbw : b < wr.heap.size := by omega
            obtain ⟨c0, c1, c2⟩ := tnt_cells (hc j x hx)
            have Hx := Lib.hid hx
            clear hc hx
            rcases short_cases x.key.size x.val.size with ⟨k1, hv⟩ | ⟨k1, k2, hv⟩ | ⟨k1, k2, hv⟩
            · have Hs := Lib.hid (show lightB l xs = false by rw [Hl.out, HA.out, all_bad Hx.out (decide_eq_false hv)]; rfl)
              clear hv
              go_wp2
              go_ret
              exact ⟨by rw [Hs.out]; rfl, by (repeat' (first | with_reducible exact Below.refl _ _ | with_reducible assumption | with_reducible refine Below.drew ?_ | with_reducible refine below_drewN' ?_ _ | with_reducible refine Below.alloc ?_ ?_ _ | with_reducible refine Below.setCell ?_ ?_ _ | with_reducible refine below_step (by assumption) ?_ ?_ | omega | (simp; done) | (simp; omega)))⟩
            · have Hs := Lib.hid (show lightB l xs = false by rw [Hl.out, HA.out, all_bad Hx.out (decide_eq_false hv)]; rfl)
              clear hv
              go_wp2
              go_ret
              exact ⟨by rw [Hs.out]; rfl, by (repeat' (first | with_reducible exact Below.refl _ _ | with_reducible assumption | with_reducible refine Below.drew ?_ | with_reducible refine below_drewN' ?_ _ | with_reducible refine Below.alloc ?_ ?_ _ | with_reducible refine Below.setCell ?_ ?_ _ | with_reducible refine below_step (by assumption) ?_ ?_ | omega | (simp; done) | (simp; omega)))⟩
            · have Hs := Lib.hid (all_take1 (P := shortT) Hx.out (decide_eq_true hv) HE.out)
              clear hv
              go_wp2
              go_roundw
              case rel => exact ⟨j + 1, by omega, by go_num, Hs.out, by (repeat' (first | with_reducible exact Below.refl _ _ | with_reducible assumption | with_reducible refine Below.drew ?_ | with_reducible refine below_drewN' ?_ _ | with_reducible refine Below.alloc ?_ ?_ _ | with_reducible refine Below.setCell ?_ ?_ _ | with_reducible refine below_step (by assumption) ?_ ?_ | omega | (simp; done) | (simp; omega)))⟩
              case measure => simp [intOf]; omega
          · obtain rfl : j = n := by omega
            have Hs := Lib.hid (show lightB l xs = true by rw [Hl.out, HA.out, all_done Hln.out HE.out]; rfl)
            go_wp2
            go_ret
            exact ⟨by rw [Hs.out]; rfl, by (repeat' (first | with_reducible exact Below.refl _ _ | with_reducible assumption | with_reducible refine Below.drew ?_ | with_reducible refine below_drewN' ?_ _ | with_reducible refine Below.alloc ?_ ?_ _ | with_reducible refine Below.setCell ?_ ?_ _ | with_reducible refine below_step (by assumption) ?_ ?_ | omega | (simp; done) | (simp; omega)))⟩
  · have hr : lightB l xs = false := by unfold lightB; rw [decide_eq_false h40]; rfl
    rw [hr]
    clear hr
    unfold maxLen at hn hm
    by_cases h1 : 40 < l.length
    · go_enter Tryd.func21, Tryd.ntmps21
      go_wp2
      go_ret
      exact ⟨rfl, by (repeat' (first | with_reducible exact Below.refl _ _ | with_reducible assumption | with_reducible refine Below.drew ?_ | with_reducible refine below_drewN' ?_ _ | with_reducible refine Below.alloc ?_ ?_ _ | with_reducible refine Below.setCell ?_ ?_ _ | with_reducible refine below_step (by assumption) ?_ ?_ | omega | (simp; done) | (simp; omega)))⟩
    · have h2 : 40 < xs.length := by omega
      have h3 : l.length ≤ 40 := by omega
      go_enter Tryd.func21, Tryd.ntmps21
      go_wp2
      go_ret
      exact ⟨rfl, by (repeat' (first | with_reducible exact Below.refl _ _ | with_reducible assumption | with_reducible refine Below.drew ?_ | with_reducible refine below_drewN' ?_ _ | with_reducible refine Below.alloc ?_ ?_ _ | with_reducible refine Below.setCell ?_ ?_ _ | with_reducible refine below_step (by assumption) ?_ ?_ | omega | (simp; done) | (simp; omega)))⟩

def okB (n : Int) : Bool := decide (0 ≤ n ∧ n ≤ 1125899906842624)
def rtB (a0 a1 a2 a3 a4 : Int) : Bool := okB a0 && okB a1 && okB a2 && okB a3 && okB a4
theorem rtB_iff (a0 a1 a2 a3 a4 : Int) : rtB a0 a1 a2 a3 a4 = true ↔ (0 ≤ a0 ∧ a0 ≤ 1125899906842624) ∧ (0 ≤ a1 ∧ a1 ≤ 1125899906842624) ∧ (0 ≤ a2 ∧ a2 ≤ 1125899906842624) ∧ (0 ≤ a3 ∧ a3 ≤ 1125899906842624) ∧ (0 ≤ a4 ∧ a4 ≤ 1125899906842624) := by
  simp [rtB, okB]; omega
set_option maxHeartbeats 400000 in
theorem refone_any (n : Int) (w : World) :
    Calls Tryd.prog 35 #[.int .i64 n] w fun e w' => e = .returned (.bool (okB n)) ∧ w = w' := by
  by_cases h : 0 ≤ n
  · go_enter Tryd.func35, Tryd.ntmps35
    go_wp2
    go_ret
    exact ⟨by simp [okB, h], rfl⟩
  · have h' : n < 0 := by omega
    go_enter Tryd.func35, Tryd.ntmps35
    go_wp2
    go_ret
    exact ⟨by simp [okB]; omega, rfl⟩
set_option maxHeartbeats 4000000 in
theorem refright_any (a0 a1 a2 a3 a4 : Int) (w : World) :
    Calls Tryd.prog 19 #[.agg #[.int .i64 a0, .int .i64 a1, .int .i64 a2, .int .i64 a3, .int .i64 a4]] w fun e w' => e = .returned (.bool (rtB a0 a1 a2 a3 a4)) ∧ Below w.heap.size w w' := by
  cases h0 : okB a0
  all_goals cases h1 : okB a1
  all_goals cases h2 : okB a2
  all_goals cases h3 : okB a3
  all_goals cases h4 : okB a4
  all_goals
    go_enter Tryd.func19, Tryd.ntmps19
    go_wp2_with (go_at_call 35; refine (refone_any _ _).mono ?_; rintro e w1 ⟨rfl, rfl⟩)
    go_ret
    exact ⟨by simp [rtB, h0, h1, h2, h3, h4], by (repeat' (first | with_reducible exact Below.refl _ _ | with_reducible assumption | with_reducible refine Below.drew ?_ | with_reducible refine below_drewN' ?_ _ | with_reducible refine Below.alloc ?_ ?_ _ | with_reducible refine Below.setCell ?_ ?_ _ | with_reducible refine below_step (by assumption) ?_ ?_ | omega | (simp; done) | (simp; omega)))⟩
structure Mac where
  nm : ByteArray
  gp : ByteArray
  r0 : Int
  r1 : Int
  r2 : Int
  r3 : Int
  r4 : Int
  la : Option Addr
  lk : Nat
  labs : List Lab
  ta : Option Addr
  tk : Nat
  tnts : List Tnt
  rd : Bool

structure MacAt (w : World) (m : Mac) : Prop where
  labs : LabL w m.la m.labs
  tnts : TntsAt w m.ta m.tnts
  ll : m.labs.length ≤ maxLen
  tl : m.tnts.length ≤ maxLen
theorem MacAt.mono {w w' : World} {m : Mac} (h : MacAt w m) (hb : Below w.heap.size w w') : MacAt w' m := ⟨h.labs.mono hb, h.tnts.mono hb, h.ll, h.tl⟩

def lightM (m : Mac) : Bool := decide (m.nm.size ≤ 300) && decide (m.gp.size ≤ 300) && lightL m.labs && lightB [] m.tnts
def rightM (m : Mac) : Bool := weB m.nm && weB m.gp && rtB m.r0 m.r1 m.r2 m.r3 m.r4 && labsB m.labs && rightT m.tnts

theorem light0 (c : Option Addr) (kc : Nat) (xs : List Tnt) (w : World) (hF : TntsAt w c xs) (hm : xs.length ≤ maxLen) :
    Calls Tryd.prog 21 #[.slice none 0 0, .slice c xs.length kc] w fun e w' => e = .returned (.bool (lightB [] xs)) ∧ Below w.heap.size w w' := light_any none c 0 kc [] xs w RowsAt.nil (Nat.zero_le _) hF hm

end Go.Proofs.YtccplljbljpjpaaDoor
