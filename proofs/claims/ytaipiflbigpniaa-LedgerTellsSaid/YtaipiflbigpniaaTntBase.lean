/-
  Taints and tolerations, where the taints' own texts do not stand.
-/
import Derived.Test.YtaipiflbigpniaaLex5
import Derived.Laws.StructEq
namespace Go.Proofs.Ytaipiflbigpniaa
open Go.RowKit
set_option linter.unusedVariables false
set_option linter.unusedSimpArgs false

structure Tnt where
  key : ByteArray
  val : ByteArray
  eff : Int
deriving DecidableEq
structure Tol where
  key : ByteArray
  val : ByteArray
  any : Bool
  eff : Int
deriving DecidableEq

def tcs (x : Tnt) : List Value := [.string x.key, .string x.val, .int .i64 x.eff]
theorem tcs_len (x : Tnt) : (tcs x).length = 3 := rfl
theorem tcs_one (x : Tnt) : ∀ u ∈ tcs x, u.oneCell' = true := by
  intro u hu
  simp only [tcs, List.mem_cons, List.not_mem_nil, or_false] at hu
  rcases hu with rfl | rfl | rfl <;> rfl
def ocs (x : Tol) : List Value := [.string x.key, .string x.val, .bool x.any, .int .i64 x.eff]
theorem ocs_len (x : Tol) : (ocs x).length = 4 := rfl
theorem ocs_one (x : Tol) : ∀ u ∈ ocs x, u.oneCell' = true := by
  intro u hu
  simp only [ocs, List.mem_cons, List.not_mem_nil, or_false] at hu
  rcases hu with rfl | rfl | rfl | rfl <;> rfl

theorem Try.info79 : (Try.prog.info? 79).map (fun i => (i.zero, i.size, i.bytes)) = some (some (.agg #[.string ⟨#[]⟩, .string ⟨#[]⟩, .int .i64 0]), 3, 40) := by kernel_rfl
theorem Try.info77 : (Try.prog.info? 77).map (fun i => (i.zero, i.size, i.bytes)) = some (some (.agg #[.string ⟨#[]⟩, .string ⟨#[]⟩, .bool false, .int .i64 0]), 4, 48) := by kernel_rfl

theorem str_inj (a b : ByteArray) : a.toList = b.toList ↔ a = b := by
  rw [ByteArray.toList_eq, ByteArray.toList_eq]
  exact ⟨fun h => ByteArray.ext (Array.toList_inj.mp h), fun h => by rw [h]⟩
/-- Two texts are the same. -/
def strB (a b : ByteArray) : Bool := decide (a = b)
theorem strB_list (a b : ByteArray) : (a.toList == b.toList) = strB a b := by
  unfold strB
  by_cases h : a = b
  · subst h; simp
  · rw [decide_eq_false h, beq_eq_false_iff_ne]; exact fun e => h ((str_inj _ _).1 e)

def tntB (x y : Tnt) : Bool := decide (x = y)
theorem guard_tnt (op : BinOp) (x y : Operand) (xs ys : Array Value) (w : World) : (eqGuard op 79 x y (.agg xs) (.agg ys)).run Try.prog w = .ok () w := run_eqGuard_agg w op _ x y xs ys (by kernel_rfl)
theorem eql_tnt0 (x y : Tnt) (w : World) : (Op.equalIn 10000 79 (.agg #[.string x.key, .string x.val, .int .i64 x.eff]) (.agg #[.string y.key, .string y.val, .int .i64 y.eff])).run Try.prog w = .ok (tntB x y) w := by
  have hus := Try.underlying9
  have has := Try.isAgg9
  have hzs := Try.sizeOf9
  have hui := Try.underlying3
  have hai := Try.isAgg3
  have hzi := Try.sizeOf3
  have hS : Try.prog.underlying 79 = some (.struct (Try.prog.fieldsOf 79)) := by kernel_rfl
  have hp : Try.prog.stoodInHeld 79 = false := by kernel_rfl
  rw [show (10000 : Nat) = 9999 + 1 from rfl, run_equalIn_agg w 9999 79 _ _ hS hp]
  simp only [Program.fieldsOf, Try.underlying79]
  go_simp
  obtain ⟨x1, x2, x3⟩ := x
  obtain ⟨y1, y2, y3⟩ := y
  unfold tntB
  by_cases h1 : x1 = y1 <;> by_cases h2 : x2 = y2 <;> by_cases h3 : x3 = y3 <;> simp [h1, h2, h3, str_inj]
theorem eql_tnt (x y : Tnt) (w : World) : (binOp .eql 79 (.agg #[.string x.key, .string x.val, .int .i64 x.eff]) (.agg #[.string y.key, .string y.val, .int .i64 y.eff])).run Try.prog w = .ok (.bool (tntB x y)) w := by
  rw [run_eql_struct, eql_tnt0]; rfl
theorem neq_tnt (x y : Tnt) (w : World) : (binOp .neq 79 (.agg #[.string x.key, .string x.val, .int .i64 x.eff]) (.agg #[.string y.key, .string y.val, .int .i64 y.eff])).run Try.prog w = .ok (.bool (!tntB x y)) w := by
  rw [run_neq_struct, eql_tnt0]; rfl

def emp : ByteArray := ⟨#[]⟩
theorem emp_list : emp.toList = [] := by rw [ByteArray.toList_eq]; rfl
theorem emp_yes {s : ByteArray} (h : s = emp) : s.toList = [] ∧ (!s.toList.isEmpty) = false ∧ s.toList.isEmpty = true := by
  subst h
  rw [emp_list]
  exact ⟨rfl, rfl, rfl⟩
theorem emp_no {s : ByteArray} (h : ¬ s = emp) : ((s.toList = []) = False) ∧ (!s.toList.isEmpty) = true ∧ s.toList.isEmpty = false := by
  have h' : s.toList ≠ [] := fun e => h ((str_inj _ _).1 (e.trans emp_list.symm))
  refine ⟨eq_iff_iff.2 ⟨h', False.elim⟩, ?_, ?_⟩ <;> cases hx : s.toList <;> first | exact absurd hx h' | rfl

abbrev TntsAt := RowsAt tcs 3
abbrev TolsAt := RowsAt ocs 4
theorem tnt_cells {w : World} {b o : Nat} {x : Tnt} (h : ∀ r, r < 3 → w.cell? ⟨b, o + r, none⟩ = (tcs x)[r]?) :
    w.cell? ⟨b, o, none⟩ = some (.string x.key) ∧ w.cell? ⟨b, o + 1, none⟩ = some (.string x.val) ∧ w.cell? ⟨b, o + 2, none⟩ = some (.int .i64 x.eff) := ⟨h 0 (by decide), h 1 (by decide), h 2 (by decide)⟩
theorem tol_cells {w : World} {b o : Nat} {x : Tol} (h : ∀ r, r < 4 → w.cell? ⟨b, o + r, none⟩ = (ocs x)[r]?) :
    w.cell? ⟨b, o, none⟩ = some (.string x.key) ∧ w.cell? ⟨b, o + 1, none⟩ = some (.string x.val) ∧ w.cell? ⟨b, o + 2, none⟩ = some (.bool x.any) ∧ w.cell? ⟨b, o + 3, none⟩ = some (.int .i64 x.eff) := ⟨h 0 (by decide), h 1 (by decide), h 2 (by decide), h 3 (by decide)⟩

def weB (s : ByteArray) : Bool := decide (s = emp) || wordB s
def reB (e : Int) : Bool := decide (e = 0 ∨ e = 1 ∨ e = 2 ∨ e = 3)
theorem emp_lits {s : ByteArray} (h : s = emp) : (s.toList == []) = true ∧ s.toList.isEmpty = true ∧ ((s.toList = []) = True) ∧ (!s.toList.isEmpty) = false := by
  subst h
  rw [emp_list]
  exact ⟨rfl, rfl, eq_true rfl, rfl⟩
theorem emp_litn {s : ByteArray} (h : ¬ s = emp) : (s.toList == []) = false ∧ s.toList.isEmpty = false ∧ ((s.toList = []) = False) ∧ (!s.toList.isEmpty) = true := by
  obtain ⟨a, b, c⟩ := emp_no h
  refine ⟨?_, c, a, b⟩
  rw [beq_eq_false_iff_ne]
  intro e
  rw [e] at c
  cases c

theorem reB_cases (e : Int) : ((e == 0) = true ∧ reB e = true) ∨ ((e == 0) = false ∧ (e == 1) = true ∧ reB e = true) ∨ ((e == 0) = false ∧ (e == 1) = false ∧ (e == 2) = true ∧ reB e = true) ∨ ((e == 0) = false ∧ (e == 1) = false ∧ (e == 2) = false ∧ (e == 3) = true ∧ reB e = true) ∨ ((e == 0) = false ∧ (e == 1) = false ∧ (e == 2) = false ∧ (e == 3) = false ∧ reB e = false) := by
  unfold reB
  by_cases h0 : e = 0 <;> by_cases h1 : e = 1 <;> by_cases h2 : e = 2 <;> by_cases h3 : e = 3 <;> simp [h0, h1, h2, h3]
def slotE (y x : Tnt) : Bool := decide (x.key = y.key ∧ x.eff = y.eff)
def okT (x : Tnt) : Bool := wordB x.key && weB x.val && !decide (x.eff = 0) && reB x.eff
def okAt (xs : List Tnt) (i : Nat) : Bool := match xs[i]? with
  | some x => okT x && (xs.take i).all fun y => !slotE y x
  | none => true
def okTo (xs : List Tnt) (k : Nat) : Bool := (List.range k).all (okAt xs)
def rightT (xs : List Tnt) : Bool := decide (xs.length ≤ 16) && okTo xs xs.length
theorem okTo_succ (xs : List Tnt) (k : Nat) : okTo xs (k + 1) = (okTo xs k && okAt xs k) := by
  unfold okTo; rw [List.range_succ, List.all_append]; simp
theorem okTo_bad {xs : List Tnt} {k : Nat} (hk : k < xs.length) (h : okAt xs k = false) : rightT xs = false := by
  unfold rightT
  have : okTo xs xs.length = false := by
    unfold okTo
    rw [Bool.eq_false_iff]
    intro he
    have := List.all_eq_true.1 he k (List.mem_range.2 hk)
    rw [h] at this
    cases this
  rw [this, Bool.and_false]
theorem okAt_tnt {xs : List Tnt} {k : Nat} {x : Tnt} (hx : xs[k]? = some x) (h : okT x = false) : okAt xs k = false := by
  unfold okAt; rw [hx]; simp [h]
theorem okAt_slot {xs : List Tnt} {k j : Nat} {x y : Tnt} (hx : xs[k]? = some x) (hy : xs[j]? = some y) (hj : j < k) (h : slotE y x = true) : okAt xs k = false := by
  unfold okAt
  rw [hx]
  have : ((xs.take k).all fun y => !slotE y x) = false := by
    rw [Bool.eq_false_iff]
    intro he
    have hm : y ∈ xs.take k := List.mem_of_getElem? (i := j) (by rw [List.getElem?_take, if_pos hj]; exact hy)
    have := List.all_eq_true.1 he y hm
    rw [h] at this
    cases this
  simp [this]
theorem okAt_yes {xs : List Tnt} {k : Nat} {x : Tnt} (hx : xs[k]? = some x) (h : okT x = true) (hs : ((xs.take k).all fun y => !slotE y x) = true) : okAt xs k = true := by
  unfold okAt; rw [hx]; simp only [h, hs]; rfl
theorem all_take {xs : List Tnt} {j : Nat} {x y : Tnt} (hy : xs[j]? = some y) (h : ((xs.take j).all fun y => !slotE y x) = true) (h1 : slotE y x = false) : ((xs.take (j + 1)).all fun y => !slotE y x) = true := by
  rw [take_at hy, List.all_append, h]; simp [h1]
theorem okT_cases (x : Tnt) : (wordB x.key = false ∧ okT x = false) ∨ (wordB x.key = true ∧ weB x.val = false ∧ okT x = false) ∨ (wordB x.key = true ∧ weB x.val = true ∧ (x.eff == 0) = true ∧ okT x = false) ∨
    (wordB x.key = true ∧ weB x.val = true ∧ (x.eff == 0) = false ∧ reB x.eff = false ∧ okT x = false) ∨ (wordB x.key = true ∧ weB x.val = true ∧ (x.eff == 0) = false ∧ reB x.eff = true ∧ okT x = true) := by
  unfold okT
  cases wordB x.key <;> cases weB x.val <;> by_cases h : x.eff = 0 <;> cases hr : reB x.eff <;> simp [h, hr]
theorem tnt_str {a b : ByteArray} (h : a = b) : (a.toList == b.toList) = true := by rw [h]; simp
theorem tnt_strn {a b : ByteArray} (h : ¬ a = b) : (a.toList == b.toList) = false := by rw [beq_eq_false_iff_ne]; exact fun e => h ((str_inj _ _).1 e)

def shortO (t : Tol) : Bool := decide (t.key.size ≤ 300 ∧ t.val.size ≤ 300)
def shortT (t : Tnt) : Bool := decide (t.key.size ≤ 300 ∧ t.val.size ≤ 300)
def lightB (l : List Tol) (xs : List Tnt) : Bool := decide (l.length ≤ 40 ∧ xs.length ≤ 40) && (l.all shortO && xs.all shortT)
theorem all_bad {α : Type} {P : α → Bool} {l : List α} {k : Nat} {x : α} (h : l[k]? = some x) (hp : P x = false) : l.all P = false := by
  rw [Bool.eq_false_iff]
  intro he
  have := List.all_eq_true.1 he x (List.mem_of_getElem? h)
  rw [hp] at this
  cases this
theorem all_take1 {α : Type} {P : α → Bool} {l : List α} {k : Nat} {x : α} (h : l[k]? = some x) (hp : P x = true) (ha : (l.take k).all P = true) : (l.take (k + 1)).all P = true := by
  rw [take_at h, List.all_append, ha]; simp [hp]
theorem all_done {α : Type} {P : α → Bool} {l : List α} {n : Nat} (h : l.length = n) (ha : (l.take n).all P = true) : l.all P = true := by
  rw [List.take_of_length_le (Nat.le_of_eq h)] at ha
  exact ha
theorem short_cases (a b : Nat) : (300 < a ∧ ¬ (a ≤ 300 ∧ b ≤ 300)) ∨ (a ≤ 300 ∧ 300 < b ∧ ¬ (a ≤ 300 ∧ b ≤ 300)) ∨ (a ≤ 300 ∧ b ≤ 300 ∧ (a ≤ 300 ∧ b ≤ 300)) := by omega


end Go.Proofs.Ytaipiflbigpniaa
