/-
  Taints and tolerations: what they are, when two are alike; the contracts of taints.Bears, triremeref06.Bears.
-/
import Derived.Test.YtlfjjiepclphiaaLst
import Derived.Test.YtlfjjiepclphiaaTail
import Derived.Laws.StructEq
namespace Go.Proofs.Ytlfjjiepclphiaa
open Go.RowKit
set_option linter.unusedVariables false

structure Tnt where
  key : ByteArray
  val : ByteArray
  eff : Int
deriving DecidableEq
structure Tol where
  key : ByteArray
  val : ByteArray
  any : Bool
  eff : Int
deriving DecidableEq

def tcs (x : Tnt) : List Value := [.string x.key, .string x.val, .int .i64 x.eff]
theorem tcs_len (x : Tnt) : (tcs x).length = 3 := rfl
theorem tcs_one (x : Tnt) : ∀ u ∈ tcs x, u.oneCell' = true := by
  intro u hu
  simp only [tcs, List.mem_cons, List.not_mem_nil, or_false] at hu
  rcases hu with rfl | rfl | rfl <;> rfl
def ocs (x : Tol) : List Value := [.string x.key, .string x.val, .bool x.any, .int .i64 x.eff]
theorem ocs_len (x : Tol) : (ocs x).length = 4 := rfl
theorem ocs_one (x : Tol) : ∀ u ∈ ocs x, u.oneCell' = true := by
  intro u hu
  simp only [ocs, List.mem_cons, List.not_mem_nil, or_false] at hu
  rcases hu with rfl | rfl | rfl | rfl <;> rfl

theorem Try.info30 : (Try.prog.info? 30).map (fun i => (i.zero, i.size, i.bytes)) = some (some (.agg #[.string ⟨#[]⟩, .string ⟨#[]⟩, .int .i64 0]), 3, 40) := by kernel_rfl
theorem Try.info25 : (Try.prog.info? 25).map (fun i => (i.zero, i.size, i.bytes)) = some (some (.agg #[.string ⟨#[]⟩, .string ⟨#[]⟩, .bool false, .int .i64 0]), 4, 48) := by kernel_rfl

theorem toList_inj (a b : ByteArray) : a.toList = b.toList ↔ a = b := by
  rw [ByteArray.toList_eq, ByteArray.toList_eq]
  exact ⟨fun h => ByteArray.ext (Array.toList_inj.mp h), fun h => by rw [h]⟩
/-- Two texts are the same. -/
def strB (a b : ByteArray) : Bool := decide (a = b)
theorem strB_list (a b : ByteArray) : (a.toList == b.toList) = strB a b := by
  unfold strB
  by_cases h : a = b
  · subst h; simp
  · rw [decide_eq_false h, beq_eq_false_iff_ne]; exact fun e => h ((toList_inj _ _).1 e)

def tntB (x y : Tnt) : Bool := decide (x = y)
theorem guard_taint (op : BinOp) (x y : Operand) (xs ys : Array Value) (w : World) : (eqGuard op 30 x y (.agg xs) (.agg ys)).run Try.prog w = .ok () w := run_eqGuard_agg w op _ x y xs ys (by kernel_rfl)
theorem eql_taint0 (x y : Tnt) (w : World) : (Op.equalIn 10000 30 (.agg #[.string x.key, .string x.val, .int .i64 x.eff]) (.agg #[.string y.key, .string y.val, .int .i64 y.eff])).run Try.prog w = .ok (tntB x y) w := by
  have hus := Try.underlying9
  have has := Try.isAgg9
  have hzs := Try.sizeOf9
  have hui := Try.underlying3
  have hai := Try.isAgg3
  have hzi := Try.sizeOf3
  have hS : Try.prog.underlying 30 = some (.struct (Try.prog.fieldsOf 30)) := by kernel_rfl
  have hp : Try.prog.stoodInHeld 30 = false := by kernel_rfl
  rw [show (10000 : Nat) = 9999 + 1 from rfl, run_equalIn_agg w 9999 30 _ _ hS hp]
  simp only [Program.fieldsOf, Try.underlying30]
  go_simp
  obtain ⟨x1, x2, x3⟩ := x
  obtain ⟨y1, y2, y3⟩ := y
  unfold tntB
  by_cases h1 : x1 = y1 <;> by_cases h2 : x2 = y2 <;> by_cases h3 : x3 = y3 <;> simp [h1, h2, h3, toList_inj]
theorem eql_taint (x y : Tnt) (w : World) : (binOp .eql 30 (.agg #[.string x.key, .string x.val, .int .i64 x.eff]) (.agg #[.string y.key, .string y.val, .int .i64 y.eff])).run Try.prog w = .ok (.bool (tntB x y)) w := by
  rw [run_eql_struct, eql_taint0]; rfl
theorem neq_taint (x y : Tnt) (w : World) : (binOp .neq 30 (.agg #[.string x.key, .string x.val, .int .i64 x.eff]) (.agg #[.string y.key, .string y.val, .int .i64 y.eff])).run Try.prog w = .ok (.bool (!tntB x y)) w := by
  rw [run_neq_struct, eql_taint0]; rfl

def emp : ByteArray := ⟨#[]⟩
def bearsB (t : Tol) (x : Tnt) : Bool := decide ((t.eff = 0 ∨ t.eff = x.eff) ∧ (t.key = emp ∨ t.key = x.key) ∧ (t.any = true ∨ t.val = x.val))

theorem emp_list : emp.toList = [] := by rw [ByteArray.toList_eq]; rfl
theorem emp_yes {s : ByteArray} (h : s = emp) : s.toList = [] ∧ (!s.toList.isEmpty) = false ∧ s.toList.isEmpty = true := by
  subst h
  rw [emp_list]
  exact ⟨rfl, rfl, rfl⟩
theorem emp_no {s : ByteArray} (h : ¬ s = emp) : ((s.toList = []) = False) ∧ (!s.toList.isEmpty) = true ∧ s.toList.isEmpty = false := by
  have h' : s.toList ≠ [] := fun e => h ((toList_inj _ _).1 (e.trans emp_list.symm))
  refine ⟨eq_iff_iff.2 ⟨h', False.elim⟩, ?_, ?_⟩ <;> cases hx : s.toList <;> first | exact absurd hx h' | rfl

theorem bears_like (t : Tol) (x : Tnt) : tntB ⟨if t.key = emp then x.key else t.key, if t.any = true then x.val else t.val, if t.eff = 0 then x.eff else t.eff⟩ x = bearsB t x := by
  obtain ⟨k, v, a, e⟩ := t
  obtain ⟨k', v', e'⟩ := x
  unfold tntB bearsB
  by_cases h1 : k = emp <;> by_cases h2 : a = true <;> by_cases h3 : e = 0 <;> simp [h1, h2, h3, eq_comm, and_comm, and_left_comm, Bool.and_assoc]

set_option maxRecDepth 100000 in
set_option maxHeartbeats 1000000 in
theorem bears_any (t : Tol) (x : Tnt) (w : World) :
    Calls Try.prog 11 #[.agg #[.string t.key, .string t.val, .bool t.any, .int .i64 t.eff], .agg #[.string x.key, .string x.val, .int .i64 x.eff]] w fun e w' => e = .returned (.bool (bearsB t x)) ∧ Below w.heap.size w w' := by
  have hq := fun w => eql_taint ⟨if t.key = emp then x.key else t.key, if t.any = true then x.val else t.val, if t.eff = 0 then x.eff else t.eff⟩ x w
  simp only [bears_like] at hq
  have hg := guard_taint
  obtain ⟨tk, tv, ta, te⟩ := t
  obtain ⟨xk, xv, xe⟩ := x
  simp only at hq
  obtain ⟨r, hr⟩ : ∃ r, bearsB ⟨tk, tv, ta, te⟩ ⟨xk, xv, xe⟩ = r := ⟨_, rfl⟩
  rw [hr]
  simp only [hr] at hq
  clear hr
  by_cases h1 : tk = emp <;> by_cases h3 : te = 0 <;> cases ta
  all_goals
    first | (have hh := emp_yes h1; simp only [if_pos h1] at hq; obtain ⟨h2, h4, h6⟩ := hh) | (have hh := emp_no h1; simp only [if_neg h1] at hq; obtain ⟨h2, h4, h6⟩ := hh)
    first | (simp only [if_pos h3] at hq; have h5 : (te == 0) = true := (by simp [h3])) | (simp only [if_neg h3] at hq; have h5 : (te == 0) = false := (by simp [h3]))
    simp only [if_true, Bool.false_eq_true, if_false] at hq
    clear h1 h3
    go_enter Try.func11, Try.ntmps11
    go_wp2
    go_ret
    exact ⟨rfl, by (repeat' (first | with_reducible exact Below.refl _ _ | with_reducible assumption | with_reducible refine Below.drew ?_ | with_reducible refine below_drewN' ?_ _ | with_reducible refine Below.alloc ?_ ?_ _ | with_reducible refine Below.setCell ?_ ?_ _ | with_reducible refine below_step (by assumption) ?_ ?_ | omega | (simp; done) | (simp; omega)))⟩

end Go.Proofs.Ytlfjjiepclphiaa
