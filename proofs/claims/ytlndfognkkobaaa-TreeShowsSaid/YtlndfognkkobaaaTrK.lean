/-
  Parse in plain words: a stack of open lists; what a token's node is.
-/
import Derived.Test.YtlndfognkkobaaaTrJ
import Derived.Test.YtlndfognkkobaaaLexZ
namespace Go.Proofs.Ytlndfognkkobaaa
open Go.RowKit
set_option linter.unusedVariables false
set_option linter.unusedSimpArgs false

def ndOf (t : Tk) : Nd := if t.kd = 1 then ⟨5, emp, 0, t.po⟩ else ⟨t.kd, t.tx, 0, t.po⟩
/-- One kid more. -/
def raise (l : List Nd) (i : Nat) : List Nd := match l[i]? with | some x => l.set i { x with ki := x.ki + 1 } | none => l
/-- What one token makes of nodes and of the lists that are open. -/
def pstep (t : Tk) (l : List Nd) (op : List Nat) : List Nd × List Nat × Int × Int :=
  if t.kd = 2 then (if op = [] then (l, op, 6, t.po) else (l, op.dropLast, 0, 0))
  else if l.length = 4000 ∨ (t.kd = 1 ∧ op.length = 20) then (l, op, 7, t.po)
  else ((match op.getLast? with | some i => raise l i | none => l) ++ [ndOf t], if t.kd = 1 then op ++ [l.length] else op, 0, 0)
def prun : List Tk → List Nd → List Nat → List Nd × Int × Int
  | [], l, op => match op.getLast? with
    | some i => ([], 5, match l[i]? with | some x => x.po | none => 0)
    | none => (l, 0, 0)
  | t :: ts, l, op =>
    let q := pstep t l op
    if q.2.2.1 = 0 then prun ts q.1 q.2.1 else ([], q.2.2.1, q.2.2.2)
def parseB (s : ByteArray) : List Nd × Int × Int :=
  let q := scanB s
  if q.2.1 = 0 then prun q.1 [] [] else ([], q.2.1, q.2.2)
set_option maxRecDepth 100000 in
set_option maxHeartbeats 2000000 in
theorem node_any (t : Tk) (w : World) :
    Calls Try.prog 35 #[.agg #[.int .i64 t.kd, .string t.tx, .int .i64 t.po, .int .i64 t.ln, .int .i64 t.cl]] w fun e w' => e = .returned (.agg (ndrow (ndOf t)).toArray) ∧ Below w.heap.size w w' := by
  obtain ⟨kd, tx, po, ln, cl⟩ := t
  by_cases k1 : kd = 1
  · subst k1
    rw [show ndOf ⟨1, tx, po, ln, cl⟩ = ⟨5, emp, 0, po⟩ from if_pos rfl]
    go_enter Try.func35, Try.ntmps35
    go_wp2
    refine bodyPost_ret (v := .agg #[.int .i64 5, .string ⟨#[]⟩, .int .i64 0, .int .i64 po]) (by simp [results, Try.results35, go_sem]) rfl ⟨rfl, ?_⟩
    (repeat' (first | with_reducible exact Below.refl _ _ | with_reducible assumption | with_reducible refine Below.drew ?_ | with_reducible refine below_drewN' ?_ _ | with_reducible refine Below.alloc ?_ ?_ _ | with_reducible refine Below.setCell ?_ ?_ _ | with_reducible refine below_step (by assumption) ?_ ?_ | omega | (simp; done) | (simp; omega)))
  · have n1 : (kd == 1) = false := by simpa using k1
    rw [show ndOf ⟨kd, tx, po, ln, cl⟩ = ⟨kd, tx, 0, po⟩ from if_neg k1]
    clear k1
    go_enter Try.func35, Try.ntmps35
    go_wp2
    refine bodyPost_ret (v := .agg #[.int .i64 kd, .string tx, .int .i64 0, .int .i64 po]) (by simp [results, Try.results35, go_sem]) rfl ⟨rfl, ?_⟩
    (repeat' (first | with_reducible exact Below.refl _ _ | with_reducible assumption | with_reducible refine Below.drew ?_ | with_reducible refine below_drewN' ?_ _ | with_reducible refine Below.alloc ?_ ?_ _ | with_reducible refine Below.setCell ?_ ?_ _ | with_reducible refine below_step (by assumption) ?_ ?_ | omega | (simp; done) | (simp; omega)))
/-- A list that is cut is its own still. -/
theorem own_cut {w : World} {B n : Nat} {a : Option Addr} {c : Nat} {e : TypeId} {xs : List Value} (h : w.ownsRow B e 1 (.slice a (n + 1) c) (n + 1) xs) : w.ownsRow B e 1 (.slice a n c) n (xs.take n) := by
  obtain ⟨h1, h2⟩ := h
  refine ⟨by rw [List.length_take, h1]; omega, ?_⟩
  rcases h2 with ⟨_, h2⟩ | ⟨g, cap, cur, e1, h3, h4, h5, h6, h7, h8⟩
  · cases h2
  · injection e1 with e1 _ e3
    subst e1
    subst e3
    refine .inr ⟨g, c, cur, rfl, h3, h4, by omega, h6, h7, ?_⟩
    rw [← h8, List.take_take]
    congr 1
    omega
end Go.Proofs.Ytlndfognkkobaaa
