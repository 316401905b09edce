/-
  The table of layer 24: what it holds; made, rightTime, New.
-/
import Derived.Test.YtedombidblhmeaaMap
import Derived.Test.YtedombidblhmeaaOnly
import Derived.Test.YtedombidblhmeaaLst
import Derived.Test.YtedombidblhmeaaTail
import Derived.LaidEqlPtr
namespace Go.Proofs.Ytedombidblhmeaa
open Go.RowKit
set_option linter.unusedVariables false

theorem wrap_in {x : Int} (h : -9223372036854775808 ≤ x) (h' : x < 9223372036854775808) : IntKind.i64.wrap x = x := by simp [IntKind.wrap, IntKind.bits, IntKind.signed]; omega
structure En where
  l : Int
  u : Int
  n : Int
def ent (x : En) : Value := .agg #[.int .i64 x.l, .int .i64 x.u, .int .i64 x.n]
def tcells (b m : Nat) (fi mo re cr : Int) : List Value := [.pointer (some ⟨b, 0, none⟩), .int .i64 fi, .int .i64 mo, .int .i64 re, .map (some m), .int .i64 cr]
/-- A table that New or Copy returned. -/
structure TB (w : World) (b m : Nat) (fi mo re : Int) (E : ByteArray → Option En) (cr : Int) (n : Nat) : Prop where
  row : Blk w b 51 (tcells b m fi mo re cr)
  mp : MapIs Try.prog 9 w m n (fun s => (E s).map ent)
  ok : ∀ s x, E s = some x → 1 ≤ x.l ∧ x.l ≤ mo ∧ 0 ≤ x.u ∧ x.u ≤ 2199023255552
  p1 : 1 ≤ fi
  p2 : fi ≤ mo
  p3 : mo ≤ 1099511627776
  p4 : 1 ≤ re
  p5 : re ≤ 1099511627776
  c0 : 0 ≤ cr
  c1 : cr ≤ n
theorem TB.ne {w : World} {b m : Nat} {fi mo re : Int} {E : ByteArray → Option En} {cr : Int} {n : Nat} (h : TB w b m fi mo re E cr n) : b ≠ m := fun e => by
  have h1 := h.row
  obtain ⟨D, ⟨es, clock, hb, _⟩, _⟩ := h.mp
  unfold Blk at h1
  rw [e, hb] at h1
  cases h1
theorem TB.only {w w' : World} {b m : Nat} {fi mo re : Int} {E : ByteArray → Option En} {cr : Int} {n : Nat} {S : List Nat} (h : TB w b m fi mo re E cr n) (ho : Only S w w') (hb : b ∉ S) (hm : m ∉ S) : TB w' b m fi mo re E cr n :=
  ⟨h.row.only ho hb, h.mp.same (ho.block m h.mp.lt hm), h.ok, h.p1, h.p2, h.p3, h.p4, h.p5, h.c0, h.c1⟩
theorem TB.below {w w' : World} {b m : Nat} {fi mo re : Int} {E : ByteArray → Option En} {cr : Int} {n : Nat} (h : TB w b m fi mo re E cr n) (hb : Below w.heap.size w w') : TB w' b m fi mo re E cr n := h.only (Only.of_below (S := []) hb) (by simp) (by simp)
theorem TB.cells {w : World} {b m : Nat} {fi mo re : Int} {E : ByteArray → Option En} {cr : Int} {n : Nat} (h : TB w b m fi mo re E cr n) :
    w.cell? ⟨b, 0, none⟩ = some (.pointer (some ⟨b, 0, none⟩)) ∧ w.cell? ⟨b, 1, none⟩ = some (.int .i64 fi) ∧ w.cell? ⟨b, 2, none⟩ = some (.int .i64 mo) ∧ w.cell? ⟨b, 3, none⟩ = some (.int .i64 re) ∧ w.cell? ⟨b, 4, none⟩ = some (.map (some m)) ∧ w.cell? ⟨b, 5, none⟩ = some (.int .i64 cr) ∧ w.frozen? ⟨b, 5, none⟩ = false :=
  ⟨h.row.cell 0, h.row.cell 1, h.row.cell 2, h.row.cell 3, h.row.cell 4, h.row.cell 5, h.row.frozen 5⟩

theorem info_tab : Try.prog.info? 51 = some ((Try.prog.info? 51).getD default) := by kernel_rfl
theorem made_yes (b : Nat) (w : World) (c0 : w.cell? ⟨b, 0, none⟩ = some (.pointer (some ⟨b, 0, none⟩))) :
    Calls Try.prog 26 #[.pointer (some ⟨b, 0, none⟩)] w fun e w' => e = .returned (.bool true) ∧ w' = w := by
  have hq := run_eql_ptr_same (P := Try.prog) w ⟨b, 0, none⟩ Try.underlying24 info_tab
  go_enter Try.func26, Try.ntmps26
  go_wp2
  go_ret
  exact ⟨rfl, rfl⟩
theorem made_nil (w : World) : Calls Try.prog 26 #[.pointer none] w fun e w' => e = .returned (.bool false) ∧ w' = w := by
  go_enter Try.func26, Try.ntmps26
  go_wp2
  go_ret
  exact ⟨rfl, rfl⟩
theorem eql_nil_ptr {P : Program} (w : World) (t : TypeId) (a : Addr) (h : P.underlying t = some (.pointer (P.pointee t))) :
    (binOp .eql t (.pointer none) (.pointer (some a))).run P w = .ok (.bool false) w := by
  have h1 : ∀ d : Nat, (Op.equalIn (d + 1) t (.pointer none) (.pointer (some a))).run P w = .ok false w := fun d => by simp [Op.equalIn, run_underlying h]
  simp only [binOp]
  simp [Op.equal, Op.maxDepth, h1 9999]
theorem made_zero (b : Nat) (w : World) (c0 : w.cell? ⟨b, 0, none⟩ = some (.pointer none)) :
    Calls Try.prog 26 #[.pointer (some ⟨b, 0, none⟩)] w fun e w' => e = .returned (.bool false) ∧ w' = w := by
  have hq := eql_nil_ptr (P := Try.prog) w 24 ⟨b, 0, none⟩ (by kernel_rfl)
  go_enter Try.func26, Try.ntmps26
  go_wp2
  go_ret
  exact ⟨rfl, rfl⟩
def timeB (n : Int) : Bool := decide (0 ≤ n ∧ n ≤ 1099511627776)
theorem time_any (n : Int) (w : World) : Calls Try.prog 27 #[.int .i64 n] w fun e w' => e = .returned (.bool (timeB n)) ∧ w' = w := by
  by_cases h : 0 ≤ n
  · go_enter Try.func27, Try.ntmps27
    go_wp2
    go_ret
    exact ⟨by simp [timeB, h], rfl⟩
  · have h1 : decide (0 ≤ n) = false := decide_eq_false h
    have h2 : timeB n = false := decide_eq_false (fun e => h e.1)
    rw [h2]
    clear h2 h
    go_enter Try.func27, Try.ntmps27
    go_wp2
    go_ret
    exact ⟨rfl, rfl⟩
theorem zero_ent (w : World) : (zeroValue 54).run Try.prog w = .ok (.agg #[.int .i64 0, .int .i64 0, .int .i64 0]) w := by kernel_rfl
theorem law_str : Go.Maps.Keyed Try.prog 9 := Go.Maps.string_keyed Try.underlying9

/-- New, with parameters that are right. -/
theorem new_yes (fi mo re : Int) (p1 : 1 ≤ fi) (p2 : fi ≤ mo) (p3 : mo ≤ 1099511627776) (p4 : 1 ≤ re) (p5 : re ≤ 1099511627776) (w : World) :
    Calls Try.prog 7 #[.int .i64 fi, .int .i64 mo, .int .i64 re] w fun e w' => ∃ b m, e = .returned (.tuple #[.pointer (some ⟨b, 0, none⟩), .int .i64 0]) ∧ TB w' b m fi mo re (fun _ => none) 0 0 ∧ w.heap.size ≤ b ∧ w.heap.size ≤ m ∧ Below w.heap.size w w' := by
  have k1 : decide (fi < 1) = false := decide_eq_false (by omega)
  have k2 : decide (mo < fi) = false := decide_eq_false (by omega)
  have k3 : decide (re < 1) = false := decide_eq_false (by omega)
  have k4 : decide (1099511627776 < mo) = false := decide_eq_false (by omega)
  have k5 : decide (1099511627776 < re) = false := decide_eq_false (by omega)
  have hmm := @run_makeMap Try.prog
  go_enter Try.func7, Try.ntmps7
  go_wp2
  go_ret2
  refine ⟨w.heap.size + 1, w.heap.size, rfl, ⟨?_, ?_, fun s x h => (by cases h), p1, p2, p3, p4, p5, Int.le_refl _, by simp⟩, by omega, Nat.le_refl _, by (repeat' (first | with_reducible exact Below.refl _ _ | with_reducible assumption | with_reducible refine Below.drew ?_ | with_reducible refine below_drewN' ?_ _ | with_reducible refine Below.alloc ?_ ?_ _ | with_reducible refine Below.setCell ?_ ?_ _ | with_reducible refine below_step (by assumption) ?_ ?_ | omega | (simp; done) | (simp; omega)))⟩
  · have h := Blk.new (w.alloc (.map #[] 0)) 51 (tcells (w.heap.size + 1) w.heap.size fi mo re 0)
    rw [World.size_alloc] at h
    exact h
  · exact (MapIs.made w Try.prog 9).below ((Below.refl _ _).alloc (Nat.le_refl _) _)
end Go.Proofs.Ytedombidblhmeaa
