/-
  Nodes that came in; the document's Light.
-/
import Derived.Test.YtlndfognkkobaaaTrQ
import Derived.Test.YtlndfognkkobaaaMA
namespace Go.Proofs.Ytlndfognkkobaaa
open Go.ChangeShapes Go.WideShapes Go.ChangeAt Go.RowKit
set_option linter.unusedVariables false
set_option linter.unusedSimpArgs false

theorem Try.cells40 : Try.prog.cellsOf 40 = 4 := by kernel_rfl
theorem Try.cells9 : Try.prog.cellsOf 9 = 1 := by kernel_rfl
theorem cells_int : Try.prog.cellsOf 3 = 1 := by kernel_rfl
set_option maxRecDepth 100000 in
theorem nd_open {H : Type} {enc : TypeId × Value → H} {W : World} {fuel : Nat} {cs : List Value} {y : DataW H × List MemPlace} (hl : cs.length = 4)
    (h : DataW.trod enc Try.prog W 0 (fun _ => true) true fuel 40 cs = some y) : ∃ x : Nd, cs = ndrow x := by
  obtain ⟨xs, n, _, hx, _, hlen, hg⟩ := DataW.trod_struct Try.underlying40 h
  match cs, hl with
  | [c0, c1, c2, c3], _ =>
    match xs, hlen with
    | [y0, y1, y2, y3], _ =>
      have g0 := hg 0 _ rfl
      have g1 := hg 1 _ rfl
      have g2 := hg 2 _ rfl
      have g3 := hg 3 _ rfl
      obtain ⟨n0, q0, _⟩ := DataW.trod_int Try.underlying3 g0
      obtain ⟨s1, q1, _⟩ := DataW.trod_string Try.underlying9 g1
      obtain ⟨n2, q2, _⟩ := DataW.trod_int Try.underlying3 g2
      obtain ⟨n3, q3, _⟩ := DataW.trod_int Try.underlying3 g3
      simp [cells_int, Try.cells9] at q0 q1 q2 q3
      exact ⟨⟨n0, s1, n2, n3⟩, by rw [q0, q1, q2, q3]; rfl⟩
set_option maxRecDepth 100000 in
theorem open_nds {H : Type} {enc : TypeId × Value → H} {W : World} {base : Nat} {v : Value} {d : DataW H} {p : List MemPlace}
    (hv : Value.okWide Try.prog W .any base 22 v) (h : DataW.Trod enc Try.prog W 0 (fun _ => true) true 22 v d p) :
    ∃ (a : Option Addr) (l : List Nd) (k : Nat), v = .slice a l.length k ∧ NilOk a l.length k ∧ NdL W a l ∧ l.length ≤ maxLen ∧ l.length ≤ k :=
  open_list Try.underlying22 Try.cells40 (by decide) (fun cs fuel y hl hy => nd_open hl hy) hv h
def lightB (l : List Nd) : Bool := decide (l.length ≤ 300) && l.all fun x => decide (x.tx.size ≤ 300)
theorem light_yes {l : List Nd} (h : lightB l = true) : l.length ≤ 300 ∧ ∀ y ∈ l, y.tx.size ≤ 300 := by
  unfold lightB at h
  rw [Bool.and_eq_true, decide_eq_true_iff, List.all_eq_true] at h
  exact ⟨h.1, fun y hy => by simpa using h.2 y hy⟩
set_option maxRecDepth 100000 in
set_option maxHeartbeats 2000000 in
theorem light_any (a : Option Addr) (ka : Nat) (l : List Nd) (w : World) (hF : NdL w a l) (hm : l.length ≤ maxLen) :
    Calls Try.prog 7 #[.slice a l.length ka] w fun e w' => e = .returned (.bool (lightB l)) ∧ Below w.heap.size w w' := by
  have HF := Lib.hid hF
  obtain ⟨R, hR⟩ : ∃ R, lightB l = R := ⟨_, rfl⟩
  have HR := Lib.hid hR
  rw [hR]
  obtain ⟨n, hn⟩ : ∃ n, l.length = n := ⟨_, rfl⟩
  have HN := Lib.hid hn
  rw [hn] at hm ⊢
  unfold maxLen at hm
  clear hF hn hR
  by_cases h : 300 < n
  · have k1 : decide ((300 : Int) < (n : Int)) = true := decide_eq_true (by omega)
    obtain rfl : R = false := by
      rw [← HR.out]
      unfold lightB
      rw [decide_eq_false (by rw [HN.out]; omega)]
      rfl
    clear h
    go_enter Try.func7, Try.ntmps7
    go_wp2
    refine bodyPost_ret (v := .bool false) (by simp [results, Try.results7, go_sem]) rfl ⟨rfl, ?_⟩
    (repeat' (first | with_reducible exact Below.refl _ _ | with_reducible assumption | with_reducible refine Below.drew ?_ | with_reducible refine below_drewN' ?_ _ | with_reducible refine Below.alloc ?_ ?_ _ | with_reducible refine Below.setCell ?_ ?_ _ | with_reducible refine below_step (by assumption) ?_ ?_ | omega | (simp; done) | (simp; omega)))
  · have k1 : decide ((300 : Int) < (n : Int)) = false := decide_eq_false (by omega)
    go_enter Try.func7, Try.ntmps7
    go_wp2
    go_loopw [3] (fun u wr => ∃ k : Nat, k ≤ n ∧ u = .int .i64 k ∧ wr = w ∧ ∀ j t, j < k → l[j]? = some t → t.tx.size ≤ 300) (fun u _ => n - (intOf u).toNat)
    case atStart => exact ⟨0, Nat.zero_le _, rfl, rfl, fun j t hj _ => absurd hj (Nat.not_lt_zero j)⟩
    case round =>
      obtain ⟨k, hk, rfl, rfl, hA⟩ := hrel
      have HA := Lib.hid hA
      clear hA
      by_cases hlt : k < n
      · obtain ⟨t, ht9⟩ := mem_at (l := l) (k := k) (by rw [HN.out]; exact hlt)
        obtain ⟨tb, to, rfl, htb, htc⟩ := HF.out (by rw [HN.out]; omega)
        have d1 : wr.cell? ⟨tb, to + k * 4 + 1, none⟩ = some (.string t.tx) := htc k t ht9 1 (by decide)
        have HT9 := Lib.hid ht9
        clear htc ht9
        by_cases hs : 300 < t.tx.size
        · have k2 : decide ((300 : Int) < (t.tx.size : Int)) = true := decide_eq_true (by omega)
          obtain rfl : R = false := by
            rw [← HR.out]
            unfold lightB
            rw [Bool.and_eq_false_iff]
            right
            rw [List.all_eq_false]
            exact ⟨t, List.mem_of_getElem? HT9.out, by simpa using hs⟩
          clear hs
          go_wp2
          refine bodyPost_ret (v := .bool false) (by simp [results, Try.results7, go_sem]) rfl ⟨rfl, Below.refl _ _⟩
        · have k2 : decide ((300 : Int) < (t.tx.size : Int)) = false := decide_eq_false (by omega)
          have HA2 := Lib.hid (show ∀ j x, j < k + 1 → l[j]? = some x → x.tx.size ≤ 300 from fun j x hj hx => by
            by_cases e : j = k
            · subst e
              have := HT9.out
              rw [hx] at this
              obtain rfl := Option.some.inj this
              omega
            · exact HA.out j x (by omega) hx)
          clear hs
          go_wp2
          go_roundw
          case rel => exact ⟨k + 1, by omega, by go_num, trivial, HA2.out⟩
          case measure => simp [intOf]; omega
      · obtain rfl : k = n := by omega
        obtain rfl : R = true := by
          rw [← HR.out]
          unfold lightB
          rw [Bool.and_eq_true, decide_eq_true_iff, List.all_eq_true]
          refine ⟨by rw [HN.out]; omega, fun y hy => ?_⟩
          obtain ⟨j, hj, e⟩ := List.getElem_of_mem hy
          rw [decide_eq_true_iff]
          exact HA.out j y (by rw [← HN.out]; exact hj) (List.getElem?_eq_some_iff.2 ⟨hj, e⟩)
        go_wp2
        refine bodyPost_ret (v := .bool true) (by simp [results, Try.results7, go_sem]) rfl ⟨rfl, Below.refl _ _⟩
end Go.Proofs.Ytlndfognkkobaaa
