/-
  What became of a name by events; after; the first event that can't be so.
-/
import Derived.Test.YtaehcnoendieaaaDoorTcS
import Derived.Test.YtaehcnoendieaaaDoorMap
namespace Go.Proofs.YtaehcnoendieaaaDoor
open Go.RowKit
set_option linter.unusedVariables false
set_option linter.unusedSimpArgs false

def phB (s : ByteArray) : Nat := if inB G6 s = true then 1 else if inB G7 s = true then 2 else if inB G8 s = true then 3 else 0
def nextS (p : Nat) (s : Int) : Int := if p = 1 then 1 else if p = 2 then 2 else if p = 3 then 0 else s
def okS (p : Nat) (s : Int) : Bool := if p = 1 then decide (s = 0) else if p = 2 then decide (s = 1) else if p = 3 then decide (s ≠ 0) else true
def stF (nm : ByteArray) (s : Int) (e : Ev) : Int := if e.name = nm then nextS (phB e.what) s else s
def stateB (l : List Ev) (nm : ByteArray) : Int := l.foldl (stF nm) 0
theorem next_in {p : Nat} {s : Int} (h : s = 0 ∨ s = 1 ∨ s = 2) : nextS p s = 0 ∨ nextS p s = 1 ∨ nextS p s = 2 := by
  unfold nextS
  split
  · exact .inr (.inl rfl)
  · split
    · exact .inr (.inr rfl)
    · split
      · exact .inl rfl
      · exact h
theorem fold_in (nm : ByteArray) : ∀ (l : List Ev) (s : Int), (s = 0 ∨ s = 1 ∨ s = 2) → (l.foldl (stF nm) s = 0 ∨ l.foldl (stF nm) s = 1 ∨ l.foldl (stF nm) s = 2)
  | [], s, h => h
  | e :: l, s, h => by
    rw [List.foldl_cons]
    refine fold_in nm l _ ?_
    unfold stF
    split
    · exact next_in h
    · exact h
theorem state_in (l : List Ev) (nm : ByteArray) : stateB l nm = 0 ∨ stateB l nm = 1 ∨ stateB l nm = 2 := fold_in nm l 0 (.inl rfl)
theorem state_take {l : List Ev} {k : Nat} {e : Ev} (h : l[k]? = some e) (nm : ByteArray) : stateB (l.take (k + 1)) nm = stF nm (stateB (l.take k) nm) e := by
  unfold stateB
  rw [take_at h, List.foldl_append]
  rfl
def zeroE : Ev := ⟨0, emp, emp, 0⟩
def badI (l : List Ev) (i : Nat) : Bool := match l[i]? with
  | none => false
  | some e => !rightE e || (decide (0 < i) && decide (e.now < (l.getD (i - 1) zeroE).now)) || !okS (phB e.what) (stateB (l.take i) e.name)
def checkB (l : List Ev) : Int := match (List.range l.length).find? (badI l) with
  | some i => (i : Int)
  | none => -1
theorem check_yes {l : List Ev} {i : Nat} (hi : i < l.length) (hb : badI l i = true) (hn : ∀ j, j < i → badI l j = false) : checkB l = i := by
  unfold checkB
  rw [List.find?_range_eq_some.2 ⟨hb, by simpa using hi, fun j hj => by simpa using hn j hj⟩]
theorem check_no {l : List Ev} (hn : ∀ j, j < l.length → badI l j = false) : checkB l = -1 := by
  unfold checkB
  rw [List.find?_range_eq_none.2 fun j hj => by simpa using hn j hj]
theorem bad_at {l : List Ev} {i : Nat} {e : Ev} (h : l[i]? = some e) : badI l i = (!rightE e || (decide (0 < i) && decide (e.now < (l.getD (i - 1) zeroE).now)) || !okS (phB e.what) (stateB (l.take i) e.name)) := by
  unfold badI
  rw [h]
theorem beq_dec (s c : Int) : (s == c) = decide (s = c) := by
  by_cases h : s = c
  · rw [decide_eq_true h, h]; exact beq_self_eq_true c
  · rw [decide_eq_false h]; exact beq_eq_false_iff_ne.2 h
theorem bne_dec (s c : Int) : (s != c) = decide (s ≠ c) := by
  unfold bne
  rw [beq_dec]
  by_cases h : s = c
  · rw [decide_eq_true h, decide_eq_false (fun x => x h)]; rfl
  · rw [decide_eq_false h, decide_eq_true h]; rfl
set_option maxRecDepth 100000 in
set_option maxHeartbeats 4000000 in
theorem after_any (s : Int) (e : Ev) (w : World) :
    Calls Tryd.prog 36 #[.int .i64 s, .agg #[.int .i64 e.now, .string e.what, .string e.name, .int .i64 e.n]] w fun r w' => r = .returned (.tuple #[.int .i64 (nextS (phB e.what) s), .bool (okS (phB e.what) s)]) ∧ Below w.heap.size w w' := by
  obtain ⟨now, what, name, n⟩ := e
  dsimp only
  cases k1 : inB G6 what
  · cases k2 : inB G7 what
    · cases k3 : inB G8 what
      · have hN : nextS (phB what) s = s := by simp [nextS, phB, k1, k2, k3]
        have hO : okS (phB what) s = true := by simp [okS, phB, k1, k2, k3]
        rw [hN, hO]
        clear hN hO
        go_enter Tryd.func36, Tryd.ntmps36
        go_wp2_with (first
          | (go_at_call 27; (with_reducible refine (is6_any _ _ _ _ _ _ (by simp)).mono ?_); rintro e w1 ⟨rfl, hb1⟩; obtain ⟨hc1, hf1⟩ := bcell hb1; have hz1 := hb1.size; (try simp at hz1); have hx1 : w.heap.size < w1.heap.size := by omega)
          | (go_at_call 27; (with_reducible refine (is7_any _ _ _ _ _ _ (by simp)).mono ?_); rintro e w2 ⟨rfl, hb2⟩; obtain ⟨hc2, hf2⟩ := bcell hb2; have hz2 := hb2.size; (try simp at hz2); have hx2 : w.heap.size < w2.heap.size := by omega)
          | (go_at_call 27; (with_reducible refine (is8_any _ _ _ _ _ _ (by simp)).mono ?_); rintro e w3 ⟨rfl, hb3⟩; obtain ⟨hc3, hf3⟩ := bcell hb3; have hz3 := hb3.size; (try simp at hz3); have hx3 : w.heap.size < w3.heap.size := by omega))
        go_ret2
        exact ⟨rfl, by (repeat' (first | with_reducible exact Below.refl _ _ | with_reducible assumption | with_reducible refine Below.drew ?_ | with_reducible refine below_drewN' ?_ _ | with_reducible refine Below.alloc ?_ ?_ _ | with_reducible refine Below.setCell ?_ ?_ _ | with_reducible refine below_step (by assumption) ?_ ?_ | omega | (simp; done) | (simp; omega)))⟩
      · have hN : nextS (phB what) s = 0 := by simp [nextS, phB, k1, k2, k3]
        have hO : okS (phB what) s = (s != 0) := by rw [bne_dec]; simp [okS, phB, k1, k2, k3]
        rw [hN, hO]
        clear hN hO
        go_enter Tryd.func36, Tryd.ntmps36
        go_wp2_with (first
          | (go_at_call 27; (with_reducible refine (is6_any _ _ _ _ _ _ (by simp)).mono ?_); rintro e w1 ⟨rfl, hb1⟩; obtain ⟨hc1, hf1⟩ := bcell hb1; have hz1 := hb1.size; (try simp at hz1); have hx1 : w.heap.size < w1.heap.size := by omega)
          | (go_at_call 27; (with_reducible refine (is7_any _ _ _ _ _ _ (by simp)).mono ?_); rintro e w2 ⟨rfl, hb2⟩; obtain ⟨hc2, hf2⟩ := bcell hb2; have hz2 := hb2.size; (try simp at hz2); have hx2 : w.heap.size < w2.heap.size := by omega)
          | (go_at_call 27; (with_reducible refine (is8_any _ _ _ _ _ _ (by simp)).mono ?_); rintro e w3 ⟨rfl, hb3⟩; obtain ⟨hc3, hf3⟩ := bcell hb3; have hz3 := hb3.size; (try simp at hz3); have hx3 : w.heap.size < w3.heap.size := by omega))
        go_ret2
        exact ⟨rfl, by (repeat' (first | with_reducible exact Below.refl _ _ | with_reducible assumption | with_reducible refine Below.drew ?_ | with_reducible refine below_drewN' ?_ _ | with_reducible refine Below.alloc ?_ ?_ _ | with_reducible refine Below.setCell ?_ ?_ _ | with_reducible refine below_step (by assumption) ?_ ?_ | omega | (simp; done) | (simp; omega)))⟩
    · have hN : nextS (phB what) s = 2 := by simp [nextS, phB, k1, k2]
      have hO : okS (phB what) s = (s == 1) := by rw [beq_dec]; simp [okS, phB, k1, k2]
      rw [hN, hO]
      clear hN hO
      go_enter Tryd.func36, Tryd.ntmps36
      go_wp2_with (first
        | (go_at_call 27; (with_reducible refine (is6_any _ _ _ _ _ _ (by simp)).mono ?_); rintro e w1 ⟨rfl, hb1⟩; obtain ⟨hc1, hf1⟩ := bcell hb1; have hz1 := hb1.size; (try simp at hz1); have hx1 : w.heap.size < w1.heap.size := by omega)
        | (go_at_call 27; (with_reducible refine (is7_any _ _ _ _ _ _ (by simp)).mono ?_); rintro e w2 ⟨rfl, hb2⟩; obtain ⟨hc2, hf2⟩ := bcell hb2; have hz2 := hb2.size; (try simp at hz2); have hx2 : w.heap.size < w2.heap.size := by omega))
      go_ret2
      exact ⟨rfl, by (repeat' (first | with_reducible exact Below.refl _ _ | with_reducible assumption | with_reducible refine Below.drew ?_ | with_reducible refine below_drewN' ?_ _ | with_reducible refine Below.alloc ?_ ?_ _ | with_reducible refine Below.setCell ?_ ?_ _ | with_reducible refine below_step (by assumption) ?_ ?_ | omega | (simp; done) | (simp; omega)))⟩
  · have hN : nextS (phB what) s = 1 := by simp [nextS, phB, k1]
    have hO : okS (phB what) s = (s == 0) := by rw [beq_dec]; simp [okS, phB, k1]
    rw [hN, hO]
    clear hN hO
    go_enter Tryd.func36, Tryd.ntmps36
    go_wp2_with (go_at_call 27; (with_reducible refine (is6_any _ _ _ _ _ _ (by simp)).mono ?_); rintro e w1 ⟨rfl, hb1⟩; obtain ⟨hc1, hf1⟩ := bcell hb1; have hz1 := hb1.size; (try simp at hz1); have hx1 : w.heap.size < w1.heap.size := by omega)
    go_ret2
    exact ⟨rfl, by (repeat' (first | with_reducible exact Below.refl _ _ | with_reducible assumption | with_reducible refine Below.drew ?_ | with_reducible refine below_drewN' ?_ _ | with_reducible refine Below.alloc ?_ ?_ _ | with_reducible refine Below.setCell ?_ ?_ _ | with_reducible refine below_step (by assumption) ?_ ?_ | omega | (simp; done) | (simp; omega)))⟩
end Go.Proofs.YtaehcnoendieaaaDoor
