/-
  What right states have; what every call that is permitted keeps.
-/
import Derived.Test.YtmkdfcggjlhcpaaPeB
namespace Go.Proofs.Ytmkdfcggjlhcpaa
open Go.RowKit
set_option linter.unusedVariables false
set_option linter.unusedSimpArgs false

theorem pinB {x a b : Int} (h : inB x a b = true) : a ≤ x ∧ x ≤ b := by
  unfold inB at h
  simpa using h
/-- What light, right groups have. -/
structure GrOk (l : List Gp) : Prop where
  g16 : l.length ≤ 16
  gl : ∀ x ∈ l, x.like.labs.length ≤ 40 ∧ x.like.tnts.length ≤ 40
  gb : ∀ x ∈ l, 0 ≤ x.mn ∧ x.mn ≤ x.mx ∧ x.mx ≤ 200 ∧ (0 ≤ x.like.r0 ∧ x.like.r0 ≤ 1125899906842624) ∧ (0 ≤ x.like.r1 ∧ x.like.r1 ≤ 1125899906842624)
theorem GrOk.mk' {l : List Gp} (hr : rightGs l = true) (hL : lightGs l = true) : GrOk l := by
  have h16 : l.length ≤ 16 := by
    unfold rightGs at hr
    rw [Bool.and_eq_true] at hr
    exact of_decide_eq_true hr.1
  refine ⟨h16, fun x hx => ?_, fun x hx => ?_⟩
  · have h := (((lightGs_iff l).1 hL).2 x hx).2
    unfold lightM at h
    simp only [Bool.and_eq_true, decide_eq_true_eq] at h
    refine ⟨((lightL_iff _).1 h.1.2).1, ?_⟩
    have h2 := h.2
    unfold lightB at h2
    simp only [Bool.and_eq_true, decide_eq_true_eq] at h2
    exact h2.1.2
  · obtain ⟨k, hk⟩ := List.getElem?_of_mem hx
    unfold rightGs at hr
    rw [Bool.and_eq_true, List.all_eq_true] at hr
    have h1 := hr.2 k (List.mem_range.2 (List.getElem?_eq_some_iff.1 hk).1)
    rw [okG_at hk, Bool.and_eq_true, Bool.and_eq_true] at h1
    have h2 := h1.1.1
    unfold rightG at h2
    simp only [Bool.and_eq_true] at h2
    obtain ⟨⟨⟨⟨⟨⟨⟨⟨-, a1⟩, a2⟩, -⟩, -⟩, a3⟩, -⟩, -⟩, -⟩ := h2
    have b1 := pinB a1
    have b2 := pinB a2
    unfold rightM at a3
    simp only [Bool.and_eq_true] at a3
    have b3 := (rtB_iff _ _ _ _ _).1 a3.1.1.2
    exact ⟨b2.1, b2.2, b1.2, b3.1, b3.2.1⟩
/-- Whether targets are within bounds. -/
def tgtB (C : List Gp) (T : List Int) : Bool := (List.range T.length).all fun j => match C[j]?, T[j]? with
  | some g, some t => decide (g.mn ≤ t) && decide (t ≤ g.mx)
  | _, _ => true
def nmsB (L : List Ins) : Bool := L.all fun x => decide (x.nm.size ≤ 300) && decide (x.gp.size ≤ 300)
/-- Whether a state is right. -/
def rightS (s : St) : Bool := lightGs s.C && rightGs s.C && decide (s.T.length = s.C.length) && decide (s.L.length ≤ 60) && decide (s.R.length ≤ 20) && rightC s.c0 s.c1 s.c2 && tgtB s.C s.T && nmsB s.L
theorem right_ok {s : St} (hl : lightGs s.C = true) (hr : rightGs s.C = true) (ht : s.T.length = s.C.length) (h60 : s.L.length ≤ 60) (h20 : s.R.length ≤ 20) (hc : rightC s.c0 s.c1 s.c2 = true) (hb : tgtB s.C s.T = true) : StOk s := by
  have h := GrOk.mk' hr hl
  refine ⟨ht, h.g16, fun x hx => ?_, fun x hx => ?_, fun j x t hx htj => ?_, by omega, by omega, hc⟩
  · have := h.gl x hx
    omega
  · have := h.gb x hx
    exact ⟨this.1, this.2.2.1, this.2.2.2⟩
  · unfold tgtB at hb
    rw [List.all_eq_true] at hb
    have h1 := hb j (List.mem_range.2 (lt_at htj))
    rw [hx, htj] at h1
    simp only [Bool.and_eq_true, decide_eq_true_eq] at h1
    exact h1
/-- What every state behind calls that are permitted has. -/
structure KB (s0 s : St) : Prop where
  o : StOk s
  c : s.C.map nrm = s0.C.map nrm
  r : s.R = s0.R
  un : s.un = s0.un
  sh : s.sh = s0.sh
  ll : s.L.length = s0.L.length
theorem KB.first {s : St} (h : StOk s) : KB s s := ⟨h, rfl, rfl, rfl, rfl, rfl⟩
theorem KB.lt {s0 s : St} (h : KB s0 s) (h0 : StOk s0) : s.T.length = s0.T.length := by rw [h.o.lt, nrm_len h.c, h0.lt]
theorem KB.bound {s0 s : St} (h : KB s0 s) {j : Nat} {t : Int} (ht : s.T[j]? = some t) : ∃ g, s0.C[j]? = some g ∧ g.mn ≤ t ∧ t ≤ g.mx := by
  obtain ⟨g, hg⟩ := mem_at (l := s.C) (k := j) (by rw [← h.o.lt]; exact lt_at ht)
  obtain ⟨g', hg', hn⟩ := nrm_at h.c hg
  obtain ⟨-, -, -, e4, e5⟩ := nrm_like hn
  have := h.o.tb j g t hg ht
  exact ⟨g', hg', by omega, by omega⟩
theorem aft_same (s : St) (what nm : ByteArray) (n : Int) : (aft s what nm n).C = s.C ∧ (aft s what nm n).R = s.R ∧ (aft s what nm n).un = s.un ∧ (aft s what nm n).sh = s.sh ∧ (aft s what nm n).L.length = s.L.length ∧
    ∀ (k : Nat) (x y : Ins), s.L[k]? = some x → (aft s what nm n).L[k]? = some y → x.st = 3 → y.st = 3 := by
  have hid : ∀ (k : Nat) (x y : Ins), s.L[k]? = some x → s.L[k]? = some y → x.st = 3 → y.st = 3 := fun k x y hx hy h3 => by
    rw [hx] at hy
    obtain rfl := Option.some.inj hy
    exact h3
  unfold aft
  split
  · split
    · exact ⟨rfl, rfl, rfl, rfl, rfl, hid⟩
    · split
      · exact ⟨rfl, rfl, rfl, rfl, rfl, hid⟩
      · exact ⟨rfl, rfl, rfl, rfl, rfl, hid⟩
  · split
    · exact ⟨rfl, rfl, rfl, rfl, rfl, hid⟩
    · split
      · exact ⟨rfl, rfl, rfl, rfl, rfl, hid⟩
      · split
        · exact ⟨rfl, rfl, rfl, rfl, rfl, hid⟩
        · split
          · rename_i k hk _ x hx _ j hj _ _ g t hg ht
            refine ⟨rfl, rfl, rfl, rfl, by dsimp only; rw [List.length_set], fun i y z hy hz h3 => ?_⟩
            dsimp only at hz
            by_cases e : k = i
            · subst e
              rw [List.getElem?_set_self (lt_at hy)] at hz
              obtain rfl := Option.some.inj hz
              rfl
            · rw [List.getElem?_set_ne e] at hz
              exact hid i y z hy hz h3
          · exact ⟨rfl, rfl, rfl, rfl, rfl, hid⟩
theorem KB.step {s0 s s' : St} {what nm : ByteArray} {n : Int} {b : Bool} (h : KB s0 s) (h0 : whyP s what nm n b = 0) (hA : PAl (aft s what nm n) s') : KB s0 s' := by
  obtain ⟨e1, e2, e3, e4, e5, -⟩ := aft_same s what nm n
  exact ⟨(aft_ok h.o h0).alike hA, by rw [hA.c, e1, h.c], by rw [hA.r, e2, h.r], by rw [hA.un, e3, h.un], by rw [hA.sh, e4, h.sh], by rw [hA.l, e5, h.ll]⟩
theorem KB.leave {s s' : St} {what nm : ByteArray} {n : Int} (hA : PAl (aft s what nm n) s') {k : Nat} {x y : Ins} (hx : s.L[k]? = some x) (hy : s'.L[k]? = some y) (h3 : x.st = 3) : y.st = 3 := by
  rw [hA.l] at hy
  exact (aft_same s what nm n).2.2.2.2.2 k x y hx hy h3
/-- More machines are asked for only if not too many are not ready, and the group does not rest. -/
theorem KB.more {s0 s : St} {what nm : ByteArray} {n : Int} {b : Bool} (h : KB s0 s) (h0 : whyP s what nm n b = 0) (hm : what = sUp ∨ what = sRaise) : s0.un ≤ s0.sh ∧ s0.R.any (strB nm) = false := by
  rcases why_zero h0 with ⟨j, g, t, Y⟩ | ⟨k, x, j, g, t, Y⟩
  · have hnf : what ≠ sFix := by rcases hm with e | e <;> rw [e] <;> decide
    have := Y.mr hnf
    rw [h.un, h.sh, h.r] at this
    exact ⟨this.1, this.2.1⟩
  · rcases Y.kind with e | e <;> rcases hm with e' | e' <;> rw [e] at e' <;> exact absurd e' (by decide)
end Go.Proofs.Ytmkdfcggjlhcpaa
