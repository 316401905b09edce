/-
  What a call that is permitted leaves, in plain words.
-/
import Derived.Test.YtmkdfcggjlhcpaaGreatDoorPe8x
namespace Go.Proofs.YtmkdfcggjlhcpaaGreatDoor
open Go.RowKit
set_option linter.unusedVariables false
set_option linter.unusedSimpArgs false
def aft (s : St) (what nm : ByteArray) (n : Int) : St :=
  if what = sUp ∨ what = sRaise ∨ what = sFix then
    match fndK s.G nm with
    | none => s
    | some j => match s.T[j]? with
      | none => s
      | some t => { s with T := s.T.set j (t + if what = sFix then -n else n) }
  else
    match fndI s.L nm with
    | none => s
    | some k =>
      match s.L[k]? with
      | none => s
      | some x =>
        match fndK s.G x.gp with
        | none => s
        | some j =>
          match s.C[j]?, s.T[j]? with
          | some g, some t => { s with T := if g.mn < t then s.T.set j (t + -1) else s.T, L := s.L.set k { x with st := 3, lf := 1 } }
          | _, _ => s
structure YesG (s : St) (what nm : ByteArray) (n : Int) (j : Nat) (g : Gp) (t : Int) : Prop where
  kind : what = sUp ∨ what = sRaise ∨ what = sFix
  hj : fndK s.G nm = some j
  hg : s.C[j]? = some g
  ht : s.T[j]? = some t
  hn : 1 ≤ n
  fx : what = sFix → g.mn ≤ t - n ∧ (sizeI s.L nm : Int) ≤ t - n
  mr : what ≠ sFix → s.un ≤ s.sh ∧ s.R.any (strB nm) = false ∧ t + n ≤ g.mx
structure YesI (s : St) (what nm : ByteArray) (k : Nat) (x : Ins) (j : Nat) (g : Gp) (t : Int) : Prop where
  kind : what = sClean ∨ what = sDelete
  hk : fndI s.L nm = some k
  hx : s.L[k]? = some x
  hj : fndK s.G x.gp = some j
  hg : s.C[j]? = some g
  ht : s.T[j]? = some t
  n3 : x.st ≠ 3
  cl : what = sClean → x.st = 4 ∨ x.st = 1 ∨ x.st = 2
  dl : what = sDelete → x.st = 2 ∧ s.un ≤ s.sh ∧ g.mn < t
theorem why_zero {s : St} {what nm : ByteArray} {n : Int} {b : Bool} (h : whyP s what nm n b = 0) : (∃ j g t, YesG s what nm n j g t) ∨ ∃ k x j g t, YesI s what nm k x j g t := by
  unfold whyP at h
  by_cases h1 : what = sUp ∨ what = sRaise ∨ what = sFix
  · rw [if_pos h1] at h
    left
    unfold whyG at h
    cases hj : fndK s.G nm with
    | none => rw [hj] at h; simp at h
    | some j =>
      rw [hj] at h
      dsimp only at h
      by_cases h2 : n < 1
      · rw [if_pos h2] at h; simp at h
      rw [if_neg h2] at h
      cases hg : s.C[j]? with
      | none => rw [hg] at h; simp at h
      | some g =>
        cases ht : s.T[j]? with
        | none => rw [hg, ht] at h; simp at h
        | some t =>
          rw [hg, ht] at h
          dsimp only at h
          by_cases h3 : what = sFix
          · rw [if_pos h3] at h
            by_cases h4 : t - n < g.mn ∨ t - n < (sizeI s.L nm : Int)
            · rw [if_pos h4] at h; simp at h
            · exact ⟨j, g, t, h1, hj, hg, ht, by omega, fun _ => by omega, fun h5 => absurd h3 h5⟩
          · rw [if_neg h3] at h
            by_cases h4 : s.sh < s.un
            · rw [if_pos h4] at h; simp at h
            rw [if_neg h4] at h
            by_cases h5 : s.R.any (strB nm) = true
            · rw [if_pos h5] at h; simp at h
            rw [if_neg h5] at h
            by_cases h6 : g.mx - t < n
            · rw [if_pos h6] at h; simp at h
            · exact ⟨j, g, t, h1, hj, hg, ht, by omega, fun h => absurd h h3, fun _ => ⟨by omega, by simpa using h5, by omega⟩⟩
  · rw [if_neg h1] at h
    right
    by_cases h2 : what = sClean ∨ what = sDelete
    · rw [if_pos h2] at h
      unfold whyI at h
      cases hk : fndI s.L nm with
      | none => rw [hk] at h; simp at h
      | some k =>
        rw [hk] at h
        dsimp only at h
        cases hx : s.L[k]? with
        | none => rw [hx] at h; simp at h
        | some x =>
          rw [hx] at h
          dsimp only at h
          cases hj : fndK s.G x.gp with
          | none => rw [hj] at h; simp at h
          | some j =>
            rw [hj] at h
            dsimp only at h
            cases hg : s.C[j]? with
            | none => rw [hg] at h; simp at h
            | some g =>
              cases ht : s.T[j]? with
              | none => rw [hg, ht] at h; simp at h
              | some t =>
                rw [hg, ht] at h
                dsimp only at h
                unfold whyV at h
                by_cases h3 : x.st = 3
                · rw [if_pos h3] at h; simp at h
                rw [if_neg h3] at h
                by_cases h4 : what = sClean
                · rw [decide_eq_true h4, if_pos rfl] at h
                  by_cases h5 : x.st = 4 ∨ x.st = 1 ∨ x.st = 2
                  · exact ⟨k, x, j, g, t, h2, hk, hx, hj, hg, ht, h3, fun _ => h5, fun h6 => by rw [h4] at h6; exact absurd h6 (by decide)⟩
                  · rw [if_neg h5] at h; simp at h
                · rw [decide_eq_false h4, if_neg (by decide)] at h
                  by_cases h5 : x.st ≠ 2 ∨ s.sh < s.un
                  · rw [if_pos h5] at h; simp at h
                  rw [if_neg h5] at h
                  by_cases h6 : t ≤ g.mn
                  · rw [if_pos h6] at h; simp at h
                  · exact ⟨k, x, j, g, t, h2, hk, hx, hj, hg, ht, h3, fun h7 => absurd h7 h4, fun _ => by omega⟩
    · rw [if_neg h2] at h; simp at h
theorem YesG.aft {s : St} {what nm : ByteArray} {n : Int} {j : Nat} {g : Gp} {t : Int} (h : YesG s what nm n j g t) : aft s what nm n = { s with T := s.T.set j (t + if what = sFix then -n else n) } := by
  unfold Go.Proofs.YtmkdfcggjlhcpaaGreatDoor.aft
  rw [if_pos h.kind, h.hj]
  dsimp only
  rw [h.ht]
theorem YesI.aft {s : St} {what nm : ByteArray} (n : Int) {k : Nat} {x : Ins} {j : Nat} {g : Gp} {t : Int} (h : YesI s what nm k x j g t) : aft s what nm n = { s with T := if g.mn < t then s.T.set j (t + -1) else s.T, L := s.L.set k { x with st := 3, lf := 1 } } := by
  unfold Go.Proofs.YtmkdfcggjlhcpaaGreatDoor.aft
  rw [if_neg (by rcases h.kind with e | e <;> rw [e] <;> decide), h.hk]
  dsimp only
  rw [h.hx]
  dsimp only
  rw [h.hj]
  dsimp only
  rw [h.hg, h.ht]
theorem StOk.alike {s s' : St} (h : StOk s) (e : PAl s s') : StOk s' := by
  have hl := nrm_len e.c
  refine ⟨by rw [e.t, hl]; exact h.lt, by rw [hl]; exact h.g16, fun x hx => ?_, fun x hx => ?_, fun j x t hx ht => ?_, by rw [e.l]; exact h.lb, by rw [e.r]; exact h.rb, by rw [e.c0, e.c1, e.c2]; exact h.cb⟩
  · obtain ⟨i, hi⟩ := List.getElem?_of_mem hx
    obtain ⟨y, hy, hn⟩ := nrm_at e.c hi
    obtain ⟨e1, e2, -⟩ := nrm_like hn
    rw [e1, e2]
    exact h.gl y (List.mem_of_getElem? hy)
  · obtain ⟨i, hi⟩ := List.getElem?_of_mem hx
    obtain ⟨y, hy, hn⟩ := nrm_at e.c hi
    obtain ⟨-, -, -, e4, e5⟩ := nrm_like hn
    have e6 : x.like.r0 = y.like.r0 := show (nrm x).like.r0 = (nrm y).like.r0 by rw [hn]
    have e7 : x.like.r1 = y.like.r1 := show (nrm x).like.r1 = (nrm y).like.r1 by rw [hn]
    rw [e4, e5, e6, e7]
    exact h.gb y (List.mem_of_getElem? hy)
  · obtain ⟨y, hy, hn⟩ := nrm_at e.c hx
    obtain ⟨-, -, -, e4, e5⟩ := nrm_like hn
    rw [e.t] at ht
    rw [e4, e5]
    exact h.tb j y t hy ht
theorem MO.macP {w : World} {base : Nat} {m : Mac} (h : MO w base m) (hl : m.labs.length ≤ maxLen) (ht : m.tnts.length ≤ maxLen) : MacIn w m := by
  have rl : LabL w m.la m.labs := by
    obtain ⟨a, k, e, hc⟩ := own_rows kcs_len h.l (by decide)
    injection e with e1 e2 e3
    exact fun h0 => by
      obtain ⟨g, h1, h2, h3, h4⟩ := hc h0
      exact ⟨g, 0, e1.trans h1, h3, h4⟩
  have rt : TntsAt w m.ta m.tnts := by
    obtain ⟨a, k, e, hc⟩ := own_rows tcs_len h.t (by decide)
    injection e with e1 e2 e3
    exact fun h0 => by
      obtain ⟨g, h1, h2, h3, h4⟩ := hc h0
      exact ⟨g, 0, e1.trans h1, h3, h4⟩
  exact ⟨⟨rl, rt, hl, ht⟩, own_nilok h.l, own_cap h.l, own_nilok h.t, own_cap h.t⟩
theorem SOwn.sIn {B : Nat} {s : St} {w : World} (h : SOwn B s w) (hl : ∀ x ∈ s.C, x.like.labs.length ≤ 1000000 ∧ x.like.tnts.length ≤ 1000000) : StIn w s := by
  obtain ⟨a1, k1, e1, n1, r1⟩ := OwnL.isL grow_len (by decide) h.g
  obtain ⟨a2, k2, e2, n2, r2⟩ := OwnL.isL pcs_len (by decide) h.t
  obtain ⟨a3, k3, e3, n3, r3⟩ := OwnL.isL irow_len (by decide) h.i
  obtain ⟨a4, k4, e4, n4, r4⟩ := OwnL.isL scs_len (by decide) h.r
  injection e1 with e1 _ f1
  injection e2 with e2 _ f2
  injection e3 with e3 _ f3
  injection e4 with e4 _ f4
  rw [← e1] at n1 r1
  rw [← e2] at n2 r2
  rw [← e3] at n3 r3
  rw [← e4] at n4 r4
  rw [← f1] at n1
  rw [← f2] at n2
  rw [← f3] at n3
  rw [← f4] at n4
  exact ⟨r1, fun x hx => (h.m x hx).macP (by have := (hl x hx).1; unfold maxLen; omega) (by have := (hl x hx).2; unfold maxLen; omega), r2, r3, r4, n1, n2, n3, n4⟩
end Go.Proofs.YtmkdfcggjlhcpaaGreatDoor
