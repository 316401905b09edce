/-
  The two tables in memory, and what each call does to both.
-/
import Derived.Test.YtedombidblhmeaaBkPr
namespace Go.Proofs.Ytedombidblhmeaa
open Go.RowKit
set_option linter.unusedVariables false
set_option linter.unusedSimpArgs false

structure PR (w0 w : World) (b m p : Nat) (fi mo re : Int) (E : ByteArray → Option En) (M : List Nt) (v : Value) (cr : Int) (n : Nat) : Prop where
  t : TB w b m fi mo re E cr n
  r : RT w w0.heap.size p fi mo re M v
  e : EM E M cr
  len : M.length ≤ n
  bl : Below w0.heap.size w0 w
  hb : w0.heap.size ≤ b
  hm : w0.heap.size ≤ m
  bp : b ≠ p
  mp : m ≠ p
  vb : ∀ q, v.ownBlock = some q → q ≠ b ∧ q ≠ m
section
variable {w0 w w' : World} {b m p : Nat} {fi mo re : Int} {E : ByteArray → Option En} {M : List Nt} {v : Value} {cr : Int} {n : Nat}
theorem PR.below (h : PR w0 w b m p fi mo re E M v cr n) (hB : Below w.heap.size w w') : PR w0 w' b m p fi mo re E M v cr n :=
  ⟨h.t.below hB, h.r.below hB, h.e, h.len, h.bl.trans (hB.mono h.bl.size), h.hb, h.hm, h.bp, h.mp, h.vb⟩
theorem PR.lts (h : PR w0 w b m p fi mo re E M v cr n) : b < w.heap.size ∧ m < w.heap.size ∧ p < w.heap.size := ⟨h.t.row.lt, h.t.mp.lt, h.r.row.lt⟩
/-- Whatever turned is the call's own. -/
theorem PR.own (h : PR w0 w b m p fi mo re E M v cr n) : ∀ k ∈ b :: m :: turnS p v, w0.heap.size ≤ k ∧ k < w.heap.size := by
  intro k hk
  obtain ⟨h1, h2, h3⟩ := h.lts
  simp only [turnS, List.mem_cons, Option.mem_toList] at hk
  rcases hk with rfl | rfl | rfl | hk
  · exact ⟨h.hb, h1⟩
  · exact ⟨h.hm, h2⟩
  · exact ⟨h.r.hp, h3⟩
  · exact own_lt h.r.own hk
/-- Behind the program's Fail. -/
structure PM (w0 w : World) (b m p : Nat) (fi mo re : Int) (E : ByteArray → Option En) (M : List Nt) (v : Value) (cr : Int) (n : Nat) (g : ByteArray) (now : Int) : Prop where
  t : TB w b m fi mo re (if timeB now then updE E g (some (newF fi mo re cr (E g) now)) else E) (if timeB now && (E g).isNone then cr + 1 else cr) (n + 2)
  r : RT w w0.heap.size p fi mo re M v
  e : EM E M cr
  ok : ∀ s x, E s = some x → 1 ≤ x.l ∧ x.l ≤ mo ∧ 0 ≤ x.u ∧ x.u ≤ 2199023255552
  len : M.length ≤ n
  bl : Below w0.heap.size w0 w
  hb : w0.heap.size ≤ b
  hm : w0.heap.size ≤ m
  bp : b ≠ p
  mp : m ≠ p
  vb : ∀ q, v.ownBlock = some q → q ≠ b ∧ q ≠ m
theorem PM.below {g : ByteArray} {now : Int} (h : PM w0 w b m p fi mo re E M v cr n g now) (hB : Below w.heap.size w w') : PM w0 w' b m p fi mo re E M v cr n g now :=
  ⟨h.t.below hB, h.r.below hB, h.e, h.ok, h.len, h.bl.trans (hB.mono h.bl.size), h.hb, h.hm, h.bp, h.mp, h.vb⟩
theorem PR.fail1 (h : PR w0 w b m p fi mo re E M v cr n) (g : ByteArray) (now : Int) (hn : n ≤ 1000) (hg : g.size ≤ maxLen) :
    Calls Try.prog 9 #[.pointer (some ⟨b, 0, none⟩), .string g, .int .i64 now] w fun e w' => e = .returned (.int .i64 (failV fi mo re (E g) now)) ∧ PM w0 w' b m p fi mo re E M v cr n g now ∧ Only [b, m] w w' := by
  have hk : ∀ w', Only [b, m] w w' → RT w' w0.heap.size p fi mo re M v ∧ Below w0.heap.size w0 w' := fun w' ho =>
    ⟨h.r.only ho (by simp; exact ⟨h.bp.symm, h.mp.symm⟩) (fun q hq => by simp; exact h.vb q hq), ho.below h.bl h.bl.size (by simp; exact ⟨h.hb, h.hm⟩)⟩
  unfold failV
  cases ht : timeB now
  · refine (fail_off b m fi mo re E cr n g now w h.t ht).mono ?_
    rintro e w' ⟨rfl, rfl⟩
    refine ⟨rfl, ⟨?_, h.r, h.e, h.t.ok, h.len, h.bl, h.hb, h.hm, h.bp, h.mp, h.vb⟩, Only.refl _ _⟩
    rw [ht]
    exact h.t.more2 (by omega)
  · have hn := of_decide_eq_true ht
    cases hE : E g with
    | none =>
      refine (fail_none b m fi mo re E cr n g now w h.t (by omega) hg hn.1 hn.2 hE).mono ?_
      rintro e w' ⟨rfl, hT, ho⟩
      obtain ⟨h1, h2⟩ := hk w' ho
      refine ⟨rfl, ⟨?_, h1, h.e, h.t.ok, h.len, h2, h.hb, h.hm, h.bp, h.mp, h.vb⟩, ho⟩
      rw [ht, hE]
      exact hT
    | some y =>
      refine (fail_some b m fi mo re E cr n g now y w h.t (by omega) hg hn.1 hn.2 hE).mono ?_
      rintro e w' ⟨rfl, hT, ho⟩
      obtain ⟨h1, h2⟩ := hk w' ho
      refine ⟨rfl, ⟨?_, h1, h.e, h.t.ok, h.len, h2, h.hb, h.hm, h.bp, h.mp, h.vb⟩, ho⟩
      rw [ht, hE]
      exact hT
theorem PM.fail2 {g : ByteArray} {now : Int} (h : PM w0 w b m p fi mo re E M v cr n g now) (hn : n ≤ 1000) :
    Calls Try.prog 10 #[.pointer (some ⟨p, 0, none⟩), .string g, .int .i64 now] w fun e w' => e = .returned (.int .i64 (failV fi mo re (E g) now)) ∧ (∃ E' M' v' cr', PR w0 w' b m p fi mo re E' M' v' cr' (n + 2)) ∧ Only (turnS p v) w w' := by
  have hlts : b < w.heap.size ∧ m < w.heap.size := ⟨h.t.row.lt, h.t.mp.lt⟩
  have hk : ∀ w', Only (turnS p v) w w' → (∀ E' cr', TB w b m fi mo re E' cr' (n + 2) → TB w' b m fi mo re E' cr' (n + 2)) ∧ Below w0.heap.size w0 w' := fun w' ho => by
    have hn : ∀ k, k = b ∨ k = m → k ∉ turnS p v := fun k hk hx => by
      simp only [turnS, List.mem_cons, Option.mem_toList] at hx
      rcases hx with hx | hx
      · rcases hk with rfl | rfl
        · exact h.bp hx
        · exact h.mp hx
      · have := h.vb k hx
        rcases hk with rfl | rfl
        · exact this.1 rfl
        · exact this.2 rfl
    exact ⟨fun E' cr' hT => hT.only ho (hn b (.inl rfl)) (hn m (.inr rfl)), ho.below h.bl h.bl.size (fun k hk => by
      simp only [turnS, List.mem_cons, Option.mem_toList] at hk
      rcases hk with rfl | hk
      · exact h.r.hp
      · exact (own_lt h.r.own hk).1)⟩
  have hT := h.t
  unfold failV
  cases ht : timeB now
  · refine (rfail_off p g now w ht).mono ?_
    rintro e w' ⟨rfl, rfl⟩
    rw [ht] at hT
    exact ⟨rfl, ⟨E, M, v, cr, ⟨hT, h.r, h.e, by have := h.len; omega, h.bl, h.hb, h.hm, h.bp, h.mp, h.vb⟩⟩, Only.refl _ _⟩
  · rw [ht] at hT
    rcases h.e.look g with ⟨k, x, h1, h2, h3, h4⟩ | ⟨h1, h2⟩
    · rw [h4] at hT ⊢
      obtain ⟨k1, k2, k3, k4⟩ := h.ok g x.2 h4
      refine (rfail_hit w0.heap.size p fi mo re M v g now cr k x w h.r h1 h2 h3 (by have := h.len; omega) ht h.t.p1 h.t.p2 h.t.p3 k1 k2 k3 k4).mono ?_
      rintro e w' ⟨rfl, hR, ho⟩
      obtain ⟨h5, h6⟩ := hk w' ho
      have h7 := h5 _ _ hT
      refine ⟨rfl, ⟨_, _, v, _, ⟨h7, hR, ?_, by rw [List.length_set]; have := h.len; omega, h6, h.hb, h.hm, h.bp, h.mp, h.vb⟩⟩, ho⟩
      have := h.e.set h1 (newF fi mo re cr (some x.2) now).l (newF fi mo re cr (some x.2) now).u
      rw [h2] at this ⊢
      exact this
    · rw [h2] at hT ⊢
      refine (rfail_miss w0.heap.size p fi mo re M v g now (cr + 1) w h.r h1 (by have := h.len; omega) ht (by have := h.t.p1; omega) (by have := h.t.p2; have := h.t.p3; omega)).mono ?_
      rintro e w' ⟨rfl, ⟨v', hR, ho, hv⟩⟩
      obtain ⟨h5, h6⟩ := hk w' ho
      have h7 := h5 _ _ hT
      refine ⟨rfl, ⟨_, _, v', _, ⟨h7, hR, h.e.add h1 _ _, by rw [List.length_append]; have := h.len; simp; omega, h6, h.hb, h.hm, h.bp, h.mp, fun q hq => ?_⟩⟩, ho⟩
      rcases hv q hq with h8 | h8
      · exact h.vb q h8
      · omega
end
end Go.Proofs.Ytedombidblhmeaa
