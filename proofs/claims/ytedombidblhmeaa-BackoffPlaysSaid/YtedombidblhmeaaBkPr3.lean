/-
  The two tables: Fine, Clear, Copy; New.
-/
import Derived.Test.YtedombidblhmeaaBkPr2
namespace Go.Proofs.Ytedombidblhmeaa
open Go.RowKit
set_option linter.unusedVariables false
set_option linter.unusedSimpArgs false

/-- Between the program's call and the document's. -/
structure PX (w0 w : World) (b m p : Nat) (fi mo re : Int) (E : ByteArray → Option En) (M : List Nt) (v : Value) (cr : Int) (n : Nat) : Prop where
  t : TB w b m fi mo re E cr n
  r : RT w w0.heap.size p fi mo re M v
  len : M.length ≤ n
  bl : Below w0.heap.size w0 w
  hb : w0.heap.size ≤ b
  hm : w0.heap.size ≤ m
  bp : b ≠ p
  mp : m ≠ p
  vb : ∀ q, v.ownBlock = some q → q ≠ b ∧ q ≠ m
section
variable {w0 w w' : World} {b m p : Nat} {fi mo re : Int} {E : ByteArray → Option En} {M : List Nt} {v : Value} {cr : Int} {n : Nat}
theorem PX.below (h : PX w0 w b m p fi mo re E M v cr n) (hB : Below w.heap.size w w') : PX w0 w' b m p fi mo re E M v cr n :=
  ⟨h.t.below hB, h.r.below hB, h.len, h.bl.trans (hB.mono h.bl.size), h.hb, h.hm, h.bp, h.mp, h.vb⟩
theorem PX.pair (h : PX w0 w b m p fi mo re E M v cr n) (e : EM E M cr) : PR w0 w b m p fi mo re E M v cr n :=
  ⟨h.t, h.r, e, h.len, h.bl, h.hb, h.hm, h.bp, h.mp, h.vb⟩
theorem PR.fine1 (h : PR w0 w b m p fi mo re E M v cr n) (g : ByteArray) (hg : g.size ≤ maxLen) :
    Calls Try.prog 11 #[.pointer (some ⟨b, 0, none⟩), .string g] w fun e w' => e = .returned (.tuple #[]) ∧ PX w0 w' b m p fi mo re (updE E g none) M v cr n ∧ Only [b, m] w w' :=
  (fine_any b m fi mo re E cr n g w h.t hg).mono fun e w' ⟨he, hT, ho⟩ =>
    ⟨he, ⟨hT, h.r.only ho (by simp; exact ⟨h.bp.symm, h.mp.symm⟩) (fun q hq => by simp; exact h.vb q hq), h.len, ho.below h.bl h.bl.size (by simp; exact ⟨h.hb, h.hm⟩), h.hb, h.hm, h.bp, h.mp, h.vb⟩, ho⟩
theorem PX.fine2 (h : PX w0 w b m p fi mo re E M v cr n) (hn : n ≤ 1000) (g : ByteArray) :
    Calls Try.prog 12 #[.pointer (some ⟨p, 0, none⟩), .string g] w fun e w' => e = .returned (.tuple #[]) ∧ (∃ v', PX w0 w' b m p fi mo re E (M.filter (notG g)) v' cr n) ∧ Only [p] w w' := by
  refine (rfine_any w0.heap.size p fi mo re M v g w h.r (by have := h.len; omega)).mono ?_
  rintro e w' ⟨rfl, v', hR, ho, hv⟩
  have l1 := h.t.row.lt
  have l2 := h.t.mp.lt
  exact ⟨rfl, ⟨v', ⟨h.t.only ho (by simp; exact h.bp) (by simp; exact h.mp), hR, Nat.le_trans (List.length_filter_le _ _) h.len, ho.below h.bl h.bl.size (by simp; exact h.r.hp), h.hb, h.hm, h.bp, h.mp, fun q hq => by have := hv q hq; omega⟩⟩, ho⟩
theorem PR.clear1 (h : PR w0 w b m p fi mo re E M v cr n) :
    Calls Try.prog 13 #[.pointer (some ⟨b, 0, none⟩)] w fun e w' => e = .returned (.tuple #[]) ∧ PX w0 w' b m p fi mo re (fun _ => none) M v cr n ∧ Only [b, m] w w' :=
  (clear_any b m fi mo re E cr n w h.t).mono fun e w' ⟨he, hT, ho⟩ =>
    ⟨he, ⟨hT, h.r.only ho (by simp; exact ⟨h.bp.symm, h.mp.symm⟩) (fun q hq => by simp; exact h.vb q hq), h.len, ho.below h.bl h.bl.size (by simp; exact ⟨h.hb, h.hm⟩), h.hb, h.hm, h.bp, h.mp, h.vb⟩, ho⟩
/-- 'n.L = nil'. -/
theorem PX.clear2 (h : PX w0 w b m p fi mo re E M v cr n) (he : ∀ s, E s = none) : PR w0 (w.setCell ⟨p, 0, none⟩ (.slice none 0 0)) b m p fi mo re E [] (.slice none 0 0) cr n := by
  have ho : Only [p] w (w.setCell ⟨p, 0, none⟩ (.slice none 0 0)) := (Only.refl _ _).setCell (.inl (by simp)) _
  have hE : E = fun _ => none := funext he
  refine ⟨h.t.only ho (by simp; exact h.bp) (by simp; exact h.mp), ⟨h.r.row.set 0 _, World.ownsRow_nil _ _ _ _, by simp [Value.ownBlock], h.r.hp⟩, by rw [hE]; exact EM.nil cr, Nat.zero_le _, ho.below h.bl h.bl.size (by simp; exact h.r.hp), h.hb, h.hm, h.bp, h.mp, fun q hq => by simp [Value.ownBlock] at hq⟩
/-- A table put aside. -/
structure Aside (w0 w : World) (b m b2 m2 p : Nat) (fi mo re : Int) (v : Value) (n : Nat) : Prop where
  t : ∃ E cr, TB w b m fi mo re E cr n
  hb : w0.heap.size ≤ b
  hm : w0.heap.size ≤ m
  d1 : b ≠ b2 ∧ b ≠ m2 ∧ m ≠ b2 ∧ m ≠ m2
  d2 : b ≠ p ∧ m ≠ p
  d3 : ∀ q, v.ownBlock = some q → q ≠ b ∧ q ≠ m
theorem PR.copy (h : PR w0 w b m p fi mo re E M v cr n) :
    Calls Try.prog 14 #[.pointer (some ⟨b, 0, none⟩)] w fun e w' => ∃ b2 m2, e = .returned (.pointer (some ⟨b2, 0, none⟩)) ∧ PR w0 w' b2 m2 p fi mo re E M v cr n ∧ Aside w0 w' b m b2 m2 p fi mo re v n ∧ Below w.heap.size w w' := by
  refine (copy_any b m fi mo re E cr n w h.t).mono ?_
  rintro e w' ⟨b2, m2, rfl, hT, h1, h2, hB⟩
  obtain ⟨l1, l2, l3⟩ := h.lts
  have hz := h.bl.size
  exact ⟨b2, m2, rfl, ⟨hT, h.r.below hB, h.e, h.len, h.bl.trans (hB.mono h.bl.size), by omega, by omega, by omega, by omega, fun q hq => by have := (own_lt h.r.own hq).2; omega⟩, ⟨⟨E, cr, h.t.below hB⟩, h.hb, h.hm, by omega, ⟨h.bp, h.mp⟩, h.vb⟩, hB⟩
theorem PR.apart {b2 m2 : Nat} (h : PR w0 w b2 m2 p fi mo re E M v cr n) {k : Nat} (a : Aside w0 w b m b2 m2 p fi mo re v k) (ho : Only [b, m] w w') : PR w0 w' b2 m2 p fi mo re E M v cr n := by
  obtain ⟨d1, d2, d3, d4⟩ := a.d1
  exact ⟨h.t.only ho (by simp; exact ⟨d1.symm, d3.symm⟩) (by simp; exact ⟨d2.symm, d4.symm⟩), h.r.only ho (by simp; exact ⟨a.d2.1.symm, a.d2.2.symm⟩) (fun q hq => by simp; exact a.d3 q hq), h.e, h.len, ho.below h.bl h.bl.size (by simp; exact ⟨a.hb, a.hm⟩), h.hb, h.hm, h.bp, h.mp, h.vb⟩
theorem Aside.fail {b2 m2 : Nat} (h : PR w0 w b2 m2 p fi mo re E M v cr n) (a : Aside w0 w b m b2 m2 p fi mo re v n) (hn : n ≤ 1000) (g : ByteArray) (now : Int) (hg : g.size ≤ maxLen) :
    Calls Try.prog 9 #[.pointer (some ⟨b, 0, none⟩), .string g, .int .i64 now] w fun e w' => (∃ z, e = .returned (.int .i64 z)) ∧ PR w0 w' b2 m2 p fi mo re E M v cr n ∧ Aside w0 w' b m b2 m2 p fi mo re v (n + 2) ∧ Only [b, m] w w' := by
  obtain ⟨E0, c0, hT⟩ := a.t
  refine (fail_any b m fi mo re E0 c0 n g now w hT (by omega) hg).mono ?_
  rintro e w' ⟨rfl, ⟨E', cr', hT', _, _⟩, ho⟩
  exact ⟨⟨_, rfl⟩, h.apart a ho, ⟨⟨_, _, hT'⟩, a.hb, a.hm, a.d1, a.d2, a.d3⟩, ho⟩
theorem Aside.clear {b2 m2 k : Nat} (h : PR w0 w b2 m2 p fi mo re E M v cr n) (a : Aside w0 w b m b2 m2 p fi mo re v k) :
    Calls Try.prog 13 #[.pointer (some ⟨b, 0, none⟩)] w fun e w' => e = .returned (.tuple #[]) ∧ PR w0 w' b2 m2 p fi mo re E M v cr n ∧ Only [b, m] w w' := by
  obtain ⟨E0, c0, hT⟩ := a.t
  exact (clear_any b m fi mo re E0 c0 k w hT).mono fun e w' ⟨he, _, ho⟩ => ⟨he, h.apart a ho, ho⟩
end

def okN (fi mo re : Int) : Prop := 1 ≤ fi ∧ fi ≤ mo ∧ 1 ≤ re ∧ mo ≤ 1099511627776 ∧ re ≤ 1099511627776
theorem rnew_yes (base : Nat) (fi mo re : Int) (h : okN fi mo re) (w : World) (hb : base ≤ w.heap.size) :
    Calls Try.prog 8 #[.int .i64 fi, .int .i64 mo, .int .i64 re] w fun e w' => e = .returned (.tuple #[.pointer (some ⟨w.heap.size, 0, none⟩), .int .i64 0]) ∧ RT w' base w.heap.size fi mo re [] (.slice none 0 0) ∧ Below w.heap.size w w' := by
  obtain ⟨p1, p2, p4, p3, p5⟩ := h
  have k1 : decide (fi < 1) = false := decide_eq_false (by omega)
  have k2 : decide (mo < fi) = false := decide_eq_false (by omega)
  have k3 : decide (re < 1) = false := decide_eq_false (by omega)
  have t1 : timeB mo = true := decide_eq_true ⟨by omega, p3⟩
  have t2 : timeB re = true := decide_eq_true ⟨by omega, p5⟩
  go_enter Try.func8, Try.ntmps8
  go_wp2_with (first
    | (go_at_call 25; (with_reducible refine (rtime_any mo _).mono ?_); rintro e w2 ⟨rfl, rfl⟩)
    | (go_at_call 25; (with_reducible refine (rtime_any re _).mono ?_); rintro e w2 ⟨rfl, rfl⟩))
  go_ret2
  refine ⟨rfl, ⟨?_, World.ownsRow_nil _ _ _ _, by simp [Value.ownBlock], hb⟩, by (repeat' (first | with_reducible exact Below.refl _ _ | with_reducible assumption | with_reducible refine Below.drew ?_ | with_reducible refine below_drewN' ?_ _ | with_reducible refine Below.alloc ?_ ?_ _ | with_reducible refine Below.setCell ?_ ?_ _ | with_reducible refine below_step (by assumption) ?_ ?_ | omega | (simp; done) | (simp; omega)))⟩
  exact Blk.new _ 37 [.slice none 0 0, .int .i64 fi, .int .i64 mo, .int .i64 re]
theorem rnew_no (fi mo re : Int) (h : ¬ okN fi mo re) (w : World) :
    Calls Try.prog 8 #[.int .i64 fi, .int .i64 mo, .int .i64 re] w fun e w' => (∃ q, e = .returned (.tuple #[.pointer (some q), .int .i64 1])) ∧ Below w.heap.size w w' := by
  by_cases h1 : fi < 1
  · have k1 : decide (fi < 1) = true := decide_eq_true h1
    clear h
    go_enter Try.func8, Try.ntmps8
    go_wp2_with (first | (go_at_call 25; (with_reducible refine (rtime_any mo _).mono ?_); rintro e w2 ⟨rfl, rfl⟩) | (go_at_call 25; (with_reducible refine (rtime_any re _).mono ?_); rintro e w2 ⟨rfl, rfl⟩))
    go_ret2
    exact ⟨⟨_, rfl⟩, by (repeat' (first | with_reducible exact Below.refl _ _ | with_reducible assumption | with_reducible refine Below.drew ?_ | with_reducible refine below_drewN' ?_ _ | with_reducible refine Below.alloc ?_ ?_ _ | with_reducible refine Below.setCell ?_ ?_ _ | with_reducible refine below_step (by assumption) ?_ ?_ | omega | (simp; done) | (simp; omega)))⟩
  · have k1 : decide (fi < 1) = false := decide_eq_false h1
    by_cases h2 : mo < fi
    · have k2 : decide (mo < fi) = true := decide_eq_true h2
      clear h
      go_enter Try.func8, Try.ntmps8
      go_wp2_with (first | (go_at_call 25; (with_reducible refine (rtime_any mo _).mono ?_); rintro e w2 ⟨rfl, rfl⟩) | (go_at_call 25; (with_reducible refine (rtime_any re _).mono ?_); rintro e w2 ⟨rfl, rfl⟩))
      go_ret2
      exact ⟨⟨_, rfl⟩, by (repeat' (first | with_reducible exact Below.refl _ _ | with_reducible assumption | with_reducible refine Below.drew ?_ | with_reducible refine below_drewN' ?_ _ | with_reducible refine Below.alloc ?_ ?_ _ | with_reducible refine Below.setCell ?_ ?_ _ | with_reducible refine below_step (by assumption) ?_ ?_ | omega | (simp; done) | (simp; omega)))⟩
    · have k2 : decide (mo < fi) = false := decide_eq_false h2
      by_cases h3 : re < 1
      · have k3 : decide (re < 1) = true := decide_eq_true h3
        clear h
        go_enter Try.func8, Try.ntmps8
        go_wp2_with (first | (go_at_call 25; (with_reducible refine (rtime_any mo _).mono ?_); rintro e w2 ⟨rfl, rfl⟩) | (go_at_call 25; (with_reducible refine (rtime_any re _).mono ?_); rintro e w2 ⟨rfl, rfl⟩))
        go_ret2
        exact ⟨⟨_, rfl⟩, by (repeat' (first | with_reducible exact Below.refl _ _ | with_reducible assumption | with_reducible refine Below.drew ?_ | with_reducible refine below_drewN' ?_ _ | with_reducible refine Below.alloc ?_ ?_ _ | with_reducible refine Below.setCell ?_ ?_ _ | with_reducible refine below_step (by assumption) ?_ ?_ | omega | (simp; done) | (simp; omega)))⟩
      · have k3 : decide (re < 1) = false := decide_eq_false h3
        by_cases h4 : 1099511627776 < mo
        · have k4 : decide (1099511627776 < mo) = true := decide_eq_true h4
          have t1 : timeB mo = false := decide_eq_false (by omega)
          clear h
          go_enter Try.func8, Try.ntmps8
          go_wp2_with (first | (go_at_call 25; (with_reducible refine (rtime_any mo _).mono ?_); rintro e w2 ⟨rfl, rfl⟩) | (go_at_call 25; (with_reducible refine (rtime_any re _).mono ?_); rintro e w2 ⟨rfl, rfl⟩))
          go_ret2
          exact ⟨⟨_, rfl⟩, by (repeat' (first | with_reducible exact Below.refl _ _ | with_reducible assumption | with_reducible refine Below.drew ?_ | with_reducible refine below_drewN' ?_ _ | with_reducible refine Below.alloc ?_ ?_ _ | with_reducible refine Below.setCell ?_ ?_ _ | with_reducible refine below_step (by assumption) ?_ ?_ | omega | (simp; done) | (simp; omega)))⟩
        · have k4 : decide (1099511627776 < mo) = false := decide_eq_false h4
          have t1 : timeB mo = true := decide_eq_true ⟨by omega, by omega⟩
          have h5 : 1099511627776 < re := by
            unfold okN at h
            omega
          have k5 : decide (1099511627776 < re) = true := decide_eq_true h5
          have t2 : timeB re = false := decide_eq_false (by omega)
          clear h
          go_enter Try.func8, Try.ntmps8
          go_wp2_with (first | (go_at_call 25; (with_reducible refine (rtime_any mo _).mono ?_); rintro e w2 ⟨rfl, rfl⟩) | (go_at_call 25; (with_reducible refine (rtime_any re _).mono ?_); rintro e w2 ⟨rfl, rfl⟩))
          go_ret2
          exact ⟨⟨_, rfl⟩, by (repeat' (first | with_reducible exact Below.refl _ _ | with_reducible assumption | with_reducible refine Below.drew ?_ | with_reducible refine below_drewN' ?_ _ | with_reducible refine Below.alloc ?_ ?_ _ | with_reducible refine Below.setCell ?_ ?_ _ | with_reducible refine below_step (by assumption) ?_ ?_ | omega | (simp; done) | (simp; omega)))⟩
theorem new_no (fi mo re : Int) (h : ¬ okN fi mo re) (w : World) :
    Calls Try.prog 7 #[.int .i64 fi, .int .i64 mo, .int .i64 re] w fun e w' => e = .returned (.tuple #[.pointer none, .int .i64 1]) ∧ w' = w := by
  by_cases h1 : fi < 1
  · have k1 : decide (fi < 1) = true := decide_eq_true h1
    clear h
    go_enter Try.func7, Try.ntmps7
    go_wp2_with fail
    go_ret2
    exact ⟨rfl, rfl⟩
  · have k1 : decide (fi < 1) = false := decide_eq_false h1
    by_cases h2 : mo < fi
    · have k2 : decide (mo < fi) = true := decide_eq_true h2
      clear h
      go_enter Try.func7, Try.ntmps7
      go_wp2_with fail
      go_ret2
      exact ⟨rfl, rfl⟩
    · have k2 : decide (mo < fi) = false := decide_eq_false h2
      by_cases h3 : re < 1
      · have k3 : decide (re < 1) = true := decide_eq_true h3
        clear h
        go_enter Try.func7, Try.ntmps7
        go_wp2_with fail
        go_ret2
        exact ⟨rfl, rfl⟩
      · have k3 : decide (re < 1) = false := decide_eq_false h3
        by_cases h4 : 1099511627776 < mo
        · have k4 : decide (1099511627776 < mo) = true := decide_eq_true h4
          have t1 : timeB mo = false := decide_eq_false (by omega)
          clear h
          go_enter Try.func7, Try.ntmps7
          go_wp2_with fail
          go_ret2
          exact ⟨rfl, rfl⟩
        · have k4 : decide (1099511627776 < mo) = false := decide_eq_false h4
          have t1 : timeB mo = true := decide_eq_true ⟨by omega, by omega⟩
          have h5 : 1099511627776 < re := by
            unfold okN at h
            omega
          have k5 : decide (1099511627776 < re) = true := decide_eq_true h5
          have t2 : timeB re = false := decide_eq_false (by omega)
          clear h
          go_enter Try.func7, Try.ntmps7
          go_wp2_with fail
          go_ret2
          exact ⟨rfl, rfl⟩
end Go.Proofs.Ytedombidblhmeaa
