/-
  The contracts of Until, Length, May, Fine at a table, and of all at none.
-/
import Derived.Test.YtedombidblhmeaaBk2
namespace Go.Proofs.Ytedombidblhmeaa
open Go.RowKit
set_option linter.unusedVariables false

def untilE (x : Option En) : Int := match x with
  | some y => y.u
  | none => 0
def lengthE (x : Option En) : Int := match x with
  | some y => y.l
  | none => 0
def numE (x : Option En) : Int := match x with
  | some y => y.n
  | none => 0
theorem fld (j : Nat) (x y z : Int) (w : World) : (Instr.field 54 (.agg #[.int .i64 x, .int .i64 y, .int .i64 z]) 0).run Try.prog w = .ok (.int .i64 x) w ∧ (Instr.field 54 (.agg #[.int .i64 x, .int .i64 y, .int .i64 z]) 1).run Try.prog w = .ok (.int .i64 y) w ∧ (Instr.field 54 (.agg #[.int .i64 x, .int .i64 y, .int .i64 z]) 2).run Try.prog w = .ok (.int .i64 z) w :=
  ⟨by kernel_rfl, by kernel_rfl, by kernel_rfl⟩
theorem ent_get (x : Option En) : (x.map ent).getD (.agg #[.int .i64 0, .int .i64 0, .int .i64 0]) = .agg #[.int .i64 (lengthE x), .int .i64 (untilE x), .int .i64 (numE x)] := by
  cases x <;> rfl
set_option maxRecDepth 100000 in
theorem until_any (b m : Nat) (fi mo re : Int) (E : ByteArray → Option En) (cr : Int) (n : Nat) (g : ByteArray) (w : World) (h : TB w b m fi mo re E cr n) (hg : g.size ≤ maxLen) :
    Calls Try.prog 17 #[.pointer (some ⟨b, 0, none⟩), .string g] w fun e w' => e = .returned (.int .i64 (untilE (E g))) ∧ w' = w := by
  obtain ⟨c0, c1, c2, c3, c4, c5, f5⟩ := h.cells
  have Hm := Lib.hid h.mp
  have Hl := Lib.hid (ent_get (E g))
  have i0 := fun x y z W => (fld 0 x y z W).1
  have i1 := fun x y z W => (fld 0 x y z W).2.1
  clear h
  go_enter Try.func17, Try.ntmps17
  go_wp2_with (first
    | (go_at_call 26; (with_reducible refine (made_yes b _ c0).mono ?_); rintro e w1 ⟨rfl, rfl⟩)
    | (at_lookup; refine at_look rfl _ _ 49 9 54 rfl law_str Try.underlying49 Try.underlying9 _ (zero_ent _) Hm.out rfl _ rfl hg ?_; rw [Hl.out]))
  go_ret
  exact ⟨rfl, rfl⟩
set_option maxRecDepth 100000 in
theorem length_any (b m : Nat) (fi mo re : Int) (E : ByteArray → Option En) (cr : Int) (n : Nat) (g : ByteArray) (w : World) (h : TB w b m fi mo re E cr n) (hg : g.size ≤ maxLen) :
    Calls Try.prog 19 #[.pointer (some ⟨b, 0, none⟩), .string g] w fun e w' => e = .returned (.int .i64 (lengthE (E g))) ∧ w' = w := by
  obtain ⟨c0, c1, c2, c3, c4, c5, f5⟩ := h.cells
  have Hm := Lib.hid h.mp
  have Hl := Lib.hid (ent_get (E g))
  have i0 := fun x y z W => (fld 0 x y z W).1
  have i1 := fun x y z W => (fld 0 x y z W).2.1
  clear h
  go_enter Try.func19, Try.ntmps19
  go_wp2_with (first
    | (go_at_call 26; (with_reducible refine (made_yes b _ c0).mono ?_); rintro e w1 ⟨rfl, rfl⟩)
    | (at_lookup; refine at_look rfl _ _ 49 9 54 rfl law_str Try.underlying49 Try.underlying9 _ (zero_ent _) Hm.out rfl _ rfl hg ?_; rw [Hl.out]))
  go_ret
  exact ⟨rfl, rfl⟩
def mayE (x : Option En) (now : Int) : Bool := timeB now && decide (untilE x ≤ now)
set_option maxRecDepth 100000 in
theorem may_any (b m : Nat) (fi mo re : Int) (E : ByteArray → Option En) (cr : Int) (n : Nat) (g : ByteArray) (now : Int) (w : World) (h : TB w b m fi mo re E cr n) (hg : g.size ≤ maxLen) :
    Calls Try.prog 15 #[.pointer (some ⟨b, 0, none⟩), .string g, .int .i64 now] w fun e w' => e = .returned (.bool (mayE (E g) now)) ∧ w' = w := by
  obtain ⟨c0, c1, c2, c3, c4, c5, f5⟩ := h.cells
  have Hm := Lib.hid h.mp
  have Hl := Lib.hid (ent_get (E g))
  have i0 := fun x y z W => (fld 0 x y z W).1
  have i1 := fun x y z W => (fld 0 x y z W).2.1
  obtain ⟨u, hu⟩ : ∃ u, untilE (E g) = u := ⟨_, rfl⟩
  unfold mayE
  rw [hu] at Hl ⊢
  clear h hu
  cases ht : timeB now
  · have HT := Lib.hid ht
    clear ht
    go_enter Try.func15, Try.ntmps15
    go_wp2_with (first
      | (go_at_call 26; (with_reducible refine (made_yes b _ c0).mono ?_); rintro e w1 ⟨rfl, rfl⟩)
      | (go_at_call 27; (with_reducible refine (time_any now _).mono ?_); rw [HT.out]; rintro e w2 ⟨rfl, rfl⟩))
    go_ret
    exact ⟨rfl, rfl⟩
  · have HT := Lib.hid ht
    clear ht
    go_enter Try.func15, Try.ntmps15
    go_wp2_with (first
      | (go_at_call 26; (with_reducible refine (made_yes b _ c0).mono ?_); rintro e w1 ⟨rfl, rfl⟩)
      | (go_at_call 27; (with_reducible refine (time_any now _).mono ?_); rw [HT.out]; rintro e w2 ⟨rfl, rfl⟩)
      | (at_lookup; refine at_look rfl _ _ 49 9 54 rfl law_str Try.underlying49 Try.underlying9 _ (zero_ent _) Hm.out rfl _ rfl hg ?_; rw [Hl.out]))
    go_ret
    exact ⟨rfl, rfl⟩
set_option maxRecDepth 100000 in
theorem fine_any (b m : Nat) (fi mo re : Int) (E : ByteArray → Option En) (cr : Int) (n : Nat) (g : ByteArray) (w : World) (h : TB w b m fi mo re E cr n) (hg : g.size ≤ maxLen) :
    Calls Try.prog 11 #[.pointer (some ⟨b, 0, none⟩), .string g] w fun e w' => e = .returned (.tuple #[]) ∧ TB w' b m fi mo re (updE E g none) cr n ∧ Only [b, m] w w' := by
  obtain ⟨c0, c1, c2, c3, c4, c5, f5⟩ := h.cells
  have Hh := Lib.hid h
  have hne := h.ne
  clear h
  go_enter Try.func11, Try.ntmps11
  go_wp2_with (first
    | (go_at_call 26; (with_reducible refine (made_yes b _ c0).mono ?_); rintro e w1 ⟨rfl, rfl⟩)
    | (at_delete; refine at_del rfl _ _ 49 9 54 rfl law_str Try.underlying49 Try.underlying9 Hh.out.mp rfl _ rfl hg ?_; intro w7 hm7 ht7; have HM7 := Lib.hid hm7; have HG7 := Lib.hid ht7.grown; clear hm7 ht7))
  go_end0
  exact ⟨rfl, ⟨Hh.out.row.same (HG7.out.block b Hh.out.row.lt (fun e => hne (Option.some.inj e))), HM7.out.eq (upd_map E g none), (fun s x hx => by
    by_cases hs : s = g
    · rw [hs, updE_same] at hx
      cases hx
    · rw [updE_other hs] at hx
      exact Hh.out.ok s x hx), Hh.out.p1, Hh.out.p2, Hh.out.p3, Hh.out.p4, Hh.out.p5, Hh.out.c0, Hh.out.c1⟩, (Only.refl _ _).grown HG7.out (fun k e => .inl (by cases e; simp))⟩

set_option maxRecDepth 100000 in
theorem fail_off (b m : Nat) (fi mo re : Int) (E : ByteArray → Option En) (cr : Int) (n : Nat) (g : ByteArray) (now : Int) (w : World) (h : TB w b m fi mo re E cr n) (ht : timeB now = false) :
    Calls Try.prog 9 #[.pointer (some ⟨b, 0, none⟩), .string g, .int .i64 now] w fun e w' => e = .returned (.int .i64 0) ∧ w' = w := by
  obtain ⟨c0, c1, c2, c3, c4, c5, f5⟩ := h.cells
  have HT := Lib.hid ht
  clear h ht
  go_enter Try.func9, Try.ntmps9
  go_wp2_with (first
    | (go_at_call 26; (with_reducible refine (made_yes b _ c0).mono ?_); rintro e w1 ⟨rfl, rfl⟩)
    | (go_at_call 27; (with_reducible refine (time_any now _).mono ?_); rw [HT.out]; rintro e w2 ⟨rfl, rfl⟩))
  go_ret
  exact ⟨rfl, rfl⟩
def failV (fi mo re : Int) (x : Option En) (now : Int) : Int := if timeB now then lenF fi mo re x now else 0
/-- Two entries that are alike but for their numbers. -/
def SameE (x y : Option En) : Prop := untilE x = untilE y ∧ lengthE x = lengthE y ∧ (x = none ↔ y = none)
def failE (fi mo re cr : Int) (x : Option En) (now : Int) : Option En := if timeB now then some (newF fi mo re cr x now) else x
theorem fail_any (b m : Nat) (fi mo re : Int) (E : ByteArray → Option En) (cr : Int) (n : Nat) (g : ByteArray) (now : Int) (w : World) (h : TB w b m fi mo re E cr n) (hn : n ≤ 1000000) (hg : g.size ≤ maxLen) :
    Calls Try.prog 9 #[.pointer (some ⟨b, 0, none⟩), .string g, .int .i64 now] w fun e w' => e = .returned (.int .i64 (failV fi mo re (E g) now)) ∧ (∃ E' cr', TB w' b m fi mo re E' cr' (n + 2) ∧ E' g = failE fi mo re cr (E g) now ∧ ∀ s, s ≠ g → E' s = E s) ∧ Only [b, m] w w' := by
  unfold failV failE
  cases ht : timeB now
  · refine (fail_off b m fi mo re E cr n g now w h ht).mono ?_
    rintro e w' ⟨rfl, rfl⟩
    exact ⟨rfl, ⟨E, cr, ⟨h.row, h.mp.mono (by omega), h.ok, h.p1, h.p2, h.p3, h.p4, h.p5, h.c0, by have := h.c1; omega⟩, rfl, fun s _ => rfl⟩, Only.refl _ _⟩
  · have h0 := of_decide_eq_true ht
    cases hE : E g with
    | none =>
      refine (fail_none b m fi mo re E cr n g now w h hn hg h0.1 h0.2 hE).mono ?_
      rintro e w' ⟨rfl, hT, hO⟩
      exact ⟨rfl, ⟨_, _, hT, updE_same _ _ _, fun s hs => updE_other hs⟩, hO⟩
    | some y =>
      refine (fail_some b m fi mo re E cr n g now y w h hn hg h0.1 h0.2 hE).mono ?_
      rintro e w' ⟨rfl, hT, hO⟩
      exact ⟨rfl, ⟨_, _, hT, updE_same _ _ _, fun s hs => updE_other hs⟩, hO⟩
theorem same_fail {x y : Option En} (fi mo re cr dr : Int) (now : Int) (h : SameE x y) : failV fi mo re x now = failV fi mo re y now ∧ SameE (failE fi mo re cr x now) (failE fi mo re dr y now) := by
  obtain ⟨h1, h2, h3⟩ := h
  unfold failV failE
  cases timeB now
  · exact ⟨rfl, h1, h2, h3⟩
  · cases x with
    | none =>
      obtain rfl := h3.1 rfl
      exact ⟨rfl, rfl, rfl, by simp⟩
    | some x =>
      cases y with
      | none => exact absurd (h3.2 rfl) (by simp)
      | some y =>
        have e1 : x.u = y.u := h1
        have e2 : x.l = y.l := h2
        have e3 : lenF fi mo re (some x) now = lenF fi mo re (some y) now := by unfold lenF; simp only [e1, e2]
        refine ⟨e3, ?_, ?_, by simp⟩
        · show max x.u (now + lenF fi mo re (some x) now) = max y.u (now + lenF fi mo re (some y) now)
          rw [e1, e3]
        · exact e3
end Go.Proofs.Ytedombidblhmeaa
