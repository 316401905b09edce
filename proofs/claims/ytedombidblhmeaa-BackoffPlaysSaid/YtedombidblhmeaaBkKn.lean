/-
  What is known: the example of the document.
-/
import Derived.Test.YtedombidblhmeaaBk3
import Derived.Test.YtedombidblhmeaaBkGrp
import Derived.Test.YtedombidblhmeaaTxtL
namespace Go.Proofs.Ytedombidblhmeaa
open Go.RowKit
set_option linter.unusedVariables false

abbrev gG : ByteArray := ⟨#[103]⟩
abbrev gH : ByteArray := ⟨#[104]⟩
/-- The known table with one entry. -/
def KS (w : World) (b m n : Nat) (l u : Int) : Prop := ∃ E cr y, TB w b m 2 6 100 E cr n ∧ E gG = some y ∧ y.l = l ∧ y.u = u ∧ ∀ s, s ≠ gG → E s = none

theorem KS.below {w w' : World} {b m n : Nat} {l u : Int} (h : KS w b m n l u) (hb : Below w.heap.size w w') : KS w' b m n l u := by
  obtain ⟨E, cr, y, hT, h⟩ := h
  exact ⟨E, cr, y, hT.below hb, h⟩
theorem k_first (b m : Nat) (w : World) (h : TB w b m 2 6 100 (fun _ => none) 0 0) :
    Calls Try.prog 9 #[.pointer (some ⟨b, 0, none⟩), .string gG, .int .i64 0] w fun e w' => e = .returned (.int .i64 2) ∧ KS w' b m 2 2 2 ∧ Only [b, m] w w' :=
  (fail_none b m 2 6 100 _ 0 0 gG 0 w h (by omega) (by decide) (by omega) (by omega) rfl).mono fun e w' ⟨he, ht, ho⟩ =>
    ⟨he, ⟨_, _, _, ht, updE_same _ _ _, rfl, rfl, fun s hs => updE_other hs⟩, ho⟩
theorem k_fail (b m n : Nat) (l u now l1 u1 : Int) (w : World) (h : KS w b m n l u) (hn : n ≤ 1000) (h0 : 0 ≤ now) (h1 : now ≤ 1000) (hl : (if 100 ≤ now - u then 2 else min (2 * l) 6) = l1) (hu : max u (now + l1) = u1) :
    Calls Try.prog 9 #[.pointer (some ⟨b, 0, none⟩), .string gG, .int .i64 now] w fun e w' => e = .returned (.int .i64 l1) ∧ KS w' b m (n + 2) l1 u1 ∧ Only [b, m] w w' := by
  obtain ⟨E, cr, y, hT, hE, rfl, rfl, ho⟩ := h
  have e1 : lenF 2 6 100 (some y) now = l1 := hl
  refine (fail_some b m 2 6 100 E cr n gG now y w hT (by omega) (by decide) h0 (by omega) hE).mono ?_
  rintro e w' ⟨he, ht, hw⟩
  refine ⟨by rw [he, e1], ⟨_, _, _, ht, updE_same _ _ _, e1, ?_, fun s hs => by rw [updE_other hs]; exact ho s hs⟩, hw⟩
  show max y.u (now + lenF 2 6 100 (some y) now) = u1
  rw [e1]
  exact hu
theorem KS.may {w : World} {b m n : Nat} {l u : Int} (h : KS w b m n l u) (now : Int) (h0 : 0 ≤ now) (h1 : now ≤ 1000) :
    Calls Try.prog 15 #[.pointer (some ⟨b, 0, none⟩), .string gG, .int .i64 now] w fun e w' => e = .returned (.bool (decide (u ≤ now))) ∧ w' = w := by
  obtain ⟨E, cr, y, hT, hE, rfl, rfl, ho⟩ := h
  refine (may_any b m 2 6 100 E cr n gG now w hT (by decide)).mono ?_
  rintro e w' ⟨he, hw⟩
  refine ⟨?_, hw⟩
  have ht : timeB now = true := decide_eq_true ⟨h0, by omega⟩
  rw [he, hE]
  unfold mayE
  rw [ht, Bool.true_and]
  rfl
theorem KS.may_other {w : World} {b m n : Nat} {l u : Int} (h : KS w b m n l u) :
    Calls Try.prog 15 #[.pointer (some ⟨b, 0, none⟩), .string gH, .int .i64 0] w fun e w' => e = .returned (.bool true) ∧ w' = w := by
  obtain ⟨E, cr, y, hT, hE, rfl, rfl, ho⟩ := h
  refine (may_any b m 2 6 100 E cr n gH 0 w hT (by decide)).mono ?_
  rintro e w' ⟨he, hw⟩
  refine ⟨?_, hw⟩
  rw [he, ho gH (by decide)]
  rfl
theorem KS.until {w : World} {b m n : Nat} {l u : Int} (h : KS w b m n l u) :
    Calls Try.prog 17 #[.pointer (some ⟨b, 0, none⟩), .string gG] w fun e w' => e = .returned (.int .i64 u) ∧ w' = w := by
  obtain ⟨E, cr, y, hT, hE, rfl, rfl, ho⟩ := h
  have h := until_any b m 2 6 100 E cr n gG w hT (by decide)
  rwa [hE] at h
theorem KS.length {w : World} {b m n : Nat} {l u : Int} (h : KS w b m n l u) :
    Calls Try.prog 19 #[.pointer (some ⟨b, 0, none⟩), .string gG] w fun e w' => e = .returned (.int .i64 l) ∧ w' = w := by
  obtain ⟨E, cr, y, hT, hE, rfl, rfl, ho⟩ := h
  have h := length_any b m 2 6 100 E cr n gG w hT (by decide)
  rwa [hE] at h
theorem one_list {l : List ByteArray} {g : ByteArray} (hn : l.Nodup) (hm : ∀ s, s ∈ l ↔ s = g) : l = [g] := by
  match l, hn, hm with
  | [], _, hm => exact absurd ((hm g).2 rfl) (by simp)
  | [x], _, hm => rw [(hm x).1 (by simp)]
  | x :: y :: l, hn, hm =>
    have h1 := (hm x).1 (by simp)
    have h2 := (hm y).1 (by simp)
    rw [h1, h2] at hn
    simp at hn
theorem flat_strs (l : List ByteArray) : l.map Value.string = l.flatMap scs := by
  induction l with
  | nil => rfl
  | cons x l ih => simp [List.flatMap_cons, scs, ih]
theorem KS.groups {w : World} {b m n : Nat} {l u : Int} (h : KS w b m n l u) (hn : n ≤ 1000) :
    Calls Try.prog 22 #[.pointer (some ⟨b, 0, none⟩)] w fun e w' => ∃ a k, e = .returned (.slice a 1 k) ∧ TxtL w' a [gG] ∧ Below w.heap.size w w' := by
  obtain ⟨E, cr, y, hT, hE, rfl, rfl, ho⟩ := h
  refine (groups_any b m 2 6 100 E cr n w hT (by omega)).mono ?_
  rintro e w' ⟨v, ss, rfl, hO, hr, hv, hb⟩
  have e1 : ss = [gG] := one_list hO.nd fun s => by
    rw [hO.mem s]
    by_cases hs : s = gG
    · rw [hs, hE]; simp
    · rw [ho s hs]; simp [hs]
  rw [flat_strs] at hr
  obtain ⟨a, k, rfl, _, hR⟩ := IsL.of_own scs_len (by decide) hr
  subst e1
  exact ⟨a, k, rfl, hR, hb⟩
/-- The known table with no entry. -/
def KZ (w : World) (b m n : Nat) : Prop := ∃ E cr, TB w b m 2 6 100 E cr n ∧ ∀ s, E s = none
theorem KS.fine {w : World} {b m n : Nat} {l u : Int} (h : KS w b m n l u) :
    Calls Try.prog 11 #[.pointer (some ⟨b, 0, none⟩), .string gG] w fun e w' => e = .returned (.tuple #[]) ∧ KZ w' b m n ∧ Only [b, m] w w' := by
  obtain ⟨E, cr, y, hT, hE, rfl, rfl, ho⟩ := h
  refine (fine_any b m 2 6 100 E cr n gG w hT (by decide)).mono ?_
  rintro e w' ⟨he, ht, hw⟩
  refine ⟨he, ⟨_, _, ht, fun s => ?_⟩, hw⟩
  by_cases hs : s = gG
  · rw [hs, updE_same]
  · rw [updE_other hs, ho s hs]
theorem KZ.may {w : World} {b m n : Nat} (h : KZ w b m n) :
    Calls Try.prog 15 #[.pointer (some ⟨b, 0, none⟩), .string gG, .int .i64 0] w fun e w' => e = .returned (.bool true) ∧ w' = w := by
  obtain ⟨E, cr, hT, ho⟩ := h
  refine (may_any b m 2 6 100 E cr n gG 0 w hT (by decide)).mono ?_
  rintro e w' ⟨he, hw⟩
  refine ⟨?_, hw⟩
  rw [he, ho gG]
  rfl
theorem KZ.until {w : World} {b m n : Nat} (h : KZ w b m n) :
    Calls Try.prog 17 #[.pointer (some ⟨b, 0, none⟩), .string gG] w fun e w' => e = .returned (.int .i64 0) ∧ w' = w := by
  obtain ⟨E, cr, hT, ho⟩ := h
  have h := until_any b m 2 6 100 E cr n gG w hT (by decide)
  rwa [ho gG] at h
theorem KZ.groups {w : World} {b m n : Nat} (h : KZ w b m n) (hn : n ≤ 1000) :
    Calls Try.prog 22 #[.pointer (some ⟨b, 0, none⟩)] w fun e w' => e = .returned (.slice none 0 0) ∧ Below w.heap.size w w' := by
  obtain ⟨E, cr, hT, ho⟩ := h
  refine (groups_any b m 2 6 100 E cr n w hT (by omega)).mono ?_
  rintro e w' ⟨v, ss, rfl, hO, hr, hv, hb⟩
  have e1 : ss = [] := List.eq_nil_iff_forall_not_mem.2 fun s hs => by
    have := (hO.mem s).1 hs
    rw [ho s] at this
    cases this
  rw [hv.2 e1]
  exact ⟨rfl, hb⟩
theorem texts_one (a b : Option Addr) (ka kb : Nat) (w : World) (hF : TxtL w a [gG]) (hG : TxtL w b [gG]) :
    Calls Try.prog 21 #[.slice a 1 ka, .slice b 1 kb] w fun e w' => e = .returned (.bool true) ∧ Below w.heap.size w w' :=
  (texts_any a b ka kb [gG] [gG] w hF hG (by decide) (by decide)).mono fun e w' ⟨he, hb⟩ => ⟨by rw [he]; rfl, hb⟩
theorem new_no0 (w : World) : Calls Try.prog 7 #[.int .i64 0, .int .i64 1, .int .i64 1] w fun e w' => e = .returned (.tuple #[.pointer none, .int .i64 1]) ∧ w' = w := by
  go_enter Try.func7, Try.ntmps7
  go_wp2
  go_ret2
  exact ⟨rfl, rfl⟩
set_option maxRecDepth 100000 in
set_option maxHeartbeats 8000000 in
theorem known_any (w : World) : Calls Try.prog 24 #[] w fun e w' => e = .returned (.bool true) ∧ Below w.heap.size w w' := by
  go_enter Try.func24, Try.ntmps24
  go_wp2_with (first
    | (go_at_call 7; (with_reducible refine (new_yes 2 6 100 (by decide) (by decide) (by decide) (by decide) (by decide) w).mono ?_); rintro e w1 ⟨b, m, rfl, hT1, hb1, hm1, hB1⟩; have HT1 := Lib.hid hT1; have HB1 := Lib.hid hB1; clear hT1 hB1)
    | (go_at_call 7; (with_reducible refine (new_no0 _).mono ?_); rintro e w2 ⟨rfl, rfl⟩)
    | (go_at_call 9; (with_reducible refine (k_first b m _ HT1.out).mono ?_); rintro e v2 ⟨rfl, hS, hO⟩; have HS2 := Lib.hid hS; have HB2 := Lib.hid (hO.below HB1.out HB1.out.size (by simp; omega)); clear hS hO)
    | (go_at_call 9; (with_reducible refine (k_fail b m 2 _ _ 2 4 6 _ HS2.out (by decide) (by decide) (by decide) (by decide) (by decide)).mono ?_); rintro e v3 ⟨rfl, hS, hO⟩; have HS3 := Lib.hid hS; have HB3 := Lib.hid (hO.below HB2.out HB2.out.size (by simp; omega)); clear hS hO)
    | (go_at_call 15; (with_reducible refine (HS3.out.may 5 (by decide) (by decide)).mono ?_); rintro e v ⟨rfl, rfl⟩)
    | (go_at_call 15; (with_reducible refine (HS3.out.may 6 (by decide) (by decide)).mono ?_); rintro e v ⟨rfl, rfl⟩)
    | (go_at_call 15; (with_reducible refine (HS3.out.may_other).mono ?_); rintro e v ⟨rfl, rfl⟩)
    | (go_at_call 9; (with_reducible refine (k_fail b m 4 _ _ 6 6 12 _ HS3.out (by decide) (by decide) (by decide) (by decide) (by decide)).mono ?_); rintro e v4 ⟨rfl, hS, hO⟩; have HS4 := Lib.hid hS; have HB4 := Lib.hid (hO.below HB3.out HB3.out.size (by simp; omega)); clear hS hO)
    | (go_at_call 9; (with_reducible refine (k_fail b m 6 _ _ 12 6 18 _ HS4.out (by decide) (by decide) (by decide) (by decide) (by decide)).mono ?_); rintro e v5 ⟨rfl, hS, hO⟩; have HS5 := Lib.hid hS; have HB5 := Lib.hid (hO.below HB4.out HB4.out.size (by simp; omega)); clear hS hO)
    | (go_at_call 9; (with_reducible refine (k_fail b m 8 _ _ 200 2 202 _ HS5.out (by decide) (by decide) (by decide) (by decide) (by decide)).mono ?_); rintro e v6 ⟨rfl, hS, hO⟩; have HS6 := Lib.hid hS; have HB6 := Lib.hid (hO.below HB5.out HB5.out.size (by simp; omega)); clear hS hO)
    | (go_at_call 17; (with_reducible refine (HS6.out.until).mono ?_); rintro e v ⟨rfl, rfl⟩)
    | (go_at_call 19; (with_reducible refine (HS6.out.length).mono ?_); rintro e v ⟨rfl, rfl⟩)
    | (go_at_call 22; (with_reducible refine (HS6.out.groups (by decide)).mono ?_); rintro e v7 ⟨a, k, rfl, hR, hb7⟩; have HR7 := Lib.hid hR; have HB7 := Lib.hid (HB6.out.trans (hb7.mono HB6.out.size)); have HS7 := Lib.hid (HS6.out.below hb7); clear hR hb7)
    | (go_at_call 21; (with_reducible refine (texts_one a _ k _ _ (HR7.out.mono (by (repeat' (first | with_reducible exact Below.refl _ _ | with_reducible assumption | with_reducible refine Below.drew ?_ | with_reducible refine below_drewN' ?_ _ | with_reducible refine Below.alloc ?_ ?_ _ | with_reducible refine Below.setCell ?_ ?_ _ | with_reducible refine below_step (by assumption) ?_ ?_ | omega | (simp; done) | (simp; omega))))) ?_).mono ?_); exact RowsAt.new scs_len _ [gG] _; rintro e v8 ⟨rfl, hb8⟩; have HB8 := Lib.hid ((HB7.out.alloc HB7.out.size _).trans (hb8.mono (HB7.out.alloc HB7.out.size _).size)); have HS8 := Lib.hid ((HS7.out.below (by (repeat' (first | with_reducible exact Below.refl _ _ | with_reducible assumption | with_reducible refine Below.drew ?_ | with_reducible refine below_drewN' ?_ _ | with_reducible refine Below.alloc ?_ ?_ _ | with_reducible refine Below.setCell ?_ ?_ _ | with_reducible refine below_step (by assumption) ?_ ?_ | omega | (simp; done) | (simp; omega))))).below hb8); clear hb8)
    | (go_at_call 11; (with_reducible refine (HS8.out.fine).mono ?_); rintro e v9 ⟨rfl, hZ, hO⟩; have HZ9 := Lib.hid hZ; have HB9 := Lib.hid (hO.below HB8.out HB8.out.size (by simp; omega)); clear hZ hO)
    | (go_at_call 15; (with_reducible refine (HZ9.out.may).mono ?_); rintro e v ⟨rfl, rfl⟩)
    | (go_at_call 17; (with_reducible refine (HZ9.out.until).mono ?_); rintro e v ⟨rfl, rfl⟩)
    | (go_at_call 22; (with_reducible refine (HZ9.out.groups (by decide)).mono ?_); rintro e v10 ⟨rfl, hb⟩; have HB10 := Lib.hid (HB9.out.trans (hb.mono HB9.out.size))))
  go_ret
  exact ⟨rfl, HB10.out⟩
end Go.Proofs.Ytedombidblhmeaa
