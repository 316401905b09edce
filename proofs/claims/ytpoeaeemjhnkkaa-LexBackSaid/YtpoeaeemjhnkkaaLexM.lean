/-
  What must come of fixed texts (known).
-/
import Derived.Test.YtpoeaeemjhnkkaaLexK
import Derived.Deep.Cut
namespace Go.Proofs.Ytpoeaeemjhnkkaa
open Go.RowKit
set_option linter.unusedVariables false
set_option linter.unusedSimpArgs false

def kt1 : List Tk := [⟨1, ⟨#[40]⟩, 0, 1, 1⟩, ⟨3, ⟨#[112, 111, 100]⟩, 1, 1, 2⟩, ⟨4, ⟨#[97, 32, 98]⟩, 5, 1, 6⟩, ⟨2, ⟨#[41]⟩, 10, 1, 11⟩]
def kt3 : List Tk := [⟨3, ⟨#[97]⟩, 0, 1, 1⟩, ⟨3, ⟨#[195, 169, 98]⟩, 3, 2, 2⟩, ⟨3, ⟨#[99]⟩, 7, 2, 5⟩]
theorem kn1_scan : scanB ⟨#[40, 112, 111, 100, 32, 34, 97, 32, 98, 34, 41, 32, 59, 32, 110, 111]⟩ = (kt1, 0, 0) := by kernel_rfl
theorem kn2_scan : scanB ⟨#[120, 32, 34, 97]⟩ = ([], 3, 2) := by kernel_rfl
theorem kn3_scan : scanB ⟨#[97, 10, 32, 195, 169, 98, 32, 99]⟩ = (kt3, 0, 0) := by kernel_rfl
/-- Tokens of its own, in plain cells. -/
theorem own_tks {w : World} {B n : Nat} {v : Value} {l : List Tk} (h : w.ownsRow B 28 5 v l.length (l.flatMap tkrow)) (h0 : 0 < l.length) : ∃ g k, v = .slice (some ⟨g, 0, none⟩) l.length k ∧ B ≤ g ∧ g < w.heap.size ∧ TkL w (some ⟨g, 0, none⟩) l := by
  obtain ⟨a, k, e, hc⟩ := own_rows tkrow_len h (by decide)
  obtain ⟨g, e1, h1, h2, h3⟩ := hc h0
  subst e1
  exact ⟨g, k, e, h1, h2, fun _ => ⟨g, 0, rfl, h2, h3⟩⟩
theorem ks1 (w : World) : Calls Try.prog 18 #[.string ⟨#[40, 112, 111, 100, 32, 34, 97, 32, 98, 34, 41, 32, 59, 32, 110, 111]⟩] w fun e w' => (∃ g k, e = .returned (.tuple #[.slice (some ⟨g, 0, none⟩) 4 k, .int .i64 0, .int .i64 0]) ∧ g < w'.heap.size ∧ TkL w' (some ⟨g, 0, none⟩) kt1) ∧ Below w.heap.size w w' := by
  refine (scan_any _ w).mono ?_
  rintro e w' ⟨⟨v, he, ho⟩, hb⟩
  rw [kn1_scan] at he ho
  obtain ⟨g, k, e1, _, h2, h3⟩ := own_tks (n := 0) ho (by decide)
  rw [e1] at he
  exact ⟨⟨g, k, he, h2, h3⟩, hb⟩
theorem ks2 (w : World) : Calls Try.prog 18 #[.string ⟨#[120, 32, 34, 97]⟩] w fun e w' => (∃ v, e = .returned (.tuple #[v, .int .i64 3, .int .i64 2])) ∧ Below w.heap.size w w' := by
  refine (scan_any _ w).mono ?_
  rintro e w' ⟨⟨v, he, ho⟩, hb⟩
  rw [kn2_scan] at he
  exact ⟨⟨v, he⟩, hb⟩
theorem ks3 (w : World) : Calls Try.prog 18 #[.string ⟨#[97, 10, 32, 195, 169, 98, 32, 99]⟩] w fun e w' => (∃ g k, e = .returned (.tuple #[.slice (some ⟨g, 0, none⟩) 3 k, .int .i64 0, .int .i64 0]) ∧ g < w'.heap.size ∧ TkL w' (some ⟨g, 0, none⟩) kt3) ∧ Below w.heap.size w w' := by
  refine (scan_any _ w).mono ?_
  rintro e w' ⟨⟨v, he, ho⟩, hb⟩
  rw [kn3_scan] at he ho
  obtain ⟨g, k, e1, _, h2, h3⟩ := own_tks (n := 0) ho (by decide)
  rw [e1] at he
  exact ⟨⟨g, k, he, h2, h3⟩, hb⟩
theorem tk_at {w : World} {g : Nat} {l : List Tk} {i : Nat} {t : Tk} (h : TkL w (some ⟨g, 0, none⟩) l) (hi : l[i]? = some t) : ∀ r, r < 5 → w.cell? ⟨g, i * 5 + r, none⟩ = (tkrow t)[r]? := by
  obtain ⟨b, o, e, _, hc⟩ := h (by have := (List.getElem?_eq_some_iff.1 hi).1; omega)
  obtain ⟨rfl, rfl⟩ : b = g ∧ o = 0 := by
    injection e with e
    injection e with e1 e2
    exact ⟨e1.symm, e2.symm⟩
  intro r hr
  have := hc i t hi r hr
  rw [Nat.zero_add] at this
  exact this
theorem kw1 (w : World) : Calls Try.prog 12 #[.string ⟨#[120, 45, 49]⟩] w fun e w' => e = .returned (.bool true) ∧ Below w.heap.size w w' := by
  have h := word_any ⟨#[120, 45, 49]⟩ w
  rw [show wordB ⟨#[120, 45, 49]⟩ = true by kernel_rfl] at h
  exact h
theorem kw2 (w : World) : Calls Try.prog 12 #[.string ⟨#[97, 32, 98]⟩] w fun e w' => e = .returned (.bool false) ∧ Below w.heap.size w w' := by
  have h := word_any ⟨#[97, 32, 98]⟩ w
  rw [show wordB ⟨#[97, 32, 98]⟩ = false by kernel_rfl] at h
  exact h
theorem kr1 (w : World) : Calls Try.prog 14 #[.string ⟨#[195, 169, 97]⟩] w fun e w' => e = .returned (.int .i64 2) ∧ Below w.heap.size w w' := by
  have h := runes_any ⟨#[195, 169, 97]⟩ (by decide) w
  rw [show runesB ⟨#[195, 169, 97]⟩ = 2 by kernel_rfl] at h
  exact h
theorem kr2 (w : World) : Calls Try.prog 14 #[.string ⟨#[255]⟩] w fun e w' => e = .returned (.int .i64 (-1)) ∧ Below w.heap.size w w' := by
  have h := runes_any ⟨#[255]⟩ (by decide) w
  rw [show runesB ⟨#[255]⟩ = -1 by kernel_rfl] at h
  exact h
theorem kq1 (w : World) : Calls Try.prog 10 #[.string ⟨#[97, 34]⟩] w fun e w' => e = .returned (.string ⟨#[34, 97, 92, 34, 34]⟩) ∧ Below w.heap.size w w' := by
  have h := quote_any ⟨#[97, 34]⟩ (by decide) w
  rw [show quoteB ⟨#[97, 34]⟩ = ⟨#[34, 97, 92, 34, 34]⟩ by kernel_rfl] at h
  exact h
theorem kh1 (g k : Nat) (w : World) (hF : TkL w (some ⟨g, 0, none⟩) kt1) : Calls Try.prog 16 #[.slice (some ⟨g, 0, none⟩) 4 k] w fun e w' => e = .returned (.string ⟨#[40, 112, 111, 100, 32, 34, 97, 32, 98, 34, 41]⟩) ∧ Below w.heap.size w w' := by
  have h := show_any (some ⟨g, 0, none⟩) k kt1 w hF (by decide) (by decide)
  rw [show toB (shF none kt1) = ⟨#[40, 112, 111, 100, 32, 34, 97, 32, 98, 34, 41]⟩ by kernel_rfl] at h
  exact h
set_option maxRecDepth 100000 in
set_option maxHeartbeats 8000000 in
theorem known_any (w : World) : Calls Try.prog 9 #[] w fun e w' => e = .returned (.bool true) ∧ Below w.heap.size w w' := by
  go_enter Try.func9, Try.ntmps9
  go_upto_region 3 with (first
    | (go_at_call 18; (with_reducible refine (ks1 _).mono ?_); rintro e w1 ⟨⟨g1, k1, rfl, hg1, hT1⟩, hb1⟩; have HG1 := Lib.hid hg1; have HT1 := Lib.hid hT1; have HB1 := Lib.hid hb1; clear hg1 hT1 hb1)
    | (go_at_call 18; (with_reducible refine (ks2 _).mono ?_); rintro e w2 ⟨⟨v2, rfl⟩, hb2⟩; have HB2 := Lib.hid (HB1.out.trans (hb2.mono HB1.out.size)); have HG2 := Lib.hid (Nat.lt_of_lt_of_le HG1.out hb2.size); have HT2 := Lib.hid (HT1.out.mono hb2); clear hb2))
  go_step
  (try dsimp only [List.append])
  go_wp2_with (first
    | (go_at_call 18; (with_reducible refine (ks3 _).mono ?_); rintro e w3 ⟨⟨g3, k3, rfl, hg3, hT3⟩, hb3⟩; have HB3 := Lib.hid (HB2.out.trans (hb3.mono HB2.out.size)); have HG3 := Lib.hid (Nat.lt_of_lt_of_le HG2.out hb3.size); have HT3 := Lib.hid (HT2.out.mono hb3); have a0 := tk_at HT3.out (i := 0) rfl 0 (by decide); have a1 := tk_at HT3.out (i := 2) rfl 1 (by decide); have a4 := tk_at HT3.out (i := 2) rfl 4 (by decide); have b3 := tk_at hT3 (i := 2) rfl 3 (by decide); have b4 := tk_at hT3 (i := 2) rfl 4 (by decide); dsimp only [tkrow, List.getElem?_cons_zero, List.getElem?_cons_succ] at a0 a1 a4 b3 b4; clear hb3 hT3)
    | (go_at_call 12; (with_reducible refine (kw1 _).mono ?_); rintro e w4 ⟨rfl, hb4⟩; have HB4 := Lib.hid (HB3.out.trans (hb4.mono HB3.out.size)); have HT4 := Lib.hid (HT3.out.mono hb4); clear hb4)
    | (go_at_call 12; (with_reducible refine (kw2 _).mono ?_); rintro e w5 ⟨rfl, hb5⟩; have HB5 := Lib.hid (HB4.out.trans (hb5.mono HB4.out.size)); have HT5 := Lib.hid (HT4.out.mono hb5); clear hb5)
    | (go_at_call 14; (with_reducible refine (kr1 _).mono ?_); rintro e w6 ⟨rfl, hb6⟩; have HB6 := Lib.hid (HB5.out.trans (hb6.mono HB5.out.size)); have HT6 := Lib.hid (HT5.out.mono hb6); clear hb6)
    | (go_at_call 14; (with_reducible refine (kr2 _).mono ?_); rintro e w7 ⟨rfl, hb7⟩; have HB7 := Lib.hid (HB6.out.trans (hb7.mono HB6.out.size)); have HT7 := Lib.hid (HT6.out.mono hb7); clear hb7)
    | (go_at_call 10; (with_reducible refine (kq1 _).mono ?_); rintro e w8 ⟨rfl, hb8⟩; have HB8 := Lib.hid (HB7.out.trans (hb8.mono HB7.out.size)); have HT8 := Lib.hid (HT7.out.mono hb8); clear hb8)
    | (go_at_call 16; (with_reducible refine (kh1 g1 k1 _ HT8.out).mono ?_); rintro e w9 ⟨rfl, hb9⟩; have HB9 := Lib.hid (HB8.out.trans (hb9.mono HB8.out.size)); clear hb9))
  go_ret
  exact ⟨rfl, HB9.out⟩
end Go.Proofs.Ytpoeaeemjhnkkaa
