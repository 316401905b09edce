/-
  What must come of fixed texts (known).
-/
import Derived.Test.YtlndfognkkobaaaTrQ
import Derived.Test.YtlndfognkkobaaaTrR
import Derived.Deep.Cut
namespace Go.Proofs.Ytlndfognkkobaaa
open Go.RowKit
set_option linter.unusedVariables false
set_option linter.unusedSimpArgs false

def kf1 : Fo := .cons ⟨5, ⟨#[]⟩, 3, 0⟩ (.cons ⟨3, ⟨#[97]⟩, 0, 1⟩ .nil (.cons ⟨5, ⟨#[]⟩, 1, 3⟩ (.cons ⟨3, ⟨#[98]⟩, 0, 4⟩ .nil .nil) (.cons ⟨4, ⟨#[99]⟩, 0, 7⟩ .nil .nil))) .nil
def kf : Fo := kf1.app (.cons ⟨3, ⟨#[100]⟩, 0, 12⟩ .nil .nil)
theorem kf_wf : kf.Wf := ⟨rfl, ⟨rfl, trivial, ⟨rfl, ⟨rfl, trivial, trivial⟩, ⟨rfl, trivial, trivial⟩⟩⟩, ⟨rfl, trivial, trivial⟩⟩
theorem kp1 : parseB ⟨#[40, 97, 32, 40, 98, 41, 32, 34, 99, 34, 41, 32, 100]⟩ = (kf.flat, 0, 0) := by kernel_rfl
theorem kp2 : parseB ⟨#[40, 97]⟩ = ([], 5, 0) := by kernel_rfl
theorem kp3 : parseB ⟨#[97, 41]⟩ = ([], 6, 1) := by kernel_rfl
theorem kt1 (w : World) : Calls Try.prog 20 #[.string ⟨#[40, 97, 32, 40, 98, 41, 32, 34, 99, 34, 41, 32, 100]⟩] w fun e w' => (∃ g k, e = .returned (.tuple #[.slice (some ⟨g, 0, none⟩) 6 k, .int .i64 0, .int .i64 0]) ∧ g < w'.heap.size ∧ NdL w' (some ⟨g, 0, none⟩) kf.flat) ∧ Below w.heap.size w w' := by
  refine (parse_any _ w).mono ?_
  rintro e w' ⟨⟨v, he, ho⟩, hb⟩
  rw [kp1] at he ho
  obtain ⟨a, k, e1, _, h3⟩ := own_nds ho
  obtain ⟨b, o, rfl, hb2, hc⟩ := h3 (by decide)
  obtain ⟨sp, cap, e2, hc2⟩ := own_rows ndrow_len ho (by decide)
  obtain ⟨b2, rfl, _, hb3, _⟩ := hc2 (by decide)
  rw [e1] at e2
  injection e2 with e2 _ _
  injection e2 with e2
  injection e2 with e3 e4 _
  subst e3
  subst e4
  rw [e1] at he
  exact ⟨⟨b, k, he, hb2, h3⟩, hb⟩
theorem kt2 (w : World) : Calls Try.prog 20 #[.string ⟨#[40, 97]⟩] w fun e w' => (∃ v, e = .returned (.tuple #[v, .int .i64 5, .int .i64 0])) ∧ Below w.heap.size w w' := by
  refine (parse_any _ w).mono ?_
  rintro e w' ⟨⟨v, he, ho⟩, hb⟩
  rw [kp2] at he
  exact ⟨⟨v, he⟩, hb⟩
theorem kt3 (w : World) : Calls Try.prog 20 #[.string ⟨#[97, 41]⟩] w fun e w' => (∃ v, e = .returned (.tuple #[v, .int .i64 6, .int .i64 1])) ∧ Below w.heap.size w w' := by
  refine (parse_any _ w).mono ?_
  rintro e w' ⟨⟨v, he, ho⟩, hb⟩
  rw [kp3] at he
  exact ⟨⟨v, he⟩, hb⟩
theorem ktx : ∀ y ∈ kf.flat, y.tx.size ≤ 30000 := by decide
theorem kt4 (g k : Nat) (w : World) (hF : NdL w (some ⟨g, 0, none⟩) kf.flat) : Calls Try.prog 13 #[.slice (some ⟨g, 0, none⟩) 6 k, .int .i64 0] w fun e w' => e = .returned (.int .i64 5) ∧ Below w.heap.size w w' := by
  have h := end_any (some ⟨g, 0, none⟩) k kf.flat 0 w hF (by decide)
  rw [show endB kf.flat 0 = 5 by kernel_rfl] at h
  exact h
theorem kt5 (g k : Nat) (w : World) (hF : NdL w (some ⟨g, 0, none⟩) kf.flat) : Calls Try.prog 16 #[.slice (some ⟨g, 0, none⟩) 6 k, .int .i64 0] w fun e w' => (∃ a c, e = .returned (.slice a 3 c) ∧ IntL w' a [1, 2, 4]) ∧ Below w.heap.size w w' := by
  refine (kids_yes (some ⟨g, 0, none⟩) k kf.flat [] ⟨5, ⟨#[]⟩, 3, 0⟩ (.cons ⟨3, ⟨#[97]⟩, 0, 1⟩ .nil (.cons ⟨5, ⟨#[]⟩, 1, 3⟩ (.cons ⟨3, ⟨#[98]⟩, 0, 4⟩ .nil .nil) (.cons ⟨4, ⟨#[99]⟩, 0, 7⟩ .nil .nil))) [⟨3, ⟨#[100]⟩, 0, 12⟩] w hF (by decide) rfl ⟨rfl, ⟨rfl, trivial, ⟨rfl, ⟨rfl, trivial, trivial⟩, ⟨rfl, trivial, trivial⟩⟩⟩, trivial⟩).mono ?_
  rintro e w' ⟨⟨v, he, ho⟩, hb⟩
  obtain ⟨a, c, e1, _, h3⟩ := own_ints ho
  exact ⟨⟨a, c, by rw [he, e1]; rfl, h3⟩, hb⟩
theorem kt6 (g k : Nat) (w : World) (hF : NdL w (some ⟨g, 0, none⟩) kf.flat) : Calls Try.prog 18 #[.slice (some ⟨g, 0, none⟩) 6 k] w fun e w' => (∃ a c, e = .returned (.slice a 2 c) ∧ IntL w' a [0, 5]) ∧ Below w.heap.size w w' := by
  refine (tops_any (some ⟨g, 0, none⟩) k kf.flat kf [] w hF (by decide) rfl kf_wf (.inl rfl)).mono ?_
  rintro e w' ⟨⟨v, he, ho⟩, hb⟩
  rw [if_pos rfl] at ho
  obtain ⟨a, c, e1, _, h3⟩ := own_ints ho
  exact ⟨⟨a, c, by rw [he, e1]; rfl, h3⟩, hb⟩
theorem kck : checkI kf.flat kf [] = 0 := by kernel_rfl
theorem kt7 (g k : Nat) (w : World) (hF : NdL w (some ⟨g, 0, none⟩) kf.flat) : Calls Try.prog 11 #[.slice (some ⟨g, 0, none⟩) 6 k] w fun e w' => e = .returned (.string ⟨#[40, 97, 32, 40, 98, 41, 32, 34, 99, 34, 41, 10, 100, 10]⟩) ∧ Below w.heap.size w w' := by
  have h := Show_any (some ⟨g, 0, none⟩) k kf.flat kf [] w hF (by decide) ktx rfl kf_wf (.inl rfl) (by rw [show (topsL kf).length = 14 by kernel_rfl]; decide)
  rw [if_pos kck, show toB (topsL kf) = ⟨#[40, 97, 32, 40, 98, 41, 32, 34, 99, 34, 41, 10, 100, 10]⟩ by kernel_rfl] at h
  exact h
theorem kt8 (g k : Nat) (w : World) (hF : NdL w (some ⟨g, 0, none⟩) kf.flat) : Calls Try.prog 9 #[.slice (some ⟨g, 0, none⟩) 6 k] w fun e w' => e = .returned (.int .i64 0) ∧ Below w.heap.size w w' := by
  have h := check_any (some ⟨g, 0, none⟩) k kf.flat kf [] w hF (by decide) ktx rfl kf_wf (.inl rfl)
  rw [kck] at h
  exact h
theorem new_ints (w : World) (l : List Nat) (cs : Array Value) (h : cs.toList = l.flatMap intE) : IntL (w.alloc (.cells cs 3)) (some ⟨w.heap.size, 0, none⟩) l := fun h0 => by
  refine ⟨w.heap.size, 0, rfl, by simp, fun i x hx r hr => ?_⟩
  obtain rfl : r = 0 := by omega
  have h1 : (w.alloc (.cells cs 3)).cell? ⟨w.heap.size, 0 + i * 1 + 0, none⟩ = cs[i]? := by
    rw [World.cell?_alloc_at _ _ _ _ rfl]
    simp
  rw [h1, ← Array.getElem?_toList, h]
  have := rows_get intE 1 intE_len l i 0 x hx (by decide)
  rw [Nat.mul_one, Nat.add_zero] at this
  exact this
theorem ints_at (l : List Nat) (n : Nat) (hn : l.length = n) (a : Option Addr) (ka : Nat) (b : Option Addr) (kb : Nat) (w : World) (hF : IntL w a l) (hG : IntL w b l) (hl : n ≤ 1000000) :
    Calls Try.prog 15 #[.slice a n ka, .slice b n kb] w fun e w' => e = .returned (.bool true) ∧ Below w.heap.size w w' := by
  subst hn
  exact ints_any a ka l b kb w hF hG hl
set_option maxRecDepth 100000 in
set_option maxHeartbeats 8000000 in
theorem known_any (w : World) : Calls Try.prog 8 #[] w fun e w' => e = .returned (.bool true) ∧ Below w.heap.size w w' := by
  go_enter Try.func8, Try.ntmps8
  go_upto_region 4 with (first
    | (go_at_call 20; (with_reducible refine (kt1 _).mono ?_); rintro e w1 ⟨⟨g1, k1, rfl, hg1, hT1⟩, hb1⟩; have HG1 := Lib.hid hg1; have HT1 := Lib.hid hT1; have HB1 := Lib.hid hb1; clear hg1 hT1 hb1)
    | (go_at_call 20; (with_reducible refine (kt2 _).mono ?_); rintro e w2 ⟨⟨v2, rfl⟩, hb2⟩; have HB2 := Lib.hid (HB1.out.trans (hb2.mono HB1.out.size)); have HG2 := Lib.hid (Nat.lt_of_lt_of_le HG1.out hb2.size); have HT2 := Lib.hid (HT1.out.mono hb2); clear hb2)
    | (go_at_call 20; (with_reducible refine (kt3 _).mono ?_); rintro e w3 ⟨⟨v3, rfl⟩, hb3⟩; have HB3 := Lib.hid (HB2.out.trans (hb3.mono HB2.out.size)); have HG3 := Lib.hid (Nat.lt_of_lt_of_le HG2.out hb3.size); have HT3 := Lib.hid (HT2.out.mono hb3); clear hb3))
  have c0 := HT3.out (by decide)
  obtain ⟨b9, o9, e9, _, hc9⟩ := c0
  injection e9 with e9
  injection e9 with e9 e8 _
  subst e9
  subst e8
  have a0 := hc9 0 ⟨5, ⟨#[]⟩, 3, 0⟩ rfl 2 (by decide)
  dsimp only [ndrow, List.getElem?_cons_zero, List.getElem?_cons_succ] at a0
  have hg9 := HG3.out
  clear hc9
  go_step
  (try dsimp only [List.append])
  go_wp2_with (first
    | (go_at_call 13; (with_reducible refine (kt4 g1 k1 _ HT3.out).mono ?_); rintro e w4 ⟨rfl, hb4⟩; have HB4 := Lib.hid (HB3.out.trans (hb4.mono HB3.out.size)); have HT4 := Lib.hid (HT3.out.mono hb4); clear hb4)
    | (go_at_call 16; (with_reducible refine (kt5 g1 k1 _ HT4.out).mono ?_); rintro e w5 ⟨⟨a5, k5, rfl, hI5⟩, hb5⟩; have HB5 := Lib.hid (HB4.out.trans (hb5.mono HB4.out.size)); have HT5 := Lib.hid (HT4.out.mono hb5); have HI5 := Lib.hid hI5; clear hb5 hI5)
    | (go_at_call 15; (with_reducible refine (ints_at [1, 2, 4] 3 rfl a5 k5 _ _ _ (HI5.out.mono ((Below.refl _ _).alloc (Nat.le_refl _) _)) (new_ints _ _ #[.int .i64 1, .int .i64 2, .int .i64 4] rfl) (by decide)).mono ?_); rintro e w6 ⟨rfl, hb6⟩; have HB6 := Lib.hid ((HB5.out.alloc HB5.out.size _).trans (hb6.mono (by have := HB5.out.size; simp; omega))); have HT6 := Lib.hid ((HT5.out.mono ((Below.refl _ _).alloc (Nat.le_refl _) _)).mono hb6); clear hb6)
    | (go_at_call 18; (with_reducible refine (kt6 g1 k1 _ HT6.out).mono ?_); rintro e w7 ⟨⟨a7, k7, rfl, hI7⟩, hb7⟩; have HB7 := Lib.hid (HB6.out.trans (hb7.mono HB6.out.size)); have HT7 := Lib.hid (HT6.out.mono hb7); have HI7 := Lib.hid hI7; clear hb7 hI7)
    | (go_at_call 15; (with_reducible refine (ints_at [0, 5] 2 rfl a7 k7 _ _ _ (HI7.out.mono ((Below.refl _ _).alloc (Nat.le_refl _) _)) (new_ints _ _ #[.int .i64 0, .int .i64 5] rfl) (by decide)).mono ?_); rintro e w8 ⟨rfl, hb8⟩; have HB8 := Lib.hid ((HB7.out.alloc HB7.out.size _).trans (hb8.mono (by have := HB7.out.size; simp; omega))); have HT8 := Lib.hid ((HT7.out.mono ((Below.refl _ _).alloc (Nat.le_refl _) _)).mono hb8); clear hb8)
    | (go_at_call 11; (with_reducible refine (kt7 g1 k1 _ HT8.out).mono ?_); rintro e w9 ⟨rfl, hb9⟩; have HB9 := Lib.hid (HB8.out.trans (hb9.mono HB8.out.size)); have HT9 := Lib.hid (HT8.out.mono hb9); clear hb9)
    | (go_at_call 9; (with_reducible refine (kt8 g1 k1 _ HT9.out).mono ?_); rintro e w10 ⟨rfl, hb10⟩; have HB10 := Lib.hid (HB9.out.trans (hb10.mono HB9.out.size)); clear hb10))
  go_ret
  exact ⟨rfl, HB10.out⟩
end Go.Proofs.Ytlndfognkkobaaa
