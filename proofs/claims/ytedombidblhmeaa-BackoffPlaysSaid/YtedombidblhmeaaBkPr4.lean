/-
  What both tables say of a group and of their groups.
-/
import Derived.Test.YtedombidblhmeaaBkPr3
import Derived.Test.YtedombidblhmeaaBkKn
namespace Go.Proofs.Ytedombidblhmeaa
open Go.RowKit
set_option linter.unusedVariables false
set_option linter.unusedSimpArgs false

section
variable {w0 w w' : World} {b m p : Nat} {fi mo re : Int} {E : ByteArray → Option En} {M : List Nt} {v : Value} {cr : Int} {n : Nat}
theorem PR.may_1 (h : PR w0 w b m p fi mo re E M v cr n) (g : ByteArray) (now : Int) (hg : g.size ≤ maxLen) :
    Calls Try.prog 15 #[.pointer (some ⟨b, 0, none⟩), .string g, .int .i64 now] w fun e w' => e = .returned (.bool (mayE (E g) now)) ∧ Below w.heap.size w w' :=
  (may_any b m fi mo re E cr n g now w h.t hg).mono fun e w' ⟨he, hw⟩ => ⟨he, by rw [hw]; exact Below.refl _ _⟩
theorem PR.may_2 (h : PR w0 w b m p fi mo re E M v cr n) (hn : n ≤ 1000) (g : ByteArray) (now : Int) :
    Calls Try.prog 16 #[.pointer (some ⟨p, 0, none⟩), .string g, .int .i64 now] w fun e w' => e = .returned (.bool (mayE (E g) now)) ∧ Below w.heap.size w w' :=
  (rmay_any w0.heap.size p fi mo re M v g now (E g) w h.r (h.e.look g) (by have := h.len; omega)).mono fun e w' ⟨he, hw⟩ => ⟨he, by rw [hw]; exact Below.refl _ _⟩
theorem PR.until_1 (h : PR w0 w b m p fi mo re E M v cr n) (g : ByteArray)  (hg : g.size ≤ maxLen) :
      Calls Try.prog 17 #[.pointer (some ⟨b, 0, none⟩), .string g] w fun e w' => e = .returned (.int .i64 (untilE (E g))) ∧ Below w.heap.size w w' :=
    (until_any b m fi mo re E cr n g  w h.t hg).mono fun e w' ⟨he, hw⟩ => ⟨he, by rw [hw]; exact Below.refl _ _⟩
  theorem PR.until_2 (h : PR w0 w b m p fi mo re E M v cr n) (hn : n ≤ 1000) (g : ByteArray)  :
      Calls Try.prog 18 #[.pointer (some ⟨p, 0, none⟩), .string g] w fun e w' => e = .returned (.int .i64 (untilE (E g))) ∧ Below w.heap.size w w' :=
    (runtil_any w0.heap.size p fi mo re M v g  (E g) w h.r (h.e.look g) (by have := h.len; omega)).mono fun e w' ⟨he, hw⟩ => ⟨he, by rw [hw]; exact Below.refl _ _⟩
theorem PR.length_1 (h : PR w0 w b m p fi mo re E M v cr n) (g : ByteArray)  (hg : g.size ≤ maxLen) :
        Calls Try.prog 19 #[.pointer (some ⟨b, 0, none⟩), .string g] w fun e w' => e = .returned (.int .i64 (lengthE (E g))) ∧ Below w.heap.size w w' :=
      (length_any b m fi mo re E cr n g  w h.t hg).mono fun e w' ⟨he, hw⟩ => ⟨he, by rw [hw]; exact Below.refl _ _⟩
    theorem PR.length_2 (h : PR w0 w b m p fi mo re E M v cr n) (hn : n ≤ 1000) (g : ByteArray)  :
        Calls Try.prog 20 #[.pointer (some ⟨p, 0, none⟩), .string g] w fun e w' => e = .returned (.int .i64 (lengthE (E g))) ∧ Below w.heap.size w w' :=
      (rlength_any w0.heap.size p fi mo re M v g  (E g) w h.r (h.e.look g) (by have := h.len; omega)).mono fun e w' ⟨he, hw⟩ => ⟨he, by rw [hw]; exact Below.refl _ _⟩
theorem flat_nm (M : List Nt) : M.flatMap nmE = (M.map (·.1)).flatMap scs := by
  induction M with
  | nil => rfl
  | cons x M ih => simp [List.flatMap_cons, nmE, ih]
theorem PR.groups1 (h : PR w0 w b m p fi mo re E M v cr n) (hn : n ≤ 1000) :
    Calls Try.prog 22 #[.pointer (some ⟨b, 0, none⟩)] w (Gives w (IsL scs 1 (M.map (·.1)))) := by
  refine (groups_any b m fi mo re E cr n w h.t (by omega)).mono ?_
  rintro e w' ⟨v, l, rfl, hO, hr, _, hb⟩
  rw [flat_strs] at hr
  rw [← h.e.groups hO]
  exact Gives.mk (IsL.of_own scs_len (by decide) hr) hb
theorem PR.groups2 (h : PR w0 w b m p fi mo re E M v cr n) (hn : n ≤ 1000) :
    Calls Try.prog 23 #[.pointer (some ⟨p, 0, none⟩)] w (Gives w (IsL scs 1 (M.map (·.1)))) := by
  refine (rgroups_any w0.heap.size p fi mo re M v w h.r (by have := h.len; omega)).mono ?_
  rintro e w' ⟨⟨u, rfl, hu⟩, hb⟩
  unfold OwnL at hu
  rw [filt_allN, flat_nm] at hu
  have hl : M.length = (M.map (·.1)).length := by simp
  rw [hl] at hu
  exact Gives.mk (IsL.of_own scs_len (by decide) hu) hb
end
end Go.Proofs.Ytedombidblhmeaa
