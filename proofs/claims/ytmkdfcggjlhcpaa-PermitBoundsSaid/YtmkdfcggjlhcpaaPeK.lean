/-
  What comes of fixed calls in a fixed state: plain facts, and the contracts of these calls.
-/
import Derived.Test.YtmkdfcggjlhcpaaPeB
namespace Go.Proofs.Ytmkdfcggjlhcpaa
open Go.RowKit
set_option linter.unusedVariables false
set_option linter.unusedSimpArgs false

abbrev pg : ByteArray := ⟨#[103]⟩
abbrev pg1 : ByteArray := ⟨#[103, 45, 49]⟩
abbrev pg2 : ByteArray := ⟨#[103, 45, 50]⟩
abbrev sJump : ByteArray := ⟨#[106, 117, 109, 112]⟩
def pK : Mac := ⟨emp, ⟨#[103]⟩, 1000, 0, 0, 0, 0, none, 0, [], none, 0, [], true⟩
def pG : Gp := ⟨⟨#[103]⟩, 1, 3, pK, 0, 0⟩
theorem pK_in (w : World) : MacIn w pK := ⟨⟨RowsAt.nil, RowsAt.nil, Nat.zero_le _, Nat.zero_le _⟩, fun _ => ⟨rfl, rfl⟩, Nat.le_refl _, fun _ => ⟨rfl, rfl⟩, Nat.le_refl _⟩
theorem pG_light : lightGs [pG] = true := by decide +kernel
theorem pG_right : rightGs [pG] = true := by decide +kernel
theorem pG_in (w : World) : ∀ g ∈ [pG], MacIn w g.like := fun g hg => by
  obtain rfl : g = pG := by simpa using hg
  exact pK_in w
abbrev kL : List Ins := [⟨pg1, pg, 2, 0, 0⟩, ⟨pg2, pg, 4, 0, 0⟩]
/-- The fixed state, wherever its lists lie. -/
def kS (q0 q1 q2 : Nat) : St := ⟨some ⟨q0, 0, none⟩, [pG], 1, some ⟨q1, 0, none⟩, [2], 1, some ⟨q2, 0, none⟩, kL, 2, 3, 0, 0, none, [], 0, 0, 0⟩
theorem kS_ok (q0 q1 q2 : Nat) : StOk (kS q0 q1 q2) := by
  refine ⟨rfl, by show (1 : Nat) ≤ 16; decide, fun x hx => ?_, fun x hx => ?_, fun j x t hx ht => ?_, by show (2 : Nat) ≤ 200000; decide, by show (0 : Nat) ≤ 1000; decide, by show rightC 3 0 0 = true; decide +kernel⟩
  · obtain rfl : x = pG := by simpa [kS] using hx
    exact ⟨by decide, by decide⟩
  · obtain rfl : x = pG := by simpa [kS] using hx
    decide
  · match j, hx, ht with
    | 0, hx, ht =>
      obtain rfl : pG = x := by simpa [kS] using hx
      obtain rfl : (2 : Int) = t := by simpa [kS] using ht
      decide
    | j + 1, hx, ht => simp [kS] at hx
theorem kS_w (q0 q1 q2 : Nat) : bX (kS q0 q1 q2) pg 1 = true := by kernel_rfl
theorem k_up1 (q0 q1 q2 : Nat) : whyP (kS q0 q1 q2) sUp pg 1 true = 0 := by kernel_rfl
theorem k_up2 (q0 q1 q2 : Nat) (b : Bool) : whyP (kS q0 q1 q2) sUp pg 2 b = 21 := by kernel_rfl
theorem k_jump (q0 q1 q2 : Nat) (b : Bool) : whyP (kS q0 q1 q2) sJump emp 0 b = 14 := by kernel_rfl
theorem k_clean (q0 q1 q2 : Nat) (b : Bool) : whyP (kS q0 q1 q2) sClean pg2 0 b = 0 := by kernel_rfl
theorem k_aftc (q0 q1 q2 : Nat) : aft (kS q0 q1 q2) sClean pg2 0 = { kS q0 q1 q2 with T := [1], L := [⟨pg1, pg, 2, 0, 0⟩, ⟨pg2, pg, 3, 1, 0⟩] } := by kernel_rfl
theorem k_aftu (q0 q1 q2 : Nat) : aft (kS q0 q1 q2) sUp pg 1 = { kS q0 q1 q2 with T := [3] } := by kernel_rfl
theorem k_del (q0 q1 q2 : Nat) (b : Bool) : whyP { kS q0 q1 q2 with T := [1], L := [⟨pg1, pg, 2, 0, 0⟩, ⟨pg2, pg, 3, 1, 0⟩] } sDelete pg1 0 b = 20 := by kernel_rfl
theorem k_upx (q0 q1 q2 : Nat) (b : Bool) : whyP { kS q0 q1 q2 with T := [3] } sUp pg 1 b = 21 := by kernel_rfl

section
variable {q0 q1 q2 : Nat} {w : World}
theorem kw_why {what nm : ByteArray} {n z : Int} (hI : StIn w (kS q0 q1 q2)) (hn0 : -9223372036854775808 ≤ n) (hn1 : n ≤ 9223372036854775807) (h : whyP (kS q0 q1 q2) what nm n (bX (kS q0 q1 q2) nm n) = z) :
    Calls Try.prog 14 #[.agg #[.slice (kS q0 q1 q2).ga (kS q0 q1 q2).C.length (kS q0 q1 q2).gk, .slice (kS q0 q1 q2).ta (kS q0 q1 q2).T.length (kS q0 q1 q2).tk, .slice (kS q0 q1 q2).ia (kS q0 q1 q2).L.length (kS q0 q1 q2).ik, .int .i64 (kS q0 q1 q2).c0, .int .i64 (kS q0 q1 q2).c1, .int .i64 (kS q0 q1 q2).c2, .slice (kS q0 q1 q2).ra (kS q0 q1 q2).R.length (kS q0 q1 q2).rk, .int .i64 (kS q0 q1 q2).un, .int .i64 (kS q0 q1 q2).sh], .agg #[.string what, .string nm, .int .i64 n]] w fun e w' => e = .returned (.int .i64 z) ∧ Below w.heap.size w w' := by
  refine (why_any _ what nm n w hI (kS_ok q0 q1 q2) hn0 hn1).mono ?_
  rintro e w' ⟨⟨b, rfl, hb⟩, hB⟩
  rw [hb, h]
  exact ⟨rfl, hB⟩
/-- What lies there behind the fixed call that gives an instance back. -/
structure KL (w : World) (a1 : Option Addr) (k1 b1 k2 b2 k3 : Nat) (a4 : Option Addr) (k4 : Nat) : Prop where
  lt1 : b1 < w.heap.size
  lt2 : b2 < w.heap.size
  c1 : w.cell? ⟨b1, 0, none⟩ = some (.int .i64 1)
  c7 : w.cell? ⟨b2, 7, none⟩ = some (.int .i64 3)
  why : ∀ V, Below w.heap.size w V → Calls Try.prog 14 #[.agg #[.slice a1 1 k1, .slice (some ⟨b1, 0, none⟩) 1 k2, .slice (some ⟨b2, 0, none⟩) 2 k3, .int .i64 3, .int .i64 0, .int .i64 0, .slice a4 0 k4, .int .i64 0, .int .i64 0], .agg #[.string ⟨#[100, 101, 108, 101, 116, 101]⟩, .string ⟨#[103, 45, 49]⟩, .int .i64 0]] V fun e w' => e = .returned (.int .i64 20) ∧ Below V.heap.size V w'
theorem KL.mono {w w' : World} {a1 : Option Addr} {k1 b1 k2 b2 k3 : Nat} {a4 : Option Addr} {k4 : Nat} (h : KL w a1 k1 b1 k2 b2 k3 a4 k4) (hb : Below w.heap.size w w') : KL w' a1 k1 b1 k2 b2 k3 a4 k4 :=
  ⟨Nat.lt_of_lt_of_le h.lt1 hb.size, Nat.lt_of_lt_of_le h.lt2 hb.size, (hb.cell (p := ⟨b1, 0, none⟩) h.lt1).trans h.c1, (hb.cell (p := ⟨b2, 7, none⟩) h.lt2).trans h.c7, fun V hV => h.why V (hb.trans (hV.mono hb.size))⟩
theorem kw_after (hI : StIn w (kS q0 q1 q2)) :
    Calls Try.prog 7 #[.agg #[.slice (kS q0 q1 q2).ga (kS q0 q1 q2).C.length (kS q0 q1 q2).gk, .slice (kS q0 q1 q2).ta (kS q0 q1 q2).T.length (kS q0 q1 q2).tk, .slice (kS q0 q1 q2).ia (kS q0 q1 q2).L.length (kS q0 q1 q2).ik, .int .i64 (kS q0 q1 q2).c0, .int .i64 (kS q0 q1 q2).c1, .int .i64 (kS q0 q1 q2).c2, .slice (kS q0 q1 q2).ra (kS q0 q1 q2).R.length (kS q0 q1 q2).rk, .int .i64 (kS q0 q1 q2).un, .int .i64 (kS q0 q1 q2).sh], .agg #[.string sClean, .string pg2, .int .i64 0]] w fun e w' => (∃ a1 k1 b1 k2 b2 k3 a4 k4, e = .returned (.tuple #[.agg #[.slice a1 1 k1, .slice (some ⟨b1, 0, none⟩) 1 k2, .slice (some ⟨b2, 0, none⟩) 2 k3, .int .i64 3, .int .i64 0, .int .i64 0, .slice a4 0 k4, .int .i64 0, .int .i64 0], .int .i64 0]) ∧ KL w' a1 k1 b1 k2 b2 k3 a4 k4) ∧ Below w.heap.size w w' := by
  refine (after_any _ sClean pg2 0 w hI (kS_ok q0 q1 q2) (by decide) (by decide)).mono ?_
  rintro e w' ⟨⟨b, hb, h | ⟨h0, s, rfl, hO, hA⟩⟩, hB⟩
  · obtain ⟨z, hz, h1, -⟩ := h
    rw [k_clean] at h1
    exact absurd h1.symm hz
  · have hk : StOk s := (aft_ok (kS_ok q0 q1 q2) h0).alike hA
    have hSI := hO.sIn hk.gl
    have hT : s.T = [1] := by rw [hA.t, k_aftc]
    have hL : s.L = [⟨pg1, pg, 2, 0, 0⟩, ⟨pg2, pg, 3, 1, 0⟩] := by rw [hA.l, k_aftc]
    have hC : s.C.length = 1 := by
      have := nrm_len hA.c
      rw [this, k_aftc]
      rfl
    have hR : s.R = [] := by rw [hA.r, k_aftc]; rfl
    have e0 : s.c0 = 3 := by rw [hA.c0, k_aftc]; rfl
    have e1 : s.c1 = 0 := by rw [hA.c1, k_aftc]; rfl
    have e2 : s.c2 = 0 := by rw [hA.c2, k_aftc]; rfl
    have e3 : s.un = 0 := by rw [hA.un, k_aftc]; rfl
    have e4 : s.sh = 0 := by rw [hA.sh, k_aftc]; rfl
    have hw : ∀ b, whyP s sDelete pg1 0 b = 20 := fun b => by rw [hA.why, k_aftc, k_del]
    obtain ⟨z1, hz1, -, hlt1⟩ := own_blk hO.t (by rw [hT]; exact Nat.zero_lt_one)
    obtain ⟨z2, hz2, -, hlt2⟩ := own_blk hO.i (by rw [hL]; decide)
    have x1 : w'.cell? ⟨z1, 0, none⟩ = some (.int .i64 1) := by
      obtain ⟨z', o, f1, f2, f3⟩ := hSI.t (by rw [hT]; exact Nat.zero_lt_one)
      rw [hz1] at f1
      injection f1 with f1
      injection f1 with f1 f4
      subst f1 f4
      have := int_cell (f3 0 1 (by rw [hT]; rfl))
      simpa using this
    have x7 : w'.cell? ⟨z2, 7, none⟩ = some (.int .i64 3) := by
      obtain ⟨z', o, f1, f2, f3⟩ := hSI.i (by rw [hL]; decide)
      rw [hz2] at f1
      injection f1 with f1
      injection f1 with f1 f4
      subst f1 f4
      obtain ⟨-, -, x2, -⟩ := irow_cells (f3 1 ⟨pg2, pg, 3, 1, 0⟩ (by rw [hL]; rfl))
      simpa using x2
    have hv : (.agg #[.slice s.ga s.C.length s.gk, .slice s.ta s.T.length s.tk, .slice s.ia s.L.length s.ik, .int .i64 s.c0, .int .i64 s.c1, .int .i64 s.c2, .slice s.ra s.R.length s.rk, .int .i64 s.un, .int .i64 s.sh] : Value) = .agg #[.slice s.ga 1 s.gk, .slice (some ⟨z1, 0, none⟩) 1 s.tk, .slice (some ⟨z2, 0, none⟩) 2 s.ik, .int .i64 3, .int .i64 0, .int .i64 0, .slice s.ra 0 s.rk, .int .i64 0, .int .i64 0] := by
      rw [hC, hz1, hz2, e0, e1, e2, e3, e4, hT, hL, hR]
      rfl
    refine ⟨⟨s.ga, s.gk, z1, s.tk, z2, s.ik, s.ra, s.rk, by rw [hv], hlt1, hlt2, x1, x7, fun V hV => ?_⟩, hB⟩
    rw [← hv]
    refine (why_any s sDelete pg1 0 V (hSI.mono hV) hk (by decide) (by decide)).mono ?_
    rintro e w' ⟨⟨b, rfl, hb⟩, hB⟩
    rw [hw]
    exact ⟨rfl, hB⟩
/-- The state behind one call for a machine more. -/
structure KU (B : Nat) (w : World) (s : St) : Prop where
  own : SOwn B s w
  o : StOk s
  up : ∀ b, whyP s sUp pg 1 b = 21
theorem kw_up (hI : StIn w (kS q0 q1 q2)) :
    Calls Try.prog 7 #[.agg #[.slice (kS q0 q1 q2).ga (kS q0 q1 q2).C.length (kS q0 q1 q2).gk, .slice (kS q0 q1 q2).ta (kS q0 q1 q2).T.length (kS q0 q1 q2).tk, .slice (kS q0 q1 q2).ia (kS q0 q1 q2).L.length (kS q0 q1 q2).ik, .int .i64 (kS q0 q1 q2).c0, .int .i64 (kS q0 q1 q2).c1, .int .i64 (kS q0 q1 q2).c2, .slice (kS q0 q1 q2).ra (kS q0 q1 q2).R.length (kS q0 q1 q2).rk, .int .i64 (kS q0 q1 q2).un, .int .i64 (kS q0 q1 q2).sh], .agg #[.string sUp, .string pg, .int .i64 1]] w fun e w' => (∃ s, e = .returned (.tuple #[.agg #[.slice s.ga s.C.length s.gk, .slice s.ta s.T.length s.tk, .slice s.ia s.L.length s.ik, .int .i64 s.c0, .int .i64 s.c1, .int .i64 s.c2, .slice s.ra s.R.length s.rk, .int .i64 s.un, .int .i64 s.sh], .int .i64 0]) ∧ KU w.heap.size w' s) ∧ Below w.heap.size w w' := by
  refine (after_any _ sUp pg 1 w hI (kS_ok q0 q1 q2) (by decide) (by decide)).mono ?_
  rintro e w' ⟨⟨b, hb, h | ⟨h0, s, rfl, hO, hA⟩⟩, hB⟩
  · obtain ⟨z, hz, h1, -⟩ := h
    rw [hb, kS_w, k_up1] at h1
    exact absurd h1.symm hz
  · have hk : StOk s := (aft_ok (kS_ok q0 q1 q2) h0).alike hA
    exact ⟨⟨s, rfl, hO, hk, fun b => by rw [hA.why, k_aftu, k_upx]⟩, hB⟩
theorem kw_up2 {B : Nat} {s : St} (h : KU B w s) :
    Calls Try.prog 7 #[.agg #[.slice s.ga s.C.length s.gk, .slice s.ta s.T.length s.tk, .slice s.ia s.L.length s.ik, .int .i64 s.c0, .int .i64 s.c1, .int .i64 s.c2, .slice s.ra s.R.length s.rk, .int .i64 s.un, .int .i64 s.sh], .agg #[.string sUp, .string pg, .int .i64 1]] w fun e w' => e = .returned (.tuple #[.agg #[.slice none 0 0, .slice none 0 0, .slice none 0 0, .int .i64 0, .int .i64 0, .int .i64 0, .slice none 0 0, .int .i64 0, .int .i64 0], .int .i64 21]) ∧ Below w.heap.size w w' := by
  refine (after_any _ sUp pg 1 w (h.own.sIn h.o.gl) h.o (by decide) (by decide)).mono ?_
  rintro e w' ⟨⟨b, hb, h1 | ⟨h0, -⟩⟩, hB⟩
  · obtain ⟨z, hz, h1, rfl⟩ := h1
    rw [h.up] at h1
    subst h1
    exact ⟨rfl, hB⟩
  · rw [h.up] at h0
    exact absurd h0 (by decide)
end
end Go.Proofs.Ytmkdfcggjlhcpaa
