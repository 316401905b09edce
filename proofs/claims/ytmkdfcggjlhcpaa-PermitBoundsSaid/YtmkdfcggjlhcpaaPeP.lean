/-
  The plainest autoscaler's state, in plain words; Index and Contains of texts; target, exceeds, times.
-/
import Derived.Test.YtmkdfcggjlhcpaaClG
import Derived.Test.YtmkdfcggjlhcpaaME
import Derived.Test.YtmkdfcggjlhcpaaPeC
namespace Go.Proofs.Ytmkdfcggjlhcpaa
open Go.RowKit
set_option linter.unusedVariables false
set_option linter.unusedSimpArgs false

def pcs (n : Int) : List Value := [.int .i64 n]
theorem pcs_len (n : Int) : (pcs n).length = 1 := rfl
theorem pcs_one (n : Int) : ∀ u ∈ pcs n, u.oneCell' = true := by
  intro u hu
  simp [pcs] at hu
  rcases hu with rfl
  rfl
abbrev IntL := RowsAt pcs 1
theorem int_cell {w : World} {b o : Nat} {n : Int} (h : ∀ r, r < 1 → w.cell? ⟨b, o + r, none⟩ = (pcs n)[r]?) : w.cell? ⟨b, o, none⟩ = some (.int .i64 n) := h 0 (by decide)
/-- What decides whether a call is permitted, as it lies in memory. -/
structure St where
  ga : Option Addr
  C : List Gp
  gk : Nat
  ta : Option Addr
  T : List Int
  tk : Nat
  ia : Option Addr
  L : List Ins
  ik : Nat
  c0 : Int
  c1 : Int
  c2 : Int
  ra : Option Addr
  R : List ByteArray
  rk : Nat
  un : Int
  sh : Int
structure StIn (w : World) (s : St) : Prop where
  g : GpL w s.ga s.C
  m : ∀ x ∈ s.C, MacIn w x.like
  t : IntL w s.ta s.T
  i : InsL w s.ia s.L
  r : TxtL w s.ra s.R
  gn : NilOk s.ga s.C.length s.gk
  tn : NilOk s.ta s.T.length s.tk
  iN : NilOk s.ia s.L.length s.ik
  rn : NilOk s.ra s.R.length s.rk
theorem StIn.mono {w w' : World} {s : St} (h : StIn w s) (hb : Below w.heap.size w w') : StIn w' s :=
  ⟨h.g.mono hb, fun x hx => (h.m x hx).mono hb, h.t.mono hb, h.i.mono hb, h.r.mono hb, h.gn, h.tn, h.iN, h.rn⟩
structure StOk (s : St) : Prop where
  lt : s.T.length = s.C.length
  g16 : s.C.length ≤ 16
  gl : ∀ x ∈ s.C, x.like.labs.length ≤ 1000000 ∧ x.like.tnts.length ≤ 1000000
  gb : ∀ x ∈ s.C, 0 ≤ x.mn ∧ x.mx ≤ 200 ∧ (0 ≤ x.like.r0 ∧ x.like.r0 ≤ 1125899906842624) ∧ (0 ≤ x.like.r1 ∧ x.like.r1 ≤ 1125899906842624)
  tb : ∀ (j : Nat) (x : Gp) (t : Int), s.C[j]? = some x → s.T[j]? = some t → x.mn ≤ t ∧ t ≤ x.mx
  lb : s.L.length ≤ 200000
  rb : s.R.length ≤ 1000
  cb : rightC s.c0 s.c1 s.c2 = true

abbrev sUp : ByteArray := ⟨#[117, 112]⟩
abbrev sRaise : ByteArray := ⟨#[114, 97, 105, 115, 101]⟩
abbrev sFix : ByteArray := ⟨#[102, 105, 120]⟩
abbrev sClean : ByteArray := ⟨#[99, 108, 101, 97, 110]⟩
abbrev sDelete : ByteArray := ⟨#[100, 101, 108, 101, 116, 101]⟩
def St.G (s : St) : List Gk := s.C.map gkOf
/-- How many machines are there or coming. -/
def cntI (s : St) : Nat := s.L.countP fun x => (fndK s.G x.gp).isSome && !decide (x.st = 3)
/-- What caps of machines say of so many more. -/
def wB (s : St) (n : Int) : Bool := decide (s.c0 = 0) || decide (n ≤ s.c0 - cntI s)
/-- Why an instance may not go. -/
def whyV (cl : Bool) (st un sh t mn : Int) : Int :=
  if st = 3 then 15 else if cl = true then (if st = 4 ∨ st = 1 ∨ st = 2 then 0 else 22) else if st ≠ 2 ∨ sh < un then 22 else if t ≤ mn then 20 else 0
def whyG (s : St) (what nm : ByteArray) (n : Int) (b : Bool) : Int :=
  match fndK s.G nm with
  | none => 16
  | some j =>
    if n < 1 then 1 else match s.C[j]?, s.T[j]? with
      | some g, some t => if what = sFix then (if t - n < g.mn ∨ t - n < (sizeI s.L nm : Int) then 20 else 0)
          else if s.sh < s.un then 22 else if s.R.any (strB nm) = true then 25 else if g.mx - t < n then 21 else if what = sUp ∧ b = false then 24 else 0
      | _, _ => 16
def whyI (s : St) (what nm : ByteArray) : Int :=
  match fndI s.L nm with
  | none => 16
  | some k =>
    match s.L[k]? with
    | none => 16
    | some x =>
      match fndK s.G x.gp with
      | none => 16
      | some j =>
        match s.C[j]?, s.T[j]? with
        | some g, some t => whyV (decide (what = sClean)) x.st s.un s.sh t g.mn
        | _, _ => 16
/-- Why a call is not permitted. -/
def whyP (s : St) (what nm : ByteArray) (n : Int) (b : Bool) : Int :=
  if what = sUp ∨ what = sRaise ∨ what = sFix then whyG s what nm n b else if what = sClean ∨ what = sDelete then whyI s what nm else 14

set_option maxRecDepth 100000 in
set_option maxHeartbeats 4000000 in
theorem indexs_any (c : Option Addr) (kc : Nat) (l : List ByteArray) (v : ByteArray) (w : World) (hF : TxtL w c l) (hm : l.length ≤ 1000000) :
    Calls Try.prog 67 #[.slice c l.length kc, .string v] w fun e w' => (∃ z : Int, e = .returned (.int .i64 z) ∧ decide (0 ≤ z) = l.any (strB v)) ∧ Below w.heap.size w w' := by
  have HF := Lib.hid hF
  clear hF
  obtain ⟨n, hln⟩ : ∃ n, l.length = n := ⟨_, rfl⟩
  rw [hln] at hm ⊢
  have Hln := Lib.hid hln
  clear hln
  go_enter Try.func67, Try.ntmps67
  go_wp2
  go_loopw [8] (fun i wr => ∃ k : Nat, k ≤ n ∧ i = .int .i64 k ∧ (l.take k).any (strB v) = false ∧ Below w.heap.size w wr) (fun i _ => n - (intOf i).toNat)
  case atStart => exact ⟨0, by omega, rfl, rfl, by (repeat' (first | with_reducible exact Below.refl _ _ | with_reducible assumption | with_reducible refine Below.drew ?_ | with_reducible refine below_drewN' ?_ _ | with_reducible refine Below.alloc ?_ ?_ _ | with_reducible refine Below.setCell ?_ ?_ _ | with_reducible refine below_step (by assumption) ?_ ?_ | omega | (simp; done) | (simp; omega)))⟩
  case round =>
    obtain ⟨k, hk, rfl, hE, hB⟩ := hrel
    obtain ⟨hcB, hfB⟩ := bcell hB
    have hbz := hB.size
    have HE := Lib.hid hE
    have HB := Lib.hid hB
    clear hE
    by_cases hlt : k < n
    · obtain ⟨x, hx⟩ := mem_at (l := l) (k := k) (by rw [Hln.out]; exact hlt)
      obtain ⟨b, off, rfl, hb, hc⟩ := HF.out (by rw [Hln.out]; omega)
      have hbw : b < wr.heap.size := by omega
      have c0 := txt_cell (hc k x hx)
      rw [Nat.mul_one] at c0
      have Hx := Lib.hid hx
      clear hc hx
      cases hv : strB v x
      · have Hs := Lib.hid (show (l.take (k + 1)).any (strB v) = false by rw [take_at Hx.out, List.any_append, HE.out, List.any_cons, hv]; rfl)
        have k1 := (nmB_list v x).trans hv
        clear hv
        go_wp2
        go_roundw
        case rel => exact ⟨k + 1, by omega, by go_num, Hs.out, by (repeat' (first | with_reducible exact Below.refl _ _ | with_reducible assumption | with_reducible refine Below.drew ?_ | with_reducible refine below_drewN' ?_ _ | with_reducible refine Below.alloc ?_ ?_ _ | with_reducible refine Below.setCell ?_ ?_ _ | with_reducible refine below_step (by assumption) ?_ ?_ | omega | (simp; done) | (simp; omega)))⟩
        case measure => simp [intOf]; omega
      · have Hs := Lib.hid (show l.any (strB v) = true from List.any_eq_true.2 ⟨x, List.mem_of_getElem? Hx.out, hv⟩)
        have k1 := (nmB_list v x).trans hv
        clear hv
        go_wp2
        go_ret
        exact ⟨⟨_, rfl, by rw [Hs.out]; exact decide_eq_true (by omega)⟩, by (repeat' (first | with_reducible exact Below.refl _ _ | with_reducible assumption | with_reducible refine Below.drew ?_ | with_reducible refine below_drewN' ?_ _ | with_reducible refine Below.alloc ?_ ?_ _ | with_reducible refine Below.setCell ?_ ?_ _ | with_reducible refine below_step (by assumption) ?_ ?_ | omega | (simp; done) | (simp; omega)))⟩
    · obtain rfl : k = n := by omega
      have Hs := Lib.hid (show l.any (strB v) = false by rw [← HE.out, List.take_of_length_le (Nat.le_of_eq Hln.out)])
      go_wp2
      go_ret
      exact ⟨⟨_, rfl, by rw [Hs.out]; rfl⟩, by (repeat' (first | with_reducible exact Below.refl _ _ | with_reducible assumption | with_reducible refine Below.drew ?_ | with_reducible refine below_drewN' ?_ _ | with_reducible refine Below.alloc ?_ ?_ _ | with_reducible refine Below.setCell ?_ ?_ _ | with_reducible refine below_step (by assumption) ?_ ?_ | omega | (simp; done) | (simp; omega)))⟩

set_option maxRecDepth 100000 in
theorem containss_any (c : Option Addr) (kc : Nat) (l : List ByteArray) (v : ByteArray) (w : World) (hF : TxtL w c l) (hm : l.length ≤ 1000000) :
    Calls Try.prog 51 #[.slice c l.length kc, .string v] w fun e w' => e = .returned (.bool (l.any (strB v))) ∧ Below w.heap.size w w' := by
  have HA := Lib.hid (fun V (h : TxtL V c l) => indexs_any c kc l v V h hm)
  obtain ⟨i, hi⟩ : ∃ i, l.any (strB v) = i := ⟨_, rfl⟩
  rw [hi] at HA ⊢
  clear hi
  go_enter Try.func51, Try.ntmps51
  go_wp2_with (go_at_call 67; (with_reducible refine (HA.out _ (hF.mono (by (repeat' (first | with_reducible exact Below.refl _ _ | with_reducible assumption | with_reducible refine Below.drew ?_ | with_reducible refine below_drewN' ?_ _ | with_reducible refine Below.alloc ?_ ?_ _ | with_reducible refine Below.setCell ?_ ?_ _ | with_reducible refine below_step (by assumption) ?_ ?_ | omega | (simp; done) | (simp; omega)))))).mono ?_); rintro e w1 ⟨⟨z, rfl, hz⟩, hb1⟩; have hz1 := hb1.size; (try simp at hz1))
  go_ret
  exact ⟨by first | rfl | simp, by (repeat' (first | with_reducible exact Below.refl _ _ | with_reducible assumption | with_reducible refine Below.drew ?_ | with_reducible refine below_drewN' ?_ _ | with_reducible refine Below.alloc ?_ ?_ _ | with_reducible refine Below.setCell ?_ ?_ _ | with_reducible refine below_step (by assumption) ?_ ?_ | omega | (simp; done) | (simp; omega)))⟩

set_option maxRecDepth 100000 in
theorem ptarget_any (s : St) (j : Nat) (t : Int) (w : World) (hI : StIn w s) (ht : s.T[j]? = some t) (hm : s.T.length ≤ 1000000) :
    Calls Try.prog 20 #[.agg #[.slice s.ga s.C.length s.gk, .slice s.ta s.T.length s.tk, .slice s.ia s.L.length s.ik, .int .i64 s.c0, .int .i64 s.c1, .int .i64 s.c2, .slice s.ra s.R.length s.rk, .int .i64 s.un, .int .i64 s.sh], .int .i64 (j : Int)] w fun e w' => e = .returned (.int .i64 t) ∧ Below w.heap.size w w' := by
  have hlt := (List.getElem?_eq_some_iff.1 ht).1
  obtain ⟨b, off, hb, hbw, hc⟩ := hI.t (by omega)
  have c0 := int_cell (hc j t ht)
  clear hI hc ht
  obtain ⟨ga, C, gk, ta, T, tk, ia, L, ik, z0, z1, z2, ra, R, rk, un, sh⟩ := s
  dsimp only at hb hlt hm ⊢
  subst hb
  rw [Nat.mul_one] at c0
  obtain ⟨n, hn⟩ : ∃ n, T.length = n := ⟨_, rfl⟩
  rw [hn] at hlt hm ⊢
  clear hn
  go_enter Try.func20, Try.ntmps20
  go_wp2
  go_ret
  exact ⟨rfl, by (repeat' (first | with_reducible exact Below.refl _ _ | with_reducible assumption | with_reducible refine Below.drew ?_ | with_reducible refine below_drewN' ?_ _ | with_reducible refine Below.alloc ?_ ?_ _ | with_reducible refine Below.setCell ?_ ?_ _ | with_reducible refine below_step (by assumption) ?_ ?_ | omega | (simp; done) | (simp; omega)))⟩

set_option maxRecDepth 100000 in
theorem exc_any (t n mx : Int) (w : World) (h0 : 0 ≤ t) (h1 : t ≤ 200) (hn : 1 ≤ n) (hn1 : n ≤ 9223372036854775807) (hm : mx ≤ 200) :
    Calls Try.prog 52 #[.int .i64 t, .int .i64 n, .int .i64 mx] w fun e w' => e = .returned (.bool (decide (mx - t < n))) ∧ Below w.heap.size w w' := by
  obtain ⟨q, hq⟩ : ∃ q, IntKind.i64.wrap (t + n) = q := ⟨_, rfl⟩
  by_cases hb : t + n ≤ 9223372036854775807
  · rw [wrap_in (by omega) (by omega)] at hq
    subst hq
    have k0 : IntKind.i64.wrap (t + n) = t + n := wrap_in (by omega) (by omega)
    have k1 : decide (t + n < t) = false := decide_eq_false (by omega)
    by_cases h : mx - t < n
    · have k2 : decide (mx < t + n) = true := decide_eq_true (by omega)
      rw [decide_eq_true h]
      clear h hb
      go_enter Try.func52, Try.ntmps52
      go_wp2
      go_ret
      exact ⟨rfl, by (repeat' (first | with_reducible exact Below.refl _ _ | with_reducible assumption | with_reducible refine Below.drew ?_ | with_reducible refine below_drewN' ?_ _ | with_reducible refine Below.alloc ?_ ?_ _ | with_reducible refine Below.setCell ?_ ?_ _ | with_reducible refine below_step (by assumption) ?_ ?_ | omega | (simp; done) | (simp; omega)))⟩
    · have k2 : decide (mx < t + n) = false := decide_eq_false (by omega)
      rw [decide_eq_false h]
      clear h hb
      go_enter Try.func52, Try.ntmps52
      go_wp2
      go_ret
      exact ⟨rfl, by (repeat' (first | with_reducible exact Below.refl _ _ | with_reducible assumption | with_reducible refine Below.drew ?_ | with_reducible refine below_drewN' ?_ _ | with_reducible refine Below.alloc ?_ ?_ _ | with_reducible refine Below.setCell ?_ ?_ _ | with_reducible refine below_step (by assumption) ?_ ?_ | omega | (simp; done) | (simp; omega)))⟩
  · have k1 : decide (q < t) = true := decide_eq_true (by rw [← hq]; simp [IntKind.wrap, IntKind.bits, IntKind.signed]; omega)
    rw [decide_eq_true (show mx - t < n by omega)]
    clear hb
    go_enter Try.func52, Try.ntmps52
    go_wp2
    go_ret
    exact ⟨rfl, by (repeat' (first | with_reducible exact Below.refl _ _ | with_reducible assumption | with_reducible refine Below.drew ?_ | with_reducible refine below_drewN' ?_ _ | with_reducible refine Below.alloc ?_ ?_ _ | with_reducible refine Below.setCell ?_ ?_ _ | with_reducible refine below_step (by assumption) ?_ ?_ | omega | (simp; done) | (simp; omega)))⟩

/-- So many times an amount, or less if that is above all caps. -/
def tmZ (a n : Int) : Int := if a = 0 then 0 else if n ≤ Int.tdiv 288230376151711744 a + 1 then a * n else a * (Int.tdiv 288230376151711744 a + 1)
theorem tmZ_q {a : Int} (h0 : 0 ≤ a) (ha : ¬ a = 0) : 0 ≤ Int.tdiv 288230376151711744 a ∧ Int.tdiv 288230376151711744 a ≤ 288230376151711744 ∧ a * Int.tdiv 288230376151711744 a ≤ 288230376151711744 := by
  rw [Int.tdiv_eq_ediv_of_nonneg (by omega)]
  refine ⟨Int.ediv_nonneg (by omega) h0, Int.ediv_le_self _ (by omega), ?_⟩
  exact Int.mul_ediv_self_le (x := 288230376151711744) (k := a) ha
theorem tmZ_b {a n : Int} (h0 : 0 ≤ a) (h1 : a ≤ 1125899906842624) (hn : 1 ≤ n) : 0 ≤ tmZ a n ∧ tmZ a n ≤ 576460752303423488 := by
  unfold tmZ
  by_cases ha : a = 0
  · rw [if_pos ha]; decide
  · rw [if_neg ha]
    obtain ⟨q1, q2, q3⟩ := tmZ_q h0 ha
    obtain ⟨q, hq⟩ : ∃ q, Int.tdiv 288230376151711744 a = q := ⟨_, rfl⟩
    rw [hq] at q1 q2 q3 ⊢
    have e2 : a * (q + 1) = a * q + a := by rw [Int.mul_add, Int.mul_one]
    by_cases hm : n ≤ q + 1
    · rw [if_pos hm]
      have e1 : a * n ≤ a * (q + 1) := Int.mul_le_mul_of_nonneg_left hm h0
      have e0 : 0 ≤ a * n := Int.mul_nonneg h0 (by omega)
      omega
    · rw [if_neg hm]
      have e0 : 0 ≤ a * (q + 1) := Int.mul_nonneg h0 (by omega)
      omega
set_option maxRecDepth 100000 in
theorem times_any (a n : Int) (w : World) (h0 : 0 ≤ a) (h1 : a ≤ 1125899906842624) (hn : 1 ≤ n) (hn1 : n ≤ 9223372036854775807) :
    Calls Try.prog 68 #[.int .i64 a, .int .i64 n] w fun e w' => e = .returned (.int .i64 (tmZ a n)) ∧ Below w.heap.size w w' := by
  obtain ⟨Z, hZ⟩ : ∃ Z, tmZ a n = Z := ⟨_, rfl⟩
  rw [hZ]
  unfold tmZ at hZ
  by_cases ha : a = 0
  · subst ha
    obtain rfl : (0 : Int) = Z := hZ
    go_enter Try.func68, Try.ntmps68
    go_wp2
    go_ret
    exact ⟨rfl, by (repeat' (first | with_reducible exact Below.refl _ _ | with_reducible assumption | with_reducible refine Below.drew ?_ | with_reducible refine below_drewN' ?_ _ | with_reducible refine Below.alloc ?_ ?_ _ | with_reducible refine Below.setCell ?_ ?_ _ | with_reducible refine below_step (by assumption) ?_ ?_ | omega | (simp; done) | (simp; omega)))⟩
  · rw [if_neg ha] at hZ
    obtain ⟨q1, q2, q3⟩ := tmZ_q h0 ha
    obtain ⟨q, hq⟩ : ∃ q, Int.tdiv 288230376151711744 a = q := ⟨_, rfl⟩
    rw [hq] at q1 q2 q3 hZ
    have k0 : (a == 0) = false := by rw [beq_eq_false_iff_ne]; exact ha
    have k00 : ¬ a = 0 := ha
    have k1 : IntKind.i64.wrap q = q := wrap_in (by omega) (by omega)
    have k2 : IntKind.i64.wrap (q + 1) = q + 1 := wrap_in (by omega) (by omega)
    have e2 : a * (q + 1) = a * q + a := by rw [Int.mul_add, Int.mul_one]
    clear ha
    by_cases hm : n ≤ q + 1
    · rw [if_pos hm] at hZ
      subst hZ
      have e1 : a * n ≤ a * (q + 1) := Int.mul_le_mul_of_nonneg_left hm h0
      have e0 : 0 ≤ a * n := Int.mul_nonneg h0 (by omega)
      have k3 : IntKind.i64.wrap (a * n) = a * n := wrap_in (by omega) (by omega)
      go_enter Try.func68, Try.ntmps68
      go_wp2
      go_ret
      exact ⟨rfl, by (repeat' (first | with_reducible exact Below.refl _ _ | with_reducible assumption | with_reducible refine Below.drew ?_ | with_reducible refine below_drewN' ?_ _ | with_reducible refine Below.alloc ?_ ?_ _ | with_reducible refine Below.setCell ?_ ?_ _ | with_reducible refine below_step (by assumption) ?_ ?_ | omega | (simp; done) | (simp; omega)))⟩
    · rw [if_neg hm] at hZ
      subst hZ
      have e0 : 0 ≤ a * (q + 1) := Int.mul_nonneg h0 (by omega)
      have k3 : IntKind.i64.wrap (a * (q + 1)) = a * (q + 1) := wrap_in (by omega) (by omega)
      go_enter Try.func68, Try.ntmps68
      go_wp2
      go_ret
      exact ⟨rfl, by (repeat' (first | with_reducible exact Below.refl _ _ | with_reducible assumption | with_reducible refine Below.drew ?_ | with_reducible refine below_drewN' ?_ _ | with_reducible refine Below.alloc ?_ ?_ _ | with_reducible refine Below.setCell ?_ ?_ _ | with_reducible refine below_step (by assumption) ?_ ?_ | omega | (simp; done) | (simp; omega)))⟩
end Go.Proofs.Ytmkdfcggjlhcpaa
