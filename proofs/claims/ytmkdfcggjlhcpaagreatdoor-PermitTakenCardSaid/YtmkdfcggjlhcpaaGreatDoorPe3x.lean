/-
  The contract of permit.State.within.
-/
import Derived.Test.YtmkdfcggjlhcpaaGreatDoorPeCx
import Derived.Test.YtmkdfcggjlhcpaaGreatDoorMEx
import Derived.BigQuiet
import Derived.Test.YtmkdfcggjlhcpaaGreatDoorMAx
namespace Go.Proofs.YtmkdfcggjlhcpaaGreatDoor
open Go.RowKit
set_option linter.unusedVariables false
set_option linter.unusedSimpArgs false
def pcs (n : Int) : List Value := [.int .i64 n]
theorem pcs_len (n : Int) : (pcs n).length = 1 := rfl
theorem pcs_one (n : Int) : ∀ u ∈ pcs n, u.oneCell' = true := by
  intro u hu
  simp [pcs] at hu
  rcases hu with rfl
  rfl
abbrev IntL := RowsAt pcs 1
theorem int_cell {w : World} {b o : Nat} {n : Int} (h : ∀ r, r < 1 → w.cell? ⟨b, o + r, none⟩ = (pcs n)[r]?) : w.cell? ⟨b, o, none⟩ = some (.int .i64 n) := h 0 (by decide)
structure St where
  ga : Option Addr
  C : List Gp
  gk : Nat
  ta : Option Addr
  T : List Int
  tk : Nat
  ia : Option Addr
  L : List Ins
  ik : Nat
  c0 : Int
  c1 : Int
  c2 : Int
  ra : Option Addr
  R : List ByteArray
  rk : Nat
  un : Int
  sh : Int
structure StIn (w : World) (s : St) : Prop where
  g : GpL w s.ga s.C
  m : ∀ x ∈ s.C, MacIn w x.like
  t : IntL w s.ta s.T
  i : InsL w s.ia s.L
  r : TxtL w s.ra s.R
  gn : NilOk s.ga s.C.length s.gk
  tn : NilOk s.ta s.T.length s.tk
  iN : NilOk s.ia s.L.length s.ik
  rn : NilOk s.ra s.R.length s.rk
theorem StIn.mono {w w' : World} {s : St} (h : StIn w s) (hb : Below w.heap.size w w') : StIn w' s :=
  ⟨h.g.mono hb, fun x hx => (h.m x hx).mono hb, h.t.mono hb, h.i.mono hb, h.r.mono hb, h.gn, h.tn, h.iN, h.rn⟩
structure StOk (s : St) : Prop where
  lt : s.T.length = s.C.length
  g16 : s.C.length ≤ 16
  gl : ∀ x ∈ s.C, x.like.labs.length ≤ 1000000 ∧ x.like.tnts.length ≤ 1000000
  gb : ∀ x ∈ s.C, 0 ≤ x.mn ∧ x.mx ≤ 200 ∧ (0 ≤ x.like.r0 ∧ x.like.r0 ≤ 1125899906842624) ∧ (0 ≤ x.like.r1 ∧ x.like.r1 ≤ 1125899906842624)
  tb : ∀ (j : Nat) (x : Gp) (t : Int), s.C[j]? = some x → s.T[j]? = some t → x.mn ≤ t ∧ t ≤ x.mx
  lb : s.L.length ≤ 200000
  rb : s.R.length ≤ 1000
  cb : rightC s.c0 s.c1 s.c2 = true
abbrev sUp : ByteArray := ⟨#[117, 112]⟩
abbrev sRaise : ByteArray := ⟨#[114, 97, 105, 115, 101]⟩
abbrev sFix : ByteArray := ⟨#[102, 105, 120]⟩
abbrev sClean : ByteArray := ⟨#[99, 108, 101, 97, 110]⟩
abbrev sDelete : ByteArray := ⟨#[100, 101, 108, 101, 116, 101]⟩
def St.G (s : St) : List Gk := s.C.map gkOf
def cntI (s : St) : Nat := s.L.countP fun x => (fndK s.G x.gp).isSome && !decide (x.st = 3)
def whyV (cl : Bool) (st un sh t mn : Int) : Int :=
  if st = 3 then 15 else if cl = true then (if st = 4 ∨ st = 1 ∨ st = 2 then 0 else 22) else if st ≠ 2 ∨ sh < un then 22 else if t ≤ mn then 20 else 0
def whyG (s : St) (what nm : ByteArray) (n : Int) (b : Bool) : Int :=
  match fndK s.G nm with
  | none => 16
  | some j =>
    if n < 1 then 1 else match s.C[j]?, s.T[j]? with
      | some g, some t => if what = sFix then (if t - n < g.mn ∨ t - n < (sizeI s.L nm : Int) then 20 else 0)
          else if s.sh < s.un then 22 else if s.R.any (strB nm) = true then 25 else if g.mx - t < n then 21 else if what = sUp ∧ b = false then 24 else 0
      | _, _ => 16
def whyI (s : St) (what nm : ByteArray) : Int :=
  match fndI s.L nm with
  | none => 16
  | some k =>
    match s.L[k]? with
    | none => 16
    | some x =>
      match fndK s.G x.gp with
      | none => 16
      | some j =>
        match s.C[j]?, s.T[j]? with
        | some g, some t => whyV (decide (what = sClean)) x.st s.un s.sh t g.mn
        | _, _ => 16
def whyP (s : St) (what nm : ByteArray) (n : Int) (b : Bool) : Int :=
  if what = sUp ∨ what = sRaise ∨ what = sFix then whyG s what nm n b else if what = sClean ∨ what = sDelete then whyI s what nm else 14
set_option maxRecDepth 100000 in
set_option maxHeartbeats 4000000 in
theorem indexs_any (c : Option Addr) (kc : Nat) (l : List ByteArray) (v : ByteArray) (w : World) (hF : TxtL w c l) (hm : l.length ≤ 1000000) :
    Calls Tryz.prog 83 #[.slice c l.length kc, .string v] w fun e w' => (∃ z : Int, e = .returned (.int .i64 z) ∧ decide (0 ≤ z) = l.any (strB v)) ∧ Below w.heap.size w w' := by
  have HF := Lib.hid hF
  clear hF
  obtain ⟨n, hln⟩ : ∃ n, l.length = n := ⟨_, rfl⟩
  rw [hln] at hm ⊢
  have Hln := Lib.hid hln
  clear hln
  go_enter Tryz.func83, Tryz.ntmps83
  go_wp2
  go_loopw [8] (fun i wr => ∃ k : Nat, k ≤ n ∧ i = .int .i64 k ∧ (l.take k).any (strB v) = false ∧ Below w.heap.size w wr) (fun i _ => n - (intOf i).toNat)
  case atStart => exact ⟨0, by omega, rfl, rfl, by (repeat' (first | with_reducible exact Below.refl _ _ | with_reducible assumption | with_reducible refine Below.drew ?_ | with_reducible refine below_drewN' ?_ _ | with_reducible refine Below.alloc ?_ ?_ _ | with_reducible refine Below.setCell ?_ ?_ _ | with_reducible refine below_step (by assumption) ?_ ?_ | omega | (simp; done) | (simp; omega)))⟩
  case round =>
    obtain ⟨k, hk, rfl, hE, hB⟩ := hrel
    obtain ⟨hcB, hfB⟩ := bcell hB
    have hbz := hB.size
    have HE := Lib.hid hE
    have HB := Lib.hid hB
    clear hE
    by_cases hlt : k < n
    · obtain ⟨x, hx⟩ := mem_at (l := l) (k := k) (by rw [Hln.out]; exact hlt)
      obtain ⟨b, off, rfl, hb, hc⟩ := HF.out (by rw [Hln.out]; omega)
      have hbw : b < wr.heap.size := by omega
      have c0 := txt_cell (hc k x hx)
      rw [Nat.mul_one] at c0
      have Hx := Lib.hid hx
      clear hc hx
      cases hv : strB v x
      · have Hs := Lib.hid (show (l.take (k + 1)).any (strB v) = false by rw [take_at Hx.out, List.any_append, HE.out, List.any_cons, hv]; rfl)
        have k1 := (nmB_list v x).trans hv
        clear hv
        go_wp2
        go_roundw
        case rel => exact ⟨k + 1, by omega, by go_num, Hs.out, by (repeat' (first | with_reducible exact Below.refl _ _ | with_reducible assumption | with_reducible refine Below.drew ?_ | with_reducible refine below_drewN' ?_ _ | with_reducible refine Below.alloc ?_ ?_ _ | with_reducible refine Below.setCell ?_ ?_ _ | with_reducible refine below_step (by assumption) ?_ ?_ | omega | (simp; done) | (simp; omega)))⟩
        case measure => simp [intOf]; omega
      · have Hs := Lib.hid (show l.any (strB v) = true from List.any_eq_true.2 ⟨x, List.mem_of_getElem? Hx.out, hv⟩)
        have k1 := (nmB_list v x).trans hv
        clear hv
        go_wp2
        go_ret
        exact ⟨⟨_, rfl, by rw [Hs.out]; exact decide_eq_true (by omega)⟩, by (repeat' (first | with_reducible exact Below.refl _ _ | with_reducible assumption | with_reducible refine Below.drew ?_ | with_reducible refine below_drewN' ?_ _ | with_reducible refine Below.alloc ?_ ?_ _ | with_reducible refine Below.setCell ?_ ?_ _ | with_reducible refine below_step (by assumption) ?_ ?_ | omega | (simp; done) | (simp; omega)))⟩
    · obtain rfl : k = n := by omega
      have Hs := Lib.hid (show l.any (strB v) = false by rw [← HE.out, List.take_of_length_le (Nat.le_of_eq Hln.out)])
      go_wp2
      go_ret
      exact ⟨⟨_, rfl, by rw [Hs.out]; rfl⟩, by (repeat' (first | with_reducible exact Below.refl _ _ | with_reducible assumption | with_reducible refine Below.drew ?_ | with_reducible refine below_drewN' ?_ _ | with_reducible refine Below.alloc ?_ ?_ _ | with_reducible refine Below.setCell ?_ ?_ _ | with_reducible refine below_step (by assumption) ?_ ?_ | omega | (simp; done) | (simp; omega)))⟩
set_option maxRecDepth 100000 in
theorem containss_any (c : Option Addr) (kc : Nat) (l : List ByteArray) (v : ByteArray) (w : World) (hF : TxtL w c l) (hm : l.length ≤ 1000000) :
    Calls Tryz.prog 68 #[.slice c l.length kc, .string v] w fun e w' => e = .returned (.bool (l.any (strB v))) ∧ Below w.heap.size w w' := by
  have HA := Lib.hid (fun V (h : TxtL V c l) => indexs_any c kc l v V h hm)
  obtain ⟨i, hi⟩ : ∃ i, l.any (strB v) = i := ⟨_, rfl⟩
  rw [hi] at HA ⊢
  clear hi
  go_enter Tryz.func68, Tryz.ntmps68
  go_wp2_with (go_at_call 83; (with_reducible refine (HA.out _ (hF.mono (by (repeat' (first | with_reducible exact Below.refl _ _ | with_reducible assumption | with_reducible refine Below.drew ?_ | with_reducible refine below_drewN' ?_ _ | with_reducible refine Below.alloc ?_ ?_ _ | with_reducible refine Below.setCell ?_ ?_ _ | with_reducible refine below_step (by assumption) ?_ ?_ | omega | (simp; done) | (simp; omega)))))).mono ?_); rintro e w1 ⟨⟨z, rfl, hz⟩, hb1⟩; have hz1 := hb1.size; (try simp at hz1))
  go_ret
  exact ⟨by first | rfl | simp, by (repeat' (first | with_reducible exact Below.refl _ _ | with_reducible assumption | with_reducible refine Below.drew ?_ | with_reducible refine below_drewN' ?_ _ | with_reducible refine Below.alloc ?_ ?_ _ | with_reducible refine Below.setCell ?_ ?_ _ | with_reducible refine below_step (by assumption) ?_ ?_ | omega | (simp; done) | (simp; omega)))⟩
set_option maxRecDepth 100000 in
theorem ptarget_any (s : St) (j : Nat) (t : Int) (w : World) (hI : StIn w s) (ht : s.T[j]? = some t) (hm : s.T.length ≤ 1000000) :
    Calls Tryz.prog 40 #[.agg #[.slice s.ga s.C.length s.gk, .slice s.ta s.T.length s.tk, .slice s.ia s.L.length s.ik, .int .i64 s.c0, .int .i64 s.c1, .int .i64 s.c2, .slice s.ra s.R.length s.rk, .int .i64 s.un, .int .i64 s.sh], .int .i64 (j : Int)] w fun e w' => e = .returned (.int .i64 t) ∧ Below w.heap.size w w' := by
  have hlt := (List.getElem?_eq_some_iff.1 ht).1
  obtain ⟨b, off, hb, hbw, hc⟩ := hI.t (by omega)
  have c0 := int_cell (hc j t ht)
  clear hI hc ht
  obtain ⟨ga, C, gk, ta, T, tk, ia, L, ik, z0, z1, z2, ra, R, rk, un, sh⟩ := s
  dsimp only at hb hlt hm ⊢
  subst hb
  rw [Nat.mul_one] at c0
  obtain ⟨n, hn⟩ : ∃ n, T.length = n := ⟨_, rfl⟩
  rw [hn] at hlt hm ⊢
  clear hn
  go_enter Tryz.func40, Tryz.ntmps40
  go_wp2
  go_ret
  exact ⟨rfl, by (repeat' (first | with_reducible exact Below.refl _ _ | with_reducible assumption | with_reducible refine Below.drew ?_ | with_reducible refine below_drewN' ?_ _ | with_reducible refine Below.alloc ?_ ?_ _ | with_reducible refine Below.setCell ?_ ?_ _ | with_reducible refine below_step (by assumption) ?_ ?_ | omega | (simp; done) | (simp; omega)))⟩
set_option maxRecDepth 100000 in
theorem exc_any (t n mx : Int) (w : World) (h0 : 0 ≤ t) (h1 : t ≤ 200) (hn : 1 ≤ n) (hn1 : n ≤ 9223372036854775807) (hm : mx ≤ 200) :
    Calls Tryz.prog 69 #[.int .i64 t, .int .i64 n, .int .i64 mx] w fun e w' => e = .returned (.bool (decide (mx - t < n))) ∧ Below w.heap.size w w' := by
  obtain ⟨q, hq⟩ : ∃ q, IntKind.i64.wrap (t + n) = q := ⟨_, rfl⟩
  by_cases hb : t + n ≤ 9223372036854775807
  · rw [wrap_in (by omega) (by omega)] at hq
    subst hq
    have k0 : IntKind.i64.wrap (t + n) = t + n := wrap_in (by omega) (by omega)
    have k1 : decide (t + n < t) = false := decide_eq_false (by omega)
    by_cases h : mx - t < n
    · have k2 : decide (mx < t + n) = true := decide_eq_true (by omega)
      rw [decide_eq_true h]
      clear h hb
      go_enter Tryz.func69, Tryz.ntmps69
      go_wp2
      go_ret
      exact ⟨rfl, by (repeat' (first | with_reducible exact Below.refl _ _ | with_reducible assumption | with_reducible refine Below.drew ?_ | with_reducible refine below_drewN' ?_ _ | with_reducible refine Below.alloc ?_ ?_ _ | with_reducible refine Below.setCell ?_ ?_ _ | with_reducible refine below_step (by assumption) ?_ ?_ | omega | (simp; done) | (simp; omega)))⟩
    · have k2 : decide (mx < t + n) = false := decide_eq_false (by omega)
      rw [decide_eq_false h]
      clear h hb
      go_enter Tryz.func69, Tryz.ntmps69
      go_wp2
      go_ret
      exact ⟨rfl, by (repeat' (first | with_reducible exact Below.refl _ _ | with_reducible assumption | with_reducible refine Below.drew ?_ | with_reducible refine below_drewN' ?_ _ | with_reducible refine Below.alloc ?_ ?_ _ | with_reducible refine Below.setCell ?_ ?_ _ | with_reducible refine below_step (by assumption) ?_ ?_ | omega | (simp; done) | (simp; omega)))⟩
  · have k1 : decide (q < t) = true := decide_eq_true (by rw [← hq]; simp [IntKind.wrap, IntKind.bits, IntKind.signed]; omega)
    rw [decide_eq_true (show mx - t < n by omega)]
    clear hb
    go_enter Tryz.func69, Tryz.ntmps69
    go_wp2
    go_ret
    exact ⟨rfl, by (repeat' (first | with_reducible exact Below.refl _ _ | with_reducible assumption | with_reducible refine Below.drew ?_ | with_reducible refine below_drewN' ?_ _ | with_reducible refine Below.alloc ?_ ?_ _ | with_reducible refine Below.setCell ?_ ?_ _ | with_reducible refine below_step (by assumption) ?_ ?_ | omega | (simp; done) | (simp; omega)))⟩
def tmZ (a n : Int) : Int := if a = 0 then 0 else if n ≤ Int.tdiv 288230376151711744 a + 1 then a * n else a * (Int.tdiv 288230376151711744 a + 1)
theorem tmZ_q {a : Int} (h0 : 0 ≤ a) (ha : ¬ a = 0) : 0 ≤ Int.tdiv 288230376151711744 a ∧ Int.tdiv 288230376151711744 a ≤ 288230376151711744 ∧ a * Int.tdiv 288230376151711744 a ≤ 288230376151711744 := by
  rw [Int.tdiv_eq_ediv_of_nonneg (by omega)]
  refine ⟨Int.ediv_nonneg (by omega) h0, Int.ediv_le_self _ (by omega), ?_⟩
  exact Int.mul_ediv_self_le (x := 288230376151711744) (k := a) ha
theorem tmZ_b {a n : Int} (h0 : 0 ≤ a) (h1 : a ≤ 1125899906842624) (hn : 1 ≤ n) : 0 ≤ tmZ a n ∧ tmZ a n ≤ 576460752303423488 := by
  unfold tmZ
  by_cases ha : a = 0
  · rw [if_pos ha]; decide
  · rw [if_neg ha]
    obtain ⟨q1, q2, q3⟩ := tmZ_q h0 ha
    obtain ⟨q, hq⟩ : ∃ q, Int.tdiv 288230376151711744 a = q := ⟨_, rfl⟩
    rw [hq] at q1 q2 q3 ⊢
    have e2 : a * (q + 1) = a * q + a := by rw [Int.mul_add, Int.mul_one]
    by_cases hm : n ≤ q + 1
    · rw [if_pos hm]
      have e1 : a * n ≤ a * (q + 1) := Int.mul_le_mul_of_nonneg_left hm h0
      have e0 : 0 ≤ a * n := Int.mul_nonneg h0 (by omega)
      omega
    · rw [if_neg hm]
      have e0 : 0 ≤ a * (q + 1) := Int.mul_nonneg h0 (by omega)
      omega
set_option maxRecDepth 100000 in
theorem times_any (a n : Int) (w : World) (h0 : 0 ≤ a) (h1 : a ≤ 1125899906842624) (hn : 1 ≤ n) (hn1 : n ≤ 9223372036854775807) :
    Calls Tryz.prog 84 #[.int .i64 a, .int .i64 n] w fun e w' => e = .returned (.int .i64 (tmZ a n)) ∧ Below w.heap.size w w' := by
  obtain ⟨Z, hZ⟩ : ∃ Z, tmZ a n = Z := ⟨_, rfl⟩
  rw [hZ]
  unfold tmZ at hZ
  by_cases ha : a = 0
  · subst ha
    obtain rfl : (0 : Int) = Z := hZ
    go_enter Tryz.func84, Tryz.ntmps84
    go_wp2
    go_ret
    exact ⟨rfl, by (repeat' (first | with_reducible exact Below.refl _ _ | with_reducible assumption | with_reducible refine Below.drew ?_ | with_reducible refine below_drewN' ?_ _ | with_reducible refine Below.alloc ?_ ?_ _ | with_reducible refine Below.setCell ?_ ?_ _ | with_reducible refine below_step (by assumption) ?_ ?_ | omega | (simp; done) | (simp; omega)))⟩
  · rw [if_neg ha] at hZ
    obtain ⟨q1, q2, q3⟩ := tmZ_q h0 ha
    obtain ⟨q, hq⟩ : ∃ q, Int.tdiv 288230376151711744 a = q := ⟨_, rfl⟩
    rw [hq] at q1 q2 q3 hZ
    have k0 : (a == 0) = false := by rw [beq_eq_false_iff_ne]; exact ha
    have k00 : ¬ a = 0 := ha
    have k1 : IntKind.i64.wrap q = q := wrap_in (by omega) (by omega)
    have k2 : IntKind.i64.wrap (q + 1) = q + 1 := wrap_in (by omega) (by omega)
    have e2 : a * (q + 1) = a * q + a := by rw [Int.mul_add, Int.mul_one]
    clear ha
    by_cases hm : n ≤ q + 1
    · rw [if_pos hm] at hZ
      subst hZ
      have e1 : a * n ≤ a * (q + 1) := Int.mul_le_mul_of_nonneg_left hm h0
      have e0 : 0 ≤ a * n := Int.mul_nonneg h0 (by omega)
      have k3 : IntKind.i64.wrap (a * n) = a * n := wrap_in (by omega) (by omega)
      go_enter Tryz.func84, Tryz.ntmps84
      go_wp2
      go_ret
      exact ⟨rfl, by (repeat' (first | with_reducible exact Below.refl _ _ | with_reducible assumption | with_reducible refine Below.drew ?_ | with_reducible refine below_drewN' ?_ _ | with_reducible refine Below.alloc ?_ ?_ _ | with_reducible refine Below.setCell ?_ ?_ _ | with_reducible refine below_step (by assumption) ?_ ?_ | omega | (simp; done) | (simp; omega)))⟩
    · rw [if_neg hm] at hZ
      subst hZ
      have e0 : 0 ≤ a * (q + 1) := Int.mul_nonneg h0 (by omega)
      have k3 : IntKind.i64.wrap (a * (q + 1)) = a * (q + 1) := wrap_in (by omega) (by omega)
      go_enter Tryz.func84, Tryz.ntmps84
      go_wp2
      go_ret
      exact ⟨rfl, by (repeat' (first | with_reducible exact Below.refl _ _ | with_reducible assumption | with_reducible refine Below.drew ?_ | with_reducible refine below_drewN' ?_ _ | with_reducible refine Below.alloc ?_ ?_ _ | with_reducible refine Below.setCell ?_ ?_ _ | with_reducible refine below_step (by assumption) ?_ ?_ | omega | (simp; done) | (simp; omega)))⟩
end Go.Proofs.YtmkdfcggjlhcpaaGreatDoor
namespace Go.Proofs.YtmkdfcggjlhcpaaGreatDoor
open Go.RowKit
set_option linter.unusedVariables false
set_option linter.unusedSimpArgs false
set_option maxRecDepth 100000 in
set_option maxHeartbeats 1000000 in
theorem pfc_any (x : Ins) (key : ByteArray) (b : Nat) (w : World) (hb : b < w.heap.size) (hc : w.cell? ⟨b, 0, none⟩ = some (.string key)) :
    Calls Tryz.prog 60 #[.agg #[.string x.nm, .string x.gp, .int .i64 x.st, .int .i64 x.lf, .int .i64 x.si], .pointer (some ⟨b, 0, none⟩)] w fun e w' => e = .returned (.bool (nmB x.nm key)) ∧ Below w.heap.size w w' := by
  have He := Lib.hid (nmB_list x.nm key)
  cases h : nmB x.nm key
  all_goals
    have hd := He.out
    rw [h] at hd
    have H := Lib.hid h
    clear h
    go_enter Tryz.func60, Tryz.ntmps60
    go_wp2
    go_ret
    exact ⟨rfl, by (repeat' (first | with_reducible exact Below.refl _ _ | with_reducible assumption | with_reducible refine Below.drew ?_ | with_reducible refine below_drewN' ?_ _ | with_reducible refine Below.alloc ?_ ?_ _ | with_reducible refine Below.setCell ?_ ?_ _ | with_reducible refine below_step (by assumption) ?_ ?_ | omega | (simp; done) | (simp; omega)))⟩
set_option maxRecDepth 100000 in
set_option maxHeartbeats 2000000 in
theorem pidxf_any (a : Option Addr) (L : List Ins) (ka : Nat) (key : ByteArray) (b : Nat) (w : World) (hI : InsL w a L) (hn : L.length ≤ 1000000) (hb : b < w.heap.size) (hc : w.cell? ⟨b, 0, none⟩ = some (.string key)) :
    Calls Tryz.prog 53 #[.slice a L.length ka, .func (.func 60) #[] #[.pointer (some ⟨b, 0, none⟩)]] w fun e w' => e = .returned (.int .i64 (plI L key)) ∧ Below w.heap.size w w' := by
  have HI := Lib.hid hI
  have Hc := Lib.hid hc
  obtain ⟨n, hln⟩ : ∃ n, L.length = n := ⟨_, rfl⟩
  have Hln := Lib.hid hln
  rw [hln] at hn ⊢
  clear hI hc hln
  go_enter Tryz.func53, Tryz.ntmps53
  go_wp2
  go_loopw [8] (fun i wr => ∃ k : Nat, k ≤ n ∧ i = .int .i64 k ∧ Below w.heap.size w wr ∧ ∀ (j : Nat) (y : Ins), j < k → L[j]? = some y → y.nm ≠ key) (fun i _ => n - (intOf i).toNat)
  case atStart => exact ⟨0, by omega, rfl, by (repeat' (first | with_reducible exact Below.refl _ _ | with_reducible assumption | with_reducible refine Below.drew ?_ | with_reducible refine below_drewN' ?_ _ | with_reducible refine Below.alloc ?_ ?_ _ | with_reducible refine Below.setCell ?_ ?_ _ | with_reducible refine below_step (by assumption) ?_ ?_ | omega | (simp; done) | (simp; omega))), fun j y hj => by omega⟩
  case round =>
    obtain ⟨k, hk, rfl, hB, hE⟩ := hrel
    obtain ⟨hcB, hfB⟩ := bcell hB
    have HE := Lib.hid hE
    have hzB := hB.size
    clear hE
    by_cases hlt : k < n
    · obtain ⟨x, hx⟩ := mem_at (l := L) (k := k) (by rw [Hln.out]; exact hlt)
      obtain ⟨b2, off, rfl, hb2, hc2⟩ := HI.out (by rw [Hln.out]; omega)
      have hbw2 : b2 < wr.heap.size := by omega
      have hbw : b < wr.heap.size := by omega
      obtain ⟨c0, c1, c2, c3, c4⟩ := irow_cells (hc2 k x hx)
      have Hx := Lib.hid hx
      have HF := Lib.hid (fun V (hV : Below wr.heap.size wr V) => pfc_any x key b V (Nat.lt_of_lt_of_le hbw hV.size) ((hV.cell (p := ⟨b, 0, none⟩) hbw).trans ((hcB b 0 hb).trans Hc.out)))
      clear hc2 hx
      by_cases he : x.nm = key
      · have hv : nmB x.nm key = true := decide_eq_true he
        have Hr := Lib.hid (show plI L key = k by unfold plI; rw [fndI_at Hx.out he HE.out])
        rw [hv] at HF
        clear he hv
        go_wp2_with (go_at_call 60; (with_reducible refine (HF.out _ (by (repeat' (first | with_reducible exact Below.refl _ _ | with_reducible assumption | with_reducible refine Below.drew ?_ | with_reducible refine below_drewN' ?_ _ | with_reducible refine Below.alloc ?_ ?_ _ | with_reducible refine Below.setCell ?_ ?_ _ | with_reducible refine below_step (by assumption) ?_ ?_ | omega | (simp; done) | (simp; omega))))).mono ?_); rintro e w1 ⟨rfl, hb1⟩)
        go_ret
        exact ⟨by rw [Hr.out]; rfl, by (repeat' (first | with_reducible exact Below.refl _ _ | with_reducible assumption | with_reducible refine Below.drew ?_ | with_reducible refine below_drewN' ?_ _ | with_reducible refine Below.alloc ?_ ?_ _ | with_reducible refine Below.setCell ?_ ?_ _ | with_reducible refine below_step (by assumption) ?_ ?_ | omega | (simp; done) | (simp; omega)))⟩
      · have hv : nmB x.nm key = false := decide_eq_false he
        have He := Lib.hid (show ∀ (j : Nat) (y : Ins), j < k + 1 → L[j]? = some y → y.nm ≠ key from fun j y hj hy => by
          by_cases e : j < k
          · exact HE.out j y e hy
          · obtain rfl : j = k := by omega
            rw [Hx.out] at hy
            obtain rfl := Option.some.inj hy
            exact he)
        rw [hv] at HF
        clear he hv
        go_wp2_with (go_at_call 60; (with_reducible refine (HF.out _ (by (repeat' (first | with_reducible exact Below.refl _ _ | with_reducible assumption | with_reducible refine Below.drew ?_ | with_reducible refine below_drewN' ?_ _ | with_reducible refine Below.alloc ?_ ?_ _ | with_reducible refine Below.setCell ?_ ?_ _ | with_reducible refine below_step (by assumption) ?_ ?_ | omega | (simp; done) | (simp; omega))))).mono ?_); rintro e w1 ⟨rfl, hb1⟩)
        go_roundw
        case rel => exact ⟨k + 1, by omega, by go_num, by (repeat' (first | with_reducible exact Below.refl _ _ | with_reducible assumption | with_reducible refine Below.drew ?_ | with_reducible refine below_drewN' ?_ _ | with_reducible refine Below.alloc ?_ ?_ _ | with_reducible refine Below.setCell ?_ ?_ _ | with_reducible refine below_step (by assumption) ?_ ?_ | omega | (simp; done) | (simp; omega))), He.out⟩
        case measure => simp [intOf]; omega
    · obtain rfl : k = n := by omega
      have Hr := Lib.hid (show plI L key = -1 by unfold plI; rw [fndI_none (s := key) (L := L) fun j y hy => HE.out j y (by have := lt_at hy; rw [Hln.out] at this; exact this) hy])
      go_wp2
      go_ret
      exact ⟨by rw [Hr.out]; rfl, by (repeat' (first | with_reducible exact Below.refl _ _ | with_reducible assumption | with_reducible refine Below.drew ?_ | with_reducible refine below_drewN' ?_ _ | with_reducible refine Below.alloc ?_ ?_ _ | with_reducible refine Below.setCell ?_ ?_ _ | with_reducible refine below_step (by assumption) ?_ ?_ | omega | (simp; done) | (simp; omega)))⟩
set_option maxRecDepth 100000 in
set_option maxHeartbeats 2000000 in
theorem pfind_none (s : St) (key : ByteArray) (w : World) (hI : StIn w s) (hL : s.L.length ≤ 1000000) (hf : fndI s.L key = none) :
    Calls Tryz.prog 39 #[.agg #[.slice s.ga s.C.length s.gk, .slice s.ta s.T.length s.tk, .slice s.ia s.L.length s.ik, .int .i64 s.c0, .int .i64 s.c1, .int .i64 s.c2, .slice s.ra s.R.length s.rk, .int .i64 s.un, .int .i64 s.sh], .string key] w fun e w' => e = .returned (.tuple #[.int .i64 0, .int .i64 0, .bool false]) ∧ Below w.heap.size w w' := by
  have HX := Lib.hid (fun (b : Nat) V (hV : Below w.heap.size w V) (hb : b < V.heap.size) (hc : V.cell? ⟨b, 0, none⟩ = some (.string key)) => pidxf_any s.ia s.L s.ik key b V (hI.i.mono hV) hL hb hc)
  have hp : plI s.L key = -1 := by unfold plI; rw [hf]
  rw [hp] at HX
  clear hI hf hp hL
  obtain ⟨ga, C, gk, ta, T, tk, ia, L, ik, z0, z1, z2, ra, R, rk, un, sh⟩ := s
  dsimp only at HX ⊢
  obtain ⟨n, hn⟩ : ∃ n, L.length = n := ⟨_, rfl⟩
  rw [hn] at HX ⊢
  clear hn
  go_enter Tryz.func39, Tryz.ntmps39
  go_wp2_with (go_at_call 53; (with_reducible refine (HX.out (w.heap.size + 1) _ (by (repeat' (first | with_reducible exact Below.refl _ _ | with_reducible assumption | with_reducible refine Below.drew ?_ | with_reducible refine below_drewN' ?_ _ | with_reducible refine Below.alloc ?_ ?_ _ | with_reducible refine Below.setCell ?_ ?_ _ | with_reducible refine below_step (by assumption) ?_ ?_ | omega | (simp; done) | (simp; omega)))) (by simp) (by simp [go_sem])).mono ?_); rintro e w1 ⟨rfl, hb1⟩; have hz1 := hb1.size; (try simp at hz1))
  refine bodyPost_ret (v := .tuple #[.int .i64 0, .int .i64 0, .bool false]) (by simp [results, Tryz.results39, go_sem]) rfl ⟨rfl, by (repeat' (first | with_reducible exact Below.refl _ _ | with_reducible assumption | with_reducible refine Below.drew ?_ | with_reducible refine below_drewN' ?_ _ | with_reducible refine Below.alloc ?_ ?_ _ | with_reducible refine Below.setCell ?_ ?_ _ | with_reducible refine below_step (by assumption) ?_ ?_ | omega | (simp; done) | (simp; omega)))⟩
set_option maxRecDepth 100000 in
set_option maxHeartbeats 4000000 in
theorem pfind_some (s : St) (key : ByteArray) (k : Nat) (x : Ins) (q : Int) (w : World) (hI : StIn w s) (hL : s.L.length ≤ 1000000) (hf : fndI s.L key = some k) (hx : s.L[k]? = some x) (hq : findA s.C x.gp 0 = q) (hC : s.C.length ≤ 1000) :
    Calls Tryz.prog 39 #[.agg #[.slice s.ga s.C.length s.gk, .slice s.ta s.T.length s.tk, .slice s.ia s.L.length s.ik, .int .i64 s.c0, .int .i64 s.c1, .int .i64 s.c2, .slice s.ra s.R.length s.rk, .int .i64 s.un, .int .i64 s.sh], .string key] w fun e w' => e = .returned (.tuple #[.int .i64 k, .int .i64 q, .bool (decide (0 ≤ q))]) ∧ Below w.heap.size w w' := by
  have HX := Lib.hid (fun (b : Nat) V (hV : Below w.heap.size w V) (hb : b < V.heap.size) (hc : V.cell? ⟨b, 0, none⟩ = some (.string key)) => pidxf_any s.ia s.L s.ik key b V (hI.i.mono hV) hL hb hc)
  have HF := Lib.hid (fun V (hV : Below w.heap.size w V) => find_any s.ga s.C s.gk x.gp V (hI.g.mono hV) (by unfold maxLen; omega))
  have hp : plI s.L key = k := by unfold plI; rw [hf]
  have hlt := lt_at hx
  obtain ⟨b, off, hb, hbw, hc⟩ := hI.i (by omega)
  obtain ⟨d0, d1, -⟩ := irow_cells (hc k x hx)
  rw [hp] at HX
  rw [hq] at HF
  clear hI hf hp hL hc hx hq hC
  obtain ⟨ga, C, gk, ta, T, tk, ia, L, ik, z0, z1, z2, ra, R, rk, un, sh⟩ := s
  dsimp only at HX HF hlt hb ⊢
  subst hb
  obtain ⟨n, hn⟩ : ∃ n, L.length = n := ⟨_, rfl⟩
  obtain ⟨m, hm⟩ : ∃ m, C.length = m := ⟨_, rfl⟩
  rw [hn] at HX hlt ⊢
  rw [hm] at HF ⊢
  clear hn hm
  have k1 : decide ((k : Int) < 0) = false := decide_eq_false (by omega)
  obtain ⟨gp, hgp⟩ : ∃ gp, x.gp = gp := ⟨_, rfl⟩
  rw [hgp] at HF d1
  obtain ⟨kd, hkd⟩ : ∃ kd, decide (0 ≤ q) = kd := ⟨_, rfl⟩
  rw [hkd]
  clear hgp
  go_enter Tryz.func39, Tryz.ntmps39
  go_wp2_with (go_at_call 53; (with_reducible refine (HX.out (w.heap.size + 1) _ (by (repeat' (first | with_reducible exact Below.refl _ _ | with_reducible assumption | with_reducible refine Below.drew ?_ | with_reducible refine below_drewN' ?_ _ | with_reducible refine Below.alloc ?_ ?_ _ | with_reducible refine Below.setCell ?_ ?_ _ | with_reducible refine below_step (by assumption) ?_ ?_ | omega | (simp; done) | (simp; omega)))) (by simp) (by simp [go_sem])).mono ?_); rintro e w1 ⟨rfl, hb1⟩; have HB1 := Lib.hid (show Below w.heap.size w w1 by (repeat' (first | with_reducible exact Below.refl _ _ | with_reducible assumption | with_reducible refine Below.drew ?_ | with_reducible refine below_drewN' ?_ _ | with_reducible refine Below.alloc ?_ ?_ _ | with_reducible refine Below.setCell ?_ ?_ _ | with_reducible refine below_step (by assumption) ?_ ?_ | omega | (simp; done) | (simp; omega)))); obtain ⟨hc1, hf1⟩ := bcell hb1; have hz1 := hb1.size; (try simp at hz1); have hy1 : w.heap.size < w1.heap.size := (by omega); have hx1 : b < w1.heap.size := (by omega); have e1 := (HB1.out.cell (p := ⟨b, off + k * 5 + 1, none⟩) hbw).trans d1)
  have hcH := held_cell
  refine region_below (by kernel_rfl) (by kernel_rfl) ?_
  repeat
    ((with_reducible refine wpQuiet_step (fun K hK => ?_))
     go_simp
     first
       | ((with_reducible refine hK _ ?_); clear hK K)
       | (apply Exists.intro
          (with_reducible refine ⟨fun n => ?_, hK _ ?_⟩)
          ((go_at_call 38; exact held_calls (HF.out _ (HB1.out.trans (Below.mono n.below HB1.out.size)))))
          clear hK K))
  with_reducible refine wpQuiet_nil ?_
  intro w4 hw2
  clear hcH
  obtain ⟨⟨_, hb4⟩, rfl⟩ := hw2
  (try dsimp only)
  obtain ⟨hc4, hf4⟩ := bcell hb4
  have hz4 := hb4.size
  (try simp at hz4)
  have hy4 : w.heap.size < w4.heap.size := by omega
  go_wp2
  refine bodyPost_ret (v := .tuple #[.int .i64 k, .int .i64 q, .bool kd]) (by simp [results, Tryz.results39, go_sem, hkd]) rfl ⟨rfl, HB1.out.trans (hb4.mono HB1.out.size)⟩
end Go.Proofs.YtmkdfcggjlhcpaaGreatDoor
namespace Go.Proofs.YtmkdfcggjlhcpaaGreatDoor
open Go.RowKit
set_option linter.unusedVariables false
set_option linter.unusedSimpArgs false
set_option maxRecDepth 100000 in
set_option maxHeartbeats 4000000 in
theorem whyfix_any (s : St) (j : Nat) (g : Gp) (t n : Int) (w : World) (hI : StIn w s) (hg : s.C[j]? = some g) (ht : s.T[j]? = some t) (hT : s.T.length ≤ 1000) (hC : s.C.length ≤ 1000) (hL : s.L.length ≤ 1000000)
    (h0 : 0 ≤ t) (h1 : t ≤ 200) (hm0 : 0 ≤ g.mn) (hm1 : g.mn ≤ 200) (hn : 1 ≤ n) (hn1 : n ≤ 9223372036854775807) :
    Calls Tryz.prog 67 #[.agg #[.slice s.ga s.C.length s.gk, .slice s.ta s.T.length s.tk, .slice s.ia s.L.length s.ik, .int .i64 s.c0, .int .i64 s.c1, .int .i64 s.c2, .slice s.ra s.R.length s.rk, .int .i64 s.un, .int .i64 s.sh], .int .i64 (j : Int), .int .i64 n] w fun e w' => e = .returned (.int .i64 (if t - n < g.mn ∨ t - n < (sizeI s.L g.nm : Int) then 20 else 0)) ∧ Below w.heap.size w w' := by
  have HTg := Lib.hid (fun V (hV : Below w.heap.size w V) => ptarget_any s j t V (hI.mono hV) ht (by omega))
  have hjn := lt_at hg
  obtain ⟨b2, o2, hb2, hbw2, hc2⟩ := hI.g (by omega)
  obtain ⟨x0, x1, -⟩ := grow_cells (hc2 j g hg)
  have HI := Lib.hid hI.i
  obtain ⟨nm, hnm⟩ : ∃ nm, g.nm = nm := ⟨_, rfl⟩
  obtain ⟨mn, hmn⟩ : ∃ mn, g.mn = mn := ⟨_, rfl⟩
  rw [hnm] at x0 ⊢
  rw [hmn] at x1 hm0 hm1 ⊢
  clear hI hg ht hc2 hnm hmn hT
  obtain ⟨ga, C, gk, ta, T, tk, ia, L, ik, z0, z1, z2, ra, R, rk, un, sh⟩ := s
  dsimp only at HTg HI hjn hb2 hL hC ⊢
  subst hb2
  obtain ⟨m, hm⟩ : ∃ m, L.length = m := ⟨_, rfl⟩
  obtain ⟨N, hN⟩ : ∃ N, C.length = N := ⟨_, rfl⟩
  obtain ⟨M, hM⟩ : ∃ M, T.length = M := ⟨_, rfl⟩
  have Hm := Lib.hid hm
  rw [hm] at HTg hL ⊢
  rw [hN] at HTg hjn hC ⊢
  rw [hM] at HTg ⊢
  clear hm hN hM
  obtain ⟨rz, hrz⟩ : ∃ rz : Int, (if t - n < mn ∨ t - n < (sizeI L nm : Int) then 20 else 0) = rz := ⟨_, rfl⟩
  rw [hrz]
  have HRz := Lib.hid hrz
  clear hrz
  go_enter Tryz.func67, Tryz.ntmps67
  go_wp2
  obtain ⟨W, hW⟩ : ∃ W, W = w.alloc (.cells #[.slice (some ⟨b2, o2, none⟩) N gk, .slice ta M tk, .slice ia m ik, .int .i64 z0, .int .i64 z1, .int .i64 z2, .slice ra R.length rk, .int .i64 un, .int .i64 sh] 52) := ⟨_, rfl⟩
  have HW := Lib.hid (show Below w.heap.size w W by rw [hW]; (repeat' (first | with_reducible exact Below.refl _ _ | with_reducible assumption | with_reducible refine Below.drew ?_ | with_reducible refine below_drewN' ?_ _ | with_reducible refine Below.alloc ?_ ?_ _ | with_reducible refine Below.setCell ?_ ?_ _ | with_reducible refine below_step (by assumption) ?_ ?_ | omega | (simp; done) | (simp; omega))))
  have hWz : w.heap.size < W.heap.size := by rw [hW]; simp
  have HBl := Lib.hid (show Blk W w.heap.size 52 [.slice (some ⟨b2, o2, none⟩) N gk, .slice ta M tk, .slice ia m ik, .int .i64 z0, .int .i64 z1, .int .i64 z2, .slice ra R.length rk, .int .i64 un, .int .i64 sh] by rw [hW]; exact Blk.new w _ _)
  rw [← hW]
  clear hW
  go_loopw [7, 15] (fun vn vi wr => ∃ k : Nat, k ≤ m ∧ vi = .int .i64 k ∧ vn = .int .i64 (sizeI (L.take k) nm) ∧ Below W.heap.size W wr) (fun _ vi _ => m - (intOf vi).toNat)
  case atStart => exact ⟨0, Nat.zero_le _, rfl, rfl, by (repeat' (first | with_reducible exact Below.refl _ _ | with_reducible assumption | with_reducible refine Below.drew ?_ | with_reducible refine below_drewN' ?_ _ | with_reducible refine Below.alloc ?_ ?_ _ | with_reducible refine Below.setCell ?_ ?_ _ | with_reducible refine below_step (by assumption) ?_ ?_ | omega | (simp; done) | (simp; omega)))⟩
  case round =>
    obtain ⟨k, hk, rfl, rfl, hB⟩ := hrel
    have HB := Lib.hid (HW.out.trans (hB.mono (by omega)))
    have HY := Lib.hid (HBl.out.below hB)
    obtain ⟨hcB, hfB⟩ := bcell HB.out
    have hzB := hB.size
    have hww : w.heap.size < wr.heap.size := by omega
    have y0 := HY.out.cell 0
    have y1 := HY.out.cell 1
    have y2 := HY.out.cell 2
    have y3 := HY.out.cell 3
    have y4 := HY.out.cell 4
    have y5 := HY.out.cell 5
    have y6 := HY.out.cell 6
    have y7 := HY.out.cell 7
    have y8 := HY.out.cell 8
    dsimp only [List.getElem?_cons_zero, List.getElem?_cons_succ] at y0 y1 y2 y3 y4 y5 y6 y7 y8
    have hb2r : b2 < wr.heap.size := by omega
    by_cases hlt : k < m
    · obtain ⟨x, hx⟩ := mem_at (l := L) (k := k) (by rw [Hm.out]; exact hlt)
      obtain ⟨q, o, rfl, hq, hc⟩ := HI.out (by rw [Hm.out]; omega)
      have hqw : q < wr.heap.size := by omega
      obtain ⟨d0, d1, d2, d3, d4⟩ := irow_cells (hc k x hx)
      have hst := Lib.hid (sizeI_take hx nm)
      have hcl := sizeI_le (L.take k) nm
      have h8 : (L.take k).length ≤ k := List.length_take_le _ _
      obtain ⟨z, hz⟩ : ∃ z, sizeI (L.take k) nm = z := ⟨_, rfl⟩
      rw [hz] at hcl hst ⊢
      have Hz := Lib.hid hz
      clear hc hx hz
      by_cases hg : x.gp = nm
      · have k1 := ctx_eq hg
        by_cases h3 : x.st = 3
        · have k3 : (x.st != 3) = false := by rw [h3]; rfl
          have He := Lib.hid (show sizeI (L.take (k + 1)) nm = z from by rw [hst.out, if_neg (fun h => h.2 h3)]; rfl)
          clear h3 hg
          go_wp2
          go_quiet (skip)
          go_wp2
          go_roundw
          case rel => exact ⟨k + 1, by omega, by go_num, by rw [He.out], by (repeat' (first | with_reducible exact Below.refl _ _ | with_reducible assumption | with_reducible refine Below.drew ?_ | with_reducible refine below_drewN' ?_ _ | with_reducible refine Below.alloc ?_ ?_ _ | with_reducible refine Below.setCell ?_ ?_ _ | with_reducible refine below_step (by assumption) ?_ ?_ | omega | (simp; done) | (simp; omega)))⟩
          case measure => simp [intOf]; omega
        · have k3 : (x.st != 3) = true := by simpa using h3
          have He := Lib.hid (show sizeI (L.take (k + 1)) nm = z + 1 from by rw [hst.out, if_pos ⟨hg, h3⟩])
          clear h3 hg
          go_wp2
          go_quiet (skip)
          go_wp2
          go_roundw
          case rel => exact ⟨k + 1, by omega, by go_num, by rw [He.out]; go_num, by (repeat' (first | with_reducible exact Below.refl _ _ | with_reducible assumption | with_reducible refine Below.drew ?_ | with_reducible refine below_drewN' ?_ _ | with_reducible refine Below.alloc ?_ ?_ _ | with_reducible refine Below.setCell ?_ ?_ _ | with_reducible refine below_step (by assumption) ?_ ?_ | omega | (simp; done) | (simp; omega)))⟩
          case measure => simp [intOf]; omega
      · have k1 := ctx_ne hg
        have He := Lib.hid (show sizeI (L.take (k + 1)) nm = z from by rw [hst.out, if_neg (fun h => hg h.1)]; rfl)
        clear hg
        go_wp2
        go_quiet (skip)
        go_wp2
        go_roundw
        case rel => exact ⟨k + 1, by omega, by go_num, by rw [He.out], by (repeat' (first | with_reducible exact Below.refl _ _ | with_reducible assumption | with_reducible refine Below.drew ?_ | with_reducible refine below_drewN' ?_ _ | with_reducible refine Below.alloc ?_ ?_ _ | with_reducible refine Below.setCell ?_ ?_ _ | with_reducible refine below_step (by assumption) ?_ ?_ | omega | (simp; done) | (simp; omega)))⟩
        case measure => simp [intOf]; omega
    · obtain rfl : k = m := by omega
      have hse : sizeI (L.take k) nm = sizeI L nm := by rw [List.take_of_length_le (Nat.le_of_eq Hm.out)]
      have hsl := sizeI_le L nm
      rw [Hm.out] at hsl
      rw [hse]
      have hrz := HRz.out
      obtain ⟨z, hz⟩ : ∃ z, sizeI L nm = z := ⟨_, rfl⟩
      rw [hz] at hsl hrz ⊢
      clear hse hz
      have k0 : IntKind.i64.wrap (t - n) = t - n := wrap_in (by omega) (by omega)
      have k1 : decide (t < t - n) = false := decide_eq_false (by omega)
      by_cases hv : t - n < mn ∨ t - n < (z : Int)
      · rw [if_pos hv] at hrz
        subst hrz
        by_cases hmz : (z : Int) < mn
        · have k2 : decide (t - n < mn) = true := decide_eq_true (by omega)
          clear hv
          go_wp2_with (go_at_call 40; (with_reducible refine (HTg.out _ HB.out).mono ?_); rintro e w3 ⟨rfl, hb3⟩; obtain ⟨hc3, hf3⟩ := bcell hb3; have hz3 := hb3.size; have HB3 := Lib.hid (HB.out.trans (hb3.mono HB.out.size)))
          go_ret
          exact ⟨rfl, HB3.out⟩
        · have k2 : decide (t - n < (z : Int)) = true := decide_eq_true (by omega)
          clear hv
          go_wp2_with (go_at_call 40; (with_reducible refine (HTg.out _ HB.out).mono ?_); rintro e w3 ⟨rfl, hb3⟩; obtain ⟨hc3, hf3⟩ := bcell hb3; have hz3 := hb3.size; have HB3 := Lib.hid (HB.out.trans (hb3.mono HB.out.size)))
          go_ret
          exact ⟨rfl, HB3.out⟩
      · rw [if_neg hv] at hrz
        subst hrz
        by_cases hmz : (z : Int) < mn
        · have k2 : decide (t - n < mn) = false := decide_eq_false (by omega)
          clear hv
          go_wp2_with (go_at_call 40; (with_reducible refine (HTg.out _ HB.out).mono ?_); rintro e w3 ⟨rfl, hb3⟩; obtain ⟨hc3, hf3⟩ := bcell hb3; have hz3 := hb3.size; have HB3 := Lib.hid (HB.out.trans (hb3.mono HB.out.size)))
          go_ret
          exact ⟨rfl, HB3.out⟩
        · have k2 : decide (t - n < (z : Int)) = false := decide_eq_false (by omega)
          clear hv
          go_wp2_with (go_at_call 40; (with_reducible refine (HTg.out _ HB.out).mono ?_); rintro e w3 ⟨rfl, hb3⟩; obtain ⟨hc3, hf3⟩ := bcell hb3; have hz3 := hb3.size; have HB3 := Lib.hid (HB.out.trans (hb3.mono HB.out.size)))
          go_ret
          exact ⟨rfl, HB3.out⟩
end Go.Proofs.YtmkdfcggjlhcpaaGreatDoor
namespace Go.Proofs.YtmkdfcggjlhcpaaGreatDoor
open Go.RowKit
set_option linter.unusedVariables false
set_option linter.unusedSimpArgs false
theorem Tryz.info35 : (Tryz.prog.info? 35).map (fun i => (i.zero, i.size, i.bytes)) = some (some (.agg #[.string ⟨#[]⟩, .string ⟨#[]⟩, .int .i64 0, .int .i64 0, .int .i64 0, .int .i64 0, .int .i64 0, .slice none 0 0, .slice none 0 0, .bool false]), 10, 128) := by kernel_rfl
def cntB (G : List Gk) (x : Ins) : Bool := (fndK G x.gp).isSome && !decide (x.st = 3)
theorem cntI_eq (s : St) : cntI s = s.L.countP (cntB s.G) := rfl
theorem cnt_take {G : List Gk} {L : List Ins} {k : Nat} {x : Ins} (h : L[k]? = some x) : (L.take (k + 1)).countP (cntB G) = (L.take k).countP (cntB G) + if cntB G x = true then 1 else 0 := by
  rw [take_at h, List.countP_append, List.countP_cons, List.countP_nil, Nat.zero_add]
def bigM (x y : Int) : Mac := ⟨⟨#[]⟩, ⟨#[]⟩, x, y, 0, 0, 0, none, 0, [], none, 0, [], false⟩
def RS (N : Nat) (x y : Int) (v : Value) (w : World) : Prop := ∃ (B : Nat), v = .slice (some ⟨B, 0, none⟩) 1 1 ∧ N ≤ B ∧ Blk w B 35 [.string ⟨#[]⟩, .string ⟨#[]⟩, .int .i64 x, .int .i64 y, .int .i64 0, .int .i64 0, .int .i64 0, .slice none 0 0, .slice none 0 0, .bool false]
theorem RS.stays (N : Nat) (x y : Int) : Stays (RS N x y) := fun v w w' hb ⟨B, e, h, hB⟩ => ⟨B, e, h, hB.below hb⟩
def likeF (C : List Gp) (x : Ins) : Option Mac := match fndK (C.map gkOf) x.gp with
  | none => none
  | some j => if x.st = 3 then none else (C[j]?).map Gp.like
def likesL (C : List Gp) (L : List Ins) : List Mac := L.filterMap (likeF C)
theorem likes_take {C : List Gp} {L : List Ins} {k : Nat} {x : Ins} (h : L[k]? = some x) : likesL C (L.take (k + 1)) = likesL C (L.take k) ++ (match likeF C x with | none => [] | some m => [m]) := by
  unfold likesL
  rw [take_at h, List.filterMap_append]
  congr 1
  cases hx : likeF C x with
  | none => simp [hx]
  | some m => simp [hx]
def bS (s : St) (j : Nat) (n : Int) : Bool := match s.C[j]? with
  | none => true
  | some g => (decide (s.c0 = 0) || decide (n ≤ s.c0 - cntI s)) && withinB 0 s.c1 s.c2 (likesL s.C s.L ++ [bigM (tmZ g.like.r0 n) (tmZ g.like.r1 n)])
set_option maxRecDepth 100000 in
set_option maxHeartbeats 8000000 in
theorem pwithin_any (s : St) (j : Nat) (g : Gp) (n : Int) (w : World) (hI : StIn w s) (hO : StOk s) (hg : s.C[j]? = some g) (hn : 1 ≤ n) (hn1 : n ≤ 9223372036854775807) :
    Calls Tryz.prog 70 #[.agg #[.slice s.ga s.C.length s.gk, .slice s.ta s.T.length s.tk, .slice s.ia s.L.length s.ik, .int .i64 s.c0, .int .i64 s.c1, .int .i64 s.c2, .slice s.ra s.R.length s.rk, .int .i64 s.un, .int .i64 s.sh], .int .i64 (j : Int), .int .i64 n] w fun e w' => e = .returned (.bool (bS s j n)) ∧ Below w.heap.size w w' := by
  have hO9 := Lib.hid hO
  have hb0 := hO.cb
  have hg16 := hO.g16
  have hlb := hO.lb
  have hL1 : s.L.length ≤ 999999 := by omega
  have HF := Lib.hid (fun (key : ByteArray) V (hV : Below w.heap.size w V) => find_any s.ga s.C s.gk key V (hI.g.mono hV) (by unfold maxLen; omega))
  have hjn := lt_at hg
  obtain ⟨b2, o2, hb2, hbw2, hc2⟩ := hI.g (by omega)
  have HC := Lib.hid hc2
  obtain ⟨-, -, -, -, -, x5, x6, x7, x8, x9, -⟩ := grow_cells (hc2 j g hg)
  have HI := Lib.hid hI.i
  have hgb := (hO.gb g (List.mem_of_getElem? hg)).2.2
  have HGb := Lib.hid (fun x (hx : x ∈ s.C) => (hO.gb x hx).2.2)
  have hcb := hO.cb
  unfold rightC capB at hcb
  rw [Bool.and_eq_true, Bool.and_eq_true, decide_eq_true_eq, decide_eq_true_eq, decide_eq_true_eq] at hcb
  obtain ⟨⟨⟨l0, u0⟩, l1, u1⟩, l2, u2⟩ := hcb
  have HWi := Lib.hid (fun (c : Option Addr) (kc : Nat) (ms : List Mac) V => capwithin_any 0 s.c1 s.c2 (by unfold rightC capB; simp; omega) c kc ms V)
  obtain ⟨m0, hm0⟩ : ∃ z, g.like.r0 = z := ⟨_, rfl⟩
  obtain ⟨m1, hm1⟩ : ∃ z, g.like.r1 = z := ⟨_, rfl⟩
  have hbS : bS s j n = ((decide (s.c0 = 0) || decide (n ≤ s.c0 - cntI s)) && withinB 0 s.c1 s.c2 (likesL s.C s.L ++ [bigM (tmZ m0 n) (tmZ m1 n)])) := by unfold bS; rw [hg]; dsimp only; rw [hm0, hm1]
  rw [hbS]
  clear hbS
  rw [hm0] at x5 hgb
  rw [hm1] at x6 hgb
  obtain ⟨⟨p0, p1⟩, q0, q1⟩ := hgb
  rw [cntI_eq]
  have hG : s.G = s.C.map gkOf := rfl
  rw [hG]
  clear hI hg hc2 hm0 hm1 hO hb0 hlb hG
  obtain ⟨ga, C, gk, ta, T, tk, ia, L, ik, z0, z1, z2, ra, R, rk, un, sh⟩ := s
  dsimp only at HF HC HI HGb HWi hjn hb2 hL1 hg16 l0 u0 l1 u1 l2 u2 ⊢
  clear hO9
  subst hb2
  obtain ⟨m, hm⟩ : ∃ m, L.length = m := ⟨_, rfl⟩
  obtain ⟨N, hN⟩ : ∃ N, C.length = N := ⟨_, rfl⟩
  have Hm := Lib.hid hm
  have HN := Lib.hid hN
  rw [hm] at hL1 ⊢
  rw [hN] at HF hjn hg16 ⊢
  obtain ⟨cb, hcb⟩ : ∃ cb, cntB (C.map gkOf) = cb := ⟨_, rfl⟩
  obtain ⟨BB, hBB⟩ : ∃ BB, ((decide (z0 = 0) || decide (n ≤ z0 - ((L.countP cb : Nat) : Int))) && withinB 0 z1 z2 (likesL C L ++ [bigM (tmZ m0 n) (tmZ m1 n)])) = BB := ⟨_, rfl⟩
  have HBB := Lib.hid hBB
  have Hcb := Lib.hid hcb
  rw [hcb, hBB]
  have HT0 := Lib.hid (fun V => times_any m0 n V p0 p1 hn hn1)
  have HT1 := Lib.hid (fun V => times_any m1 n V q0 q1 hn hn1)
  obtain ⟨xa, hxa⟩ : ∃ z, tmZ m0 n = z := ⟨_, rfl⟩
  obtain ⟨xb, hxb⟩ : ∃ z, tmZ m1 n = z := ⟨_, rfl⟩
  have HTb := Lib.hid (show (0 ≤ tmZ m0 n ∧ tmZ m0 n ≤ 576460752303423488) ∧ 0 ≤ tmZ m1 n ∧ tmZ m1 n ≤ 576460752303423488 from ⟨tmZ_b p0 p1 hn, tmZ_b q0 q1 hn⟩)
  rw [hxa, hxb] at HTb
  rw [hxa] at HT0 HBB
  rw [hxb] at HT1 HBB
  clear hm hN hcb hBB hxa hxb
  obtain ⟨i0, hi, hz0, hz1, hz2⟩ := info_parts Tryz.info35
  have Hi := Lib.hid hi
  have Hz0 := Lib.hid hz0
  have Hz1 := Lib.hid hz1
  have Hz2 := Lib.hid hz2
  clear hi hz0 hz1 hz2
  go_enter Tryz.func70, Tryz.ntmps70
  go_wp2
  obtain ⟨W, hW⟩ : ∃ W, W = w.alloc (.cells #[.slice (some ⟨b2, o2, none⟩) N gk, .slice ta T.length tk, .slice ia m ik, .int .i64 z0, .int .i64 z1, .int .i64 z2, .slice ra R.length rk, .int .i64 un, .int .i64 sh] 52) := ⟨_, rfl⟩
  have HW := Lib.hid (show Below w.heap.size w W by rw [hW]; (repeat' (first | with_reducible exact Below.refl _ _ | with_reducible assumption | with_reducible refine Below.drew ?_ | with_reducible refine below_drewN' ?_ _ | with_reducible refine Below.alloc ?_ ?_ _ | with_reducible refine Below.setCell ?_ ?_ _ | with_reducible refine below_step (by assumption) ?_ ?_ | omega | (simp; done) | (simp; omega))))
  have hWz : w.heap.size < W.heap.size := by rw [hW]; simp
  have HBl := Lib.hid (show Blk W w.heap.size 52 [.slice (some ⟨b2, o2, none⟩) N gk, .slice ta T.length tk, .slice ia m ik, .int .i64 z0, .int .i64 z1, .int .i64 z2, .slice ra R.length rk, .int .i64 un, .int .i64 sh] by rw [hW]; exact Blk.new w _ _)
  rw [← hW]
  clear hW
  go_loopw [7, 15] (fun v vi wr => ∃ (k : Nat) (A : List Mac), k ≤ m ∧ vi = .int .i64 k ∧ A.length = (L.take k).countP cb ∧ A = likesL C (L.take k) ∧ wr.ownsRow W.heap.size 35 10 v A.length (A.flatMap mcs) ∧ (∀ x ∈ A, (0 ≤ x.r0 ∧ x.r0 ≤ 1125899906842624) ∧ (0 ≤ x.r1 ∧ x.r1 ≤ 1125899906842624)) ∧ Below W.heap.size W wr) (fun _ vi _ => m - (intOf vi).toNat)
  case atStart => exact ⟨0, [], Nat.zero_le _, rfl, rfl, rfl, World.ownsRow_nil _ _ _ _, (fun x h => by cases h), by (repeat' (first | with_reducible exact Below.refl _ _ | with_reducible assumption | with_reducible refine Below.drew ?_ | with_reducible refine below_drewN' ?_ _ | with_reducible refine Below.alloc ?_ ?_ _ | with_reducible refine Below.setCell ?_ ?_ _ | with_reducible refine below_step (by assumption) ?_ ?_ | omega | (simp; done) | (simp; omega)))⟩
  case round =>
    obtain ⟨k, A, hk, rfl, hA, hAl, hown, hAb, hB⟩ := hrel
    have HAl := Lib.hid hAl
    clear hAl
    have HB := Lib.hid (HW.out.trans (hB.mono (by omega)))
    have HY := Lib.hid (HBl.out.below hB)
    obtain ⟨hcB, hfB⟩ := bcell HB.out
    have hzB := hB.size
    have hww : w.heap.size < wr.heap.size := by omega
    have y0 := HY.out.cell 0
    have y1 := HY.out.cell 1
    have y2 := HY.out.cell 2
    have y3 := HY.out.cell 3
    have y4 := HY.out.cell 4
    have y5 := HY.out.cell 5
    dsimp only [List.getElem?_cons_zero, List.getElem?_cons_succ] at y0 y1 y2 y3 y4 y5
    have hb2r : b2 < wr.heap.size := by omega
    have Hown := Lib.hid hown
    have HA := Lib.hid hA
    have HAb := Lib.hid hAb
    have hAk : A.length ≤ k := by rw [hA]; exact Nat.le_trans List.countP_le_length (List.length_take_le _ _)
    clear hown hA hAb
    by_cases hlt : k < m
    · obtain ⟨x, hx⟩ := mem_at (l := L) (k := k) (by rw [Hm.out]; exact hlt)
      obtain ⟨q, o, rfl, hq, hc⟩ := HI.out (by rw [Hm.out]; omega)
      have hqw : q < wr.heap.size := by omega
      obtain ⟨d0, d1, d2, d3, d4⟩ := irow_cells (hc k x hx)
      have Hlk := Lib.hid (likes_take (C := C) hx)
      have hst := cnt_take (G := C.map gkOf) hx
      rw [Hcb.out] at hst
      have Hst := Lib.hid hst
      have HFx := Lib.hid (HF.out x.gp)
      have hcx : cb x = ((fndK (C.map gkOf) x.gp).isSome && !decide (x.st = 3)) := by rw [← Hcb.out]; rfl
      clear hc hx hst
      cases hf : fndK (C.map gkOf) x.gp with
      | none =>
        have hq9 := findA_none hf
        rw [hq9] at HFx
        rw [hf] at hcx
        have Hn := Lib.hid (show A.length = (L.take (k + 1)).countP cb by rw [Hst.out, hcx, HA.out]; rfl)
        have Hl := Lib.hid (show A = likesL C (L.take (k + 1)) by rw [Hlk.out, ← HAl.out]; unfold likeF; rw [hf]; exact (List.append_nil A).symm)
        clear hf hq9 hcx
        go_wp2_with (go_at_call 38; (with_reducible refine (HFx.out _ (HB.out.alloc (Nat.le_of_lt hww) _)).mono ?_); rintro e w5 ⟨rfl, hb5⟩; obtain ⟨hc5, hf5⟩ := bcell hb5; have hz5 := hb5.size; (try simp at hz5); have HOx := Lib.hid (own_kept (Hown.out.alloc _) hb5); have HBx := Lib.hid (show Below W.heap.size W w5 by (repeat' (first | with_reducible exact Below.refl _ _ | with_reducible assumption | with_reducible refine Below.drew ?_ | with_reducible refine below_drewN' ?_ _ | with_reducible refine Below.alloc ?_ ?_ _ | with_reducible refine Below.setCell ?_ ?_ _ | with_reducible refine below_step (by assumption) ?_ ?_ | omega | (simp; done) | (simp; omega)))); have hbx := HBx.out.size; have hy5 : w.heap.size < w5.heap.size := (by omega); have hx5 : b2 < w5.heap.size := (by omega); have hv5 : wr.heap.size < w5.heap.size := (by omega))
        go_roundw
        case rel => exact ⟨k + 1, A, by omega, by go_num, Hn.out, Hl.out, HOx.out, HAb.out, HBx.out⟩
        case measure => simp [intOf]; omega
      | some j2 =>
        have hq9 := findA_some hf
        rw [hq9] at HFx
        rw [hf] at hcx
        obtain ⟨g0, hg0, -⟩ := fndK_lt hf
        obtain ⟨g2, hg2⟩ : ∃ g2, C[j2]? = some g2 := by
          rw [List.getElem?_map] at hg0
          cases h : C[j2]? with
          | none => rw [h] at hg0; cases hg0
          | some g2 => exact ⟨g2, rfl⟩
        have hj2 : j2 < N := by have := lt_at hg2; rw [HN.out] at this; exact this
        by_cases h3 : x.st = 3
        · have k3 : (x.st != 3) = false := by rw [h3]; rfl
          have Hn := Lib.hid (show A.length = (L.take (k + 1)).countP cb by rw [Hst.out, hcx, decide_eq_true h3, HA.out]; rfl)
          have Hl := Lib.hid (show A = likesL C (L.take (k + 1)) by rw [Hlk.out, ← HAl.out]; unfold likeF; rw [hf]; dsimp only; rw [if_pos h3]; exact (List.append_nil A).symm)
          clear h3 hf hq9 hcx hg0 hg2
          go_wp2_with (go_at_call 38; (with_reducible refine (HFx.out _ (HB.out.alloc (Nat.le_of_lt hww) _)).mono ?_); rintro e w5 ⟨rfl, hb5⟩; obtain ⟨hc5, hf5⟩ := bcell hb5; have hz5 := hb5.size; (try simp at hz5); have HOx := Lib.hid (own_kept (Hown.out.alloc _) hb5); have HBx := Lib.hid (show Below W.heap.size W w5 by (repeat' (first | with_reducible exact Below.refl _ _ | with_reducible assumption | with_reducible refine Below.drew ?_ | with_reducible refine below_drewN' ?_ _ | with_reducible refine Below.alloc ?_ ?_ _ | with_reducible refine Below.setCell ?_ ?_ _ | with_reducible refine below_step (by assumption) ?_ ?_ | omega | (simp; done) | (simp; omega)))); have hbx := HBx.out.size; have hy5 : w.heap.size < w5.heap.size := (by omega); have hx5 : b2 < w5.heap.size := (by omega); have hv5 : wr.heap.size < w5.heap.size := (by omega))
          go_roundw
          case rel => exact ⟨k + 1, A, by omega, by go_num, Hn.out, Hl.out, HOx.out, HAb.out, HBx.out⟩
          case measure => simp [intOf]; omega
        · have k3 : (x.st != 3) = true := by simpa using h3
          have hGb := HGb.out g2 (List.mem_of_getElem? hg2)
          have Hn := Lib.hid (show (A ++ [g2.like]).length = (L.take (k + 1)).countP cb by rw [Hst.out, hcx, decide_eq_false h3, List.length_append, HA.out]; rfl)
          have Hl := Lib.hid (show A ++ [g2.like] = likesL C (L.take (k + 1)) by rw [Hlk.out, ← HAl.out]; unfold likeF; rw [hf]; dsimp only; rw [if_neg h3, hg2]; rfl)
          have HAn := Lib.hid (show ∀ x ∈ A ++ [g2.like], (0 ≤ x.r0 ∧ x.r0 ≤ 1125899906842624) ∧ (0 ≤ x.r1 ∧ x.r1 ≤ 1125899906842624) from fun x hx => by
            rcases List.mem_append.1 hx with h | h
            · exact HAb.out x h
            · rw [List.mem_singleton.1 h]; exact hGb)
          obtain ⟨-, -, -, t3, t4, t5, t6, t7, t8, t9, t10, t11, t12, -⟩ := grow_cells (HC.out j2 g2 hg2)
          obtain ⟨M2, hM2⟩ : ∃ M2, g2.like = M2 := ⟨_, rfl⟩
          rw [hM2] at t3 t4 t5 t6 t7 t8 t9 t10 t11 t12 Hn HAn Hl
          have hc3 : A.length + 1 ≤ maxLen := by unfold maxLen; omega
          have hc4 : (A.length + 1) * 128 ≤ 140737488355328 := by omega
          clear h3 hf hq9 hcx hg0 hg2 hGb hM2
          go_wp2_with (first
            | (go_at_call 38; (with_reducible refine (HFx.out _ (HB.out.alloc (Nat.le_of_lt hww) _)).mono ?_); rintro e w5 ⟨rfl, hb5⟩; obtain ⟨hc5, hf5⟩ := bcell hb5; have hz5 := hb5.size; (try simp at hz5); have HOx := Lib.hid (own_kept (Hown.out.alloc _) hb5); have HBx := Lib.hid (show Below W.heap.size W w5 by (repeat' (first | with_reducible exact Below.refl _ _ | with_reducible assumption | with_reducible refine Below.drew ?_ | with_reducible refine below_drewN' ?_ _ | with_reducible refine Below.alloc ?_ ?_ _ | with_reducible refine Below.setCell ?_ ?_ _ | with_reducible refine below_step (by assumption) ?_ ?_ | omega | (simp; done) | (simp; omega)))); have hbx := HBx.out.size; have hy5 : w.heap.size < w5.heap.size := (by omega); have hx5 : b2 < w5.heap.size := (by omega); have hv5 : wr.heap.size < w5.heap.size := (by omega))
            | (at_builtin; refine wpList_append_own _ rfl (.tmp 31) (.tmp 38) 134 rfl W.heap.size 35 i0 _ 10 128 Tryz.underlying134 Hi.out Hz0.out Hz1.out Hz2.out rfl (by decide) _ A.length (A.flatMap mcs) rfl (HOx.out.alloc _) ⟨w5.heap.size, 0, none⟩ 1 1 (mcs M2) rfl rfl (news_at _ _ _) (mcs_one _) hc3 hc4 (le_alloc hbx _) ?_; intro v1 w1 hown1 hgrow1 _; have hB1 := own_below (HOx.out.alloc _) (HBx.out.alloc hbx _) (le_alloc hbx _) hgrow1; have HO1 := Lib.hid hown1; clear hown1 hgrow1))
          go_roundw
          case rel => exact ⟨k + 1, A ++ [M2], by omega, by go_num, Hn.out, Hl.out, by (have h9 := HO1.out; have e9 : (A ++ [M2]).flatMap mcs = A.flatMap mcs ++ mcs M2 := (by rw [List.flatMap_append, List.flatMap_cons, List.flatMap_nil, List.append_nil]); rw [e9, List.length_append]; exact h9), HAn.out, hB1⟩
          case measure => simp [intOf]; omega
    · obtain rfl : k = m := by omega
      have hAL : A.length = L.countP cb := by rw [HA.out, List.take_of_length_le (Nat.le_of_eq Hm.out)]
      have HAL := Lib.hid hAL
      have HAl := Lib.hid (show A = likesL C L by rw [HAl.out, List.take_of_length_le (Nat.le_of_eq Hm.out)])
      obtain ⟨sa, ka, rfl, -⟩ := own_rows mcs_len Hown.out (by decide)
      obtain ⟨a, ha⟩ : ∃ a, A.length = a := ⟨_, rfl⟩
      have Ha := Lib.hid ha
      rw [ha] at hAk ⊢
      have k2 : IntKind.i64.wrap (z0 - (a : Int)) = z0 - (a : Int) := wrap_in (by omega) (by omega)
      clear hAL ha
      by_cases hg : z0 ≠ 0 ∧ z0 - (a : Int) < n
      · have k1 : (z0 != 0) = true := by simpa using hg.1
        have k3 : decide (z0 - (a : Int) < n) = true := decide_eq_true hg.2
        have hb : false = BB := by rw [← HBB.out, ← HAL.out, Ha.out, decide_eq_false hg.1, decide_eq_false (by omega)]; rfl
        subst hb
        clear hg
        go_wp2
        go_ret
        exact ⟨rfl, HB.out⟩
      · have hb := Lib.hid (show (decide (z0 = 0) || decide (n ≤ z0 - ((L.countP cb : Nat) : Int))) = true by
          rw [← HAL.out, Ha.out]
          by_cases h0 : z0 = 0
          · rw [decide_eq_true h0]; rfl
          · rw [decide_eq_true (show n ≤ z0 - (a : Int) by omega), Bool.or_true])
        have hk : ((z0 != 0) = false) ∨ ((z0 != 0) = true ∧ decide (z0 - (a : Int) < n) = false) := by
          by_cases h0 : z0 = 0
          · exact .inl (by rw [h0]; rfl)
          · exact .inr ⟨by simpa using h0, decide_eq_false (by omega)⟩
        clear hg
        rcases hk with k1 | ⟨k1, k3⟩
        all_goals
          go_wp2
          obtain ⟨W2, hW2⟩ : ∃ W2, W2 = wr.alloc (.cells #[.int .i64 m0, .int .i64 m1, .int .i64 g.like.r2, .int .i64 g.like.r3, .int .i64 g.like.r4] 31) := ⟨_, rfl⟩
          have HX2 := Lib.hid (show Blk W2 wr.heap.size 31 [.int .i64 m0, .int .i64 m1, .int .i64 g.like.r2, .int .i64 g.like.r3, .int .i64 g.like.r4] by rw [hW2]; exact Blk.new wr _ _)
          have hO2 : W2.ownsRow W.heap.size 35 10 (.slice sa A.length ka) A.length (A.flatMap mcs) := by rw [hW2]; exact Hown.out.alloc _
          have HB2 := Lib.hid (show Below W.heap.size W W2 by rw [hW2]; exact hB.alloc hzB _)
          have HY2 := Lib.hid (show Blk W2 w.heap.size 52 _ by rw [hW2]; exact HY.out.alloc _)
          have hw2 : W2.heap.size = wr.heap.size + 1 := by rw [hW2]; exact World.size_alloc _ _
          rw [Ha.out] at hO2
          have HO2 := Lib.hid hO2
          rw [← hW2]
          clear hW2 hO2 y0 y1 y2 y3 y4 y5
          have y0 := HX2.out.cell 0
          have y1 := HX2.out.cell 1
          dsimp only [List.getElem?_cons_zero, List.getElem?_cons_succ] at y0 y1
          have hyl : wr.heap.size < W2.heap.size := by omega
          have hyW : W.heap.size ≤ W2.heap.size := by omega
          have HN2 := Lib.hid (fun (x y : Int) (V : World) => Blk.new V 35 [.string ⟨#[]⟩, .string ⟨#[]⟩, .int .i64 x, .int .i64 y, .int .i64 0, .int .i64 0, .int .i64 0, .slice none 0 0, .slice none 0 0, .bool false])
          clear hw2
          have hcH := held_cell
          refine region_rel_tail 12 (by kernel_rfl) (by kernel_rfl) (by kernel_rfl) ?_
          dsimp only [List.take, List.drop]
          repeat
            ((with_reducible refine relStep (fun K hK => ?_))
             (have HK := Lib.hid hK)
             clear hK
             (apply relInl
              · intro r n hf
                have Hf := Lib.hid hf
                clear hf
                (first
                  | (fail)
                  | (unfold relAt
                     go_simp
                     (first | (refine relUpon_val ?_ (Below.refl _ _); exact rfl) | exact rfl | (refine relUpon_enter ?_; (first | (go_at_call 84; (with_reducible refine (HT0.out _).mono ?_); rintro e w9 ⟨rfl, hb⟩; exact ⟨⟨_, rfl, rfl⟩, hb⟩) | (go_at_call 84; (with_reducible refine (HT1.out _).mono ?_); rintro e w9 ⟨rfl, hb⟩; exact ⟨⟨_, rfl, rfl⟩, hb⟩))))))
              (simp only [Act.put, List.setIfInBounds_toArray, List.set_cons_zero, List.set_cons_succ])
              (with_reducible refine HK.out _ _ ?_)
              clear HK K))
          (with_reducible refine relStep (fun K hK => ?_))
          (have HK := Lib.hid hK)
          clear hK
          refine relInr (RS W2.heap.size xa xb) (RS.stays _ _ _) (fun r n hf => ?_) ?_
          · have Hf := Lib.hid hf
            clear hf HK K
            unfold relAt
            (skip)
            go_simp
            ((refine relUpon_val ⟨_, rfl, n.below.size, HN2.out xa xb n.w⟩ ((Below.refl _ _).alloc (Nat.le_refl _) _)))
          (simp only [Act.put, List.setIfInBounds_toArray, List.set_cons_zero, List.set_cons_succ])
          (with_reducible refine HK.out _ _ ?_)
          clear HK K
          refine relNil ?_
          intro r9 n9 hx9
          clear hcH
          (try simp only [List.nil_append, List.cons_append, List.mem_cons, List.not_mem_nil, or_false, forall_eq_or_imp, forall_eq, false_implies, implies_true] at hx9)
          obtain ⟨w9, hb9⟩ := n9
          (try dsimp only)
          obtain ⟨hc9, hf9⟩ := bcell hb9
          have hz9 := hb9.size
          (try simp at hz9)
          obtain ⟨X, e9, hX, hBk⟩ := hx9
          have e9 : r9 11 = _ := e9
          dsimp only at hBk
          rw [e9]
          have HX9 := Lib.hid hBk
          have HO9 := Lib.hid (own_kept HO2.out hb9)
          have HB9 := Lib.hid (HB2.out.trans (hb9.mono hyW))
          have HY9 := Lib.hid (HY2.out.below hb9)
          have hq9 : W.heap.size ≤ w9.heap.size := HB9.out.size
          have HMo := Lib.hid (show MacsOk (A ++ [bigM xa xb]) from fun x hx => by
            rcases List.mem_append.1 hx with h | h
            · have := HAb.out x h
              omega
            · rw [List.mem_singleton.1 h]; exact HTb.out)
          clear hBk e9 hb9 hc9 hf9 hz9 y0 y1 HX2 HO2 HB2 HY2 HN2 hX
          refine wpList_append_src rfl (.tmp 62) (.tmp 73) 134 rfl W.heap.size 35 i0 _ 10 128 Tryz.underlying134 Hi.out Hz0.out Hz1.out Hz2.out rfl (by decide) _ a (A.flatMap mcs) rfl HO9.out (some ⟨X, 0, none⟩) 1 1 (mcs (bigM xa xb)) rfl rfl (fun q e => by injection e with e; subst e; exact NewRow.news HX9.out) (fun e => by cases e) (mcs_one _) (by unfold maxLen; omega) (by omega) hq9 ?_
          intro v6 w6 hown6 hgrow6
          have hB6 := own_below HO9.out HB9.out hq9 hgrow6
          have hne : some w.heap.size ≠ (Value.slice sa a ka).ownBlock := fun e => by have := (own_lt HO9.out e.symm).1; omega
          have HY6 := Lib.hid (HY9.out.same (hgrow6.block w.heap.size HY9.out.lt hne))
          have hown7 : w6.ownsRow W.heap.size 35 10 v6 (A ++ [bigM xa xb]).length ((A ++ [bigM xa xb]).flatMap mcs) := by
            have e9 : (A ++ [bigM xa xb]).flatMap mcs = A.flatMap mcs ++ mcs (bigM xa xb) := by rw [List.flatMap_append, List.flatMap_cons, List.flatMap_nil, List.append_nil]
            rw [e9, List.length_append, Ha.out]
            exact hown6
          obtain ⟨a6, k6, rfl, -, hR6⟩ := OwnL.isL mcs_len (by decide) hown7
          have HR6 := Lib.hid hR6
          have hln : (A ++ [bigM xa xb]).length = a + 1 := by rw [List.length_append, Ha.out]; rfl
          have HW6 := Lib.hid (HWi.out a6 k6 (A ++ [bigM xa xb]) w6 HR6.out HMo.out (by rw [hln]; omega))
          have HB6 := Lib.hid (HW.out.trans (hB6.mono (Nat.le_of_lt hWz)))
          rw [hln] at HW6 ⊢
          have y3 := HY6.out.cell 3
          have y4 := HY6.out.cell 4
          have y5 := HY6.out.cell 5
          dsimp only [List.getElem?_cons_zero, List.getElem?_cons_succ] at y3 y4 y5
          have hyl := HY6.out.lt
          have hwb : withinB 0 z1 z2 (A ++ [bigM xa xb]) = BB := by rw [← HBB.out, hb.out, HAl.out]; rfl
          rw [hwb] at HW6
          clear hwb
          clear hown6 hgrow6 hown7 hR6 hB6 hne hln HO9 HX9 HB9 HY9 HY6 hq9 hcB hfB hzB
          dsimp only [Act.put, Array.setIfInBounds]
          go_wp2_with (go_at_call 85; (with_reducible refine HW6.out.mono ?_); rintro e w8 ⟨rfl, hb8⟩; have HB8 := Lib.hid (HB6.out.trans (hb8.mono HB6.out.size)))
          go_ret
          exact ⟨rfl, HB8.out⟩
end Go.Proofs.YtmkdfcggjlhcpaaGreatDoor
