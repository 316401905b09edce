/-
  Pods: the contracts of spec.within, rightPorts, rightTerms, rightSkew.
-/
import Derived.Test.YthbpnfpalcgfeaaPd1
import Derived.Test.YthbpnfpalcgfeaaMG
namespace Go.Proofs.Ythbpnfpalcgfeaa
open Go.RowKit
set_option linter.unusedVariables false
set_option linter.unusedSimpArgs false

/-- Ports rise, from a last one on. -/
def prtsTo : Int → List Int → Bool
  | _, [] => true
  | last, n :: l => !(decide (n ≤ last) || decide (65535 < n)) && prtsTo n l
def prtsB (l : List Int) : Bool := prtsTo 0 l && decide (l.length ≤ 16)
theorem prtsTo_at {l : List Int} {k : Nat} {x last : Int} (h : l[k]? = some x) : prtsTo last (l.drop k) = (!(decide (x ≤ last) || decide (65535 < x)) && prtsTo x (l.drop (k + 1))) := by
  obtain ⟨h1, h2⟩ := List.getElem?_eq_some_iff.1 h
  rw [List.drop_eq_getElem_cons h1, h2]
  rfl
set_option maxRecDepth 100000 in
set_option maxHeartbeats 2000000 in
theorem rports_any (a : Option Addr) (ka : Nat) (l : List Int) (w : World) (hF : PrtL w a l) (hl : l.length ≤ 1000000) :
    Calls Try.prog 110 #[.slice a l.length ka] w fun e w' => e = .returned (.bool (prtsB l)) ∧ Below w.heap.size w w' := by
  obtain ⟨R, hR⟩ : ∃ R, prtsB l = R := ⟨_, rfl⟩
  have HR := Lib.hid hR
  rw [hR]
  obtain ⟨n, hn⟩ : ∃ n, l.length = n := ⟨_, rfl⟩
  have HN := Lib.hid hn
  have HF := Lib.hid hF
  rw [hn] at hl ⊢
  clear hR hn hF
  go_enter Try.func110, Try.ntmps110
  go_wp2
  go_loopw [3, 8] (fun vl vi wr => ∃ (k : Nat) (last : Int), k ≤ n ∧ vi = .int .i64 k ∧ vl = .int .i64 last ∧ prtsTo 0 l = prtsTo last (l.drop k) ∧ wr = w) (fun _ vi _ => n - (intOf vi).toNat)
  case atStart => exact ⟨0, 0, Nat.zero_le _, rfl, rfl, rfl, rfl⟩
  case round =>
    obtain ⟨k, last, hk, rfl, rfl, hE, rfl⟩ := hrel
    have HE := Lib.hid hE
    clear hE
    by_cases hlt : k < n
    · obtain ⟨x, hx⟩ := mem_at (l := l) (k := k) (by rw [HN.out]; exact hlt)
      obtain ⟨b, o, rfl, hb, hc⟩ := HF.out (by rw [HN.out]; omega)
      have c0 := hc k x hx 0 (by decide)
      dsimp only [pcs, List.getElem?_cons_zero] at c0
      rw [Nat.mul_one, Nat.add_zero] at c0
      have HNx := Lib.hid (HE.out.trans (prtsTo_at (last := last) hx))
      clear hc hx
      have bad : (x ≤ last ∨ 65535 < x) → R = false := fun h => by
        rw [← HR.out]
        unfold prtsB
        rw [HNx.out]
        rcases h with h | h
        · rw [decide_eq_true h]; rfl
        · rw [decide_eq_true h, Bool.or_true]; rfl
      have Bad := Lib.hid bad
      clear bad
      by_cases h1 : x ≤ last
      · have q1 : decide (x ≤ last) = true := decide_eq_true h1
        obtain rfl := Bad.out (.inl h1)
        clear h1
        go_wp2
        go_ret
        exact ⟨rfl, Below.refl _ _⟩
      · have q1 : decide (x ≤ last) = false := decide_eq_false h1
        by_cases h2 : 65535 < x
        · have q2 : decide (65535 < x) = true := decide_eq_true h2
          obtain rfl := Bad.out (.inr h2)
          clear h1 h2
          go_wp2
          go_ret
          exact ⟨rfl, Below.refl _ _⟩
        · have q2 : decide (65535 < x) = false := decide_eq_false h2
          have HN2 := Lib.hid (show prtsTo 0 l = prtsTo x (l.drop (k + 1)) by rw [HNx.out, q1, q2]; rfl)
          clear h1 h2
          go_wp2
          go_roundw
          case rel => exact ⟨k + 1, x, by omega, by go_num, rfl, HN2.out, by trivial⟩
          case measure => simp [intOf]; omega
    · obtain rfl : k = n := by omega
      have hr : R = decide (k ≤ 16) := by
        rw [← HR.out]
        unfold prtsB
        rw [HE.out, List.drop_of_length_le (by rw [HN.out]; exact Nat.le_refl _), HN.out]
        rfl
      by_cases h16 : k ≤ 16
      · have q : decide ((k : Int) ≤ 16) = true := decide_eq_true (by omega)
        obtain rfl : R = true := by rw [hr, decide_eq_true h16]
        clear hr h16
        go_wp2
        go_ret
        exact ⟨rfl, Below.refl _ _⟩
      · have q : decide ((k : Int) ≤ 16) = false := decide_eq_false (by omega)
        obtain rfl : R = false := by rw [hr, decide_eq_false h16]
        clear hr h16
        go_wp2
        go_ret
        exact ⟨rfl, Below.refl _ _⟩
def trmsB (l : List Lb.Trm) : Bool := l.all Lb.rtrm && decide (l.length ≤ 16)
set_option maxRecDepth 100000 in
set_option maxHeartbeats 4000000 in
theorem rterms_any (a : Option Addr) (ka : Nat) (l : List Lb.Trm) (w : World) (hF : Lb.TrmL w a l) (hA : ∀ t ∈ l, Lb.TrmAt w t) (hLt : ∀ t ∈ l, Lb.lightTm t = true) (hl : l.length ≤ 1000000) :
    Calls Try.prog 108 #[.slice a l.length ka] w fun e w' => e = .returned (.bool (trmsB l)) ∧ Below w.heap.size w w' := by
  obtain ⟨R, hR⟩ : ∃ R, trmsB l = R := ⟨_, rfl⟩
  have HR := Lib.hid hR
  rw [hR]
  obtain ⟨n, hn⟩ : ∃ n, l.length = n := ⟨_, rfl⟩
  have HC := Lib.hid (fun (t : Lb.Trm) (ht : t ∈ l) (V : World) (hV : Below w.heap.size w V) => Lb.rightterm_any t V ((hA t ht).mono hV) (by have := (Lb.lightTm_ok (hLt t ht)).1; omega) (fun v hv => by have := (Lb.lightTm_ok (hLt t ht)).2.2 v hv; omega))
  have HN := Lib.hid hn
  have HF := Lib.hid hF
  rw [hn] at hl ⊢
  clear hR hn hF hA hLt
  go_enter Try.func108, Try.ntmps108
  go_wp2
  go_loopw [7] (fun vi wr => ∃ k : Nat, k ≤ n ∧ vi = .int .i64 k ∧ (l.take k).all Lb.rtrm = true ∧ Below w.heap.size w wr) (fun vi _ => n - (intOf vi).toNat)
  case atStart => exact ⟨0, Nat.zero_le _, rfl, rfl, by (repeat' (first | with_reducible exact Below.refl _ _ | with_reducible assumption | with_reducible refine Below.drew ?_ | with_reducible refine below_drewN' ?_ _ | with_reducible refine Below.alloc ?_ ?_ _ | with_reducible refine Below.setCell ?_ ?_ _ | with_reducible refine below_step (by assumption) ?_ ?_ | omega | (simp; done) | (simp; omega)))⟩
  case round =>
    obtain ⟨k, hk, rfl, hE, hB⟩ := hrel
    have HE := Lib.hid hE
    have HB := Lib.hid hB
    have hbz := hB.size
    by_cases hlt : k < n
    · obtain ⟨t, ht⟩ := mem_at (l := l) (k := k) (by rw [HN.out]; exact hlt)
      obtain ⟨b, o, rfl, hb, hc⟩ := (HF.out.mono hB) (by rw [HN.out]; omega)
      have c0 : wr.cell? ⟨b, o + k * 3, none⟩ = some (.string t.key) := hc k t ht 0 (by decide)
      have c1 : wr.cell? ⟨b, o + k * 3 + 1, none⟩ = some (.int .i64 t.op) := hc k t ht 1 (by decide)
      have c2 : wr.cell? ⟨b, o + k * 3 + 2, none⟩ = some (.slice t.va t.vals.length t.vk) := hc k t ht 2 (by decide)
      have Ht := Lib.hid ht
      have HCt := Lib.hid (HC.out t (List.mem_of_getElem? ht))
      obtain ⟨z, hz⟩ : ∃ z, Lb.rtrm t = z := ⟨_, rfl⟩
      have HZ := Lib.hid hz
      rw [hz] at HCt
      have hBa : ∀ o : Obj, Below w.heap.size w (wr.alloc o) := fun o => hB.alloc hbz o
      have HBa := Lib.hid hBa
      clear hE hB hc ht hz hBa
      cases z with
      | false =>
        obtain rfl : R = false := by
          rw [← HR.out]
          unfold trmsB
          rw [all_bad (P := Lb.rtrm) Ht.out HZ.out]
          rfl
        go_wp2_with (go_at_call 134; (with_reducible refine (HCt.out _ (HBa.out _)).mono ?_); rintro e w6 ⟨rfl, hb6⟩; have HB6 := Lib.hid ((HBa.out _).trans (hb6.mono (HBa.out _).size)); clear hb6)
        go_ret
        exact ⟨rfl, HB6.out⟩
      | true =>
        have HE2 := Lib.hid (all_take1 (P := Lb.rtrm) Ht.out HZ.out HE.out)
        go_wp2_with (go_at_call 134; (with_reducible refine (HCt.out _ (HBa.out _)).mono ?_); rintro e w6 ⟨rfl, hb6⟩; have HB6 := Lib.hid ((HBa.out _).trans (hb6.mono (HBa.out _).size)); clear hb6)
        go_roundw
        case rel => exact ⟨k + 1, by omega, by go_num, HE2.out, HB6.out⟩
        case measure => simp [intOf]; omega
    · obtain rfl : k = n := by omega
      have hr : R = decide (k ≤ 16) := by
        rw [← HR.out]
        unfold trmsB
        rw [all_done (P := Lb.rtrm) HN.out HE.out, HN.out]
        rfl
      by_cases h16 : k ≤ 16
      · have q : decide ((k : Int) ≤ 16) = true := decide_eq_true (by omega)
        obtain rfl : R = true := by rw [hr, decide_eq_true h16]
        clear hr h16 hE hB
        go_wp2
        go_ret
        exact ⟨rfl, HB.out⟩
      · have q : decide ((k : Int) ≤ 16) = false := decide_eq_false (by omega)
        obtain rfl : R = false := by rw [hr, decide_eq_false h16]
        clear hr h16 hE hB
        go_wp2
        go_ret
        exact ⟨rfl, HB.out⟩
def skewB (n : Nat) (s : Int) : Bool := if n = 0 then decide (s = 0) else inB s 1 100
set_option maxRecDepth 100000 in
set_option maxHeartbeats 4000000 in
theorem rskew_any (p : Pd) (w : World) :
    Calls Try.prog 111 #[.agg (prow p).toArray] w fun e w' => e = .returned (.bool (skewB p.spds.length p.sw)) ∧ Below w.heap.size w w' := by
  obtain ⟨nm, n0, n1, n2, n3, n4, la, lk, L, sa, sk, S, ta, tk, T, ba, bk, B, pa, pk, P, aa, ak, A, wd, da, dk, D, sw, rk, ow, dm, pn, lc⟩ := p
  obtain ⟨W, hW⟩ : ∃ W, W = w.alloc (.cells #[.string nm, .int .i64 n0, .int .i64 n1, .int .i64 n2, .int .i64 n3, .int .i64 n4, .slice la L.length lk, .slice sa S.length sk, .slice ta T.length tk, .slice ba B.length bk, .slice pa P.length pk, .slice aa A.length ak, .bool wd, .slice da D.length dk, .int .i64 sw, .int .i64 rk, .string ow, .bool dm, .bool pn, .bool lc] 47) := ⟨_, rfl⟩
  have HW := Lib.hid (show Below w.heap.size w W by rw [hW]; exact (Below.refl _ w).alloc (Nat.le_refl _) _)
  have HX := Lib.hid (show Box w.heap.size [.string nm, .int .i64 n0, .int .i64 n1, .int .i64 n2, .int .i64 n3, .int .i64 n4, .slice la L.length lk, .slice sa S.length sk, .slice ta T.length tk, .slice ba B.length bk, .slice pa P.length pk, .slice aa A.length ak, .bool wd, .slice da D.length dk, .int .i64 sw, .int .i64 rk, .string ow, .bool dm, .bool pn, .bool lc] W by rw [hW]; exact Box.new w [.string nm, .int .i64 n0, .int .i64 n1, .int .i64 n2, .int .i64 n3, .int .i64 n4, .slice la L.length lk, .slice sa S.length sk, .slice ta T.length tk, .slice ba B.length bk, .slice pa P.length pk, .slice aa A.length ak, .bool wd, .slice da D.length dk, .int .i64 sw, .int .i64 rk, .string ow, .bool dm, .bool pn, .bool lc] 47)
  show Calls Try.prog 111 #[.agg #[.string nm, .int .i64 n0, .int .i64 n1, .int .i64 n2, .int .i64 n3, .int .i64 n4, .slice la L.length lk, .slice sa S.length sk, .slice ta T.length tk, .slice ba B.length bk, .slice pa P.length pk, .slice aa A.length ak, .bool wd, .slice da D.length dk, .int .i64 sw, .int .i64 rk, .string ow, .bool dm, .bool pn, .bool lc]] w fun e w' => e = .returned (.bool (skewB D.length sw)) ∧ Below w.heap.size w w'
  have HI := Lib.hid (fun V => within_any sw 1 100 V)
  obtain ⟨R, hR⟩ : ∃ R, skewB D.length sw = R := ⟨_, rfl⟩
  rw [hR]
  unfold skewB at hR
  by_cases h0 : D.length = 0
  · rw [if_pos h0] at hR
    rw [h0] at hW HX ⊢
    have q : (sw == 0) = R := by rw [← hR]; by_cases h : sw = 0 <;> simp [h]
    clear hR h0
    go_enter Try.func111, Try.ntmps111
    go_upto_region 1 with (fail)
    rw [← hW]
    clear hW
    have hx := HX.out.cell
    have hlt := HX.out.lt
    go_wp2
    go_ret
    exact ⟨rfl, HW.out⟩
  · rw [if_neg h0] at hR
    rw [hR] at HI
    have q : ((D.length : Int) == 0) = false := by rw [beq_eq_false_iff_ne]; omega
    obtain ⟨m, hm⟩ : ∃ m, D.length = m := ⟨_, rfl⟩
    rw [hm] at q hW HX ⊢
    clear hR h0 hm
    go_enter Try.func111, Try.ntmps111
    go_upto_region 1 with (fail)
    rw [← hW]
    clear hW
    have hx := HX.out.cell
    have hlt := HX.out.lt
    go_wp2_with (go_at_call 112; (with_reducible refine (HI.out _).mono ?_); rintro e w1 ⟨rfl, hb⟩; have HW1 := Lib.hid (HW.out.trans (hb.mono HW.out.size)); clear hb)
    go_ret
    exact ⟨rfl, HW1.out⟩
end Go.Proofs.Ythbpnfpalcgfeaa
