/-
  Pods: light and right ones.
-/
import Derived.Test.YtccplljbljpjpaaDoorND
import Derived.Deep.Cut
import Derived.Test.YtccplljbljpjpaaDoorMG
import Derived.BigQuiet
namespace Go.Proofs.YtccplljbljpjpaaDoor
open Go.RowKit
set_option linter.unusedVariables false
set_option linter.unusedSimpArgs false

/-- A struct in a block of its own. -/
structure Box (X : Nat) (L : List Value) (V : World) : Prop where
  lt : X < V.heap.size
  cell : ∀ i, V.cell? ⟨X, i, none⟩ = L[i]?
theorem Box.mono {X : Nat} {L : List Value} {V V' : World} (h : Box X L V) (hb : Below V.heap.size V V') : Box X L V' :=
  ⟨Nat.lt_of_lt_of_le h.lt hb.size, fun i => by rw [hb.cell (p := ⟨X, i, none⟩) h.lt]; exact h.cell i⟩
theorem Box.new (w : World) (L : List Value) (t : TypeId) : Box w.heap.size L (w.alloc (.cells L.toArray t)) :=
  ⟨by simp, fun i => by rw [World.cell?_alloc_at _ _ _ _ rfl]; simp⟩
theorem Box.range {X : Nat} {L : List Value} {V : World} (h : Box X L V) : V.rangeAt X 0 L := fun j v hv => by
  rw [Nat.zero_add, h.cell j, hv]
def lightP (p : Pd) : Bool := decide (p.nm.size ≤ 300) && decide (p.ow.size ≤ 300) && decide (p.trms.length ≤ 30) && decide (p.prts.length ≤ 30) && lightL p.labs && lightL p.sels && lightL p.aprs && lightL p.spds && lightB p.bers [] && p.trms.all Lb.lightTm
theorem light1 (c : Option Addr) (kc : Nat) (xs : List Tol) (w : World) (hF : TolsAt w c xs) (hm : xs.length ≤ maxLen) :
    Calls Tryd.prog 21 #[.slice c xs.length kc, .slice none 0 0] w fun e w' => e = .returned (.bool (lightB xs [])) ∧ Below w.heap.size w w' := light_any c none kc 0 xs [] w hF hm RowsAt.nil (Nat.zero_le _)
set_option maxRecDepth 100000 in
set_option maxHeartbeats 4000000 in
theorem lightp_any (p : Pd) (w : World) (hA : PodAt w p) :
    Calls Tryd.prog 11 #[.agg (prow p).toArray] w fun e w' => e = .returned (.bool (lightP p)) ∧ Below w.heap.size w w' := by
  obtain ⟨nm, n0, n1, n2, n3, n4, la, lk, L, sa, sk, S, ta, tk, T, ba, bk, B, pa, pk, P, aa, ak, A, wd, da, dk, D, sw, rk, ow, dm, pn, lc⟩ := p
  obtain ⟨W, hW⟩ : ∃ W, W = w.alloc (.cells #[.string nm, .int .i64 n0, .int .i64 n1, .int .i64 n2, .int .i64 n3, .int .i64 n4, .slice la L.length lk, .slice sa S.length sk, .slice ta T.length tk, .slice ba B.length bk, .slice pa P.length pk, .slice aa A.length ak, .bool wd, .slice da D.length dk, .int .i64 sw, .int .i64 rk, .string ow, .bool dm, .bool pn, .bool lc] 37) := ⟨_, rfl⟩
  have HW := Lib.hid (show Below w.heap.size w W by rw [hW]; exact (Below.refl _ w).alloc (Nat.le_refl _) _)
  have HA := Lib.hid (hA.mono HW.out)
  have HX := Lib.hid (show Box w.heap.size [.string nm, .int .i64 n0, .int .i64 n1, .int .i64 n2, .int .i64 n3, .int .i64 n4, .slice la L.length lk, .slice sa S.length sk, .slice ta T.length tk, .slice ba B.length bk, .slice pa P.length pk, .slice aa A.length ak, .bool wd, .slice da D.length dk, .int .i64 sw, .int .i64 rk, .string ow, .bool dm, .bool pn, .bool lc] W by rw [hW]; exact Box.new w [.string nm, .int .i64 n0, .int .i64 n1, .int .i64 n2, .int .i64 n3, .int .i64 n4, .slice la L.length lk, .slice sa S.length sk, .slice ta T.length tk, .slice ba B.length bk, .slice pa P.length pk, .slice aa A.length ak, .bool wd, .slice da D.length dk, .int .i64 sw, .int .i64 rk, .string ow, .bool dm, .bool pn, .bool lc] 37)
  have hv : lightP ⟨nm, n0, n1, n2, n3, n4, la, lk, L, sa, sk, S, ta, tk, T, ba, bk, B, pa, pk, P, aa, ak, A, wd, da, dk, D, sw, rk, ow, dm, pn, lc⟩ = (decide (nm.size ≤ 300) && decide (ow.size ≤ 300) && decide (T.length ≤ 30) && decide (P.length ≤ 30) && lightL L && lightL S && lightL A && lightL D && lightB B [] && T.all Lb.lightTm) := rfl
  show Calls Tryd.prog 11 #[.agg #[.string nm, .int .i64 n0, .int .i64 n1, .int .i64 n2, .int .i64 n3, .int .i64 n4, .slice la L.length lk, .slice sa S.length sk, .slice ta T.length tk, .slice ba B.length bk, .slice pa P.length pk, .slice aa A.length ak, .bool wd, .slice da D.length dk, .int .i64 sw, .int .i64 rk, .string ow, .bool dm, .bool pn, .bool lc]] w _
  rw [hv]
  obtain ⟨m0, hm0⟩ : ∃ b, lightL L = b := ⟨_, rfl⟩
  obtain ⟨m1, hm1⟩ : ∃ b, lightL S = b := ⟨_, rfl⟩
  obtain ⟨m2, hm2⟩ : ∃ b, lightL A = b := ⟨_, rfl⟩
  obtain ⟨m3, hm3⟩ : ∃ b, lightL D = b := ⟨_, rfl⟩
  obtain ⟨m4, hm4⟩ : ∃ b, lightB B [] = b := ⟨_, rfl⟩
  rw [hm0, hm1, hm2, hm3, hm4]
  have H0 := Lib.hid (fun V (h : LabL V la L) => lightl_any la lk L V h hA.ll)
  have H1 := Lib.hid (fun V (h : LabL V sa S) => lightl_any sa sk S V h hA.sl)
  have H2 := Lib.hid (fun V (h : LabL V aa A) => lightl_any aa ak A V h hA.al)
  have H3 := Lib.hid (fun V (h : LabL V da D) => lightl_any da dk D V h hA.dl)
  have H4 := Lib.hid (fun V (h : TolsAt V ba B) => light1 ba bk B V h hA.bl)
  rw [hm0] at H0
  rw [hm1] at H1
  rw [hm2] at H2
  rw [hm3] at H3
  rw [hm4] at H4
  obtain ⟨R, hR⟩ : ∃ R, (decide (nm.size ≤ 300) && decide (ow.size ≤ 300) && decide (T.length ≤ 30) && decide (P.length ≤ 30) && m0 && m1 && m2 && m3 && m4 && T.all Lb.lightTm) = R := ⟨_, rfl⟩
  rw [hR]
  have HNo := Lib.hid (show ¬ (nm.size ≤ 300 ∧ ow.size ≤ 300 ∧ T.length ≤ 30 ∧ P.length ≤ 30 ∧ m0 = true ∧ m1 = true ∧ m2 = true ∧ m3 = true ∧ m4 = true) → R = false from fun hn => by
    rw [← hR, Bool.eq_false_iff]
    intro hh
    simp only [Bool.and_eq_true, decide_eq_true_eq] at hh
    exact hn ⟨hh.1.1.1.1.1.1.1.1.1, hh.1.1.1.1.1.1.1.1.2, hh.1.1.1.1.1.1.1.2, hh.1.1.1.1.1.1.2, hh.1.1.1.1.1.2, hh.1.1.1.1.2, hh.1.1.1.2, hh.1.1.2, hh.1.2⟩)
  have HYes := Lib.hid (show nm.size ≤ 300 → ow.size ≤ 300 → T.length ≤ 30 → P.length ≤ 30 → m0 = true → m1 = true → m2 = true → m3 = true → m4 = true → R = T.all Lb.lightTm from fun h1 h2 h3 h4 h5 h6 h7 h8 h9 => by
    rw [← hR, decide_eq_true h1, decide_eq_true h2, decide_eq_true h3, decide_eq_true h4, h5, h6, h7, h8, h9]
    rfl)
  clear hv hA hm0 hm1 hm2 hm3 hm4 hR
  go_enter Tryd.func11, Tryd.ntmps11
  go_upto_region 1 with (fail)
  rw [← hW]
  clear hW
  have hx := HX.out.cell
  have hlt := HX.out.lt
  go_wp2_with (first
    | (go_at_call 20; (with_reducible refine (H0.out _ HA.out.labs).mono ?_); rintro e w1 ⟨rfl, hb⟩; have HX1 := Lib.hid (HX.out.mono hb); have hx1 := HX1.out.cell; have hlt1 := HX1.out.lt; have HA1 := Lib.hid (HA.out.mono hb); have HW1 := Lib.hid (HW.out.trans (hb.mono HW.out.size)); clear hb)
    | (go_at_call 20; (with_reducible refine (H1.out _ HA1.out.sels).mono ?_); rintro e w2 ⟨rfl, hb⟩; have HX2 := Lib.hid (HX1.out.mono hb); have hx2 := HX2.out.cell; have hlt2 := HX2.out.lt; have HA2 := Lib.hid (HA1.out.mono hb); have HW2 := Lib.hid (HW1.out.trans (hb.mono HW1.out.size)); clear hb)
    | (go_at_call 20; (with_reducible refine (H2.out _ HA2.out.aprs).mono ?_); rintro e w3 ⟨rfl, hb⟩; have HX3 := Lib.hid (HX2.out.mono hb); have hx3 := HX3.out.cell; have hlt3 := HX3.out.lt; have HA3 := Lib.hid (HA2.out.mono hb); have HW3 := Lib.hid (HW2.out.trans (hb.mono HW2.out.size)); clear hb)
    | (go_at_call 20; (with_reducible refine (H3.out _ HA3.out.spds).mono ?_); rintro e w4 ⟨rfl, hb⟩; have HX4 := Lib.hid (HX3.out.mono hb); have hx4 := HX4.out.cell; have hlt4 := HX4.out.lt; have HA4 := Lib.hid (HA3.out.mono hb); have HW4 := Lib.hid (HW3.out.trans (hb.mono HW3.out.size)); clear hb)
    | (go_at_call 21; (with_reducible refine (H4.out _ HA4.out.bers).mono ?_); rintro e w5 ⟨rfl, hb⟩; have HX5 := Lib.hid (HX4.out.mono hb); have hx5 := HX5.out.cell; have hlt5 := HX5.out.lt; have HA5 := Lib.hid (HA4.out.mono hb); have HW5 := Lib.hid (HW4.out.trans (hb.mono HW4.out.size)); clear hb))
  any_goals
    (obtain rfl : R = false := HNo.out (by
        rintro ⟨a1, a2, a3, a4, a5, a6, a7, a8, a9⟩
        clear hx HNo HYes
        first
          | contradiction
          | omega
          | (simp only [a9, Bool.not_true, Bool.false_eq_true, or_false] at *; omega))
     go_ret
     exact ⟨rfl, by (first | exact HW5.out | exact HW4.out | exact HW3.out | exact HW2.out | exact HW1.out | exact HW.out)⟩
     done)
  rename_i hn1 hn2 hn3 hn4 e0 e1 e2 e3 hlast K9 a9
  have e4 : m4 = true := by have h9 := hlast.2; cases m4 with | false => cases h9 | true => rfl
  have hT30 : T.length ≤ 30 := by omega
  have HRq := Lib.hid (HYes.out (by omega) (by omega) (by omega) (by omega) e0 e1 e2 e3 e4)
  have HT := Lib.hid (fun (t : Lb.Trm) (ht : t ∈ T) (V : World) (hV : Below w5.heap.size w5 V) => Lb.lightterm_any t V ((HA5.out.trmA t ht).mono hV))
  have HTL := Lib.hid HA5.out.trms
  have hz5 := HW5.out.size
  obtain ⟨n, hn⟩ : ∃ n, T.length = n := ⟨_, rfl⟩
  have HN := Lib.hid hn
  have hn30 : n ≤ 30 := by omega
  clear hn1 hn2 hn3 hn4 e0 e1 e2 e3 e4 hlast hx hx1 hx2 hx3 hx4 hx5 hlt hlt1 hlt2 hlt3 hlt4 HX HX1 HX2 HX3 HX4 HA HA1 HA2 HA3 HA4 HA5 HW HW1 HW2 HW3 HW4 H0 H1 H2 H3 H4 HNo HYes
  go_loopw [3] (fun vi wr => ∃ k : Nat, k ≤ n ∧ vi = .int .i64 k ∧ (T.take k).all Lb.lightTm = true ∧ Below w5.heap.size w5 wr) (fun vi _ => n - (intOf vi).toNat)
  case atStart => exact ⟨0, Nat.zero_le _, rfl, rfl, Below.refl _ _⟩
  case round =>
    obtain ⟨k, hk, rfl, hE, hB⟩ := hrel
    have HE := Lib.hid hE
    have HB := Lib.hid hB
    have hbz := hB.size
    have HXr := Lib.hid (HX5.out.mono hB)
    have hxr := HXr.out.cell
    have hltr := HXr.out.lt
    have HB9 := Lib.hid (HW5.out.trans (hB.mono hz5))
    rw [hn] at hxr
    by_cases hlt : k < n
    · obtain ⟨t, ht⟩ := mem_at (l := T) (k := k) (by rw [hn]; exact hlt)
      obtain ⟨b, o, rfl, hb, hc⟩ := (HTL.out.mono hB) (by rw [hn]; omega)
      have c0 : wr.cell? ⟨b, o + k * 3, none⟩ = some (.string t.key) := hc k t ht 0 (by decide)
      have c1 : wr.cell? ⟨b, o + k * 3 + 1, none⟩ = some (.int .i64 t.op) := hc k t ht 1 (by decide)
      have c2 : wr.cell? ⟨b, o + k * 3 + 2, none⟩ = some (.slice t.va t.vals.length t.vk) := hc k t ht 2 (by decide)
      have Ht := Lib.hid ht
      have HTt := Lib.hid (HT.out t (List.mem_of_getElem? ht))
      obtain ⟨z, hz⟩ : ∃ z, Lb.lightTm t = z := ⟨_, rfl⟩
      have HZ := Lib.hid hz
      rw [hz] at HTt
      clear hE hB hc ht hz hn
      cases z with
      | false =>
        obtain rfl : R = false := by rw [HRq.out]; exact all_bad (P := Lb.lightTm) Ht.out HZ.out
        go_wp2_with (go_at_call 22; (with_reducible refine (HTt.out _ HB.out).mono ?_); rintro e w6 ⟨rfl, hb6⟩; have HB6 := Lib.hid (HB9.out.trans (hb6.mono HB9.out.size)); clear hb6)
        go_ret
        exact ⟨rfl, HB6.out⟩
      | true =>
        have HE2 := Lib.hid (all_take1 (P := Lb.lightTm) Ht.out HZ.out HE.out)
        go_wp2_with (go_at_call 22; (with_reducible refine (HTt.out _ HB.out).mono ?_); rintro e w6 ⟨rfl, hb6⟩; have HB6 := Lib.hid (HB.out.trans (hb6.mono hbz)); clear hb6)
        go_roundw
        case rel => exact ⟨k + 1, by omega, by go_num, HE2.out, HB6.out⟩
        case measure => simp [intOf]; omega
    · obtain rfl : k = n := by omega
      obtain rfl : R = true := by rw [HRq.out]; exact all_done (P := Lb.lightTm) HN.out HE.out
      clear hE hB hn
      go_wp2
      go_ret
      exact ⟨rfl, HB9.out⟩
/-- Ports rise, from a last one on. -/
def prtsTo : Int → List Int → Bool
  | _, [] => true
  | last, n :: l => !(decide (n ≤ last) || decide (65535 < n)) && prtsTo n l
def prtsB (l : List Int) : Bool := prtsTo 0 l && decide (l.length ≤ 16)
theorem prtsTo_at {l : List Int} {k : Nat} {x last : Int} (h : l[k]? = some x) : prtsTo last (l.drop k) = (!(decide (x ≤ last) || decide (65535 < x)) && prtsTo x (l.drop (k + 1))) := by
  obtain ⟨h1, h2⟩ := List.getElem?_eq_some_iff.1 h
  rw [List.drop_eq_getElem_cons h1, h2]
  rfl
set_option maxRecDepth 100000 in
set_option maxHeartbeats 2000000 in
theorem rports_any (a : Option Addr) (ka : Nat) (l : List Int) (w : World) (hF : PrtL w a l) (hl : l.length ≤ 1000000) :
    Calls Tryd.prog 30 #[.slice a l.length ka] w fun e w' => e = .returned (.bool (prtsB l)) ∧ Below w.heap.size w w' := by
  obtain ⟨R, hR⟩ : ∃ R, prtsB l = R := ⟨_, rfl⟩
  have HR := Lib.hid hR
  rw [hR]
  obtain ⟨n, hn⟩ : ∃ n, l.length = n := ⟨_, rfl⟩
  have HN := Lib.hid hn
  have HF := Lib.hid hF
  rw [hn] at hl ⊢
  clear hR hn hF
  go_enter Tryd.func30, Tryd.ntmps30
  go_wp2
  go_loopw [3, 8] (fun vl vi wr => ∃ (k : Nat) (last : Int), k ≤ n ∧ vi = .int .i64 k ∧ vl = .int .i64 last ∧ prtsTo 0 l = prtsTo last (l.drop k) ∧ wr = w) (fun _ vi _ => n - (intOf vi).toNat)
  case atStart => exact ⟨0, 0, Nat.zero_le _, rfl, rfl, rfl, rfl⟩
  case round =>
    obtain ⟨k, last, hk, rfl, rfl, hE, rfl⟩ := hrel
    have HE := Lib.hid hE
    clear hE
    by_cases hlt : k < n
    · obtain ⟨x, hx⟩ := mem_at (l := l) (k := k) (by rw [HN.out]; exact hlt)
      obtain ⟨b, o, rfl, hb, hc⟩ := HF.out (by rw [HN.out]; omega)
      have c0 := hc k x hx 0 (by decide)
      dsimp only [pcs, List.getElem?_cons_zero] at c0
      rw [Nat.mul_one, Nat.add_zero] at c0
      have HNx := Lib.hid (HE.out.trans (prtsTo_at (last := last) hx))
      clear hc hx
      have bad : (x ≤ last ∨ 65535 < x) → R = false := fun h => by
        rw [← HR.out]
        unfold prtsB
        rw [HNx.out]
        rcases h with h | h
        · rw [decide_eq_true h]; rfl
        · rw [decide_eq_true h, Bool.or_true]; rfl
      have Bad := Lib.hid bad
      clear bad
      by_cases h1 : x ≤ last
      · have q1 : decide (x ≤ last) = true := decide_eq_true h1
        obtain rfl := Bad.out (.inl h1)
        clear h1
        go_wp2
        go_ret
        exact ⟨rfl, Below.refl _ _⟩
      · have q1 : decide (x ≤ last) = false := decide_eq_false h1
        by_cases h2 : 65535 < x
        · have q2 : decide (65535 < x) = true := decide_eq_true h2
          obtain rfl := Bad.out (.inr h2)
          clear h1 h2
          go_wp2
          go_ret
          exact ⟨rfl, Below.refl _ _⟩
        · have q2 : decide (65535 < x) = false := decide_eq_false h2
          have HN2 := Lib.hid (show prtsTo 0 l = prtsTo x (l.drop (k + 1)) by rw [HNx.out, q1, q2]; rfl)
          clear h1 h2
          go_wp2
          go_roundw
          case rel => exact ⟨k + 1, x, by omega, by go_num, rfl, HN2.out, by trivial⟩
          case measure => simp [intOf]; omega
    · obtain rfl : k = n := by omega
      have hr : R = decide (k ≤ 16) := by
        rw [← HR.out]
        unfold prtsB
        rw [HE.out, List.drop_of_length_le (by rw [HN.out]; exact Nat.le_refl _), HN.out]
        rfl
      by_cases h16 : k ≤ 16
      · have q : decide ((k : Int) ≤ 16) = true := decide_eq_true (by omega)
        obtain rfl : R = true := by rw [hr, decide_eq_true h16]
        clear hr h16
        go_wp2
        go_ret
        exact ⟨rfl, Below.refl _ _⟩
      · have q : decide ((k : Int) ≤ 16) = false := decide_eq_false (by omega)
        obtain rfl : R = false := by rw [hr, decide_eq_false h16]
        clear hr h16
        go_wp2
        go_ret
        exact ⟨rfl, Below.refl _ _⟩
def trmsB (l : List Lb.Trm) : Bool := l.all Lb.rtrm && decide (l.length ≤ 16)
set_option maxRecDepth 100000 in
set_option maxHeartbeats 4000000 in
theorem rterms_any (a : Option Addr) (ka : Nat) (l : List Lb.Trm) (w : World) (hF : Lb.TrmL w a l) (hA : ∀ t ∈ l, Lb.TrmAt w t) (hLt : ∀ t ∈ l, Lb.lightTm t = true) (hl : l.length ≤ 1000000) :
    Calls Tryd.prog 28 #[.slice a l.length ka] w fun e w' => e = .returned (.bool (trmsB l)) ∧ Below w.heap.size w w' := by
  obtain ⟨R, hR⟩ : ∃ R, trmsB l = R := ⟨_, rfl⟩
  have HR := Lib.hid hR
  rw [hR]
  obtain ⟨n, hn⟩ : ∃ n, l.length = n := ⟨_, rfl⟩
  have HC := Lib.hid (fun (t : Lb.Trm) (ht : t ∈ l) (V : World) (hV : Below w.heap.size w V) => Lb.rightterm_any t V ((hA t ht).mono hV) (by have := (Lb.lightTm_ok (hLt t ht)).1; omega) (fun v hv => by have := (Lb.lightTm_ok (hLt t ht)).2.2 v hv; omega))
  have HN := Lib.hid hn
  have HF := Lib.hid hF
  rw [hn] at hl ⊢
  clear hR hn hF hA hLt
  go_enter Tryd.func28, Tryd.ntmps28
  go_wp2
  go_loopw [7] (fun vi wr => ∃ k : Nat, k ≤ n ∧ vi = .int .i64 k ∧ (l.take k).all Lb.rtrm = true ∧ Below w.heap.size w wr) (fun vi _ => n - (intOf vi).toNat)
  case atStart => exact ⟨0, Nat.zero_le _, rfl, rfl, by (repeat' (first | with_reducible exact Below.refl _ _ | with_reducible assumption | with_reducible refine Below.drew ?_ | with_reducible refine below_drewN' ?_ _ | with_reducible refine Below.alloc ?_ ?_ _ | with_reducible refine Below.setCell ?_ ?_ _ | with_reducible refine below_step (by assumption) ?_ ?_ | omega | (simp; done) | (simp; omega)))⟩
  case round =>
    obtain ⟨k, hk, rfl, hE, hB⟩ := hrel
    have HE := Lib.hid hE
    have HB := Lib.hid hB
    have hbz := hB.size
    by_cases hlt : k < n
    · obtain ⟨t, ht⟩ := mem_at (l := l) (k := k) (by rw [HN.out]; exact hlt)
      obtain ⟨b, o, rfl, hb, hc⟩ := (HF.out.mono hB) (by rw [HN.out]; omega)
      have c0 : wr.cell? ⟨b, o + k * 3, none⟩ = some (.string t.key) := hc k t ht 0 (by decide)
      have c1 : wr.cell? ⟨b, o + k * 3 + 1, none⟩ = some (.int .i64 t.op) := hc k t ht 1 (by decide)
      have c2 : wr.cell? ⟨b, o + k * 3 + 2, none⟩ = some (.slice t.va t.vals.length t.vk) := hc k t ht 2 (by decide)
      have Ht := Lib.hid ht
      have HCt := Lib.hid (HC.out t (List.mem_of_getElem? ht))
      obtain ⟨z, hz⟩ : ∃ z, Lb.rtrm t = z := ⟨_, rfl⟩
      have HZ := Lib.hid hz
      rw [hz] at HCt
      have hBa : ∀ o : Obj, Below w.heap.size w (wr.alloc o) := fun o => hB.alloc hbz o
      have HBa := Lib.hid hBa
      clear hE hB hc ht hz hBa
      cases z with
      | false =>
        obtain rfl : R = false := by
          rw [← HR.out]
          unfold trmsB
          rw [all_bad (P := Lb.rtrm) Ht.out HZ.out]
          rfl
        go_wp2_with (go_at_call 50; (with_reducible refine (HCt.out _ (HBa.out _)).mono ?_); rintro e w6 ⟨rfl, hb6⟩; have HB6 := Lib.hid ((HBa.out _).trans (hb6.mono (HBa.out _).size)); clear hb6)
        go_ret
        exact ⟨rfl, HB6.out⟩
      | true =>
        have HE2 := Lib.hid (all_take1 (P := Lb.rtrm) Ht.out HZ.out HE.out)
        go_wp2_with (go_at_call 50; (with_reducible refine (HCt.out _ (HBa.out _)).mono ?_); rintro e w6 ⟨rfl, hb6⟩; have HB6 := Lib.hid ((HBa.out _).trans (hb6.mono (HBa.out _).size)); clear hb6)
        go_roundw
        case rel => exact ⟨k + 1, by omega, by go_num, HE2.out, HB6.out⟩
        case measure => simp [intOf]; omega
    · obtain rfl : k = n := by omega
      have hr : R = decide (k ≤ 16) := by
        rw [← HR.out]
        unfold trmsB
        rw [all_done (P := Lb.rtrm) HN.out HE.out, HN.out]
        rfl
      by_cases h16 : k ≤ 16
      · have q : decide ((k : Int) ≤ 16) = true := decide_eq_true (by omega)
        obtain rfl : R = true := by rw [hr, decide_eq_true h16]
        clear hr h16 hE hB
        go_wp2
        go_ret
        exact ⟨rfl, HB.out⟩
      · have q : decide ((k : Int) ≤ 16) = false := decide_eq_false (by omega)
        obtain rfl : R = false := by rw [hr, decide_eq_false h16]
        clear hr h16 hE hB
        go_wp2
        go_ret
        exact ⟨rfl, HB.out⟩
def skewB (n : Nat) (s : Int) : Bool := if n = 0 then decide (s = 0) else inB s 1 100
set_option maxRecDepth 100000 in
set_option maxHeartbeats 4000000 in
theorem rskew_any (p : Pd) (w : World) :
    Calls Tryd.prog 31 #[.agg (prow p).toArray] w fun e w' => e = .returned (.bool (skewB p.spds.length p.sw)) ∧ Below w.heap.size w w' := by
  obtain ⟨nm, n0, n1, n2, n3, n4, la, lk, L, sa, sk, S, ta, tk, T, ba, bk, B, pa, pk, P, aa, ak, A, wd, da, dk, D, sw, rk, ow, dm, pn, lc⟩ := p
  obtain ⟨W, hW⟩ : ∃ W, W = w.alloc (.cells #[.string nm, .int .i64 n0, .int .i64 n1, .int .i64 n2, .int .i64 n3, .int .i64 n4, .slice la L.length lk, .slice sa S.length sk, .slice ta T.length tk, .slice ba B.length bk, .slice pa P.length pk, .slice aa A.length ak, .bool wd, .slice da D.length dk, .int .i64 sw, .int .i64 rk, .string ow, .bool dm, .bool pn, .bool lc] 37) := ⟨_, rfl⟩
  have HW := Lib.hid (show Below w.heap.size w W by rw [hW]; exact (Below.refl _ w).alloc (Nat.le_refl _) _)
  have HX := Lib.hid (show Box w.heap.size [.string nm, .int .i64 n0, .int .i64 n1, .int .i64 n2, .int .i64 n3, .int .i64 n4, .slice la L.length lk, .slice sa S.length sk, .slice ta T.length tk, .slice ba B.length bk, .slice pa P.length pk, .slice aa A.length ak, .bool wd, .slice da D.length dk, .int .i64 sw, .int .i64 rk, .string ow, .bool dm, .bool pn, .bool lc] W by rw [hW]; exact Box.new w [.string nm, .int .i64 n0, .int .i64 n1, .int .i64 n2, .int .i64 n3, .int .i64 n4, .slice la L.length lk, .slice sa S.length sk, .slice ta T.length tk, .slice ba B.length bk, .slice pa P.length pk, .slice aa A.length ak, .bool wd, .slice da D.length dk, .int .i64 sw, .int .i64 rk, .string ow, .bool dm, .bool pn, .bool lc] 37)
  show Calls Tryd.prog 31 #[.agg #[.string nm, .int .i64 n0, .int .i64 n1, .int .i64 n2, .int .i64 n3, .int .i64 n4, .slice la L.length lk, .slice sa S.length sk, .slice ta T.length tk, .slice ba B.length bk, .slice pa P.length pk, .slice aa A.length ak, .bool wd, .slice da D.length dk, .int .i64 sw, .int .i64 rk, .string ow, .bool dm, .bool pn, .bool lc]] w fun e w' => e = .returned (.bool (skewB D.length sw)) ∧ Below w.heap.size w w'
  have HI := Lib.hid (fun V => within_any sw 1 100 V)
  obtain ⟨R, hR⟩ : ∃ R, skewB D.length sw = R := ⟨_, rfl⟩
  rw [hR]
  unfold skewB at hR
  by_cases h0 : D.length = 0
  · rw [if_pos h0] at hR
    rw [h0] at hW HX ⊢
    have q : (sw == 0) = R := by rw [← hR]; by_cases h : sw = 0 <;> simp [h]
    clear hR h0
    go_enter Tryd.func31, Tryd.ntmps31
    go_upto_region 1 with (fail)
    rw [← hW]
    clear hW
    have hx := HX.out.cell
    have hlt := HX.out.lt
    go_wp2
    go_ret
    exact ⟨rfl, HW.out⟩
  · rw [if_neg h0] at hR
    rw [hR] at HI
    have q : ((D.length : Int) == 0) = false := by rw [beq_eq_false_iff_ne]; omega
    obtain ⟨m, hm⟩ : ∃ m, D.length = m := ⟨_, rfl⟩
    rw [hm] at q hW HX ⊢
    clear hR h0 hm
    go_enter Tryd.func31, Tryd.ntmps31
    go_upto_region 1 with (fail)
    rw [← hW]
    clear hW
    have hx := HX.out.cell
    have hlt := HX.out.lt
    go_wp2_with (go_at_call 32; (with_reducible refine (HI.out _).mono ?_); rintro e w1 ⟨rfl, hb⟩; have HW1 := Lib.hid (HW.out.trans (hb.mono HW.out.size)); clear hb)
    go_ret
    exact ⟨rfl, HW1.out⟩
def rightP (p : Pd) : Bool := wordB p.nm && weB p.ow && rtB p.n0 p.n1 p.n2 p.n3 p.n4 && decide (p.n3 = 1) && labsB p.labs && labsB p.sels && labsB p.aprs && labsB p.spds && trmsB p.trms && rightO p.bers && prtsB p.prts && (!p.wd || decide (0 < p.aprs.length)) && skewB p.spds.length p.sw && inB p.rk 0 1000
/-- What a light pod has. -/
structure LtP (p : Pd) : Prop where
  nm : p.nm.size ≤ 300
  ow : p.ow.size ≤ 300
  tl : p.trms.length ≤ 30
  pl : p.prts.length ≤ 30
  l0 : lightL p.labs = true
  l1 : lightL p.sels = true
  l2 : lightL p.aprs = true
  l3 : lightL p.spds = true
  bl : lightB p.bers [] = true
  tt : ∀ t ∈ p.trms, Lb.lightTm t = true
theorem lightP_iff {p : Pd} (h : lightP p = true) : LtP p := by
  unfold lightP at h
  simp only [Bool.and_eq_true, decide_eq_true_eq] at h
  exact ⟨h.1.1.1.1.1.1.1.1.1, h.1.1.1.1.1.1.1.1.2, h.1.1.1.1.1.1.1.2, h.1.1.1.1.1.1.2, h.1.1.1.1.1.2, h.1.1.1.1.2, h.1.1.1.2, h.1.1.2, h.1.2, List.all_eq_true.1 h.2⟩
theorem lab_sz {l : List Lab} (h : lightL l = true) : ∀ x ∈ l, x.key.size ≤ 1000000000 ∧ x.val.size ≤ 1000000000 := fun x hx => by
  have := ((lightL_iff l).1 h).2 x hx
  omega
theorem ber_sz {l : List Tol} (h : lightB l [] = true) : l.length ≤ 1000000 ∧ ∀ x ∈ l, x.key.size ≤ 1000000000 ∧ x.val.size ≤ 1000000000 := by
  unfold lightB at h
  rw [Bool.and_eq_true, Bool.and_eq_true, decide_eq_true_eq] at h
  refine ⟨by omega, fun x hx => ?_⟩
  have := List.all_eq_true.1 h.2.1 x hx
  unfold shortO at this
  rw [decide_eq_true_eq] at this
  omega
set_option maxRecDepth 100000 in
set_option maxHeartbeats 8000000 in
theorem srightp_any (p : Pd) (w : World) (hA : PodAt w p) (hL : lightP p = true) :
    Calls Tryd.prog 17 #[.agg (prow p).toArray] w fun e w' => e = .returned (.bool (rightP p)) ∧ Below w.heap.size w w' := by
  have hLt := lightP_iff hL
  obtain ⟨nm, n0, n1, n2, n3, n4, la, lk, L, sa, sk, S, ta, tk, T, ba, bk, B, pa, pk, P, aa, ak, A, wd, da, dk, D, sw, rk, ow, dm, pn, lc⟩ := p
  obtain ⟨W, hW⟩ : ∃ W, w.alloc (.cells #[.string nm, .int .i64 n0, .int .i64 n1, .int .i64 n2, .int .i64 n3, .int .i64 n4, .slice la L.length lk, .slice sa S.length sk, .slice ta T.length tk, .slice ba B.length bk, .slice pa P.length pk, .slice aa A.length ak, .bool wd, .slice da D.length dk, .int .i64 sw, .int .i64 rk, .string ow, .bool dm, .bool pn, .bool lc] 37) = W := ⟨_, rfl⟩
  have HW := Lib.hid (show Below w.heap.size w W by rw [← hW]; exact (Below.refl _ w).alloc (Nat.le_refl _) _)
  have HA := Lib.hid (hA.mono HW.out)
  have HX := Lib.hid (show Box w.heap.size [.string nm, .int .i64 n0, .int .i64 n1, .int .i64 n2, .int .i64 n3, .int .i64 n4, .slice la L.length lk, .slice sa S.length sk, .slice ta T.length tk, .slice ba B.length bk, .slice pa P.length pk, .slice aa A.length ak, .bool wd, .slice da D.length dk, .int .i64 sw, .int .i64 rk, .string ow, .bool dm, .bool pn, .bool lc] W by rw [← hW]; exact Box.new w [.string nm, .int .i64 n0, .int .i64 n1, .int .i64 n2, .int .i64 n3, .int .i64 n4, .slice la L.length lk, .slice sa S.length sk, .slice ta T.length tk, .slice ba B.length bk, .slice pa P.length pk, .slice aa A.length ak, .bool wd, .slice da D.length dk, .int .i64 sw, .int .i64 rk, .string ow, .bool dm, .bool pn, .bool lc] 37)
  have hv : rightP ⟨nm, n0, n1, n2, n3, n4, la, lk, L, sa, sk, S, ta, tk, T, ba, bk, B, pa, pk, P, aa, ak, A, wd, da, dk, D, sw, rk, ow, dm, pn, lc⟩ = (wordB nm && weB ow && rtB n0 n1 n2 n3 n4 && decide (n3 = 1) && labsB L && labsB S && labsB A && labsB D && trmsB T && rightO B && prtsB P && (!wd || decide (0 < A.length)) && skewB D.length sw && inB rk 0 1000) := rfl
  show Calls Tryd.prog 17 #[.agg #[.string nm, .int .i64 n0, .int .i64 n1, .int .i64 n2, .int .i64 n3, .int .i64 n4, .slice la L.length lk, .slice sa S.length sk, .slice ta T.length tk, .slice ba B.length bk, .slice pa P.length pk, .slice aa A.length ak, .bool wd, .slice da D.length dk, .int .i64 sw, .int .i64 rk, .string ow, .bool dm, .bool pn, .bool lc]] w _
  rw [hv]
  obtain ⟨m0, hm0⟩ : ∃ b, wordB nm = b := ⟨_, rfl⟩
  obtain ⟨m1, hm1⟩ : ∃ b, weB ow = b := ⟨_, rfl⟩
  obtain ⟨m2, hm2⟩ : ∃ b, rtB n0 n1 n2 n3 n4 = b := ⟨_, rfl⟩
  obtain ⟨m3, hm3⟩ : ∃ b, labsB L = b := ⟨_, rfl⟩
  obtain ⟨m4, hm4⟩ : ∃ b, labsB S = b := ⟨_, rfl⟩
  obtain ⟨m5, hm5⟩ : ∃ b, labsB A = b := ⟨_, rfl⟩
  obtain ⟨m6, hm6⟩ : ∃ b, labsB D = b := ⟨_, rfl⟩
  obtain ⟨m7, hm7⟩ : ∃ b, trmsB T = b := ⟨_, rfl⟩
  obtain ⟨m8, hm8⟩ : ∃ b, rightO B = b := ⟨_, rfl⟩
  obtain ⟨m9, hm9⟩ : ∃ b, prtsB P = b := ⟨_, rfl⟩
  obtain ⟨ma, hma⟩ : ∃ b, skewB D.length sw = b := ⟨_, rfl⟩
  obtain ⟨mb, hmb⟩ : ∃ b, inB rk 0 1000 = b := ⟨_, rfl⟩
  have H0 := Lib.hid (fun V => word_any nm V)
  have H1 := Lib.hid (fun V => swordorempty_any ow V)
  have H2 := Lib.hid (fun V => resright_any n0 n1 n2 n3 n4 V)
  have H3 := Lib.hid (fun V (h : LabL V la L) => lright_any la lk L V h hA.ll fun x hx => (lab_sz hLt.l0 x hx).1)
  have H4 := Lib.hid (fun V (h : LabL V sa S) => lright_any sa sk S V h hA.sl fun x hx => (lab_sz hLt.l1 x hx).1)
  have H5 := Lib.hid (fun V (h : LabL V aa A) => lright_any aa ak A V h hA.al fun x hx => (lab_sz hLt.l2 x hx).1)
  have H6 := Lib.hid (fun V (h : LabL V da D) => lright_any da dk D V h hA.dl fun x hx => (lab_sz hLt.l3 x hx).1)
  have H7 := Lib.hid (fun V (h : Lb.TrmL V ta T) (hq : ∀ t ∈ T, Lb.TrmAt V t) => rterms_any ta tk T V h hq hLt.tt (by have : T.length ≤ 30 := hLt.tl; omega))
  have H8 := Lib.hid (fun V (h : TolsAt V ba B) => rightbears_any ba bk B V h (ber_sz hLt.bl).1)
  have H9 := Lib.hid (fun V (h : PrtL V pa P) => rports_any pa pk P V h (by have : P.length ≤ 30 := hLt.pl; omega))
  have Ha := Lib.hid (show ∀ (n3 : Int) (V : World), Calls Tryd.prog 31 #[.agg #[.string nm, .int .i64 n0, .int .i64 n1, .int .i64 n2, .int .i64 n3, .int .i64 n4, .slice la L.length lk, .slice sa S.length sk, .slice ta T.length tk, .slice ba B.length bk, .slice pa P.length pk, .slice aa A.length ak, .bool wd, .slice da D.length dk, .int .i64 sw, .int .i64 rk, .string ow, .bool dm, .bool pn, .bool lc]] V fun e w' => e = .returned (.bool (skewB D.length sw)) ∧ Below V.heap.size V w' from fun n3 V => rskew_any ⟨nm, n0, n1, n2, n3, n4, la, lk, L, sa, sk, S, ta, tk, T, ba, bk, B, pa, pk, P, aa, ak, A, wd, da, dk, D, sw, rk, ow, dm, pn, lc⟩ V)
  have Hb := Lib.hid (fun V => within_any rk 0 1000 V)
  rw [hm0] at H0
  rw [hm1] at H1
  rw [hm2] at H2
  rw [hm3] at H3
  rw [hm4] at H4
  rw [hm5] at H5
  rw [hm6] at H6
  rw [hm7] at H7
  rw [hm8] at H8
  rw [hm9] at H9
  rw [hma] at Ha
  rw [hmb] at Hb
  rw [hm0, hm1, hm2, hm3, hm4, hm5, hm6, hm7, hm8, hm9, hma, hmb]
  obtain ⟨R, hR⟩ : ∃ R, (m0 && m1 && m2 && decide (n3 = 1) && m3 && m4 && m5 && m6 && m7 && m8 && m9 && (!wd || decide (0 < A.length)) && ma && mb) = R := ⟨_, rfl⟩
  rw [hR]
  have HR := Lib.hid hR
  clear hv hA hm0 hm1 hm2 hm3 hm4 hm5 hm6 hm7 hm8 hm9 hma hmb hR hL hLt
  have hx := HX.out.cell
  have hlt := HX.out.lt
  have HNo := Lib.hid (show ¬ (m0 = true ∧ m1 = true ∧ m2 = true ∧ n3 = 1 ∧ m3 = true ∧ m4 = true ∧ m5 = true ∧ m6 = true ∧ m7 = true ∧ m8 = true ∧ m9 = true ∧ (!wd || decide (0 < A.length)) = true ∧ ma = true ∧ mb = true) → R = false from fun hn => by
    rw [← HR.out, Bool.eq_false_iff]
    intro hh
    simp only [Bool.and_eq_true, decide_eq_true_eq] at hh
    obtain ⟨⟨⟨⟨⟨⟨⟨⟨⟨⟨⟨⟨⟨b0, b1⟩, b2⟩, b3⟩, b4⟩, b5⟩, b6⟩, b7⟩, b8⟩, b9⟩, ba⟩, bb⟩, bc⟩, bd⟩ := hh
    exact hn ⟨b0, b1, b2, b3, b4, b5, b6, b7, b8, b9, ba, bb, bc, bd⟩)
  have HYes := Lib.hid (show m0 = true → m1 = true → m2 = true → n3 = 1 → m3 = true → m4 = true → m5 = true → m6 = true → m7 = true → m8 = true → m9 = true → (!wd || decide (0 < A.length)) = true → ma = true → R = mb from fun h0 h1 h2 h3 h4 h5 h6 h7 h8 h9 ha hb hc => by
    rw [← HR.out, h0, h1, h2, decide_eq_true h3, h4, h5, h6, h7, h8, h9, ha, hb, hc]
    rfl)
  clear HR
  cases wd with
  | false =>
    skip
    go_enter Tryd.func17, Tryd.ntmps17
    go_step
    dsimp only [List.append]
    go_wp2_with (first
      | (go_at_call 24; (with_reducible refine (H0.out _).mono ?_); rintro e w1 ⟨rfl, hb⟩; have HX1 := Lib.hid (HX.out.mono hb); have hx1 := HX1.out.cell; have hlt1 := HX1.out.lt; have HA1 := Lib.hid (HA.out.mono hb); have HW1 := Lib.hid (HW.out.trans (hb.mono HW.out.size)); clear hb)
      | (go_at_call 25; (with_reducible refine (H1.out _).mono ?_); rintro e w2 ⟨rfl, hb⟩; have HX2 := Lib.hid (HX1.out.mono hb); have hx2 := HX2.out.cell; have hlt2 := HX2.out.lt; have HA2 := Lib.hid (HA1.out.mono hb); have HW2 := Lib.hid (HW1.out.trans (hb.mono HW1.out.size)); clear hb)
      | (go_at_call 26; (with_reducible refine (H2.out _).mono ?_); rintro e w3 ⟨rfl, hb⟩; have HX3 := Lib.hid (HX2.out.mono hb); have hx3 := HX3.out.cell; have hlt3 := HX3.out.lt; have HA3 := Lib.hid (HA2.out.mono hb); have HW3 := Lib.hid (HW2.out.trans (hb.mono HW2.out.size)); clear hb)
      | (go_at_call 27; (with_reducible refine (H3.out _ HA3.out.labs).mono ?_); rintro e w4 ⟨rfl, hb⟩; have HX4 := Lib.hid (HX3.out.mono hb); have hx4 := HX4.out.cell; have hlt4 := HX4.out.lt; have HA4 := Lib.hid (HA3.out.mono hb); have HW4 := Lib.hid (HW3.out.trans (hb.mono HW3.out.size)); clear hb)
      | (go_at_call 27; (with_reducible refine (H4.out _ HA4.out.sels).mono ?_); rintro e w5 ⟨rfl, hb⟩; have HX5 := Lib.hid (HX4.out.mono hb); have hx5 := HX5.out.cell; have hlt5 := HX5.out.lt; have HA5 := Lib.hid (HA4.out.mono hb); have HW5 := Lib.hid (HW4.out.trans (hb.mono HW4.out.size)); clear hb)
      | (go_at_call 27; (with_reducible refine (H5.out _ HA5.out.aprs).mono ?_); rintro e w6 ⟨rfl, hb⟩; have HX6 := Lib.hid (HX5.out.mono hb); have hx6 := HX6.out.cell; have hlt6 := HX6.out.lt; have HA6 := Lib.hid (HA5.out.mono hb); have HW6 := Lib.hid (HW5.out.trans (hb.mono HW5.out.size)); clear hb)
      | (go_at_call 27; (with_reducible refine (H6.out _ HA6.out.spds).mono ?_); rintro e w7 ⟨rfl, hb⟩; have HX7 := Lib.hid (HX6.out.mono hb); have hx7 := HX7.out.cell; have hlt7 := HX7.out.lt; have HA7 := Lib.hid (HA6.out.mono hb); have HW7 := Lib.hid (HW6.out.trans (hb.mono HW6.out.size)); clear hb)
      | (go_at_call 28; (with_reducible refine (H7.out _ HA7.out.trms HA7.out.trmA).mono ?_); rintro e w8 ⟨rfl, hb⟩; have HX8 := Lib.hid (HX7.out.mono hb); have hx8 := HX8.out.cell; have hlt8 := HX8.out.lt; have HA8 := Lib.hid (HA7.out.mono hb); have HW8 := Lib.hid (HW7.out.trans (hb.mono HW7.out.size)); clear hb)
      | (go_at_call 29; (with_reducible refine (H8.out _ HA8.out.bers).mono ?_); rintro e w9 ⟨rfl, hb⟩; have HX9 := Lib.hid (HX8.out.mono hb); have hx9 := HX9.out.cell; have hlt9 := HX9.out.lt; have HA9 := Lib.hid (HA8.out.mono hb); have HW9 := Lib.hid (HW8.out.trans (hb.mono HW8.out.size)); clear hb)
      | (go_at_call 30; (with_reducible refine (H9.out _ HA9.out.prts).mono ?_); rintro e w10 ⟨rfl, hb⟩; have HX10 := Lib.hid (HX9.out.mono hb); have hx10 := HX10.out.cell; have hlt10 := HX10.out.lt; have HA10 := Lib.hid (HA9.out.mono hb); have HW10 := Lib.hid (HW9.out.trans (hb.mono HW9.out.size)); clear hb)
      | ((with_reducible refine at_load (ty := 37) ?_); refine load_cells rfl 37 (.tmp 1) rfl w.heap.size 0 rfl _ _ Tryd.underlying37 rfl (by kernel_rfl) HX10.out.range ?_)
      | (go_at_call 31; (with_reducible refine (Ha.out _ _).mono ?_); rintro e w11 ⟨rfl, hb⟩; have HX11 := Lib.hid (HX10.out.mono hb); have hx11 := HX11.out.cell; have hlt11 := HX11.out.lt; have HA11 := Lib.hid (HA10.out.mono hb); have HW11 := Lib.hid (HW10.out.trans (hb.mono HW10.out.size)); clear hb)
      | (go_at_call 32; (with_reducible refine (Hb.out _).mono ?_); rintro e w12 ⟨rfl, hb⟩; have HX12 := Lib.hid (HX11.out.mono hb); have hx12 := HX12.out.cell; have hlt12 := HX12.out.lt; have HA12 := Lib.hid (HA11.out.mono hb); have HW12 := Lib.hid (HW11.out.trans (hb.mono HW11.out.size)); clear hb))
    all_goals
      first
        | (obtain rfl : R = false := HNo.out (by
             rintro ⟨a0, a1, a2, an, a3, a4, a5, a6, a7, a8, a9, aa1, ab, ac⟩
             clear hx HNo HYes
             first
               | contradiction
               | omega
               | (simp at aa1; omega))
           go_ret
           exact ⟨rfl, by (first | exact HW12.out | exact HW11.out | exact HW10.out | exact HW9.out | exact HW8.out | exact HW7.out | exact HW6.out | exact HW5.out | exact HW4.out | exact HW3.out | exact HW2.out | exact HW1.out | exact HW.out)⟩
           done)
        | (obtain rfl : R = mb := HYes.out (by assumption) (by assumption) (by assumption) (by assumption) (by assumption) (by assumption) (by assumption) (by assumption) (by assumption) (by assumption) (by assumption) (by first | rfl | (simp; done) | (simp; omega)) (by assumption)
           go_ret
           exact ⟨rfl, by (first | exact HW12.out | exact HW11.out | exact HW10.out | exact HW9.out | exact HW8.out | exact HW7.out | exact HW6.out | exact HW5.out | exact HW4.out | exact HW3.out | exact HW2.out | exact HW1.out | exact HW.out)⟩
           done)
  | true =>
    by_cases hA0 : 0 < A.length
    · have k1 : decide ((0 : Int) < (A.length : Int)) = true := decide_eq_true (by omega)
      go_enter Tryd.func17, Tryd.ntmps17
      go_step
      dsimp only [List.append]
      go_wp2_with (first
        | (go_at_call 24; (with_reducible refine (H0.out _).mono ?_); rintro e w1 ⟨rfl, hb⟩; have HX1 := Lib.hid (HX.out.mono hb); have hx1 := HX1.out.cell; have hlt1 := HX1.out.lt; have HA1 := Lib.hid (HA.out.mono hb); have HW1 := Lib.hid (HW.out.trans (hb.mono HW.out.size)); clear hb)
        | (go_at_call 25; (with_reducible refine (H1.out _).mono ?_); rintro e w2 ⟨rfl, hb⟩; have HX2 := Lib.hid (HX1.out.mono hb); have hx2 := HX2.out.cell; have hlt2 := HX2.out.lt; have HA2 := Lib.hid (HA1.out.mono hb); have HW2 := Lib.hid (HW1.out.trans (hb.mono HW1.out.size)); clear hb)
        | (go_at_call 26; (with_reducible refine (H2.out _).mono ?_); rintro e w3 ⟨rfl, hb⟩; have HX3 := Lib.hid (HX2.out.mono hb); have hx3 := HX3.out.cell; have hlt3 := HX3.out.lt; have HA3 := Lib.hid (HA2.out.mono hb); have HW3 := Lib.hid (HW2.out.trans (hb.mono HW2.out.size)); clear hb)
        | (go_at_call 27; (with_reducible refine (H3.out _ HA3.out.labs).mono ?_); rintro e w4 ⟨rfl, hb⟩; have HX4 := Lib.hid (HX3.out.mono hb); have hx4 := HX4.out.cell; have hlt4 := HX4.out.lt; have HA4 := Lib.hid (HA3.out.mono hb); have HW4 := Lib.hid (HW3.out.trans (hb.mono HW3.out.size)); clear hb)
        | (go_at_call 27; (with_reducible refine (H4.out _ HA4.out.sels).mono ?_); rintro e w5 ⟨rfl, hb⟩; have HX5 := Lib.hid (HX4.out.mono hb); have hx5 := HX5.out.cell; have hlt5 := HX5.out.lt; have HA5 := Lib.hid (HA4.out.mono hb); have HW5 := Lib.hid (HW4.out.trans (hb.mono HW4.out.size)); clear hb)
        | (go_at_call 27; (with_reducible refine (H5.out _ HA5.out.aprs).mono ?_); rintro e w6 ⟨rfl, hb⟩; have HX6 := Lib.hid (HX5.out.mono hb); have hx6 := HX6.out.cell; have hlt6 := HX6.out.lt; have HA6 := Lib.hid (HA5.out.mono hb); have HW6 := Lib.hid (HW5.out.trans (hb.mono HW5.out.size)); clear hb)
        | (go_at_call 27; (with_reducible refine (H6.out _ HA6.out.spds).mono ?_); rintro e w7 ⟨rfl, hb⟩; have HX7 := Lib.hid (HX6.out.mono hb); have hx7 := HX7.out.cell; have hlt7 := HX7.out.lt; have HA7 := Lib.hid (HA6.out.mono hb); have HW7 := Lib.hid (HW6.out.trans (hb.mono HW6.out.size)); clear hb)
        | (go_at_call 28; (with_reducible refine (H7.out _ HA7.out.trms HA7.out.trmA).mono ?_); rintro e w8 ⟨rfl, hb⟩; have HX8 := Lib.hid (HX7.out.mono hb); have hx8 := HX8.out.cell; have hlt8 := HX8.out.lt; have HA8 := Lib.hid (HA7.out.mono hb); have HW8 := Lib.hid (HW7.out.trans (hb.mono HW7.out.size)); clear hb)
        | (go_at_call 29; (with_reducible refine (H8.out _ HA8.out.bers).mono ?_); rintro e w9 ⟨rfl, hb⟩; have HX9 := Lib.hid (HX8.out.mono hb); have hx9 := HX9.out.cell; have hlt9 := HX9.out.lt; have HA9 := Lib.hid (HA8.out.mono hb); have HW9 := Lib.hid (HW8.out.trans (hb.mono HW8.out.size)); clear hb)
        | (go_at_call 30; (with_reducible refine (H9.out _ HA9.out.prts).mono ?_); rintro e w10 ⟨rfl, hb⟩; have HX10 := Lib.hid (HX9.out.mono hb); have hx10 := HX10.out.cell; have hlt10 := HX10.out.lt; have HA10 := Lib.hid (HA9.out.mono hb); have HW10 := Lib.hid (HW9.out.trans (hb.mono HW9.out.size)); clear hb)
        | ((with_reducible refine at_load (ty := 37) ?_); refine load_cells rfl 37 (.tmp 1) rfl w.heap.size 0 rfl _ _ Tryd.underlying37 rfl (by kernel_rfl) HX10.out.range ?_)
        | (go_at_call 31; (with_reducible refine (Ha.out _ _).mono ?_); rintro e w11 ⟨rfl, hb⟩; have HX11 := Lib.hid (HX10.out.mono hb); have hx11 := HX11.out.cell; have hlt11 := HX11.out.lt; have HA11 := Lib.hid (HA10.out.mono hb); have HW11 := Lib.hid (HW10.out.trans (hb.mono HW10.out.size)); clear hb)
        | (go_at_call 32; (with_reducible refine (Hb.out _).mono ?_); rintro e w12 ⟨rfl, hb⟩; have HX12 := Lib.hid (HX11.out.mono hb); have hx12 := HX12.out.cell; have hlt12 := HX12.out.lt; have HA12 := Lib.hid (HA11.out.mono hb); have HW12 := Lib.hid (HW11.out.trans (hb.mono HW11.out.size)); clear hb))
      all_goals
        first
          | (obtain rfl : R = false := HNo.out (by
               rintro ⟨a0, a1, a2, an, a3, a4, a5, a6, a7, a8, a9, aa1, ab, ac⟩
               clear hx HNo HYes
               first
                 | contradiction
                 | omega
                 | (simp at aa1; omega))
             go_ret
             exact ⟨rfl, by (first | exact HW12.out | exact HW11.out | exact HW10.out | exact HW9.out | exact HW8.out | exact HW7.out | exact HW6.out | exact HW5.out | exact HW4.out | exact HW3.out | exact HW2.out | exact HW1.out | exact HW.out)⟩
             done)
          | (obtain rfl : R = mb := HYes.out (by assumption) (by assumption) (by assumption) (by assumption) (by assumption) (by assumption) (by assumption) (by assumption) (by assumption) (by assumption) (by assumption) (by first | rfl | (simp; done) | (simp; omega)) (by assumption)
             go_ret
             exact ⟨rfl, by (first | exact HW12.out | exact HW11.out | exact HW10.out | exact HW9.out | exact HW8.out | exact HW7.out | exact HW6.out | exact HW5.out | exact HW4.out | exact HW3.out | exact HW2.out | exact HW1.out | exact HW.out)⟩
             done)
    · have k1 : decide ((0 : Int) < (A.length : Int)) = false := decide_eq_false (by omega)
      go_enter Tryd.func17, Tryd.ntmps17
      go_step
      dsimp only [List.append]
      go_wp2_with (first
        | (go_at_call 24; (with_reducible refine (H0.out _).mono ?_); rintro e w1 ⟨rfl, hb⟩; have HX1 := Lib.hid (HX.out.mono hb); have hx1 := HX1.out.cell; have hlt1 := HX1.out.lt; have HA1 := Lib.hid (HA.out.mono hb); have HW1 := Lib.hid (HW.out.trans (hb.mono HW.out.size)); clear hb)
        | (go_at_call 25; (with_reducible refine (H1.out _).mono ?_); rintro e w2 ⟨rfl, hb⟩; have HX2 := Lib.hid (HX1.out.mono hb); have hx2 := HX2.out.cell; have hlt2 := HX2.out.lt; have HA2 := Lib.hid (HA1.out.mono hb); have HW2 := Lib.hid (HW1.out.trans (hb.mono HW1.out.size)); clear hb)
        | (go_at_call 26; (with_reducible refine (H2.out _).mono ?_); rintro e w3 ⟨rfl, hb⟩; have HX3 := Lib.hid (HX2.out.mono hb); have hx3 := HX3.out.cell; have hlt3 := HX3.out.lt; have HA3 := Lib.hid (HA2.out.mono hb); have HW3 := Lib.hid (HW2.out.trans (hb.mono HW2.out.size)); clear hb)
        | (go_at_call 27; (with_reducible refine (H3.out _ HA3.out.labs).mono ?_); rintro e w4 ⟨rfl, hb⟩; have HX4 := Lib.hid (HX3.out.mono hb); have hx4 := HX4.out.cell; have hlt4 := HX4.out.lt; have HA4 := Lib.hid (HA3.out.mono hb); have HW4 := Lib.hid (HW3.out.trans (hb.mono HW3.out.size)); clear hb)
        | (go_at_call 27; (with_reducible refine (H4.out _ HA4.out.sels).mono ?_); rintro e w5 ⟨rfl, hb⟩; have HX5 := Lib.hid (HX4.out.mono hb); have hx5 := HX5.out.cell; have hlt5 := HX5.out.lt; have HA5 := Lib.hid (HA4.out.mono hb); have HW5 := Lib.hid (HW4.out.trans (hb.mono HW4.out.size)); clear hb)
        | (go_at_call 27; (with_reducible refine (H5.out _ HA5.out.aprs).mono ?_); rintro e w6 ⟨rfl, hb⟩; have HX6 := Lib.hid (HX5.out.mono hb); have hx6 := HX6.out.cell; have hlt6 := HX6.out.lt; have HA6 := Lib.hid (HA5.out.mono hb); have HW6 := Lib.hid (HW5.out.trans (hb.mono HW5.out.size)); clear hb)
        | (go_at_call 27; (with_reducible refine (H6.out _ HA6.out.spds).mono ?_); rintro e w7 ⟨rfl, hb⟩; have HX7 := Lib.hid (HX6.out.mono hb); have hx7 := HX7.out.cell; have hlt7 := HX7.out.lt; have HA7 := Lib.hid (HA6.out.mono hb); have HW7 := Lib.hid (HW6.out.trans (hb.mono HW6.out.size)); clear hb)
        | (go_at_call 28; (with_reducible refine (H7.out _ HA7.out.trms HA7.out.trmA).mono ?_); rintro e w8 ⟨rfl, hb⟩; have HX8 := Lib.hid (HX7.out.mono hb); have hx8 := HX8.out.cell; have hlt8 := HX8.out.lt; have HA8 := Lib.hid (HA7.out.mono hb); have HW8 := Lib.hid (HW7.out.trans (hb.mono HW7.out.size)); clear hb)
        | (go_at_call 29; (with_reducible refine (H8.out _ HA8.out.bers).mono ?_); rintro e w9 ⟨rfl, hb⟩; have HX9 := Lib.hid (HX8.out.mono hb); have hx9 := HX9.out.cell; have hlt9 := HX9.out.lt; have HA9 := Lib.hid (HA8.out.mono hb); have HW9 := Lib.hid (HW8.out.trans (hb.mono HW8.out.size)); clear hb)
        | (go_at_call 30; (with_reducible refine (H9.out _ HA9.out.prts).mono ?_); rintro e w10 ⟨rfl, hb⟩; have HX10 := Lib.hid (HX9.out.mono hb); have hx10 := HX10.out.cell; have hlt10 := HX10.out.lt; have HA10 := Lib.hid (HA9.out.mono hb); have HW10 := Lib.hid (HW9.out.trans (hb.mono HW9.out.size)); clear hb)
        | ((with_reducible refine at_load (ty := 37) ?_); refine load_cells rfl 37 (.tmp 1) rfl w.heap.size 0 rfl _ _ Tryd.underlying37 rfl (by kernel_rfl) HX10.out.range ?_)
        | (go_at_call 31; (with_reducible refine (Ha.out _ _).mono ?_); rintro e w11 ⟨rfl, hb⟩; have HX11 := Lib.hid (HX10.out.mono hb); have hx11 := HX11.out.cell; have hlt11 := HX11.out.lt; have HA11 := Lib.hid (HA10.out.mono hb); have HW11 := Lib.hid (HW10.out.trans (hb.mono HW10.out.size)); clear hb)
        | (go_at_call 32; (with_reducible refine (Hb.out _).mono ?_); rintro e w12 ⟨rfl, hb⟩; have HX12 := Lib.hid (HX11.out.mono hb); have hx12 := HX12.out.cell; have hlt12 := HX12.out.lt; have HA12 := Lib.hid (HA11.out.mono hb); have HW12 := Lib.hid (HW11.out.trans (hb.mono HW11.out.size)); clear hb))
      all_goals
        first
          | (obtain rfl : R = false := HNo.out (by
               rintro ⟨a0, a1, a2, an, a3, a4, a5, a6, a7, a8, a9, aa1, ab, ac⟩
               clear hx HNo HYes
               first
                 | contradiction
                 | omega
                 | (simp at aa1; omega))
             go_ret
             exact ⟨rfl, by (first | exact HW12.out | exact HW11.out | exact HW10.out | exact HW9.out | exact HW8.out | exact HW7.out | exact HW6.out | exact HW5.out | exact HW4.out | exact HW3.out | exact HW2.out | exact HW1.out | exact HW.out)⟩
             done)
          | (obtain rfl : R = mb := HYes.out (by assumption) (by assumption) (by assumption) (by assumption) (by assumption) (by assumption) (by assumption) (by assumption) (by assumption) (by assumption) (by assumption) (by first | rfl | (simp; done) | (simp; omega)) (by assumption)
             go_ret
             exact ⟨rfl, by (first | exact HW12.out | exact HW11.out | exact HW10.out | exact HW9.out | exact HW8.out | exact HW7.out | exact HW6.out | exact HW5.out | exact HW4.out | exact HW3.out | exact HW2.out | exact HW1.out | exact HW.out)⟩
             done)
end Go.Proofs.YtccplljbljpjpaaDoor
