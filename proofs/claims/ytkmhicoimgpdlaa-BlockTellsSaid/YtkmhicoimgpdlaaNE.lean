/-
  Pods: light and right ones.
-/
import Derived.Test.YtkmhicoimgpdlaaND
import Derived.Deep.Cut
import Derived.Test.YtkmhicoimgpdlaaMG
import Derived.BigQuiet
namespace Go.Proofs.Ytkmhicoimgpdlaa
open Go.RowKit
set_option linter.unusedVariables false
set_option linter.unusedSimpArgs false

/-- A struct in a block of its own. -/
structure Box (X : Nat) (L : List Value) (V : World) : Prop where
  lt : X < V.heap.size
  cell : ∀ i, V.cell? ⟨X, i, none⟩ = L[i]?
theorem Box.mono {X : Nat} {L : List Value} {V V' : World} (h : Box X L V) (hb : Below V.heap.size V V') : Box X L V' :=
  ⟨Nat.lt_of_lt_of_le h.lt hb.size, fun i => by rw [hb.cell (p := ⟨X, i, none⟩) h.lt]; exact h.cell i⟩
theorem Box.new (w : World) (L : List Value) (t : TypeId) : Box w.heap.size L (w.alloc (.cells L.toArray t)) :=
  ⟨by simp, fun i => by rw [World.cell?_alloc_at _ _ _ _ rfl]; simp⟩
theorem Box.range {X : Nat} {L : List Value} {V : World} (h : Box X L V) : V.rangeAt X 0 L := fun j v hv => by
  rw [Nat.zero_add, h.cell j, hv]
def lightP (p : Pd) : Bool := decide (p.nm.size ≤ 300) && decide (p.ow.size ≤ 300) && decide (p.trms.length ≤ 30) && decide (p.prts.length ≤ 30) && lightL p.labs && lightL p.sels && lightL p.aprs && lightL p.spds && lightB p.bers [] && p.trms.all Lb.lightTm
theorem light1 (c : Option Addr) (kc : Nat) (xs : List Tol) (w : World) (hF : TolsAt w c xs) (hm : xs.length ≤ maxLen) :
    Calls Try.prog 66 #[.slice c xs.length kc, .slice none 0 0] w fun e w' => e = .returned (.bool (lightB xs [])) ∧ Below w.heap.size w w' := light_any c none kc 0 xs [] w hF hm RowsAt.nil (Nat.zero_le _)
set_option maxRecDepth 100000 in
set_option maxHeartbeats 4000000 in
theorem lightp_any (p : Pd) (w : World) (hA : PodAt w p) :
    Calls Try.prog 43 #[.agg (prow p).toArray] w fun e w' => e = .returned (.bool (lightP p)) ∧ Below w.heap.size w w' := by
  obtain ⟨nm, n0, n1, n2, n3, n4, la, lk, L, sa, sk, S, ta, tk, T, ba, bk, B, pa, pk, P, aa, ak, A, wd, da, dk, D, sw, rk, ow, dm, pn, lc⟩ := p
  obtain ⟨W, hW⟩ : ∃ W, W = w.alloc (.cells #[.string nm, .int .i64 n0, .int .i64 n1, .int .i64 n2, .int .i64 n3, .int .i64 n4, .slice la L.length lk, .slice sa S.length sk, .slice ta T.length tk, .slice ba B.length bk, .slice pa P.length pk, .slice aa A.length ak, .bool wd, .slice da D.length dk, .int .i64 sw, .int .i64 rk, .string ow, .bool dm, .bool pn, .bool lc] 50) := ⟨_, rfl⟩
  have HW := Lib.hid (show Below w.heap.size w W by rw [hW]; exact (Below.refl _ w).alloc (Nat.le_refl _) _)
  have HA := Lib.hid (hA.mono HW.out)
  have HX := Lib.hid (show Box w.heap.size [.string nm, .int .i64 n0, .int .i64 n1, .int .i64 n2, .int .i64 n3, .int .i64 n4, .slice la L.length lk, .slice sa S.length sk, .slice ta T.length tk, .slice ba B.length bk, .slice pa P.length pk, .slice aa A.length ak, .bool wd, .slice da D.length dk, .int .i64 sw, .int .i64 rk, .string ow, .bool dm, .bool pn, .bool lc] W by rw [hW]; exact Box.new w [.string nm, .int .i64 n0, .int .i64 n1, .int .i64 n2, .int .i64 n3, .int .i64 n4, .slice la L.length lk, .slice sa S.length sk, .slice ta T.length tk, .slice ba B.length bk, .slice pa P.length pk, .slice aa A.length ak, .bool wd, .slice da D.length dk, .int .i64 sw, .int .i64 rk, .string ow, .bool dm, .bool pn, .bool lc] 50)
  have hv : lightP ⟨nm, n0, n1, n2, n3, n4, la, lk, L, sa, sk, S, ta, tk, T, ba, bk, B, pa, pk, P, aa, ak, A, wd, da, dk, D, sw, rk, ow, dm, pn, lc⟩ = (decide (nm.size ≤ 300) && decide (ow.size ≤ 300) && decide (T.length ≤ 30) && decide (P.length ≤ 30) && lightL L && lightL S && lightL A && lightL D && lightB B [] && T.all Lb.lightTm) := rfl
  show Calls Try.prog 43 #[.agg #[.string nm, .int .i64 n0, .int .i64 n1, .int .i64 n2, .int .i64 n3, .int .i64 n4, .slice la L.length lk, .slice sa S.length sk, .slice ta T.length tk, .slice ba B.length bk, .slice pa P.length pk, .slice aa A.length ak, .bool wd, .slice da D.length dk, .int .i64 sw, .int .i64 rk, .string ow, .bool dm, .bool pn, .bool lc]] w _
  rw [hv]
  obtain ⟨m0, hm0⟩ : ∃ b, lightL L = b := ⟨_, rfl⟩
  obtain ⟨m1, hm1⟩ : ∃ b, lightL S = b := ⟨_, rfl⟩
  obtain ⟨m2, hm2⟩ : ∃ b, lightL A = b := ⟨_, rfl⟩
  obtain ⟨m3, hm3⟩ : ∃ b, lightL D = b := ⟨_, rfl⟩
  obtain ⟨m4, hm4⟩ : ∃ b, lightB B [] = b := ⟨_, rfl⟩
  rw [hm0, hm1, hm2, hm3, hm4]
  have H0 := Lib.hid (fun V (h : LabL V la L) => lightl_any la lk L V h hA.ll)
  have H1 := Lib.hid (fun V (h : LabL V sa S) => lightl_any sa sk S V h hA.sl)
  have H2 := Lib.hid (fun V (h : LabL V aa A) => lightl_any aa ak A V h hA.al)
  have H3 := Lib.hid (fun V (h : LabL V da D) => lightl_any da dk D V h hA.dl)
  have H4 := Lib.hid (fun V (h : TolsAt V ba B) => light1 ba bk B V h hA.bl)
  rw [hm0] at H0
  rw [hm1] at H1
  rw [hm2] at H2
  rw [hm3] at H3
  rw [hm4] at H4
  obtain ⟨R, hR⟩ : ∃ R, (decide (nm.size ≤ 300) && decide (ow.size ≤ 300) && decide (T.length ≤ 30) && decide (P.length ≤ 30) && m0 && m1 && m2 && m3 && m4 && T.all Lb.lightTm) = R := ⟨_, rfl⟩
  rw [hR]
  have HNo := Lib.hid (show ¬ (nm.size ≤ 300 ∧ ow.size ≤ 300 ∧ T.length ≤ 30 ∧ P.length ≤ 30 ∧ m0 = true ∧ m1 = true ∧ m2 = true ∧ m3 = true ∧ m4 = true) → R = false from fun hn => by
    rw [← hR, Bool.eq_false_iff]
    intro hh
    simp only [Bool.and_eq_true, decide_eq_true_eq] at hh
    exact hn ⟨hh.1.1.1.1.1.1.1.1.1, hh.1.1.1.1.1.1.1.1.2, hh.1.1.1.1.1.1.1.2, hh.1.1.1.1.1.1.2, hh.1.1.1.1.1.2, hh.1.1.1.1.2, hh.1.1.1.2, hh.1.1.2, hh.1.2⟩)
  have HYes := Lib.hid (show nm.size ≤ 300 → ow.size ≤ 300 → T.length ≤ 30 → P.length ≤ 30 → m0 = true → m1 = true → m2 = true → m3 = true → m4 = true → R = T.all Lb.lightTm from fun h1 h2 h3 h4 h5 h6 h7 h8 h9 => by
    rw [← hR, decide_eq_true h1, decide_eq_true h2, decide_eq_true h3, decide_eq_true h4, h5, h6, h7, h8, h9]
    rfl)
  clear hv hA hm0 hm1 hm2 hm3 hm4 hR
  go_enter Try.func43, Try.ntmps43
  go_upto_region 1 with (fail)
  rw [← hW]
  clear hW
  have hx := HX.out.cell
  have hlt := HX.out.lt
  go_wp2_with (first
    | (go_at_call 44; (with_reducible refine (H0.out _ HA.out.labs).mono ?_); rintro e w1 ⟨rfl, hb⟩; have HX1 := Lib.hid (HX.out.mono hb); have hx1 := HX1.out.cell; have hlt1 := HX1.out.lt; have HA1 := Lib.hid (HA.out.mono hb); have HW1 := Lib.hid (HW.out.trans (hb.mono HW.out.size)); clear hb)
    | (go_at_call 44; (with_reducible refine (H1.out _ HA1.out.sels).mono ?_); rintro e w2 ⟨rfl, hb⟩; have HX2 := Lib.hid (HX1.out.mono hb); have hx2 := HX2.out.cell; have hlt2 := HX2.out.lt; have HA2 := Lib.hid (HA1.out.mono hb); have HW2 := Lib.hid (HW1.out.trans (hb.mono HW1.out.size)); clear hb)
    | (go_at_call 44; (with_reducible refine (H2.out _ HA2.out.aprs).mono ?_); rintro e w3 ⟨rfl, hb⟩; have HX3 := Lib.hid (HX2.out.mono hb); have hx3 := HX3.out.cell; have hlt3 := HX3.out.lt; have HA3 := Lib.hid (HA2.out.mono hb); have HW3 := Lib.hid (HW2.out.trans (hb.mono HW2.out.size)); clear hb)
    | (go_at_call 44; (with_reducible refine (H3.out _ HA3.out.spds).mono ?_); rintro e w4 ⟨rfl, hb⟩; have HX4 := Lib.hid (HX3.out.mono hb); have hx4 := HX4.out.cell; have hlt4 := HX4.out.lt; have HA4 := Lib.hid (HA3.out.mono hb); have HW4 := Lib.hid (HW3.out.trans (hb.mono HW3.out.size)); clear hb)
    | (go_at_call 66; (with_reducible refine (H4.out _ HA4.out.bers).mono ?_); rintro e w5 ⟨rfl, hb⟩; have HX5 := Lib.hid (HX4.out.mono hb); have hx5 := HX5.out.cell; have hlt5 := HX5.out.lt; have HA5 := Lib.hid (HA4.out.mono hb); have HW5 := Lib.hid (HW4.out.trans (hb.mono HW4.out.size)); clear hb))
  any_goals
    (obtain rfl : R = false := HNo.out (by
        rintro ⟨a1, a2, a3, a4, a5, a6, a7, a8, a9⟩
        clear hx HNo HYes
        first
          | contradiction
          | omega
          | (simp only [a9, Bool.not_true, Bool.false_eq_true, or_false] at *; omega))
     go_ret
     exact ⟨rfl, by (first | exact HW5.out | exact HW4.out | exact HW3.out | exact HW2.out | exact HW1.out | exact HW.out)⟩
     done)
  rename_i hn1 hn2 hn3 hn4 e0 e1 e2 e3 hlast K9 a9
  have e4 : m4 = true := by have h9 := hlast.2; cases m4 with | false => cases h9 | true => rfl
  have hT30 : T.length ≤ 30 := by omega
  have HRq := Lib.hid (HYes.out (by omega) (by omega) (by omega) (by omega) e0 e1 e2 e3 e4)
  have HT := Lib.hid (fun (t : Lb.Trm) (ht : t ∈ T) (V : World) (hV : Below w5.heap.size w5 V) => Lb.lightterm_any t V ((HA5.out.trmA t ht).mono hV))
  have HTL := Lib.hid HA5.out.trms
  have hz5 := HW5.out.size
  obtain ⟨n, hn⟩ : ∃ n, T.length = n := ⟨_, rfl⟩
  have HN := Lib.hid hn
  have hn30 : n ≤ 30 := by omega
  clear hn1 hn2 hn3 hn4 e0 e1 e2 e3 e4 hlast hx hx1 hx2 hx3 hx4 hx5 hlt hlt1 hlt2 hlt3 hlt4 HX HX1 HX2 HX3 HX4 HA HA1 HA2 HA3 HA4 HA5 HW HW1 HW2 HW3 HW4 H0 H1 H2 H3 H4 HNo HYes
  go_loopw [3] (fun vi wr => ∃ k : Nat, k ≤ n ∧ vi = .int .i64 k ∧ (T.take k).all Lb.lightTm = true ∧ Below w5.heap.size w5 wr) (fun vi _ => n - (intOf vi).toNat)
  case atStart => exact ⟨0, Nat.zero_le _, rfl, rfl, Below.refl _ _⟩
  case round =>
    obtain ⟨k, hk, rfl, hE, hB⟩ := hrel
    have HE := Lib.hid hE
    have HB := Lib.hid hB
    have hbz := hB.size
    have HXr := Lib.hid (HX5.out.mono hB)
    have hxr := HXr.out.cell
    have hltr := HXr.out.lt
    have HB9 := Lib.hid (HW5.out.trans (hB.mono hz5))
    rw [hn] at hxr
    by_cases hlt : k < n
    · obtain ⟨t, ht⟩ := mem_at (l := T) (k := k) (by rw [hn]; exact hlt)
      obtain ⟨b, o, rfl, hb, hc⟩ := (HTL.out.mono hB) (by rw [hn]; omega)
      have c0 : wr.cell? ⟨b, o + k * 3, none⟩ = some (.string t.key) := hc k t ht 0 (by decide)
      have c1 : wr.cell? ⟨b, o + k * 3 + 1, none⟩ = some (.int .i64 t.op) := hc k t ht 1 (by decide)
      have c2 : wr.cell? ⟨b, o + k * 3 + 2, none⟩ = some (.slice t.va t.vals.length t.vk) := hc k t ht 2 (by decide)
      have Ht := Lib.hid ht
      have HTt := Lib.hid (HT.out t (List.mem_of_getElem? ht))
      obtain ⟨z, hz⟩ : ∃ z, Lb.lightTm t = z := ⟨_, rfl⟩
      have HZ := Lib.hid hz
      rw [hz] at HTt
      clear hE hB hc ht hz hn
      cases z with
      | false =>
        obtain rfl : R = false := by rw [HRq.out]; exact all_bad (P := Lb.lightTm) Ht.out HZ.out
        go_wp2_with (go_at_call 67; (with_reducible refine (HTt.out _ HB.out).mono ?_); rintro e w6 ⟨rfl, hb6⟩; have HB6 := Lib.hid (HB9.out.trans (hb6.mono HB9.out.size)); clear hb6)
        go_ret
        exact ⟨rfl, HB6.out⟩
      | true =>
        have HE2 := Lib.hid (all_take1 (P := Lb.lightTm) Ht.out HZ.out HE.out)
        go_wp2_with (go_at_call 67; (with_reducible refine (HTt.out _ HB.out).mono ?_); rintro e w6 ⟨rfl, hb6⟩; have HB6 := Lib.hid (HB.out.trans (hb6.mono hbz)); clear hb6)
        go_roundw
        case rel => exact ⟨k + 1, by omega, by go_num, HE2.out, HB6.out⟩
        case measure => simp [intOf]; omega
    · obtain rfl : k = n := by omega
      obtain rfl : R = true := by rw [HRq.out]; exact all_done (P := Lb.lightTm) HN.out HE.out
      clear hE hB hn
      go_wp2
      go_ret
      exact ⟨rfl, HB9.out⟩
/-- Ports rise, from a last one on. -/
def prtsTo : Int → List Int → Bool
  | _, [] => true
  | last, n :: l => !(decide (n ≤ last) || decide (65535 < n)) && prtsTo n l
def prtsB (l : List Int) : Bool := prtsTo 0 l && decide (l.length ≤ 16)
theorem prtsTo_at {l : List Int} {k : Nat} {x last : Int} (h : l[k]? = some x) : prtsTo last (l.drop k) = (!(decide (x ≤ last) || decide (65535 < x)) && prtsTo x (l.drop (k + 1))) := by
  obtain ⟨h1, h2⟩ := List.getElem?_eq_some_iff.1 h
  rw [List.drop_eq_getElem_cons h1, h2]
  rfl
def trmsB (l : List Lb.Trm) : Bool := l.all Lb.rtrm && decide (l.length ≤ 16)
def skewB (n : Nat) (s : Int) : Bool := if n = 0 then decide (s = 0) else inB s 1 100
def rightP (p : Pd) : Bool := wordB p.nm && weB p.ow && rtB p.n0 p.n1 p.n2 p.n3 p.n4 && decide (p.n3 = 1) && labsB p.labs && labsB p.sels && labsB p.aprs && labsB p.spds && trmsB p.trms && rightO p.bers && prtsB p.prts && (!p.wd || decide (0 < p.aprs.length)) && skewB p.spds.length p.sw && inB p.rk 0 1000
/-- What a light pod has. -/
structure LtP (p : Pd) : Prop where
  nm : p.nm.size ≤ 300
  ow : p.ow.size ≤ 300
  tl : p.trms.length ≤ 30
  pl : p.prts.length ≤ 30
  l0 : lightL p.labs = true
  l1 : lightL p.sels = true
  l2 : lightL p.aprs = true
  l3 : lightL p.spds = true
  bl : lightB p.bers [] = true
  tt : ∀ t ∈ p.trms, Lb.lightTm t = true
theorem lightP_iff {p : Pd} (h : lightP p = true) : LtP p := by
  unfold lightP at h
  simp only [Bool.and_eq_true, decide_eq_true_eq] at h
  exact ⟨h.1.1.1.1.1.1.1.1.1, h.1.1.1.1.1.1.1.1.2, h.1.1.1.1.1.1.1.2, h.1.1.1.1.1.1.2, h.1.1.1.1.1.2, h.1.1.1.1.2, h.1.1.1.2, h.1.1.2, h.1.2, List.all_eq_true.1 h.2⟩
theorem lab_sz {l : List Lab} (h : lightL l = true) : ∀ x ∈ l, x.key.size ≤ 1000000000 ∧ x.val.size ≤ 1000000000 := fun x hx => by
  have := ((lightL_iff l).1 h).2 x hx
  omega
theorem ber_sz {l : List Tol} (h : lightB l [] = true) : l.length ≤ 1000000 ∧ ∀ x ∈ l, x.key.size ≤ 1000000000 ∧ x.val.size ≤ 1000000000 := by
  unfold lightB at h
  rw [Bool.and_eq_true, Bool.and_eq_true, decide_eq_true_eq] at h
  refine ⟨by omega, fun x hx => ?_⟩
  have := List.all_eq_true.1 h.2.1 x hx
  unfold shortO at this
  rw [decide_eq_true_eq] at this
  omega
end Go.Proofs.Ytkmhicoimgpdlaa
