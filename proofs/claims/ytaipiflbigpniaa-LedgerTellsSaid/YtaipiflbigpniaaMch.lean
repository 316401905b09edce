/-
  Machines: the contracts of triremeref07.maybe, in, LightMachine, RightMachine.
-/
import Derived.Test.YtaipiflbigpniaaRefK
namespace Go.Proofs.Ytaipiflbigpniaa
open Go.RowKit
set_option linter.unusedVariables false
set_option linter.unusedSimpArgs false

set_option maxRecDepth 100000 in
theorem maybe7_any (s : ByteArray) (hs : s.size ≤ 1000000000) (w : World) :
    Calls Try.prog 46 #[.string s] w fun e w' => e = .returned (.bool (weB s)) ∧ Below w.heap.size w w' := by
  unfold weB
  by_cases h : s = emp
  · obtain ⟨h1, h2, h3, h4⟩ := emp_lits h
    rw [decide_eq_true h]
    clear h
    go_enter Try.func46, Try.ntmps46
    go_wp2
    go_ret
    exact ⟨rfl, by (repeat' (first | with_reducible exact Below.refl _ _ | with_reducible assumption | with_reducible refine Below.drew ?_ | with_reducible refine below_drewN' ?_ _ | with_reducible refine Below.alloc ?_ ?_ _ | with_reducible refine Below.setCell ?_ ?_ _ | with_reducible refine below_step (by assumption) ?_ ?_ | omega | (simp; done) | (simp; omega)))⟩
  · obtain ⟨h1, h2, h3, h4⟩ := emp_litn h
    rw [decide_eq_false h]
    clear h
    go_enter Try.func46, Try.ntmps46
    go_wp2_with (go_at_call 38; refine (refword_any _ hs _).mono ?_; rintro e w1 ⟨rfl, hb1⟩; obtain ⟨hc1, hf1⟩ := bcell hb1; have hz1 := hb1.size; (try simp at hz1); (try have hza : w.heap.size < w1.heap.size := by omega); (try have hzb : w.heap.size + 1 < w1.heap.size := by omega); (try have hzc : w.heap.size + 1 + 1 < w1.heap.size := by omega); (try have hzd : w.heap.size + 1 + 1 + 1 < w1.heap.size := by omega))
    go_ret
    exact ⟨rfl, by (repeat' (first | with_reducible exact Below.refl _ _ | with_reducible assumption | with_reducible refine Below.drew ?_ | with_reducible refine below_drewN' ?_ _ | with_reducible refine Below.alloc ?_ ?_ _ | with_reducible refine Below.setCell ?_ ?_ _ | with_reducible refine below_step (by assumption) ?_ ?_ | omega | (simp; done) | (simp; omega)))⟩

structure Mac where
  nm : ByteArray
  gp : ByteArray
  r0 : Int
  r1 : Int
  r2 : Int
  r3 : Int
  r4 : Int
  la : Option Addr
  lk : Nat
  labs : List Lab
  ta : Option Addr
  tk : Nat
  tnts : List Tnt
  rd : Bool

structure MacAt (w : World) (m : Mac) : Prop where
  labs : LabL w m.la m.labs
  tnts : TntsAt w m.ta m.tnts
  ll : m.labs.length ≤ maxLen
  tl : m.tnts.length ≤ maxLen
theorem MacAt.mono {w w' : World} {m : Mac} (h : MacAt w m) (hb : Below w.heap.size w w') : MacAt w' m := ⟨h.labs.mono hb, h.tnts.mono hb, h.ll, h.tl⟩

def lightM (m : Mac) : Bool := decide (m.nm.size ≤ 300) && decide (m.gp.size ≤ 300) && lightL m.labs && lightB [] m.tnts
def rightM (m : Mac) : Bool := weB m.nm && weB m.gp && rtB m.r0 m.r1 m.r2 m.r3 m.r4 && labsB m.labs && rightT m.tnts

theorem light0 (c : Option Addr) (kc : Nat) (xs : List Tnt) (w : World) (hF : TntsAt w c xs) (hm : xs.length ≤ maxLen) :
    Calls Try.prog 35 #[.slice none 0 0, .slice c xs.length kc] w fun e w' => e = .returned (.bool (lightB [] xs)) ∧ Below w.heap.size w w' := light_any none c 0 kc [] xs w RowsAt.nil (Nat.zero_le _) hF hm

set_option maxRecDepth 100000 in
set_option maxHeartbeats 4000000 in
theorem lightm_any (m : Mac) (w : World) (hA : MacAt w m) :
    Calls Try.prog 25 #[.agg #[.string (m).nm, .string (m).gp, .int .i64 (m).r0, .int .i64 (m).r1, .int .i64 (m).r2, .int .i64 (m).r3, .int .i64 (m).r4, .slice (m).la (m).labs.length (m).lk, .slice (m).ta (m).tnts.length (m).tk, .bool (m).rd]] w fun e w' => e = .returned (.bool (lightM m)) ∧ Below w.heap.size w w' := by
  obtain ⟨nm, gp, r0, r1, r2, r3, r4, la, lk, L, ta, tk, T, rd⟩ := m
  obtain ⟨hL, hT, hl, ht⟩ := hA
  simp only at hL hT hl ht
  have HL := Lib.hid (hL.mono ((Below.refl _ w).alloc (Nat.le_refl _) (.cells #[.string nm, .string gp, .int .i64 r0, .int .i64 r1, .int .i64 r2, .int .i64 r3, .int .i64 r4, .slice la L.length lk, .slice ta T.length tk, .bool rd] 42)))
  have HT := Lib.hid (hT.mono ((Below.refl _ w).alloc (Nat.le_refl _) (.cells #[.string nm, .string gp, .int .i64 r0, .int .i64 r1, .int .i64 r2, .int .i64 r3, .int .i64 r4, .slice la L.length lk, .slice ta T.length tk, .bool rd] 42)))
  clear hL hT
  have hv : lightM ⟨nm, gp, r0, r1, r2, r3, r4, la, lk, L, ta, tk, T, rd⟩ = (decide (nm.size ≤ 300) && decide (gp.size ≤ 300) && lightL L && lightB [] T) := rfl
  rw [hv]
  clear hv
  by_cases h1 : nm.size ≤ 300
  · by_cases h2 : gp.size ≤ 300
    · cases h3 : lightL L
      all_goals
        have H3 := Lib.hid h3
        clear h3
        go_enter Try.func25, Try.ntmps25
        go_wp2_with (first | (go_at_call 34; (with_reducible refine (lightl_any la lk L _ HL.out hl).mono ?_); rw [H3.out]; rintro e w5 ⟨rfl, hb5⟩; obtain ⟨hc5, hf5⟩ := bcell hb5; have hz5 := hb5.size; (try simp at hz5); have HT5 := Lib.hid (HT.out.mono hb5)) | (go_at_call 35; (with_reducible refine (light0 ta tk T _ HT5.out ht).mono ?_); rintro e w6 ⟨rfl, hb6⟩; have hz6 := hb6.size))
        go_ret
        exact ⟨by simp [h1, h2], by (repeat' (first | with_reducible exact Below.refl _ _ | with_reducible assumption | with_reducible refine Below.drew ?_ | with_reducible refine below_drewN' ?_ _ | with_reducible refine Below.alloc ?_ ?_ _ | with_reducible refine Below.setCell ?_ ?_ _ | with_reducible refine below_step (by assumption) ?_ ?_ | omega | (simp; done) | (simp; omega)))⟩
    · have h2' : 300 < gp.size := by omega
      have e2 : decide (gp.size ≤ 300) = false := decide_eq_false h2
      go_enter Try.func25, Try.ntmps25
      go_wp2
      go_ret
      exact ⟨by simp [h1, h2], by (repeat' (first | with_reducible exact Below.refl _ _ | with_reducible assumption | with_reducible refine Below.drew ?_ | with_reducible refine below_drewN' ?_ _ | with_reducible refine Below.alloc ?_ ?_ _ | with_reducible refine Below.setCell ?_ ?_ _ | with_reducible refine below_step (by assumption) ?_ ?_ | omega | (simp; done) | (simp; omega)))⟩
  · have h1' : 300 < nm.size := by omega
    go_enter Try.func25, Try.ntmps25
    go_wp2
    go_ret
    exact ⟨by simp [h1], by (repeat' (first | with_reducible exact Below.refl _ _ | with_reducible assumption | with_reducible refine Below.drew ?_ | with_reducible refine below_drewN' ?_ _ | with_reducible refine Below.alloc ?_ ?_ _ | with_reducible refine Below.setCell ?_ ?_ _ | with_reducible refine below_step (by assumption) ?_ ?_ | omega | (simp; done) | (simp; omega)))⟩

set_option maxRecDepth 100000 in
set_option maxHeartbeats 8000000 in
theorem rightm_any (m : Mac) (w : World) (hA : MacAt w m) (hLt : lightM m = true) :
    Calls Try.prog 40 #[.agg #[.string (m).nm, .string (m).gp, .int .i64 (m).r0, .int .i64 (m).r1, .int .i64 (m).r2, .int .i64 (m).r3, .int .i64 (m).r4, .slice (m).la (m).labs.length (m).lk, .slice (m).ta (m).tnts.length (m).tk, .bool (m).rd]] w fun e w' => e = .returned (.bool (rightM m)) ∧ Below w.heap.size w w' := by
  obtain ⟨nm, gp, r0, r1, r2, r3, r4, la, lk, L, ta, tk, T, rd⟩ := m
  obtain ⟨hL, hT, hl, ht⟩ := hA
  simp only at hL hT hl ht
  have hx : (decide (nm.size ≤ 300) && decide (gp.size ≤ 300) && lightL L && lightB [] T) = true := hLt
  rw [Bool.and_eq_true, Bool.and_eq_true, Bool.and_eq_true, decide_eq_true_eq, decide_eq_true_eq] at hx
  obtain ⟨⟨⟨hn, hg⟩, hlL⟩, hlT⟩ := hx
  have hs1 : nm.size ≤ 1000000000 := by omega
  have hs2 : gp.size ≤ 1000000000 := by omega
  have HsL := Lib.hid (show ∀ x ∈ L, x.key.size ≤ 1000000000 ∧ x.val.size ≤ 1000000000 from fun x hx => by
    have := ((lightL_iff L).1 hlL).2 x hx
    omega)
  have HsT := Lib.hid (show ∀ x ∈ T, x.key.size ≤ 1000000000 ∧ x.val.size ≤ 1000000000 from fun x hx => by
    unfold lightB at hlT
    rw [Bool.and_eq_true, Bool.and_eq_true] at hlT
    have := List.all_eq_true.1 hlT.2.2 x hx
    unfold shortT at this
    rw [decide_eq_true_eq] at this
    omega)
  have htT : T.length ≤ 1000000 := by
    unfold lightB at hlT
    rw [Bool.and_eq_true, decide_eq_true_eq] at hlT
    have := hlT.1.2
    omega
  clear hlL hlT hLt ht
  have HL := Lib.hid (hL.mono ((Below.refl _ w).alloc (Nat.le_refl _) (.cells #[.string nm, .string gp, .int .i64 r0, .int .i64 r1, .int .i64 r2, .int .i64 r3, .int .i64 r4, .slice la L.length lk, .slice ta T.length tk, .bool rd] 42)))
  have HT := Lib.hid (hT.mono ((Below.refl _ w).alloc (Nat.le_refl _) (.cells #[.string nm, .string gp, .int .i64 r0, .int .i64 r1, .int .i64 r2, .int .i64 r3, .int .i64 r4, .slice la L.length lk, .slice ta T.length tk, .bool rd] 42)))
  clear hL hT
  have hv : rightM ⟨nm, gp, r0, r1, r2, r3, r4, la, lk, L, ta, tk, T, rd⟩ = (weB nm && weB gp && rtB r0 r1 r2 r3 r4 && labsB L && rightT T) := rfl
  rw [hv]
  clear hv
  cases h1 : weB nm
  rotate_left
  cases h2 : weB gp
  rotate_left
  cases h3 : rtB r0 r1 r2 r3 r4
  rotate_left
  cases h4 : labsB L
  rotate_left
  all_goals
    have H1 := Lib.hid h1
    first | (have H2 := Lib.hid h2) | skip
    first | (have H3 := Lib.hid h3) | skip
    first | (have H4 := Lib.hid h4) | skip
    clear h1
    first | clear h2 | skip
    first | clear h3 | skip
    first | clear h4 | skip
    go_enter Try.func40, Try.ntmps40
    go_wp2_with (first
      | (go_at_call 46; (with_reducible refine (maybe7_any nm hs1 _).mono ?_); rw [H1.out]; rintro e w1 ⟨rfl, hb1⟩; obtain ⟨hc1, hf1⟩ := bcell hb1; have hz1 := hb1.size; (try simp at hz1); have hw1 : w.heap.size < w1.heap.size := by omega)
      | (go_at_call 46; (with_reducible refine (maybe7_any gp hs2 _).mono ?_); rw [H2.out]; rintro e w2 ⟨rfl, hb2⟩; obtain ⟨hc2, hf2⟩ := bcell hb2; have hz2 := hb2.size; have hw2 : w.heap.size < w2.heap.size := by omega)
      | (go_at_call 47; (with_reducible refine (refright_any r0 r1 r2 r3 r4 _).mono ?_); rw [H3.out]; rintro e w3 ⟨rfl, hb3⟩; obtain ⟨hc3, hf3⟩ := bcell hb3; have hz3 := hb3.size; have hw3 : w.heap.size < w3.heap.size := by omega)
      | (go_at_call 48; (with_reducible refine (refright_l la lk L _ (((HL.out.mono hb1).mono hb2).mono hb3) HsL.out hl).mono ?_); rw [H4.out]; rintro e w4 ⟨rfl, hb4⟩; obtain ⟨hc4, hf4⟩ := bcell hb4; have hz4 := hb4.size; have hw4 : w.heap.size < w4.heap.size := by omega)
      | (go_at_call 49; (with_reducible refine (refright_t ta tk T _ ((((HT.out.mono hb1).mono hb2).mono hb3).mono hb4) HsT.out htT).mono ?_); rintro e w5 ⟨rfl, hb5⟩; have hz5 := hb5.size))
    go_ret
    exact ⟨by simp, by (repeat' (first | with_reducible exact Below.refl _ _ | with_reducible assumption | with_reducible refine Below.drew ?_ | with_reducible refine below_drewN' ?_ _ | with_reducible refine Below.alloc ?_ ?_ _ | with_reducible refine Below.setCell ?_ ?_ _ | with_reducible refine below_step (by assumption) ?_ ?_ | omega | (simp; done) | (simp; omega)))⟩
end Go.Proofs.Ytaipiflbigpniaa
