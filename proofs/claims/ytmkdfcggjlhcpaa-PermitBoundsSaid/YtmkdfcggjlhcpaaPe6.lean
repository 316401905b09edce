/-
  The contract of permit.Why; copies of lists of numbers and of texts.
-/
import Derived.Test.YtmkdfcggjlhcpaaPe5
namespace Go.Proofs.Ytmkdfcggjlhcpaa
open Go.RowKit
set_option linter.unusedVariables false
set_option linter.unusedSimpArgs false

set_option maxRecDepth 100000 in
set_option maxHeartbeats 4000000 in
theorem why_any (s : St) (what nm : ByteArray) (n : Int) (w : World) (hI : StIn w s) (hO : StOk s) (hn0 : -9223372036854775808 ≤ n) (hn1 : n ≤ 9223372036854775807) :
    Calls Try.prog 14 #[.agg #[.slice s.ga s.C.length s.gk, .slice s.ta s.T.length s.tk, .slice s.ia s.L.length s.ik, .int .i64 s.c0, .int .i64 s.c1, .int .i64 s.c2, .slice s.ra s.R.length s.rk, .int .i64 s.un, .int .i64 s.sh], .agg #[.string what, .string nm, .int .i64 n]] w fun e w' => (∃ b, e = .returned (.int .i64 (whyP s what nm n b)) ∧ b = bX s nm n) ∧ Below w.heap.size w w' := by
  by_cases h1 : what = sUp ∨ what = sRaise ∨ what = sFix
  · have HW := Lib.hid (fun V (hV : Below w.heap.size w V) => whyg_any s what nm n V (hI.mono hV) hO hn0 hn1)
    have hp : ∀ b, whyP s what nm n b = whyG s what nm n b := fun b => by unfold whyP; rw [if_pos h1]
    refine Calls.mono (R := fun e w' => (∃ b, e = .returned (.int .i64 (whyG s what nm n b)) ∧ b = bX s nm n) ∧ Below w.heap.size w w') ?_ fun e w' ⟨⟨b, e1, e2⟩, hb⟩ => ⟨⟨b, by rw [hp]; exact e1, e2⟩, hb⟩
    obtain ⟨F, hF⟩ : ∃ F, whyG s what nm n = F := ⟨_, rfl⟩
    obtain ⟨wb, hwb⟩ : ∃ wb, bX s nm n = wb := ⟨_, rfl⟩
    rw [hF, hwb] at HW ⊢
    clear hI hO hp hF hwb
    obtain ⟨ga, C, gk, ta, T, tk, ia, L, ik, z0, z1, z2, ra, R, rk, un, sh⟩ := s
    dsimp only at *
    obtain ⟨N, hN⟩ : ∃ N, C.length = N := ⟨_, rfl⟩
    obtain ⟨M, hM⟩ : ∃ M, T.length = M := ⟨_, rfl⟩
    obtain ⟨m, hm⟩ : ∃ m, L.length = m := ⟨_, rfl⟩
    obtain ⟨Nr, hNr⟩ : ∃ Nr, R.length = Nr := ⟨_, rfl⟩
    simp only [hN, hM, hm, hNr] at *
    clear hN hM hm hNr
    have hk : ((what.toList == [117, 112]) = true) ∨ ((what.toList == [117, 112]) = false ∧ (what.toList == [114, 97, 105, 115, 101]) = true) ∨ ((what.toList == [117, 112]) = false ∧ (what.toList == [114, 97, 105, 115, 101]) = false ∧ (what.toList == [102, 105, 120]) = true) := by
      rcases h1 with h | h | h
      · exact .inl (plit_yes h)
      · exact .inr (.inl ⟨plit_no (by rw [h]; decide), plit_yes h⟩)
      · exact .inr (.inr ⟨plit_no (by rw [h]; decide), plit_no (by rw [h]; decide), plit_yes h⟩)
    clear h1
    rcases hk with k1 | ⟨k1, k2⟩ | ⟨k1, k2, k3⟩
    all_goals
      go_enter Try.func14, Try.ntmps14
      go_wp2_with (go_at_call 30; (with_reducible refine (HW.out _ (by (repeat' (first | with_reducible exact Below.refl _ _ | with_reducible assumption | with_reducible refine Below.drew ?_ | with_reducible refine below_drewN' ?_ _ | with_reducible refine Below.alloc ?_ ?_ _ | with_reducible refine Below.setCell ?_ ?_ _ | with_reducible refine below_step (by assumption) ?_ ?_ | omega | (simp; done) | (simp; omega))))).mono ?_); rintro e w1 ⟨⟨b, rfl, hb⟩, hb1⟩; have Hb := Lib.hid hb; clear hb)
      go_ret
      exact ⟨⟨_, rfl, Hb.out⟩, by (repeat' (first | with_reducible exact Below.refl _ _ | with_reducible assumption | with_reducible refine Below.drew ?_ | with_reducible refine below_drewN' ?_ _ | with_reducible refine Below.alloc ?_ ?_ _ | with_reducible refine Below.setCell ?_ ?_ _ | with_reducible refine below_step (by assumption) ?_ ?_ | omega | (simp; done) | (simp; omega)))⟩
  have g1 : (what.toList == [117, 112]) = false := plit_no fun h => h1 (.inl h)
  have g2 : (what.toList == [114, 97, 105, 115, 101]) = false := plit_no fun h => h1 (.inr (.inl h))
  have g3 : (what.toList == [102, 105, 120]) = false := plit_no fun h => h1 (.inr (.inr h))
  by_cases h2 : what = sClean ∨ what = sDelete
  · have HW := Lib.hid (fun V (hV : Below w.heap.size w V) => whyi_any s what nm n V (hI.mono hV) hO h2)
    have hp : ∀ b, whyP s what nm n b = whyI s what nm := fun b => by unfold whyP; rw [if_neg h1, if_pos h2]
    refine Calls.mono (R := fun e w' => e = .returned (.int .i64 (whyI s what nm)) ∧ Below w.heap.size w w') ?_ fun e w' ⟨e1, hb⟩ => ⟨⟨bX s nm n, by rw [hp]; exact e1, rfl⟩, hb⟩
    obtain ⟨F, hF⟩ : ∃ F, whyI s what nm = F := ⟨_, rfl⟩
    rw [hF] at HW ⊢
    clear hI hO hp hF h1
    obtain ⟨ga, C, gk, ta, T, tk, ia, L, ik, z0, z1, z2, ra, R, rk, un, sh⟩ := s
    dsimp only at *
    obtain ⟨N, hN⟩ : ∃ N, C.length = N := ⟨_, rfl⟩
    obtain ⟨M, hM⟩ : ∃ M, T.length = M := ⟨_, rfl⟩
    obtain ⟨m, hm⟩ : ∃ m, L.length = m := ⟨_, rfl⟩
    obtain ⟨Nr, hNr⟩ : ∃ Nr, R.length = Nr := ⟨_, rfl⟩
    simp only [hN, hM, hm, hNr] at *
    clear hN hM hm hNr
    have hk : ((what.toList == [99, 108, 101, 97, 110]) = true) ∨ ((what.toList == [99, 108, 101, 97, 110]) = false ∧ (what.toList == [100, 101, 108, 101, 116, 101]) = true) := by
      rcases h2 with h | h
      · exact .inl (plit_yes h)
      · exact .inr ⟨plit_no (by rw [h]; decide), plit_yes h⟩
    clear h2
    rcases hk with k1 | ⟨k1, k2⟩
    all_goals
      go_enter Try.func14, Try.ntmps14
      go_wp2_with (go_at_call 31; (with_reducible refine (HW.out _ (by (repeat' (first | with_reducible exact Below.refl _ _ | with_reducible assumption | with_reducible refine Below.drew ?_ | with_reducible refine below_drewN' ?_ _ | with_reducible refine Below.alloc ?_ ?_ _ | with_reducible refine Below.setCell ?_ ?_ _ | with_reducible refine below_step (by assumption) ?_ ?_ | omega | (simp; done) | (simp; omega))))).mono ?_); rintro e w1 ⟨rfl, hb1⟩)
      go_ret
      exact ⟨rfl, by (repeat' (first | with_reducible exact Below.refl _ _ | with_reducible assumption | with_reducible refine Below.drew ?_ | with_reducible refine below_drewN' ?_ _ | with_reducible refine Below.alloc ?_ ?_ _ | with_reducible refine Below.setCell ?_ ?_ _ | with_reducible refine below_step (by assumption) ?_ ?_ | omega | (simp; done) | (simp; omega)))⟩
  · have g4 : (what.toList == [99, 108, 101, 97, 110]) = false := plit_no fun h => h2 (.inl h)
    have g5 : (what.toList == [100, 101, 108, 101, 116, 101]) = false := plit_no fun h => h2 (.inr h)
    have hp : ∀ b, whyP s what nm n b = 14 := fun b => by unfold whyP; rw [if_neg h1, if_neg h2]
    refine Calls.mono (R := fun e w' => e = .returned (.int .i64 14) ∧ Below w.heap.size w w') ?_ fun e w' ⟨e1, hb⟩ => ⟨⟨bX s nm n, by rw [hp]; exact e1, rfl⟩, hb⟩
    clear hI hO hp h1 h2
    obtain ⟨ga, C, gk, ta, T, tk, ia, L, ik, z0, z1, z2, ra, R, rk, un, sh⟩ := s
    dsimp only at *
    obtain ⟨N, hN⟩ : ∃ N, C.length = N := ⟨_, rfl⟩
    obtain ⟨M, hM⟩ : ∃ M, T.length = M := ⟨_, rfl⟩
    obtain ⟨m, hm⟩ : ∃ m, L.length = m := ⟨_, rfl⟩
    obtain ⟨Nr, hNr⟩ : ∃ Nr, R.length = Nr := ⟨_, rfl⟩
    simp only [hN, hM, hm, hNr] at *
    clear hN hM hm hNr
    go_enter Try.func14, Try.ntmps14
    go_wp2
    go_ret
    exact ⟨rfl, by (repeat' (first | with_reducible exact Below.refl _ _ | with_reducible assumption | with_reducible refine Below.drew ?_ | with_reducible refine below_drewN' ?_ _ | with_reducible refine Below.alloc ?_ ?_ _ | with_reducible refine Below.setCell ?_ ?_ _ | with_reducible refine below_step (by assumption) ?_ ?_ | omega | (simp; done) | (simp; omega)))⟩
theorem Try.info3 : (Try.prog.info? 3).map (fun i => (i.zero, i.size, i.bytes)) = some (some (.int .i64 0), 1, 8) := by kernel_rfl
set_option maxRecDepth 100000 in
set_option maxHeartbeats 4000000 in
theorem cloneint_any (c : Option Addr) (kc : Nat) (xs : List Int) (w : World) (hF : IntL w c xs) (hok : NilOk c xs.length kc) (hm : xs.length ≤ 1000000) :
    Calls Try.prog 33 #[.slice c xs.length kc] w (Gives w (OwnL pcs 1 w.heap.size 3 xs)) := by
  have HF := Lib.hid hF
  have Hok := Lib.hid hok
  clear hF
  obtain ⟨i0, hi, hz0, hz1, hz2⟩ := info_parts Try.info3
  have Hi := Lib.hid hi
  have Hz0 := Lib.hid hz0
  have Hz1 := Lib.hid hz1
  have Hz2 := Lib.hid hz2
  clear hi hz0 hz1 hz2
  cases c with
  | none =>
    obtain ⟨h1, h2⟩ := hok rfl
    obtain rfl : xs = [] := List.eq_nil_of_length_eq_zero h1
    clear h1 hok
    subst h2
    have hq : ∀ V : World, (binOp .eql 23 (.slice none 0 0) (.slice none 0 0)).run Try.prog V = .ok (.bool true) V := fun V => Lib.run_eql_slice_nil V _ _ none 0 0 0 0 Try.underlying23
    go_enter Try.func33, Try.ntmps33
    go_wp2
    refine bodyPost_ret (v := .slice none 0 0) (by simp [results, Try.results33, go_sem]) rfl ⟨⟨_, rfl, World.ownsRow_nil _ _ _ _⟩, by (repeat' (first | with_reducible exact Below.refl _ _ | with_reducible assumption | with_reducible refine Below.drew ?_ | with_reducible refine below_drewN' ?_ _ | with_reducible refine Below.alloc ?_ ?_ _ | with_reducible refine Below.setCell ?_ ?_ _ | with_reducible refine below_step (by assumption) ?_ ?_ | omega | (simp; done) | (simp; omega)))⟩
  | some q =>
    clear hok
    have hc3 : 0 + xs.length ≤ maxLen := by unfold maxLen; omega
    have hc4 : (0 + xs.length) * 8 ≤ 140737488355328 := by omega
    have hq : ∀ V : World, (binOp .eql 23 (.slice (some q) xs.length kc) (.slice none 0 0)).run Try.prog V = .ok (.bool false) V := fun V => Lib.run_eql_slice_nil V _ _ (some q) _ _ 0 0 Try.underlying23
    go_enter Try.func33, Try.ntmps33
    go_wp2_with (at_builtin; refine wpList_append_src rfl (.tmp 5) (.tmp 6) 23 rfl w.heap.size 3 i0 _ 1 8 Try.underlying23 Hi.out Hz0.out Hz1.out Hz2.out rfl (by decide) _ 0 [] rfl (World.ownsRow_made w #[] 0 (Nat.le_refl w.heap.size) (Nat.zero_le _) rfl) (some q) xs.length kc (xs.flatMap pcs) rfl (rows_length pcs 1 pcs_len xs) (RowsAt.news pcs_len (HF.out.mono ((Below.refl _ w).alloc (Nat.le_refl _) _))) Hok.out (flat_ones pcs_one xs) hc3 hc4 (le_alloc (Nat.le_refl w.heap.size) _) ?_; intro v1 w3 hown1 hgrow1; rw [Nat.zero_add, List.nil_append] at hown1; have HB3 := Lib.hid (own_below (World.ownsRow_made w #[] 0 (Nat.le_refl w.heap.size) (Nat.zero_le _) rfl : (w.alloc (.cells #[] 3)).ownsRow w.heap.size 3 5 (.slice (some ⟨w.heap.size, 0, none⟩) 0 0) 0 []) ((Below.refl _ w).alloc (Nat.le_refl w.heap.size) _) (le_alloc (Nat.le_refl w.heap.size) _) hgrow1); have HO3 := Lib.hid hown1; clear hown1 hgrow1)
    refine bodyPost_ret (v := v1) (by simp [results, Try.results33, go_sem]) rfl ⟨⟨_, rfl, HO3.out⟩, HB3.out⟩

set_option maxRecDepth 100000 in
set_option maxHeartbeats 4000000 in
theorem clonestr_any (c : Option Addr) (kc : Nat) (xs : List ByteArray) (w : World) (hF : TxtL w c xs) (hok : NilOk c xs.length kc) (hm : xs.length ≤ 1000000) :
    Calls Try.prog 35 #[.slice c xs.length kc] w (Gives w (OwnL scs 1 w.heap.size 9 xs)) := by
  have HF := Lib.hid hF
  have Hok := Lib.hid hok
  clear hF
  obtain ⟨i0, hi, hz0, hz1, hz2⟩ := info_parts Try.info9
  have Hi := Lib.hid hi
  have Hz0 := Lib.hid hz0
  have Hz1 := Lib.hid hz1
  have Hz2 := Lib.hid hz2
  clear hi hz0 hz1 hz2
  cases c with
  | none =>
    obtain ⟨h1, h2⟩ := hok rfl
    obtain rfl : xs = [] := List.eq_nil_of_length_eq_zero h1
    clear h1 hok
    subst h2
    have hq : ∀ V : World, (binOp .eql 27 (.slice none 0 0) (.slice none 0 0)).run Try.prog V = .ok (.bool true) V := fun V => Lib.run_eql_slice_nil V _ _ none 0 0 0 0 Try.underlying27
    go_enter Try.func35, Try.ntmps35
    go_wp2
    refine bodyPost_ret (v := .slice none 0 0) (by simp [results, Try.results35, go_sem]) rfl ⟨⟨_, rfl, World.ownsRow_nil _ _ _ _⟩, by (repeat' (first | with_reducible exact Below.refl _ _ | with_reducible assumption | with_reducible refine Below.drew ?_ | with_reducible refine below_drewN' ?_ _ | with_reducible refine Below.alloc ?_ ?_ _ | with_reducible refine Below.setCell ?_ ?_ _ | with_reducible refine below_step (by assumption) ?_ ?_ | omega | (simp; done) | (simp; omega)))⟩
  | some q =>
    clear hok
    have hc3 : 0 + xs.length ≤ maxLen := by unfold maxLen; omega
    have hc4 : (0 + xs.length) * 16 ≤ 140737488355328 := by omega
    have hq : ∀ V : World, (binOp .eql 27 (.slice (some q) xs.length kc) (.slice none 0 0)).run Try.prog V = .ok (.bool false) V := fun V => Lib.run_eql_slice_nil V _ _ (some q) _ _ 0 0 Try.underlying27
    go_enter Try.func35, Try.ntmps35
    go_wp2_with (at_builtin; refine wpList_append_src rfl (.tmp 5) (.tmp 6) 27 rfl w.heap.size 9 i0 _ 1 16 Try.underlying27 Hi.out Hz0.out Hz1.out Hz2.out rfl (by decide) _ 0 [] rfl (World.ownsRow_made w #[] 0 (Nat.le_refl w.heap.size) (Nat.zero_le _) rfl) (some q) xs.length kc (xs.flatMap scs) rfl (rows_length scs 1 scs_len xs) (RowsAt.news scs_len (HF.out.mono ((Below.refl _ w).alloc (Nat.le_refl _) _))) Hok.out (flat_ones scs_one xs) hc3 hc4 (le_alloc (Nat.le_refl w.heap.size) _) ?_; intro v1 w3 hown1 hgrow1; rw [Nat.zero_add, List.nil_append] at hown1; have HB3 := Lib.hid (own_below (World.ownsRow_made w #[] 0 (Nat.le_refl w.heap.size) (Nat.zero_le _) rfl : (w.alloc (.cells #[] 9)).ownsRow w.heap.size 9 5 (.slice (some ⟨w.heap.size, 0, none⟩) 0 0) 0 []) ((Below.refl _ w).alloc (Nat.le_refl w.heap.size) _) (le_alloc (Nat.le_refl w.heap.size) _) hgrow1); have HO3 := Lib.hid hown1; clear hown1 hgrow1)
    refine bodyPost_ret (v := v1) (by simp [results, Try.results35, go_sem]) rfl ⟨⟨_, rfl, HO3.out⟩, HB3.out⟩

end Go.Proofs.Ytmkdfcggjlhcpaa
