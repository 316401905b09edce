/-
  The contracts of group.Number and triremeref16.Number.
-/
import Derived.Test.YtbomcghjifgfoaaDoorGNumP
namespace Go.Proofs.YtbomcghjifgfoaaDoor
open Go.RowKit
set_option linter.unusedVariables false

theorem sl_to (s : ByteArray) (k : Nat) (h : k ≤ s.size) (V : World) : (Instr.slice 9 (.string s) none (some (.int .i64 (k : Int))) none).run Tryd.prog V = .ok (.string (s.extract 0 k)) V := by
  rw [run_slice_string_to_if V 9 s .i64 k Tryd.underlying9, if_pos ⟨by omega, by omega⟩]
  simp
theorem sl_from (s : ByteArray) (k : Nat) (h : k ≤ s.size) (V : World) : (Instr.slice 9 (.string s) (some (.int .i64 (k : Int))) none none).run Tryd.prog V = .ok (.string (s.extract k s.size)) V := by
  rw [run_slice_string_from_if V 9 s .i64 k Tryd.underlying9, if_pos ⟨by omega, by omega⟩]
  simp

set_option maxRecDepth 100000 in
set_option maxHeartbeats 4000000 in
theorem cutprefix_any (s p : ByteArray) (w : World) :
    Calls Tryd.prog 46 #[.string s, .string p] w fun e w' => e = .returned (.tuple #[.string (if hasP s p then s.extract p.size s.size else s), .bool (hasP s p)]) ∧ Below w.heap.size w w' := by
  by_cases h : p.size ≤ s.size
  · have k1 : decide (p.size ≤ s.size) = true := decide_eq_true h
    have hs1 := sl_to s p.size h
    have hs2 := sl_from s p.size h
    by_cases he : s.extract 0 p.size = p
    · have Hp := show hasP s p = true from decide_eq_true ⟨h, he⟩
      have k2 := tnt_str he
      rw [Hp, if_pos rfl]
      clear he h Hp
      go_enter Tryd.func46, Tryd.ntmps46
      go_wp2
      go_ret2
      exact ⟨rfl, by (repeat' (first | with_reducible exact Below.refl _ _ | with_reducible assumption | with_reducible refine Below.drew ?_ | with_reducible refine below_drewN' ?_ _ | with_reducible refine Below.alloc ?_ ?_ _ | with_reducible refine Below.setCell ?_ ?_ _ | with_reducible refine below_step (by assumption) ?_ ?_ | omega | (simp; done) | (simp; omega)))⟩
    · have Hp := show hasP s p = false from decide_eq_false fun h => he h.2
      have k2 := tnt_strn he
      rw [Hp]
      simp only [Bool.false_eq_true, if_false]
      clear he h Hp
      go_enter Tryd.func46, Tryd.ntmps46
      go_wp2
      go_ret2
      exact ⟨rfl, by (repeat' (first | with_reducible exact Below.refl _ _ | with_reducible assumption | with_reducible refine Below.drew ?_ | with_reducible refine below_drewN' ?_ _ | with_reducible refine Below.alloc ?_ ?_ _ | with_reducible refine Below.setCell ?_ ?_ _ | with_reducible refine below_step (by assumption) ?_ ?_ | omega | (simp; done) | (simp; omega)))⟩
  · have k1 : decide (p.size ≤ s.size) = false := decide_eq_false h
    have Hp := show hasP s p = false from decide_eq_false fun h' => h h'.1
    rw [Hp]
    simp only [Bool.false_eq_true, if_false]
    clear h Hp
    go_enter Tryd.func46, Tryd.ntmps46
    go_wp2
    go_ret2
    exact ⟨rfl, by (repeat' (first | with_reducible exact Below.refl _ _ | with_reducible assumption | with_reducible refine Below.drew ?_ | with_reducible refine below_drewN' ?_ _ | with_reducible refine Below.alloc ?_ ?_ _ | with_reducible refine Below.setCell ?_ ?_ _ | with_reducible refine below_step (by assumption) ?_ ?_ | omega | (simp; done) | (simp; omega)))⟩

set_option maxRecDepth 100000 in
set_option maxHeartbeats 8000000 in
theorem number_any (g : Gp) (name : ByteArray) (w : World) (hs : g.nm.size ≤ 300) :
    Calls Tryd.prog 34 #[.agg #[.string (g).nm, .int .i64 (g).mn, .int .i64 (g).mx, .string (g).like.nm, .string (g).like.gp, .int .i64 (g).like.r0, .int .i64 (g).like.r1, .int .i64 (g).like.r2, .int .i64 (g).like.r3, .int .i64 (g).like.r4, .slice (g).like.la (g).like.labs.length (g).like.lk, .slice (g).like.ta (g).like.tnts.length (g).like.tk, .bool (g).like.rd, .int .i64 (g).pr, .int .i64 (g).rk], .string name] w fun e w' => e = .returned (.int .i64 (numG g.nm name : Int)) ∧ Below w.heap.size w w' := by
  have hk1 := dash_cat g.nm hs
  obtain ⟨nm, mn, mx, m, pr, rk⟩ := g
  simp only at hk1 hs ⊢
  have C := fun V => cutprefix_any name (nm ++ dash) V
  cases hp : hasP name (nm ++ dash)
  · have Hr := Lib.hid (numG_no hp)
    rw [hp] at C
    simp only [if_false, Bool.false_eq_true] at C
    have HC := Lib.hid C
    obtain ⟨Q, hQ⟩ : ∃ Q, nm ++ dash = Q := ⟨_, rfl⟩
    rw [hQ] at HC hk1
    clear C hp hQ
    go_enter Tryd.func34, Tryd.ntmps34
    go_wp2_with (go_at_call 46; (with_reducible refine (HC.out _).mono ?_); rintro e w1 ⟨rfl, hb1⟩; obtain ⟨hc1, hf1⟩ := bcell hb1; have hz1 := hb1.size; (try simp at hz1))
    go_ret
    exact ⟨by rw [Hr.out]; rfl, by (repeat' (first | with_reducible exact Below.refl _ _ | with_reducible assumption | with_reducible refine Below.drew ?_ | with_reducible refine below_drewN' ?_ _ | with_reducible refine Below.alloc ?_ ?_ _ | with_reducible refine Below.setCell ?_ ?_ _ | with_reducible refine below_step (by assumption) ?_ ?_ | omega | (simp; done) | (simp; omega)))⟩
  · obtain ⟨l, rfl⟩ := (hasP_iff _ _).1 hp
    rw [hp, if_pos rfl, (app_ext (nm ++ dash) (lsB l)).2] at C
    rw [numG_yes]
    have HC := Lib.hid C
    obtain ⟨Q, hQ⟩ : ∃ Q, nm ++ dash = Q := ⟨_, rfl⟩
    rw [hQ] at HC hk1 ⊢
    obtain ⟨N, hN⟩ : ∃ N, Q ++ lsB l = N := ⟨_, rfl⟩
    rw [hN] at HC ⊢
    have hsz := ls_size l
    clear C hp hQ hN
    by_cases h9 : 9 < l.length
    · have Hr := Lib.hid (numR_long h9)
      have k9 : decide ((9 : Int) < ((lsB l).size : Int)) = true := decide_eq_true (by omega)
      obtain ⟨L, hL⟩ : ∃ L, lsB l = L := ⟨_, rfl⟩
      rw [hL] at HC k9
      clear hL hsz h9
      go_enter Tryd.func34, Tryd.ntmps34
      go_wp2_with (go_at_call 46; (with_reducible refine (HC.out _).mono ?_); rintro e w1 ⟨rfl, hb1⟩; obtain ⟨hc1, hf1⟩ := bcell hb1; have hz1 := hb1.size; (try simp at hz1))
      go_ret
      exact ⟨by rw [Hr.out]; rfl, by (repeat' (first | with_reducible exact Below.refl _ _ | with_reducible assumption | with_reducible refine Below.drew ?_ | with_reducible refine below_drewN' ?_ _ | with_reducible refine Below.alloc ?_ ?_ _ | with_reducible refine Below.setCell ?_ ?_ _ | with_reducible refine below_step (by assumption) ?_ ?_ | omega | (simp; done) | (simp; omega)))⟩
    · have hat : ∀ (k : Nat) (c : UInt8), l[k]? = some c → k < (lsB l).size ∧ (lsB l).get! k = c := fun k c hc => by
        obtain ⟨hk, rfl⟩ := List.getElem?_eq_some_iff.1 hc
        exact ⟨by rw [ls_size]; exact hk, ls_at l k hk⟩
      have Hat := Lib.hid hat
      obtain ⟨n, hn⟩ : ∃ n, l.length = n := ⟨_, rfl⟩
      have Hn := Lib.hid hn
      rw [hn] at hsz h9
      have k9 : decide ((9 : Int) < ((lsB l).size : Int)) = false := decide_eq_false (by omega)
      obtain ⟨L, hL⟩ : ∃ L, lsB l = L := ⟨_, rfl⟩
      rw [hL] at HC k9 hsz Hat
      have hx := fun k (h : k < L.size) => str_ix L k h
      have Hx := Lib.hid hx
      rw [hsz] at k9
      clear hL hn hat hx
      go_enter Tryd.func34, Tryd.ntmps34
      go_wp2_with (go_at_call 46; (with_reducible refine (HC.out _).mono ?_); rintro e w1 ⟨rfl, hb1⟩; obtain ⟨hc1, hf1⟩ := bcell hb1; have hz1 := hb1.size; (try simp at hz1))
      go_loopw [7, 8, 26] (fun nv _ i wr => ∃ k : Nat, k ≤ n ∧ i = .int .i64 k ∧ nv = .int .i64 (numL (l.take k) : Nat) ∧ (l.take k).all isDb = true ∧ (0 < k → l[0]? ≠ some 48) ∧ Below w.heap.size w wr) (fun _ _ i _ => n - (intOf i).toNat)
      case atStart => exact ⟨0, by omega, rfl, rfl, rfl, (fun h => absurd h (Nat.lt_irrefl 0)), by (repeat' (first | with_reducible exact Below.refl _ _ | with_reducible assumption | with_reducible refine Below.drew ?_ | with_reducible refine below_drewN' ?_ _ | with_reducible refine Below.alloc ?_ ?_ _ | with_reducible refine Below.setCell ?_ ?_ _ | with_reducible refine below_step (by assumption) ?_ ?_ | omega | (simp; done) | (simp; omega)))⟩
      case round =>
        obtain ⟨k, hk, rfl, rfl, hA, h0, hB⟩ := hrel
        have HA := Lib.hid hA
        have H0 := Lib.hid h0
        have HB := Lib.hid hB
        have hbz := hB.size
        clear hA h0
        by_cases hlt : k < n
        · obtain ⟨c, hc⟩ := mem_at (l := l) (k := k) (by rw [Hn.out]; exact hlt)
          obtain ⟨g1, g2⟩ := Hat.out k c hc
          have hix := Hx.out k g1
          rw [g2] at hix
          have hm := numL_small (by omega) HA.out
          have hm1 : 0 < k → 1 ≤ numL (l.take k) := fun h => numL_posK h (by rw [Hn.out]; omega) HA.out (H0.out h)
          have hm0 : k = 0 → numL (l.take k) = 0 := fun h => by rw [h]; rfl
          have hnt := numL_take hc
          have Hc := Lib.hid hc
          have hp256 : c.toNat < 256 := UInt8.toNat_lt _
          have hcn : ∀ q, c.toNat = q → q = 48 → c = 48 := fun q e e2 => by
            subst e
            exact UInt8.toNat_inj.1 (by rw [e2]; rfl)
          obtain ⟨M, hM⟩ : ∃ M, numL (l.take k) = M := ⟨_, rfl⟩
          have hdb : isDb c = decide (48 ≤ c.toNat ∧ c.toNat ≤ 57) := rfl
          obtain ⟨q, hq⟩ : ∃ q, c.toNat = q := ⟨_, rfl⟩
          rw [hM] at hm hm1 hm0 hnt ⊢
          rw [hq] at hix hp256 hnt hdb
          have Hcn := Lib.hid (hcn q hq)
          have Hcq := Lib.hid (show c = 48 → q = 48 from fun e => by rw [← hq, e]; rfl)
          clear hcn hM hc g1 g2 hq
          by_cases hd : 48 ≤ q ∧ q ≤ 57
          · rw [decide_eq_true hd] at hdb
            obtain ⟨hd1, hd2⟩ := hd
            have j1 : decide ((q : Int) < 48) = false := decide_eq_false (by omega)
            have j2 : decide ((57 : Int) < (q : Int)) = false := decide_eq_false (by omega)
            by_cases hz : k = 0 ∧ q = 48
            · obtain ⟨hz1', hz2'⟩ := hz
              have Hr := Lib.hid (show numR l = 0 from numR_zero (by rw [← hz1', Hc.out, Hcn.out hz2']))
              have j3 : ((M : Int) == 0) = true := by rw [hm0 hz1']; rfl
              have j4 : ((q : Int) == 48) = true := by rw [hz2']; rfl
              clear hm1 hm0 hnt hdb hm hz1' hz2'
              go_wp2
              go_ret
              exact ⟨by rw [Hr.out]; rfl, by (repeat' (first | with_reducible exact Below.refl _ _ | with_reducible assumption | with_reducible refine Below.drew ?_ | with_reducible refine below_drewN' ?_ _ | with_reducible refine Below.alloc ?_ ?_ _ | with_reducible refine Below.setCell ?_ ?_ _ | with_reducible refine below_step (by assumption) ?_ ?_ | omega | (simp; done) | (simp; omega)))⟩
            · have Hs1 := Lib.hid (show (l.take (k + 1)).all isDb = true from by rw [take_at Hc.out, List.all_append, HA.out]; simp [hdb])
              have Hs2 := Lib.hid (show 0 < k + 1 → l[0]? ≠ some 48 from fun _ => by
                by_cases hk0 : k = 0
                · intro e
                  have hc0 := Hc.out
                  rw [hk0, e] at hc0
                  exact hz ⟨hk0, Hcq.out (Option.some.inj hc0).symm⟩
                · exact H0.out (by omega))
              obtain ⟨hd1', hd2'⟩ : (48 : Int) ≤ (q : Int) ∧ (q : Int) ≤ 57 := by omega
              have f1 : IntKind.u8.wrap ((q : Int) - 48) = (q : Int) - 48 := by simp [IntKind.wrap, IntKind.bits, IntKind.signed]; omega
              have f2 : IntKind.i64.wrap ((q : Int) - 48) = (q : Int) - 48 := wrap_in (by omega) (by omega)
              have f3 : IntKind.i64.wrap (10 * (M : Int)) = 10 * (M : Int) := wrap_in (by omega) (by omega)
              have f4 : IntKind.i64.wrap (10 * (M : Int) + ((q : Int) - 48)) = 10 * (M : Int) + ((q : Int) - 48) := wrap_in (by omega) (by omega)
              have hz0 : ((M : Int) == 0) = true → q ≠ 48 := fun h h2 => by
                have h' : (M : Int) = 0 := by simpa using h
                exact hz ⟨by by_cases hk0 : k = 0; exact hk0; have := hm1 (by omega); omega, h2⟩
              have Hnt := Lib.hid hnt
              clear hm0 hm1 hnt hdb hz
              by_cases hM0 : M = 0
              · have j3 : ((M : Int) == 0) = true := by rw [hM0]; rfl
                have j4 : ((q : Int) == 48) = false := by rw [beq_eq_false_iff_ne]; have := hz0 j3; omega
                clear hz0 hM0
                go_wp2
                go_roundw
                case rel => exact ⟨k + 1, by omega, by go_num, by rw [Hnt.out]; go_num, Hs1.out, Hs2.out, by (repeat' (first | with_reducible exact Below.refl _ _ | with_reducible assumption | with_reducible refine Below.drew ?_ | with_reducible refine below_drewN' ?_ _ | with_reducible refine Below.alloc ?_ ?_ _ | with_reducible refine Below.setCell ?_ ?_ _ | with_reducible refine below_step (by assumption) ?_ ?_ | omega | (simp; done) | (simp; omega)))⟩
                case measure => simp [intOf]; omega
              · have j3 : ((M : Int) == 0) = false := by rw [beq_eq_false_iff_ne]; omega
                clear hz0
                go_wp2
                go_roundw
                case rel => exact ⟨k + 1, by omega, by go_num, by rw [Hnt.out]; go_num, Hs1.out, Hs2.out, by (repeat' (first | with_reducible exact Below.refl _ _ | with_reducible assumption | with_reducible refine Below.drew ?_ | with_reducible refine below_drewN' ?_ _ | with_reducible refine Below.alloc ?_ ?_ _ | with_reducible refine Below.setCell ?_ ?_ _ | with_reducible refine below_step (by assumption) ?_ ?_ | omega | (simp; done) | (simp; omega)))⟩
                case measure => simp [intOf]; omega
          · rw [decide_eq_false hd] at hdb
            have Hr := Lib.hid (show numR l = 0 from numR_bad Hc.out hdb)
            clear hm1 hm0 hnt hdb hm
            by_cases hd1 : 48 ≤ q
            · have j1 : decide ((q : Int) < 48) = false := decide_eq_false (by omega)
              have j2 : decide ((57 : Int) < (q : Int)) = true := decide_eq_true (by omega)
              clear hd
              go_wp2
              go_ret
              exact ⟨by rw [Hr.out]; rfl, by (repeat' (first | with_reducible exact Below.refl _ _ | with_reducible assumption | with_reducible refine Below.drew ?_ | with_reducible refine below_drewN' ?_ _ | with_reducible refine Below.alloc ?_ ?_ _ | with_reducible refine Below.setCell ?_ ?_ _ | with_reducible refine below_step (by assumption) ?_ ?_ | omega | (simp; done) | (simp; omega)))⟩
            · have j1 : decide ((q : Int) < 48) = true := decide_eq_true (by omega)
              clear hd
              go_wp2
              go_ret
              exact ⟨by rw [Hr.out]; rfl, by (repeat' (first | with_reducible exact Below.refl _ _ | with_reducible assumption | with_reducible refine Below.drew ?_ | with_reducible refine below_drewN' ?_ _ | with_reducible refine Below.alloc ?_ ?_ _ | with_reducible refine Below.setCell ?_ ?_ _ | with_reducible refine below_step (by assumption) ?_ ?_ | omega | (simp; done) | (simp; omega)))⟩
        · obtain rfl : k = n := by omega
          have Hr := Lib.hid (show numR l = numL (l.take k) from numR_ok Hn.out (by omega) HA.out H0.out)
          go_wp2
          go_ret
          exact ⟨by rw [Hr.out]; rfl, by (repeat' (first | with_reducible exact Below.refl _ _ | with_reducible assumption | with_reducible refine Below.drew ?_ | with_reducible refine below_drewN' ?_ _ | with_reducible refine Below.alloc ?_ ?_ _ | with_reducible refine Below.setCell ?_ ?_ _ | with_reducible refine below_step (by assumption) ?_ ?_ | omega | (simp; done) | (simp; omega)))⟩

theorem tail_take {l : List UInt8} {n : Nat} (h : l.length = n) : l.take n = l := by rw [← h, List.take_length]
set_option maxRecDepth 100000 in
set_option maxHeartbeats 8000000 in
theorem refnumber_any16 (g : Gp) (name : ByteArray) (w : World) (hs : g.nm.size ≤ 300) (hN : name.size ≤ 400) :
    Calls Tryd.prog 36 #[.agg #[.string (g).nm, .int .i64 (g).mn, .int .i64 (g).mx, .string (g).like.nm, .string (g).like.gp, .int .i64 (g).like.r0, .int .i64 (g).like.r1, .int .i64 (g).like.r2, .int .i64 (g).like.r3, .int .i64 (g).like.r4, .slice (g).like.la (g).like.labs.length (g).like.lk, .slice (g).like.ta (g).like.tnts.length (g).like.tk, .bool (g).like.rd, .int .i64 (g).pr, .int .i64 (g).rk], .string name] w fun e w' => e = .returned (.int .i64 (numG g.nm name : Int)) ∧ Below w.heap.size w w' := by
  have hk1 := dash_cat g.nm hs
  have MM := fun (q : Nat) (V : World) => refmachine_any g (q : Int) V hs
  obtain ⟨nm, mn, mx, m, pr, rk⟩ := g
  simp only at hk1 hs MM ⊢
  have hds : (nm ++ dash).size = nm.size + 1 := by rw [ByteArray.size_append]; rfl
  have hw1 : IntKind.i64.wrap ((nm.size : Int) + 1) = ((nm.size + 1 : Nat) : Int) := by rw [wrap_in (by omega) (by omega)]; omega
  obtain ⟨p, hp⟩ : ∃ p, nm.size + 1 = p := ⟨_, rfl⟩
  rw [hp] at hw1 hds
  have hp9 : IntKind.i64.wrap ((p : Int) + 9) = (p : Int) + 9 := wrap_in (by omega) (by omega)
  by_cases hle : name.size ≤ p
  · have k1 : decide (name.size ≤ p) = true := decide_eq_true hle
    have Hr := Lib.hid (show numG nm name = 0 from by
      cases hq : hasP name (nm ++ dash)
      · exact numG_no hq
      · obtain ⟨l, rfl⟩ := (hasP_iff _ _).1 hq
        rw [numG_yes]
        rw [ByteArray.size_append, hds, ls_size] at hle
        have : l = [] := List.eq_nil_of_length_eq_zero (by omega)
        rw [this]
        rfl)
    clear MM hle hds hp
    go_enter Tryd.func36, Tryd.ntmps36
    go_wp2
    go_quiet (fail)
    go_wp2
    go_ret
    exact ⟨by rw [Hr.out]; rfl, by (repeat' (first | with_reducible exact Below.refl _ _ | with_reducible assumption | with_reducible refine Below.drew ?_ | with_reducible refine below_drewN' ?_ _ | with_reducible refine Below.alloc ?_ ?_ _ | with_reducible refine Below.setCell ?_ ?_ _ | with_reducible refine below_step (by assumption) ?_ ?_ | omega | (simp; done) | (simp; omega)))⟩
  · have k1 : decide (name.size ≤ p) = false := decide_eq_false hle
    by_cases hbig : p + 9 < name.size
    · have k2 : decide ((p : Int) + 9 < (name.size : Int)) = true := decide_eq_true (by omega)
      have Hr := Lib.hid (show numG nm name = 0 from by
        cases hq : hasP name (nm ++ dash)
        · exact numG_no hq
        · obtain ⟨l, rfl⟩ := (hasP_iff _ _).1 hq
          rw [numG_yes]
          rw [ByteArray.size_append, hds, ls_size] at hbig
          exact numR_long (by omega))
      clear MM hle hds hp hbig
      go_enter Tryd.func36, Tryd.ntmps36
      go_wp2
      go_quiet (fail)
      go_wp2
      go_ret
      exact ⟨by rw [Hr.out]; rfl, by (repeat' (first | with_reducible exact Below.refl _ _ | with_reducible assumption | with_reducible refine Below.drew ?_ | with_reducible refine below_drewN' ?_ _ | with_reducible refine Below.alloc ?_ ?_ _ | with_reducible refine Below.setCell ?_ ?_ _ | with_reducible refine below_step (by assumption) ?_ ?_ | omega | (simp; done) | (simp; omega)))⟩
    · have k2 : decide ((p : Int) + 9 < (name.size : Int)) = false := decide_eq_false (by omega)
      have hsl := sl_to name p (by omega)
      cases hq : hasP name (nm ++ dash)
      · have Hr := Lib.hid (numG_no hq)
        have hne : ¬ name.extract 0 p = nm ++ dash := fun h => by
          unfold hasP at hq
          rw [decide_eq_false_iff_not, hds] at hq
          exact hq ⟨by omega, h⟩
        have k3 := tnt_strn hne
        obtain ⟨Q, hQ⟩ : ∃ Q, nm ++ dash = Q := ⟨_, rfl⟩
        rw [hQ] at k3 hk1
        obtain ⟨X, hX⟩ : ∃ X, name.extract 0 p = X := ⟨_, rfl⟩
        rw [hX] at k3 hsl
        clear MM hle hds hp hbig hq hne hQ hX
        go_enter Tryd.func36, Tryd.ntmps36
        go_wp2
        go_quiet (fail)
        go_wp2
        go_ret
        exact ⟨by rw [Hr.out]; rfl, by (repeat' (first | with_reducible exact Below.refl _ _ | with_reducible assumption | with_reducible refine Below.drew ?_ | with_reducible refine below_drewN' ?_ _ | with_reducible refine Below.alloc ?_ ?_ _ | with_reducible refine Below.setCell ?_ ?_ _ | with_reducible refine below_step (by assumption) ?_ ?_ | omega | (simp; done) | (simp; omega)))⟩
      · obtain ⟨l, hl⟩ := (hasP_iff _ _).1 hq
        have hx0 := (app_ext (nm ++ dash) (lsB l)).1
        have hG := numG_yes nm l
        rw [← hl] at hx0 hG
        rw [hds] at hx0
        rw [hx0] at hsl
        have hlen : name.size = p + l.length := by rw [hl, ByteArray.size_append, hds, ls_size]
        have hat : ∀ (k : Nat) (c : UInt8), l[k]? = some c → p + k < name.size ∧ name.get! (p + k) = c := fun k c hc => by
          obtain ⟨hk, rfl⟩ := List.getElem?_eq_some_iff.1 hc
          have := app_get (nm ++ dash) l k hk
          rw [← hl, hds] at this
          exact this
        have Hat := Lib.hid hat
        obtain ⟨n, hn⟩ : ∃ n, l.length = n := ⟨_, rfl⟩
        have Hn := Lib.hid hn
        have hx := fun k (h : k < name.size) => str_ix name k h
        have Hx := Lib.hid hx
        have HM := Lib.hid MM
        have k3 : ((nm ++ dash).toList == (nm ++ dash).toList) = true := by simp
        have Hnm := Lib.hid (show ∀ q : Nat, nameB nm q = name ↔ Lib.decDigits q = l from fun q => by
          unfold nameB
          rw [hl]
          constructor
          · intro h
            have h2 : (nm ++ dash ++ dgB q).extract (nm ++ dash).size (nm ++ dash ++ dgB q).size = (nm ++ dash ++ lsB l).extract (nm ++ dash).size (nm ++ dash ++ lsB l).size := congrArg (fun b : ByteArray => b.extract (nm ++ dash).size b.size) h
            rw [(app_ext (nm ++ dash) (dgB q)).2, (app_ext (nm ++ dash) (lsB l)).2] at h2
            exact congrArg (fun b : ByteArray => b.data.toList) h2
          · intro h
            show nm ++ dash ++ lsB (Lib.decDigits q) = _
            rw [h])
        obtain ⟨Q, hQ⟩ : ∃ Q, nm ++ dash = Q := ⟨_, rfl⟩
        rw [hQ] at k3 hk1 hsl
        rw [hG]
        rw [hn] at hlen
        have hn1 : 1 ≤ n := by omega
        have hn9 : n ≤ 9 := by omega
        have Hlen := Lib.hid hlen
        have k4 : decide (p < name.size) = true := decide_eq_true (by omega)
        clear MM hle hds hp hbig hq hl hx0 hG hat hn hx hQ hlen
        go_enter Tryd.func36, Tryd.ntmps36
        go_wp2
        go_quiet (fail)
        go_wp2
        have HC0 := Lib.hid (show ∀ r, r < 15 → (w.alloc (.cells #[.string nm, .int .i64 mn, .int .i64 mx, .string m.nm, .string m.gp, .int .i64 m.r0, .int .i64 m.r1, .int .i64 m.r2, .int .i64 m.r3, .int .i64 m.r4, .slice m.la m.labs.length m.lk, .slice m.ta m.tnts.length m.tk, .bool m.rd, .int .i64 pr, .int .i64 rk] 59)).cell? ⟨w.heap.size, 0 + r, none⟩ = (grow ⟨nm, mn, mx, m, pr, rk⟩)[r]? from fun r hr => by rw [Nat.zero_add, World.cell?_alloc_at _ _ _ _ rfl]; exact (List.getElem?_toArray).symm ▸ rfl)
        go_loopw [6, 7] (fun nv i wr => ∃ k j : Nat, k ≤ n ∧ j = p + k ∧ i = .int .i64 j ∧ nv = .int .i64 (numL (l.take k) : Nat) ∧ (l.take k).all isDb = true ∧ w.heap.size < wr.heap.size ∧ (∀ r, r < 15 → wr.cell? ⟨w.heap.size, 0 + r, none⟩ = (grow ⟨nm, mn, mx, m, pr, rk⟩)[r]?) ∧ Below w.heap.size w wr) (fun _ i _ => name.size - (intOf i).toNat)
        case atStart => exact ⟨0, p, by omega, rfl, rfl, rfl, rfl, by simp, HC0.out, by (repeat' (first | with_reducible exact Below.refl _ _ | with_reducible assumption | with_reducible refine Below.drew ?_ | with_reducible refine below_drewN' ?_ _ | with_reducible refine Below.alloc ?_ ?_ _ | with_reducible refine Below.setCell ?_ ?_ _ | with_reducible refine below_step (by assumption) ?_ ?_ | omega | (simp; done) | (simp; omega)))⟩
        case round =>
          obtain ⟨k, j, hk, hj, rfl, rfl, hA, hwz, hCG, hB⟩ := hrel
          have HCG := Lib.hid hCG
          clear hCG
          have HA := Lib.hid hA
          have Hj := Lib.hid hj
          have HB := Lib.hid hB
          obtain ⟨hcB, hfB⟩ := bcell hB
          have hbz := hB.size
          clear hA hj
          by_cases hlt : k < n
          · have hjn : j < name.size := by rw [Hlen.out, Hj.out]; omega
            obtain ⟨c, hc⟩ := mem_at (l := l) (k := k) (by rw [Hn.out]; exact hlt)
            obtain ⟨g1, g2⟩ := Hat.out k c hc
            rw [← Hj.out] at g1 g2
            have hix := Hx.out j g1
            rw [g2] at hix
            have hm := numL_small (by omega) HA.out
            have hnt := numL_take hc
            have Hc := Lib.hid hc
            have hp256 : c.toNat < 256 := UInt8.toNat_lt _
            obtain ⟨M, hM⟩ : ∃ M, numL (l.take k) = M := ⟨_, rfl⟩
            have hdb : isDb c = decide (48 ≤ c.toNat ∧ c.toNat ≤ 57) := rfl
            obtain ⟨q, hq⟩ : ∃ q, c.toNat = q := ⟨_, rfl⟩
            rw [hM] at hm hnt ⊢
            rw [hq] at hix hp256 hnt hdb
            clear hM hc g1 g2 hq
            by_cases hd : 48 ≤ q ∧ q ≤ 57
            · rw [decide_eq_true hd] at hdb
              obtain ⟨hd1, hd2⟩ := hd
              have j1 : decide ((q : Int) < 48) = false := decide_eq_false (by omega)
              have j2 : decide ((57 : Int) < (q : Int)) = false := decide_eq_false (by omega)
              have Hs1 := Lib.hid (show (l.take (k + 1)).all isDb = true from by rw [take_at Hc.out, List.all_append, HA.out]; simp [hdb])
              have f1 : IntKind.u8.wrap ((q : Int) - 48) = (q : Int) - 48 := by simp [IntKind.wrap, IntKind.bits, IntKind.signed]; omega
              have f2 : IntKind.i64.wrap ((q : Int) - 48) = (q : Int) - 48 := wrap_in (by omega) (by omega)
              have f3 : IntKind.i64.wrap (10 * (M : Int)) = 10 * (M : Int) := wrap_in (by omega) (by omega)
              have f4 : IntKind.i64.wrap (10 * (M : Int) + ((q : Int) - 48)) = 10 * (M : Int) + ((q : Int) - 48) := wrap_in (by omega) (by omega)
              have Hnt := Lib.hid hnt
              clear hnt hdb
              go_wp2
              go_roundw
              case rel => exact ⟨k + 1, j + 1, by omega, by rw [Hj.out]; omega, by go_num, by rw [Hnt.out]; go_num, Hs1.out, hwz, HCG.out, by (repeat' (first | with_reducible exact Below.refl _ _ | with_reducible assumption | with_reducible refine Below.drew ?_ | with_reducible refine below_drewN' ?_ _ | with_reducible refine Below.alloc ?_ ?_ _ | with_reducible refine Below.setCell ?_ ?_ _ | with_reducible refine below_step (by assumption) ?_ ?_ | omega | (simp; done) | (simp; omega)))⟩
              case measure => simp [intOf]; omega
            · rw [decide_eq_false hd] at hdb
              have Hr := Lib.hid (show numR l = 0 from numR_bad Hc.out hdb)
              clear hnt hdb hm
              by_cases hd1 : 48 ≤ q
              · have j1 : decide ((q : Int) < 48) = false := decide_eq_false (by omega)
                have j2 : decide ((57 : Int) < (q : Int)) = true := decide_eq_true (by omega)
                clear hd
                go_wp2
                go_ret
                exact ⟨by rw [Hr.out]; rfl, by (repeat' (first | with_reducible exact Below.refl _ _ | with_reducible assumption | with_reducible refine Below.drew ?_ | with_reducible refine below_drewN' ?_ _ | with_reducible refine Below.alloc ?_ ?_ _ | with_reducible refine Below.setCell ?_ ?_ _ | with_reducible refine below_step (by assumption) ?_ ?_ | omega | (simp; done) | (simp; omega)))⟩
              · have j1 : decide ((q : Int) < 48) = true := decide_eq_true (by omega)
                clear hd
                go_wp2
                go_ret
                exact ⟨by rw [Hr.out]; rfl, by (repeat' (first | with_reducible exact Below.refl _ _ | with_reducible assumption | with_reducible refine Below.drew ?_ | with_reducible refine below_drewN' ?_ _ | with_reducible refine Below.alloc ?_ ?_ _ | with_reducible refine Below.setCell ?_ ?_ _ | with_reducible refine below_step (by assumption) ?_ ?_ | omega | (simp; done) | (simp; omega)))⟩
          · obtain ⟨c0, c1, c2, c3, c4, c5, c6, c7, c8, c9, c10, c11, c12, c13, c14⟩ := grow_cells HCG.out
            simp only [Nat.zero_add] at c0 c1 c2 c3 c4 c5 c6 c7 c8 c9 c10 c11 c12 c13 c14
            have hjn : ¬ j < name.size := by rw [Hlen.out, Hj.out]; omega
            have hA2 := HA.out
            have hkn : k = n := by omega
            rw [hkn, tail_take Hn.out] at hA2
            have hbk := back_num (by rw [Hn.out]; exact hn9) (by rw [Hn.out]; exact hn1) hA2
            rw [hkn, tail_take Hn.out]
            have hnm := Hnm.out (numL l)
            have hm := HM.out (numL l)
            obtain ⟨M, hM⟩ : ∃ M, numL l = M := ⟨_, rfl⟩
            rw [hM] at hbk hnm hm ⊢
            have hdj : decide (j < name.size) = false := decide_eq_false hjn
            clear hM hA2 hkn
            rcases hbk with ⟨b1, b2⟩ | ⟨b1, b2, b3, b4⟩ | ⟨b1, b2, b3, b4⟩
            · have Hr := Lib.hid b2
              have j1 : decide ((M : Int) < 1) = true := decide_eq_true (by omega)
              clear hm hnm b2
              go_wp2
              go_ret
              exact ⟨by rw [Hr.out]; rfl, by (repeat' (first | with_reducible exact Below.refl _ _ | with_reducible assumption | with_reducible refine Below.drew ?_ | with_reducible refine below_drewN' ?_ _ | with_reducible refine Below.alloc ?_ ?_ _ | with_reducible refine Below.setCell ?_ ?_ _ | with_reducible refine below_step (by assumption) ?_ ?_ | omega | (simp; done) | (simp; omega)))⟩
            · have Hr := Lib.hid b4
              have j1 : decide ((M : Int) < 1) = false := decide_eq_false (by omega)
              have hne : ¬ nameB nm M = name := fun h => b3 (hnm.1 h)
              have k8 := tnt_strn hne
              rw [grpM_in ⟨by omega, by omega⟩, Int.toNat_natCast] at hm
              dsimp only at hm
              obtain ⟨Y, hY⟩ : ∃ Y, nameB nm M = Y := ⟨_, rfl⟩
              rw [hY] at hm k8
              have hfd : ∀ V : World, (Instr.field 44 (.agg #[.string Y, .string m.gp, .int .i64 m.r0, .int .i64 m.r1, .int .i64 m.r2, .int .i64 m.r3, .int .i64 m.r4, .slice m.la m.labs.length m.lk, .slice m.ta m.tnts.length m.tk, .bool m.rd]) 0).run Tryd.prog V = .ok (.string Y) V := fun _ => by kernel_rfl
              have Hm := Lib.hid hm
              clear hm hnm b4 hY hne b3
              go_wp2_with (go_at_call 37; (with_reducible refine (Hm.out _).mono ?_); rintro e w5 ⟨rfl, hb5⟩; have hz5 := hb5.size)
              go_ret
              exact ⟨by rw [Hr.out]; rfl, by (repeat' (first | with_reducible exact Below.refl _ _ | with_reducible assumption | with_reducible refine Below.drew ?_ | with_reducible refine below_drewN' ?_ _ | with_reducible refine Below.alloc ?_ ?_ _ | with_reducible refine Below.setCell ?_ ?_ _ | with_reducible refine below_step (by assumption) ?_ ?_ | omega | (simp; done) | (simp; omega)))⟩
            · have Hr := Lib.hid b4
              have j1 : decide ((M : Int) < 1) = false := decide_eq_false (by omega)
              have hne : nameB nm M = name := hnm.2 b3
              have k8 := tnt_str hne
              rw [grpM_in ⟨by omega, by omega⟩, Int.toNat_natCast] at hm
              dsimp only at hm
              obtain ⟨Y, hY⟩ : ∃ Y, nameB nm M = Y := ⟨_, rfl⟩
              rw [hY] at hm k8
              have hfd : ∀ V : World, (Instr.field 44 (.agg #[.string Y, .string m.gp, .int .i64 m.r0, .int .i64 m.r1, .int .i64 m.r2, .int .i64 m.r3, .int .i64 m.r4, .slice m.la m.labs.length m.lk, .slice m.ta m.tnts.length m.tk, .bool m.rd]) 0).run Tryd.prog V = .ok (.string Y) V := fun _ => by kernel_rfl
              have Hm := Lib.hid hm
              clear hm hnm b4 hY hne b3
              go_wp2_with (go_at_call 37; (with_reducible refine (Hm.out _).mono ?_); rintro e w5 ⟨rfl, hb5⟩; have hz5 := hb5.size)
              go_ret
              exact ⟨by rw [Hr.out]; rfl, by (repeat' (first | with_reducible exact Below.refl _ _ | with_reducible assumption | with_reducible refine Below.drew ?_ | with_reducible refine below_drewN' ?_ _ | with_reducible refine Below.alloc ?_ ?_ _ | with_reducible refine Below.setCell ?_ ?_ _ | with_reducible refine below_step (by assumption) ?_ ?_ | omega | (simp; done) | (simp; omega)))⟩
end Go.Proofs.YtbomcghjifgfoaaDoor
