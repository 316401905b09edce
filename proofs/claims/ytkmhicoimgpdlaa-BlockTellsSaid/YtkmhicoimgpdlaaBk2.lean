/-
  Block: Idle, Empty, unblocked.
-/
import Derived.Test.YtkmhicoimgpdlaaBk1
namespace Go.Proofs.Ytkmhicoimgpdlaa
open Go.RowKit
set_option linter.unusedVariables false
set_option linter.unusedSimpArgs false

theorem mrow_one (m : Mac) : ∀ u ∈ mrow m, u.oneCell' = true := by
  intro u hu
  simp only [mrow, List.mem_cons, List.not_mem_nil, or_false] at hu
  rcases hu with rfl | rfl | rfl | rfl | rfl | rfl | rfl | rfl | rfl | rfl <;> rfl
theorem names_next {ms : List Mac} {k : Nat} {m : Mac} (h : ms[k]? = some m) (f : Mac → Bool) : ((ms.take (k + 1)).filter f).map Mac.nm = ((ms.take k).filter f).map Mac.nm ++ (if f m = true then [m.nm] else []) := by
  rw [filt_next h f, List.map_append]
  congr 1
  split <;> rfl
/-- Machines that are hardly used. -/
def idleQ (bs : List Bd) (most : Int) (m : Mac) : Bool := !decide (m.gp = emp) && (m.rd && decide (useB m bs < most))
def idleL (ms : List Mac) (bs : List Bd) (most : Int) : List ByteArray := (ms.filter (idleQ bs most)).map Mac.nm
set_option maxRecDepth 100000 in
set_option maxHeartbeats 8000000 in
theorem idle_any (a c : Option Addr) (ka kc : Nat) (ms : List Mac) (bs : List Bd) (most : Int) (w : World) (hF : MacL w a ms) (hG : BndL w c bs) (hl : ms.length ≤ 1000000) (hl2 : bs.length ≤ 1000000) :
    Calls Try.prog 9 #[.slice a ms.length ka, .slice c bs.length kc, .int .i64 most] w (GivesT w (idleL ms bs most)) := by
  obtain ⟨N, hN⟩ : ∃ N, bs.length = N := ⟨_, rfl⟩
  obtain ⟨n, hn⟩ : ∃ n, ms.length = n := ⟨_, rfl⟩
  have HUs := Lib.hid (show ∀ (m : Mac) V, Below w.heap.size w V → Calls Try.prog 11 #[.agg #[.string (m).nm, .string (m).gp, .int .i64 (m).r0, .int .i64 (m).r1, .int .i64 (m).r2, .int .i64 (m).r3, .int .i64 (m).r4, .slice (m).la (m).labs.length (m).lk, .slice (m).ta (m).tnts.length (m).tk, .bool (m).rd], .slice c N kc] V fun e w' => e = .returned (.int .i64 (useB m bs)) ∧ Below V.heap.size V w' from fun m V hV => by
    have h9 := use_any m c kc bs V (hG.mono hV) hl2
    rw [hN] at h9
    exact h9)
  have HF := Lib.hid hF
  have Hn := Lib.hid hn
  rw [hn] at hl
  rw [hn, hN]
  clear hF hG hN hn hl2
  obtain ⟨i0, hi, hz0, hz1, hz2⟩ := info_parts Try.info9
  have Hi := Lib.hid hi
  have Hz0 := Lib.hid hz0
  have Hz1 := Lib.hid hz1
  have Hz2 := Lib.hid hz2
  clear hi hz0 hz1 hz2
  go_enter Try.func9, Try.ntmps9
  go_wp2
  go_loopw [7, 12] (fun vo vi wr => ∃ (k : Nat) (Q : List ByteArray), k ≤ n ∧ vi = .int .i64 k ∧ Q = idleL (ms.take k) bs most ∧ Q.length ≤ k ∧ wr.ownsRow w.heap.size 9 1 vo Q.length (Q.flatMap scs) ∧ Below w.heap.size w wr) (fun _ vi _ => n - (intOf vi).toNat)
  case atStart => exact ⟨0, [], Nat.zero_le _, rfl, rfl, Nat.le_refl _, World.ownsRow_nil _ _ _ _, Below.refl _ _⟩
  case round =>
    obtain ⟨k, Q, hk, rfl, hE, hLk, hO, hB⟩ := hrel
    have HE := Lib.hid hE
    obtain ⟨ao, ko, rfl⟩ := own_sl hO
    by_cases hlt : k < n
    · obtain ⟨m, hm⟩ := mem_at (l := ms) (k := k) (by rw [Hn.out]; exact hlt)
      have hbz := hB.size
      obtain ⟨b, o, rfl, hb, hc⟩ := (HF.out.mono hB) (by rw [Hn.out]; omega)
      have HRq := Lib.hid (show wr.rangeAt b (o + k * 10) [.string (m).nm, .string (m).gp, .int .i64 (m).r0, .int .i64 (m).r1, .int .i64 (m).r2, .int .i64 (m).r3, .int .i64 (m).r4, .slice (m).la (m).labs.length (m).lk, .slice (m).ta (m).tnts.length (m).tk, .bool (m).rd] from fun j v hj => by
        have hj10 : j < 10 := (List.getElem?_eq_some_iff.1 hj).1
        rw [hc k m hm j hj10]
        exact hj)
      obtain ⟨Z, hZ⟩ : ∃ Z, wr.heap.size = Z := ⟨_, rfl⟩
      obtain ⟨w5, hw5⟩ : ∃ V, V = wr.alloc (.cells #[.string (m).nm, .string (m).gp, .int .i64 (m).r0, .int .i64 (m).r1, .int .i64 (m).r2, .int .i64 (m).r3, .int .i64 (m).r4, .slice (m).la (m).labs.length (m).lk, .slice (m).ta (m).tnts.length (m).tk, .bool (m).rd] 35) := ⟨_, rfl⟩
      have HZ5 := Lib.hid (show Box Z (mrow m) w5 by rw [hw5, ← hZ]; exact Box.new wr (mrow m) 35)
      have HO5 := Lib.hid (show w5.ownsRow w.heap.size 9 1 (.slice ao Q.length ko) Q.length (Q.flatMap scs) by rw [hw5]; exact hO.alloc _)
      have HB5 := Lib.hid (show Below w.heap.size w w5 by rw [hw5]; exact hB.alloc hbz _)
      have hbz5 := HB5.out.size
      have z0 : w5.cell? ⟨Z, 0, none⟩ = some (.string m.nm) := HZ5.out.cell 0
      have z1 : w5.cell? ⟨Z, 1, none⟩ = some (.string m.gp) := HZ5.out.cell 1
      have z9 : w5.cell? ⟨Z, 9, none⟩ = some (.bool m.rd) := HZ5.out.cell 9
      have hlz := HZ5.out.lt
      have HRz := Lib.hid (show w5.rangeAt Z 0 [.string (m).nm, .string (m).gp, .int .i64 (m).r0, .int .i64 (m).r1, .int .i64 (m).r2, .int .i64 (m).r3, .int .i64 (m).r4, .slice (m).la (m).labs.length (m).lk, .slice (m).ta (m).tnts.length (m).tk, .bool (m).rd] from HZ5.out.range)
      have HP := Lib.hid (show ∀ u ∈ mrow m, u.oneCell' = true from mrow_one m)
      have hnx : idleL (ms.take (k + 1)) bs most = Q ++ (if idleQ bs most m = true then [m.nm] else []) := by rw [hE]; exact names_next hm _
      obtain ⟨gp, hgp⟩ : ∃ g, m.gp = g := ⟨_, rfl⟩
      obtain ⟨rd, hrd⟩ : ∃ g, m.rd = g := ⟨_, rfl⟩
      obtain ⟨u, hu⟩ : ∃ g, useB m bs = g := ⟨_, rfl⟩
      have hi : idleQ bs most m = (!decide (gp = emp) && (rd && decide (u < most))) := by unfold idleQ; rw [hgp, hrd, hu]
      rw [hi] at hnx
      rw [hgp] at z1
      rw [hrd] at z9
      have HUm := Lib.hid (HUs.out m)
      rw [hu] at HUm
      clear hE hO hB hc hm hgp hrd hu hi
      go_upto_region 5 with (first
        | ((with_reducible refine at_load (ty := 35) ?_); refine load_cells rfl 35 (.tmp 14) rfl b (o + k * 10) rfl [.string (m).nm, .string (m).gp, .int .i64 (m).r0, .int .i64 (m).r1, .int .i64 (m).r2, .int .i64 (m).r3, .int .i64 (m).r4, .slice (m).la (m).labs.length (m).lk, .slice (m).ta (m).tnts.length (m).tk, .bool (m).rd] _ Try.underlying35 rfl (by kernel_rfl) HRq.out ?_)
        | ((with_reducible refine at_store (ty := 35) ?_); refine store_new rfl 35 (.tmp 9) (.tmp 15) rfl _ _ (by first | rfl | (show _ = Value.pointer (some ⟨wr.heap.size, 0, none⟩); rw [hZ]; rfl)) rfl (by kernel_rfl) rfl (List.all_eq_true.2 HP.out) rfl ?_))
      (try rw [hZ])
      rw [← hw5]
      clear hw5 hZ
      by_cases h1 : gp = emp
      · have q1 := (emp_yes h1).2.2
        have HNx := Lib.hid (show Q = idleL (ms.take (k + 1)) bs most by rw [hnx, decide_eq_true h1, if_neg (by simp), List.append_nil])
        clear hnx h1
        go_wp2
        go_roundw
        case rel => exact ⟨k + 1, Q, by omega, by go_num, HNx.out, by omega, HO5.out, HB5.out⟩
        case measure => simp [intOf]; omega
      · have q1 := (emp_no h1).2.2
        rw [decide_eq_false h1] at hnx
        clear h1
        cases rd with
        | false =>
          have HNx := Lib.hid (show Q = idleL (ms.take (k + 1)) bs most by rw [hnx, if_neg (by simp), List.append_nil])
          clear hnx
          go_wp2
          go_roundw
          case rel => exact ⟨k + 1, Q, by omega, by go_num, HNx.out, by omega, HO5.out, HB5.out⟩
          case measure => simp [intOf]; omega
        | true =>
          by_cases h2 : u < most
          · have HNx := Lib.hid (show Q ++ [m.nm] = idleL (ms.take (k + 1)) bs most by rw [hnx, decide_eq_true h2, if_pos (by decide)])
            clear hnx
            go_upto_region 6 with (first
              | ((with_reducible refine at_load (ty := 35) ?_); refine load_cells rfl 35 (.tmp 9) rfl Z 0 rfl [.string (m).nm, .string (m).gp, .int .i64 (m).r0, .int .i64 (m).r1, .int .i64 (m).r2, .int .i64 (m).r3, .int .i64 (m).r4, .slice (m).la (m).labs.length (m).lk, .slice (m).ta (m).tnts.length (m).tk, .bool (m).rd] _ Try.underlying35 rfl (by kernel_rfl) HRz.out ?_)
              | (go_at_call 11; (with_reducible refine (HUm.out _ HB5.out).mono ?_); rintro e w7 ⟨rfl, hb7⟩; have HB7 := Lib.hid (HB5.out.trans (hb7.mono hbz5)); have HO7 := Lib.hid (own_kept HO5.out hb7); have HX7 := Lib.hid (HZ5.out.mono hb7); clear hb7))
            have y0 : w7.cell? ⟨Z, 0, none⟩ = some (.string m.nm) := HX7.out.cell 0
            have hly := HX7.out.lt
            have hbz7 := HB7.out.size
            clear z0 z1 z9 hlz
            go_wp2_with (at_builtin; refine wpList_append_src rfl (.tmp 30) (.tmp 33) 27 rfl w.heap.size 9 i0 _ 1 16 Try.underlying27 Hi.out Hz0.out Hz1.out Hz2.out rfl (by decide) _ Q.length (Q.flatMap scs) rfl (HO7.out.alloc _) (some ⟨w7.heap.size, 0, none⟩) 1 1 (scs m.nm) rfl rfl (fun q e => by injection e with e; rw [← e]; exact news_at _ _ _) (fun e => by cases e) (scs_one m.nm) (by unfold maxLen; omega) (by omega) (by simp; omega) ?_; intro v6 w6 hown6 hgrow6; obtain ⟨a6, k6, rfl⟩ := own_sl hown6; have HB6 := Lib.hid (own_below (HO7.out.alloc _) (HB7.out.alloc hbz7 _) (by simp; omega) hgrow6); have HO6 := Lib.hid hown6; clear hown6 hgrow6)
            go_roundw
            case rel =>
              refine ⟨k + 1, Q ++ [m.nm], by omega, by go_num, HNx.out, by rw [List.length_append]; show Q.length + 1 ≤ _; omega, ?_, HB6.out⟩
              rw [List.length_append, List.flatMap_append]
              have h9 := HO6.out
              simpa using h9
            case measure => simp [intOf]; omega
          · have HNx := Lib.hid (show Q = idleL (ms.take (k + 1)) bs most by rw [hnx, decide_eq_false h2, if_neg (by decide), List.append_nil])
            clear hnx
            go_wp2_with (first
              | ((with_reducible refine at_load (ty := 35) ?_); refine load_cells rfl 35 (.tmp 9) rfl Z 0 rfl [.string (m).nm, .string (m).gp, .int .i64 (m).r0, .int .i64 (m).r1, .int .i64 (m).r2, .int .i64 (m).r3, .int .i64 (m).r4, .slice (m).la (m).labs.length (m).lk, .slice (m).ta (m).tnts.length (m).tk, .bool (m).rd] _ Try.underlying35 rfl (by kernel_rfl) HRz.out ?_)
              | (go_at_call 11; (with_reducible refine (HUm.out _ HB5.out).mono ?_); rintro e w7 ⟨rfl, hb7⟩; have HB7 := Lib.hid (HB5.out.trans (hb7.mono hbz5)); have HO7 := Lib.hid (own_kept HO5.out hb7); clear hb7))
            go_roundw
            case rel => exact ⟨k + 1, Q, by omega, by go_num, HNx.out, by omega, HO7.out, HB7.out⟩
            case measure => simp [intOf]; omega
    · obtain rfl : k = n := by omega
      have HLe := Lib.hid (show Q = idleL ms bs most by rw [hE, List.take_of_length_le (by rw [Hn.out]; exact Nat.le_refl _)])
      have HOf := Lib.hid hO
      have HBf := Lib.hid hB
      clear hE hO hB
      go_wp2
      refine bodyPost_ret (v := .slice ao Q.length ko) (by simp [results, Try.results9, go_sem]) rfl ⟨⟨_, rfl, by rw [← HLe.out]; exact HOf.out⟩, HBf.out⟩
/-- Machines that are not used. -/
def emptyQ (bs : List Bd) (m : Mac) : Bool := !decide (m.gp = emp) && decide ((movL bs m.nm).length = 0)
def emptyL (ms : List Mac) (bs : List Bd) : List ByteArray := (ms.filter (emptyQ bs)).map Mac.nm
set_option maxRecDepth 100000 in
set_option maxHeartbeats 8000000 in
theorem empty_any (a c : Option Addr) (ka kc : Nat) (ms : List Mac) (bs : List Bd) (w : World) (hF : MacL w a ms) (hG : BndL w c bs) (hl : ms.length ≤ 1000000) (hl2 : bs.length ≤ 1000000) :
    Calls Try.prog 22 #[.slice a ms.length ka, .slice c bs.length kc] w (GivesT w (emptyL ms bs)) := by
  obtain ⟨N, hN⟩ : ∃ N, bs.length = N := ⟨_, rfl⟩
  obtain ⟨n, hn⟩ : ∃ n, ms.length = n := ⟨_, rfl⟩
  have HMv := Lib.hid (show ∀ (nm : ByteArray) V, Below w.heap.size w V → Calls Try.prog 13 #[.slice c N kc, .string nm] V fun e w' => (∃ am km, e = .returned (.slice am (movL bs nm).length km)) ∧ Below V.heap.size V w' from fun nm V hV => by
    have h9 := movable_any c kc bs nm V (hG.mono hV) hl2
    rw [hN] at h9
    refine h9.mono fun e w' h => ?_
    obtain ⟨⟨v, rfl, hv⟩, hb⟩ := h
    obtain ⟨am, km, rfl⟩ := own_sl hv
    exact ⟨⟨am, km, rfl⟩, hb⟩)
  have HF := Lib.hid hF
  have Hn := Lib.hid hn
  rw [hn] at hl
  rw [hn, hN]
  clear hF hG hN hn hl2
  obtain ⟨i0, hi, hz0, hz1, hz2⟩ := info_parts Try.info9
  have Hi := Lib.hid hi
  have Hz0 := Lib.hid hz0
  have Hz1 := Lib.hid hz1
  have Hz2 := Lib.hid hz2
  clear hi hz0 hz1 hz2
  go_enter Try.func22, Try.ntmps22
  go_wp2
  go_loopw [5, 10] (fun vo vi wr => ∃ (k : Nat) (Q : List ByteArray), k ≤ n ∧ vi = .int .i64 k ∧ Q = emptyL (ms.take k) bs ∧ Q.length ≤ k ∧ wr.ownsRow w.heap.size 9 1 vo Q.length (Q.flatMap scs) ∧ Below w.heap.size w wr) (fun _ vi _ => n - (intOf vi).toNat)
  case atStart => exact ⟨0, [], Nat.zero_le _, rfl, rfl, Nat.le_refl _, World.ownsRow_nil _ _ _ _, Below.refl _ _⟩
  case round =>
    obtain ⟨k, Q, hk, rfl, hE, hLk, hO, hB⟩ := hrel
    have HE := Lib.hid hE
    obtain ⟨ao, ko, rfl⟩ := own_sl hO
    by_cases hlt : k < n
    · obtain ⟨m, hm⟩ := mem_at (l := ms) (k := k) (by rw [Hn.out]; exact hlt)
      have hbz := hB.size
      obtain ⟨b, o, rfl, hb, hc⟩ := (HF.out.mono hB) (by rw [Hn.out]; omega)
      have HRq := Lib.hid (show wr.rangeAt b (o + k * 10) [.string (m).nm, .string (m).gp, .int .i64 (m).r0, .int .i64 (m).r1, .int .i64 (m).r2, .int .i64 (m).r3, .int .i64 (m).r4, .slice (m).la (m).labs.length (m).lk, .slice (m).ta (m).tnts.length (m).tk, .bool (m).rd] from fun j v hj => by
        have hj10 : j < 10 := (List.getElem?_eq_some_iff.1 hj).1
        rw [hc k m hm j hj10]
        exact hj)
      obtain ⟨Z, hZ⟩ : ∃ Z, wr.heap.size = Z := ⟨_, rfl⟩
      obtain ⟨w5, hw5⟩ : ∃ V, V = wr.alloc (.cells #[.string (m).nm, .string (m).gp, .int .i64 (m).r0, .int .i64 (m).r1, .int .i64 (m).r2, .int .i64 (m).r3, .int .i64 (m).r4, .slice (m).la (m).labs.length (m).lk, .slice (m).ta (m).tnts.length (m).tk, .bool (m).rd] 35) := ⟨_, rfl⟩
      have HZ5 := Lib.hid (show Box Z (mrow m) w5 by rw [hw5, ← hZ]; exact Box.new wr (mrow m) 35)
      have HO5 := Lib.hid (show w5.ownsRow w.heap.size 9 1 (.slice ao Q.length ko) Q.length (Q.flatMap scs) by rw [hw5]; exact hO.alloc _)
      have HB5 := Lib.hid (show Below w.heap.size w w5 by rw [hw5]; exact hB.alloc hbz _)
      have hbz5 := HB5.out.size
      have z0 : w5.cell? ⟨Z, 0, none⟩ = some (.string m.nm) := HZ5.out.cell 0
      have z1 : w5.cell? ⟨Z, 1, none⟩ = some (.string m.gp) := HZ5.out.cell 1
      have z9 : w5.cell? ⟨Z, 9, none⟩ = some (.bool m.rd) := HZ5.out.cell 9
      have hlz := HZ5.out.lt
      have HRz := Lib.hid (show w5.rangeAt Z 0 [.string (m).nm, .string (m).gp, .int .i64 (m).r0, .int .i64 (m).r1, .int .i64 (m).r2, .int .i64 (m).r3, .int .i64 (m).r4, .slice (m).la (m).labs.length (m).lk, .slice (m).ta (m).tnts.length (m).tk, .bool (m).rd] from HZ5.out.range)
      have HP := Lib.hid (show ∀ u ∈ mrow m, u.oneCell' = true from mrow_one m)
      have hnx : emptyL (ms.take (k + 1)) bs = Q ++ (if emptyQ bs m = true then [m.nm] else []) := by rw [hE]; exact names_next hm _
      obtain ⟨gp, hgp⟩ : ∃ g, m.gp = g := ⟨_, rfl⟩
      obtain ⟨u, hu⟩ : ∃ g, (movL bs m.nm).length = g := ⟨_, rfl⟩
      have hi : emptyQ bs m = (!decide (gp = emp) && decide (u = 0)) := by unfold emptyQ; rw [hgp, hu]
      rw [hi] at hnx
      rw [hgp] at z1
      have HUm := Lib.hid (HMv.out m.nm)
      rw [hu] at HUm
      clear hE hO hB hc hm hgp hu hi
      go_upto_region 5 with (first
        | ((with_reducible refine at_load (ty := 35) ?_); refine load_cells rfl 35 (.tmp 12) rfl b (o + k * 10) rfl [.string (m).nm, .string (m).gp, .int .i64 (m).r0, .int .i64 (m).r1, .int .i64 (m).r2, .int .i64 (m).r3, .int .i64 (m).r4, .slice (m).la (m).labs.length (m).lk, .slice (m).ta (m).tnts.length (m).tk, .bool (m).rd] _ Try.underlying35 rfl (by kernel_rfl) HRq.out ?_)
        | ((with_reducible refine at_store (ty := 35) ?_); refine store_new rfl 35 (.tmp 7) (.tmp 13) rfl _ _ (by first | rfl | (show _ = Value.pointer (some ⟨wr.heap.size, 0, none⟩); rw [hZ]; rfl)) rfl (by kernel_rfl) rfl (List.all_eq_true.2 HP.out) rfl ?_))
      (try rw [hZ])
      rw [← hw5]
      clear hw5 hZ
      by_cases h1 : gp = emp
      · have q1 := (emp_yes h1).2.2
        have HNx := Lib.hid (show Q = emptyL (ms.take (k + 1)) bs by rw [hnx, decide_eq_true h1, if_neg (by simp), List.append_nil])
        clear hnx h1
        go_wp2
        go_roundw
        case rel => exact ⟨k + 1, Q, by omega, by go_num, HNx.out, by omega, HO5.out, HB5.out⟩
        case measure => simp [intOf]; omega
      · have q1 := (emp_no h1).2.2
        rw [decide_eq_false h1] at hnx
        clear h1
        by_cases h2 : u = 0
        · subst h2
          have HNx := Lib.hid (show Q ++ [m.nm] = emptyL (ms.take (k + 1)) bs by rw [hnx, if_pos (by decide)])
          clear hnx
          go_upto_region 6 with (go_at_call 13; (with_reducible refine (HUm.out _ HB5.out).mono ?_); rintro e w7 ⟨⟨am, km, rfl⟩, hb7⟩; have HB7 := Lib.hid (HB5.out.trans (hb7.mono hbz5)); have HO7 := Lib.hid (own_kept HO5.out hb7); have HX7 := Lib.hid (HZ5.out.mono hb7); clear hb7)
          have y0 : w7.cell? ⟨Z, 0, none⟩ = some (.string m.nm) := HX7.out.cell 0
          have hly := HX7.out.lt
          have hbz7 := HB7.out.size
          clear z0 z1 z9 hlz
          go_wp2_with (at_builtin; refine wpList_append_src rfl (.tmp 25) (.tmp 28) 27 rfl w.heap.size 9 i0 _ 1 16 Try.underlying27 Hi.out Hz0.out Hz1.out Hz2.out rfl (by decide) _ Q.length (Q.flatMap scs) rfl (HO7.out.alloc _) (some ⟨w7.heap.size, 0, none⟩) 1 1 (scs m.nm) rfl rfl (fun q e => by injection e with e; rw [← e]; exact news_at _ _ _) (fun e => by cases e) (scs_one m.nm) (by unfold maxLen; omega) (by omega) (by simp; omega) ?_; intro v6 w6 hown6 hgrow6; obtain ⟨a6, k6, rfl⟩ := own_sl hown6; have HB6 := Lib.hid (own_below (HO7.out.alloc _) (HB7.out.alloc hbz7 _) (by simp; omega) hgrow6); have HO6 := Lib.hid hown6; clear hown6 hgrow6)
          go_roundw
          case rel =>
            refine ⟨k + 1, Q ++ [m.nm], by omega, by go_num, HNx.out, by rw [List.length_append]; show Q.length + 1 ≤ _; omega, ?_, HB6.out⟩
            rw [List.length_append, List.flatMap_append]
            have h9 := HO6.out
            simpa using h9
          case measure => simp [intOf]; omega
        · have q2 : ((u : Int) == 0) = false := by rw [beq_eq_false_iff_ne]; omega
          have HNx := Lib.hid (show Q = emptyL (ms.take (k + 1)) bs by rw [hnx, decide_eq_false h2, if_neg (by decide), List.append_nil])
          clear hnx h2
          go_wp2_with (go_at_call 13; (with_reducible refine (HUm.out _ HB5.out).mono ?_); rintro e w7 ⟨⟨am, km, rfl⟩, hb7⟩; have HB7 := Lib.hid (HB5.out.trans (hb7.mono hbz5)); have HO7 := Lib.hid (own_kept HO5.out hb7); clear hb7)
          go_roundw
          case rel => exact ⟨k + 1, Q, by omega, by go_num, HNx.out, by omega, HO7.out, HB7.out⟩
          case measure => simp [intOf]; omega
    · obtain rfl : k = n := by omega
      have HLe := Lib.hid (show Q = emptyL ms bs by rw [hE, List.take_of_length_le (by rw [Hn.out]; exact Nat.le_refl _)])
      have HOf := Lib.hid hO
      have HBf := Lib.hid hB
      clear hE hO hB
      go_wp2
      refine bodyPost_ret (v := .slice ao Q.length ko) (by simp [results, Try.results22, go_sem]) rfl ⟨⟨_, rfl, by rw [← HLe.out]; exact HOf.out⟩, HBf.out⟩
/-- What keeps pods from moving. -/
def blkB (p : Pd) : Bool := p.pn || (p.lc || decide (p.ow = emp))
def blkN (L : List Pd) : ByteArray := match L.find? blkB with | none => emp | some p => p.nm
def blkE (L : List Pd) : Int := match L.find? blkB with | none => 0 | some _ => 22
theorem blk_at : ∀ {L : List Pd} {k : Nat} {p : Pd}, L[k]? = some p → (L.take k).any blkB = false → blkB p = true → L.find? blkB = some p
  | [], k, p, h, _, _ => by simp at h
  | x :: L, 0, p, h, _, hp => by
    obtain rfl : x = p := by simpa using h
    exact List.find?_cons_of_pos hp
  | x :: L, k + 1, p, h, hn, hp => by
    rw [List.take_succ_cons, List.any_cons, Bool.or_eq_false_iff] at hn
    rw [List.find?_cons_of_neg (by rw [hn.1]; exact Bool.false_ne_true)]
    exact blk_at (by simpa using h) hn.2 hp
theorem blk_none {L : List Pd} (h : L.any blkB = false) : L.find? blkB = none := by
  rw [List.find?_eq_none]
  intro x hx
  rw [List.any_eq_false] at h
  exact h x hx
set_option maxRecDepth 100000 in
set_option maxHeartbeats 8000000 in
theorem unblocked_any (a : Option Addr) (ka : Nat) (L : List Pd) (w : World) (hF : RowsAt prow 20 w a L) (hl : L.length ≤ 1000000) :
    Calls Try.prog 33 #[.slice a L.length ka] w fun e w' => e = .returned (.tuple #[.string (blkN L), .int .i64 (blkE L)]) ∧ Below w.heap.size w w' := by
  obtain ⟨n, hn⟩ : ∃ n, L.length = n := ⟨_, rfl⟩
  have Hn := Lib.hid hn
  have HF := Lib.hid hF
  have HY := Lib.hid (fun (p : Pd) (h : L.find? blkB = some p) => show blkN L = p.nm ∧ blkE L = 22 by unfold blkN blkE; rw [h]; exact ⟨rfl, rfl⟩)
  have HZ := Lib.hid (fun (h : L.find? blkB = none) => show blkN L = emp ∧ blkE L = 0 by unfold blkN blkE; rw [h]; exact ⟨rfl, rfl⟩)
  obtain ⟨x, hx⟩ : ∃ x, blkN L = x := ⟨_, rfl⟩
  obtain ⟨y, hy⟩ : ∃ y, blkE L = y := ⟨_, rfl⟩
  rw [hx, hy] at HY HZ ⊢
  rw [hn] at hl ⊢
  clear hn hF hx hy
  go_enter Try.func33, Try.ntmps33
  go_wp2
  go_loopw [8] (fun vi wr => ∃ k : Nat, k ≤ n ∧ vi = .int .i64 k ∧ (L.take k).any blkB = false ∧ Below w.heap.size w wr) (fun vi _ => n - (intOf vi).toNat)
  case atStart => exact ⟨0, Nat.zero_le _, rfl, rfl, Below.refl _ _⟩
  case round =>
    obtain ⟨k, hk, rfl, hE, hB⟩ := hrel
    have hbz := hB.size
    by_cases hlt : k < n
    · obtain ⟨p, hp⟩ := mem_at (l := L) (k := k) (by rw [Hn.out]; exact hlt)
      obtain ⟨b, o, rfl, hb, hc⟩ := (HF.out.mono hB) (by rw [Hn.out]; omega)
      have HRq := Lib.hid (show wr.rangeAt b (o + k * 20) [.string (p).nm, .int .i64 (p).n0, .int .i64 (p).n1, .int .i64 (p).n2, .int .i64 (p).n3, .int .i64 (p).n4, .slice (p).la (p).labs.length (p).lk, .slice (p).sa (p).sels.length (p).sk, .slice (p).ta (p).trms.length (p).tk, .slice (p).ba (p).bers.length (p).bk, .slice (p).pa (p).prts.length (p).pk, .slice (p).aa (p).aprs.length (p).ak, .bool (p).wd, .slice (p).da (p).spds.length (p).dk, .int .i64 (p).sw, .int .i64 (p).rk, .string (p).ow, .bool (p).dm, .bool (p).pn, .bool (p).lc] from fun j v hj => by
        have hj20 : j < 20 := (List.getElem?_eq_some_iff.1 hj).1
        rw [hc k p hp j hj20]
        exact hj)
      obtain ⟨pn, hpn⟩ : ∃ d, p.pn = d := ⟨_, rfl⟩
      obtain ⟨lc, hlc⟩ : ∃ d, p.lc = d := ⟨_, rfl⟩
      obtain ⟨ow, how⟩ : ∃ d, p.ow = d := ⟨_, rfl⟩
      have hi : blkB p = (pn || (lc || decide (ow = emp))) := by unfold blkB; rw [hpn, hlc, how]
      have HYes := Lib.hid (fun (h : blkB p = true) => HY.out p (blk_at hp hE h))
      have HNo := Lib.hid (fun (h : blkB p = false) => show (L.take (k + 1)).any blkB = false by rw [List.take_add_one, hp, List.any_append, hE]; show (false || (blkB p || false)) = false; rw [h]; rfl)
      rw [hi] at HYes HNo
      obtain ⟨Z, hZ⟩ : ∃ Z, wr.heap.size = Z := ⟨_, rfl⟩
      obtain ⟨w5, hw5⟩ : ∃ V, V = wr.alloc (.cells #[.string (p).nm, .int .i64 (p).n0, .int .i64 (p).n1, .int .i64 (p).n2, .int .i64 (p).n3, .int .i64 (p).n4, .slice (p).la (p).labs.length (p).lk, .slice (p).sa (p).sels.length (p).sk, .slice (p).ta (p).trms.length (p).tk, .slice (p).ba (p).bers.length (p).bk, .slice (p).pa (p).prts.length (p).pk, .slice (p).aa (p).aprs.length (p).ak, .bool (p).wd, .slice (p).da (p).spds.length (p).dk, .int .i64 (p).sw, .int .i64 (p).rk, .string (p).ow, .bool (p).dm, .bool (p).pn, .bool (p).lc] 50) := ⟨_, rfl⟩
      have HZ5 := Lib.hid (show Box Z (prow p) w5 by rw [hw5, ← hZ]; exact Box.new wr (prow p) 50)
      have HB5 := Lib.hid (show Below w.heap.size w w5 by rw [hw5]; exact hB.alloc hbz _)
      have z0 : w5.cell? ⟨Z, 0, none⟩ = some (.string p.nm) := HZ5.out.cell 0
      have z16 : w5.cell? ⟨Z, 16, none⟩ = some (.string ow) := by rw [← how]; exact HZ5.out.cell 16
      have z18 : w5.cell? ⟨Z, 18, none⟩ = some (.bool pn) := by rw [← hpn]; exact HZ5.out.cell 18
      have z19 : w5.cell? ⟨Z, 19, none⟩ = some (.bool lc) := by rw [← hlc]; exact HZ5.out.cell 19
      have hlz := HZ5.out.lt
      have HP := Lib.hid (prow_one p)
      clear hE hB hc hp hpn hlc how hi
      go_upto_region 4 with (first
        | ((with_reducible refine at_load (ty := 50) ?_); refine load_cells rfl 50 (.tmp 10) rfl b (o + k * 20) rfl [.string (p).nm, .int .i64 (p).n0, .int .i64 (p).n1, .int .i64 (p).n2, .int .i64 (p).n3, .int .i64 (p).n4, .slice (p).la (p).labs.length (p).lk, .slice (p).sa (p).sels.length (p).sk, .slice (p).ta (p).trms.length (p).tk, .slice (p).ba (p).bers.length (p).bk, .slice (p).pa (p).prts.length (p).pk, .slice (p).aa (p).aprs.length (p).ak, .bool (p).wd, .slice (p).da (p).spds.length (p).dk, .int .i64 (p).sw, .int .i64 (p).rk, .string (p).ow, .bool (p).dm, .bool (p).pn, .bool (p).lc] _ Try.underlying50 rfl (by kernel_rfl) HRq.out ?_)
        | ((with_reducible refine at_store (ty := 50) ?_); refine store_new rfl 50 (.tmp 5) (.tmp 11) rfl _ _ (by first | rfl | (show _ = Value.pointer (some ⟨wr.heap.size, 0, none⟩); rw [hZ]; rfl)) rfl (by kernel_rfl) rfl (List.all_eq_true.2 HP.out) rfl ?_))
      (try rw [hZ])
      rw [← hw5]
      clear hw5 hZ
      have C : (pn = true) ∨ (pn = false ∧ lc = true) ∨ (pn = false ∧ lc = false ∧ ow.toList.isEmpty = true ∧ decide (ow = emp) = true) ∨ (pn = false ∧ lc = false ∧ ow.toList.isEmpty = false ∧ decide (ow = emp) = false) := by
        by_cases h : ow = emp
        · have q1 := (emp_yes h).2.2
          cases pn <;> cases lc <;> simp [h, emp_list]
        · have q1 := (emp_no h).2.2
          cases pn <;> cases lc <;> simp [h, q1]
      rcases C with rfl | ⟨rfl, rfl⟩ | ⟨rfl, rfl, q1, q2⟩ | ⟨rfl, rfl, q1, q2⟩
      all_goals first
        | (have HR := Lib.hid (HYes.out (by first | rfl | (rw [q2]; rfl)))
           clear HYes HNo
           go_wp2
           refine bodyPost_ret (v := .tuple #[.string p.nm, .int .i64 22]) (by simp [results, Try.results33, go_sem]) rfl ⟨?_, HB5.out⟩
           rw [HR.out.1, HR.out.2])
        | (have HNx := Lib.hid (HNo.out (by rw [q2]; rfl))
           clear HYes HNo
           go_wp2
           go_roundw
           case rel => exact ⟨k + 1, by omega, by go_num, HNx.out, HB5.out⟩
           case measure => simp [intOf]; omega)
    · obtain rfl : k = n := by omega
      have HR := Lib.hid (HZ.out (blk_none (by
        have h9 := hE
        rw [List.take_of_length_le (by rw [Hn.out]; exact Nat.le_refl _)] at h9
        exact h9)))
      have HBf := Lib.hid hB
      clear hE hB
      go_wp2
      refine bodyPost_ret (v := .tuple #[.string emp, .int .i64 0]) (by simp [results, Try.results33, go_sem]; rfl) rfl ⟨?_, HBf.out⟩
      rw [HR.out.1, HR.out.2]
end Go.Proofs.Ytkmhicoimgpdlaa
