/-
  Block, the document's way: Idle, Empty.
-/
import Derived.Test.YtkmhicoimgpdlaaBt1
namespace Go.Proofs.Ytkmhicoimgpdlaa
open Go.RowKit
set_option linter.unusedVariables false
set_option linter.unusedSimpArgs false

set_option maxRecDepth 100000 in
set_option maxHeartbeats 8000000 in
theorem ridle_any (a c : Option Addr) (ka kc : Nat) (ms : List Mac) (bs : List Bd) (most : Int) (w : World) (hF : MacL w a ms) (hG : BndL w c bs) (hl : ms.length ≤ 1000000) (hl2 : bs.length ≤ 1000000) (hrt : ∀ b ∈ bs, rtP b.p = true) :
    Calls Try.prog 21 #[.slice a ms.length ka, .slice c bs.length kc, .int .i64 most] w (GivesT w (idleL ms bs most)) := by
  obtain ⟨N, hN⟩ : ∃ N, bs.length = N := ⟨_, rfl⟩
  obtain ⟨n, hn⟩ : ∃ n, ms.length = n := ⟨_, rfl⟩
  have HUs := Lib.hid (show ∀ (m : Mac) V, Below w.heap.size w V → Calls Try.prog 18 #[.agg #[.string (m).nm, .string (m).gp, .int .i64 (m).r0, .int .i64 (m).r1, .int .i64 (m).r2, .int .i64 (m).r3, .int .i64 (m).r4, .slice (m).la (m).labs.length (m).lk, .slice (m).ta (m).tnts.length (m).tk, .bool (m).rd], .slice c N kc] V fun e w' => e = .returned (.int .i64 (useB m bs)) ∧ Below V.heap.size V w' from fun m V hV => by
    have h9 := ruse_any m c kc bs V (hG.mono hV) hl2 hrt
    rw [hN] at h9
    exact h9)
  have HF := Lib.hid hF
  have Hn := Lib.hid hn
  rw [hn] at hl
  rw [hn, hN]
  clear hF hG hN hn hl2 hrt
  obtain ⟨i0, hi, hz0, hz1, hz2⟩ := info_parts Try.info9
  have Hi := Lib.hid hi
  have Hz0 := Lib.hid hz0
  have Hz1 := Lib.hid hz1
  have Hz2 := Lib.hid hz2
  clear hi hz0 hz1 hz2
  go_enter Try.func21, Try.ntmps21
  go_wp2
  go_loopw [7, 8] (fun vo vi wr => ∃ (k : Nat) (Q : List ByteArray), k ≤ n ∧ vi = .int .i64 k ∧ Q = idleL (ms.take k) bs most ∧ Q.length ≤ k ∧ wr.ownsRow w.heap.size 9 1 vo Q.length (Q.flatMap scs) ∧ Below w.heap.size w wr) (fun _ vi _ => n - (intOf vi).toNat)
  case atStart => exact ⟨0, [], Nat.zero_le _, rfl, rfl, Nat.le_refl _, World.ownsRow_nil _ _ _ _, Below.refl _ _⟩
  case round =>
    obtain ⟨k, Q, hk, rfl, hE, hLk, hO, hB⟩ := hrel
    have HE := Lib.hid hE
    have HO := Lib.hid hO
    have HB := Lib.hid hB
    have hbz := hB.size
    obtain ⟨ao, ko, rfl⟩ := own_sl hO
    by_cases hlt : k < n
    · obtain ⟨m, hm⟩ := mem_at (l := ms) (k := k) (by rw [Hn.out]; exact hlt)
      obtain ⟨b, o, rfl, hb, hc⟩ := (HF.out.mono hB) (by rw [Hn.out]; omega)
      have HRq := Lib.hid (show wr.rangeAt b (o + k * 10) [.string (m).nm, .string (m).gp, .int .i64 (m).r0, .int .i64 (m).r1, .int .i64 (m).r2, .int .i64 (m).r3, .int .i64 (m).r4, .slice (m).la (m).labs.length (m).lk, .slice (m).ta (m).tnts.length (m).tk, .bool (m).rd] from fun j v hj => by
        have hj10 : j < 10 := (List.getElem?_eq_some_iff.1 hj).1
        rw [hc k m hm j hj10]
        exact hj)
      have HC0 := Lib.hid (show wr.cell? ⟨b, o + k * 10, none⟩ = some (.string m.nm) from hc k m hm 0 (by decide))
      have c1 : wr.cell? ⟨b, o + k * 10 + 1, none⟩ = some (.string m.gp) := hc k m hm 1 (by decide)
      have c9 : wr.cell? ⟨b, o + k * 10 + 9, none⟩ = some (.bool m.rd) := hc k m hm 9 (by decide)
      have hnx : idleL (ms.take (k + 1)) bs most = Q ++ (if idleQ bs most m = true then [m.nm] else []) := by rw [hE]; exact names_next hm _
      obtain ⟨gp, hgp⟩ : ∃ g, m.gp = g := ⟨_, rfl⟩
      obtain ⟨rd, hrd⟩ : ∃ g, m.rd = g := ⟨_, rfl⟩
      obtain ⟨u, hu⟩ : ∃ g, useB m bs = g := ⟨_, rfl⟩
      have hi : idleQ bs most m = (!decide (gp = emp) && (rd && decide (u < most))) := by unfold idleQ; rw [hgp, hrd, hu]
      rw [hi] at hnx
      rw [hgp] at c1
      rw [hrd] at c9
      have HUm := Lib.hid (HUs.out m)
      rw [hu] at HUm
      clear hE hO hB hc hm hgp hrd hu hi
      by_cases h1 : gp = emp
      · have q1 := (emp_yes h1).2.2
        have HNx := Lib.hid (show Q = idleL (ms.take (k + 1)) bs most by rw [hnx, decide_eq_true h1, if_neg (by simp), List.append_nil])
        clear hnx h1
        go_wp2
        go_roundw
        case rel => exact ⟨k + 1, Q, by omega, by go_num, HNx.out, by omega, HO.out, HB.out⟩
        case measure => simp [intOf]; omega
      · have q1 := (emp_no h1).2.2
        rw [decide_eq_false h1] at hnx
        clear h1
        cases rd with
        | false =>
          have HNx := Lib.hid (show Q = idleL (ms.take (k + 1)) bs most by rw [hnx, if_neg (by simp), List.append_nil])
          clear hnx
          go_wp2
          go_roundw
          case rel => exact ⟨k + 1, Q, by omega, by go_num, HNx.out, by omega, HO.out, HB.out⟩
          case measure => simp [intOf]; omega
        | true =>
          by_cases h2 : u < most
          · have HNx := Lib.hid (show Q ++ [m.nm] = idleL (ms.take (k + 1)) bs most by rw [hnx, decide_eq_true h2, if_pos (by decide)])
            clear hnx
            go_upto_region 6 with (first
              | ((with_reducible refine at_load (ty := 35) ?_); refine load_cells rfl 35 (.tmp 31) rfl b (o + k * 10) rfl [.string (m).nm, .string (m).gp, .int .i64 (m).r0, .int .i64 (m).r1, .int .i64 (m).r2, .int .i64 (m).r3, .int .i64 (m).r4, .slice (m).la (m).labs.length (m).lk, .slice (m).ta (m).tnts.length (m).tk, .bool (m).rd] _ Try.underlying35 rfl (by kernel_rfl) HRq.out ?_)
              | (go_at_call 18; (with_reducible refine (HUm.out _ HB.out).mono ?_); rintro e w7 ⟨rfl, hb7⟩; have HB7 := Lib.hid (HB.out.trans (hb7.mono hbz)); have HO7 := Lib.hid (own_kept HO.out hb7); have y0 : w7.cell? ⟨b, o + k * 10, none⟩ = some (.string m.nm) := (hb7.cell (p := ⟨b, o + k * 10, none⟩) hb).trans HC0.out; have hly := Nat.lt_of_lt_of_le hb hb7.size; clear hb7))
            have hbz7 := HB7.out.size
            clear c1 c9
            go_wp2_with (at_builtin; refine wpList_append_src rfl (.tmp 38) (.tmp 44) 27 rfl w.heap.size 9 i0 _ 1 16 Try.underlying27 Hi.out Hz0.out Hz1.out Hz2.out rfl (by decide) _ Q.length (Q.flatMap scs) rfl (HO7.out.alloc _) (some ⟨w7.heap.size, 0, none⟩) 1 1 (scs m.nm) rfl rfl (fun q e => by injection e with e; rw [← e]; exact news_at _ _ _) (fun e => by cases e) (scs_one m.nm) (by unfold maxLen; omega) (by omega) (by simp; omega) ?_; intro v6 w6 hown6 hgrow6; obtain ⟨a6, k6, rfl⟩ := own_sl hown6; have HB6 := Lib.hid (own_below (HO7.out.alloc _) (HB7.out.alloc hbz7 _) (by simp; omega) hgrow6); have HO6 := Lib.hid hown6; clear hown6 hgrow6)
            go_roundw
            case rel =>
              refine ⟨k + 1, Q ++ [m.nm], by omega, by go_num, HNx.out, by rw [List.length_append]; show Q.length + 1 ≤ _; omega, ?_, HB6.out⟩
              rw [List.length_append, List.flatMap_append]
              have h9 := HO6.out
              simpa using h9
            case measure => simp [intOf]; omega
          · have HNx := Lib.hid (show Q = idleL (ms.take (k + 1)) bs most by rw [hnx, decide_eq_false h2, if_neg (by decide), List.append_nil])
            clear hnx
            go_wp2_with (first
              | ((with_reducible refine at_load (ty := 35) ?_); refine load_cells rfl 35 (.tmp 31) rfl b (o + k * 10) rfl [.string (m).nm, .string (m).gp, .int .i64 (m).r0, .int .i64 (m).r1, .int .i64 (m).r2, .int .i64 (m).r3, .int .i64 (m).r4, .slice (m).la (m).labs.length (m).lk, .slice (m).ta (m).tnts.length (m).tk, .bool (m).rd] _ Try.underlying35 rfl (by kernel_rfl) HRq.out ?_)
              | (go_at_call 18; (with_reducible refine (HUm.out _ HB.out).mono ?_); rintro e w7 ⟨rfl, hb7⟩; have HB7 := Lib.hid (HB.out.trans (hb7.mono hbz)); have HO7 := Lib.hid (own_kept HO.out hb7); clear hb7))
            go_roundw
            case rel => exact ⟨k + 1, Q, by omega, by go_num, HNx.out, by omega, HO7.out, HB7.out⟩
            case measure => simp [intOf]; omega
    · obtain rfl : k = n := by omega
      have HLe := Lib.hid (show Q = idleL ms bs most by rw [hE, List.take_of_length_le (by rw [Hn.out]; exact Nat.le_refl _)])
      clear hE hO hB
      go_wp2
      refine bodyPost_ret (v := .slice ao Q.length ko) (by simp [results, Try.results21, go_sem]) rfl ⟨⟨_, rfl, by rw [← HLe.out]; exact HO.out⟩, HB.out⟩
set_option maxRecDepth 100000 in
set_option maxHeartbeats 8000000 in
theorem rempty_any (a c : Option Addr) (ka kc : Nat) (ms : List Mac) (bs : List Bd) (w : World) (hF : MacL w a ms) (hG : BndL w c bs) (hl : ms.length ≤ 1000000) (hl2 : bs.length ≤ 1000000) (hnn : ∀ m ∈ ms, ¬ m.nm = emp) :
    Calls Try.prog 23 #[.slice a ms.length ka, .slice c bs.length kc] w (GivesT w (emptyL ms bs)) := by
  obtain ⟨N, hN⟩ : ∃ N, bs.length = N := ⟨_, rfl⟩
  obtain ⟨n, hn⟩ : ∃ n, ms.length = n := ⟨_, rfl⟩
  have HMv := Lib.hid (show ∀ (nm : ByteArray) V, ¬ nm = emp → Below w.heap.size w V → Calls Try.prog 17 #[.slice c N kc, .string nm] V fun e w' => (∃ am km, e = .returned (.slice am (movL bs nm).length km)) ∧ Below V.heap.size V w' from fun nm V hne hV => by
    have h9 := rmovable_any c kc bs nm V (hG.mono hV) hl2 hne
    rw [hN] at h9
    refine h9.mono fun e w' h => ?_
    obtain ⟨⟨v, rfl, hv⟩, hb⟩ := h
    obtain ⟨am, km, rfl⟩ := own_sl hv
    exact ⟨⟨am, km, rfl⟩, hb⟩)
  have HNn := Lib.hid hnn
  have HF := Lib.hid hF
  have Hn := Lib.hid hn
  rw [hn] at hl
  rw [hn, hN]
  clear hF hG hN hn hl2 hnn
  obtain ⟨i0, hi, hz0, hz1, hz2⟩ := info_parts Try.info9
  have Hi := Lib.hid hi
  have Hz0 := Lib.hid hz0
  have Hz1 := Lib.hid hz1
  have Hz2 := Lib.hid hz2
  clear hi hz0 hz1 hz2
  go_enter Try.func23, Try.ntmps23
  go_wp2
  go_loopw [5, 6] (fun vo vi wr => ∃ (k : Nat) (Q : List ByteArray), k ≤ n ∧ vi = .int .i64 k ∧ Q = emptyL (ms.take k) bs ∧ Q.length ≤ k ∧ wr.ownsRow w.heap.size 9 1 vo Q.length (Q.flatMap scs) ∧ Below w.heap.size w wr) (fun _ vi _ => n - (intOf vi).toNat)
  case atStart => exact ⟨0, [], Nat.zero_le _, rfl, rfl, Nat.le_refl _, World.ownsRow_nil _ _ _ _, Below.refl _ _⟩
  case round =>
    obtain ⟨k, Q, hk, rfl, hE, hLk, hO, hB⟩ := hrel
    have HE := Lib.hid hE
    have HO := Lib.hid hO
    have HB := Lib.hid hB
    have hbz := hB.size
    obtain ⟨ao, ko, rfl⟩ := own_sl hO
    by_cases hlt : k < n
    · obtain ⟨m, hm⟩ := mem_at (l := ms) (k := k) (by rw [Hn.out]; exact hlt)
      obtain ⟨b, o, rfl, hb, hc⟩ := (HF.out.mono hB) (by rw [Hn.out]; omega)
      have HC0 := Lib.hid (show wr.cell? ⟨b, o + k * 10, none⟩ = some (.string m.nm) from hc k m hm 0 (by decide))
      have c0 : wr.cell? ⟨b, o + k * 10, none⟩ = some (.string m.nm) := HC0.out
      have c1 : wr.cell? ⟨b, o + k * 10 + 1, none⟩ = some (.string m.gp) := hc k m hm 1 (by decide)
      have hnx : emptyL (ms.take (k + 1)) bs = Q ++ (if emptyQ bs m = true then [m.nm] else []) := by rw [hE]; exact names_next hm _
      have HUm := Lib.hid (fun V => HMv.out m.nm V (HNn.out m (List.mem_of_getElem? hm)))
      obtain ⟨gp, hgp⟩ : ∃ g, m.gp = g := ⟨_, rfl⟩
      obtain ⟨u, hu⟩ : ∃ g, (movL bs m.nm).length = g := ⟨_, rfl⟩
      have hi : emptyQ bs m = (!decide (gp = emp) && decide (u = 0)) := by unfold emptyQ; rw [hgp, hu]
      rw [hi] at hnx
      rw [hgp] at c1
      rw [hu] at HUm
      clear hE hO hB hc hm hgp hu hi
      by_cases h1 : gp = emp
      · have q1 := (emp_yes h1).2.2
        have HNx := Lib.hid (show Q = emptyL (ms.take (k + 1)) bs by rw [hnx, decide_eq_true h1, if_neg (by simp), List.append_nil])
        clear hnx h1
        go_wp2
        go_roundw
        case rel => exact ⟨k + 1, Q, by omega, by go_num, HNx.out, by omega, HO.out, HB.out⟩
        case measure => simp [intOf]; omega
      · have q1 := (emp_no h1).2.2
        rw [decide_eq_false h1] at hnx
        clear h1
        by_cases h2 : u = 0
        · subst h2
          have HNx := Lib.hid (show Q ++ [m.nm] = emptyL (ms.take (k + 1)) bs by rw [hnx, if_pos (by decide)])
          clear hnx
          go_upto_region 6 with (go_at_call 17; (with_reducible refine (HUm.out _ HB.out).mono ?_); rintro e w7 ⟨⟨am, km, rfl⟩, hb7⟩; have HB7 := Lib.hid (HB.out.trans (hb7.mono hbz)); have HO7 := Lib.hid (own_kept HO.out hb7); have y0 : w7.cell? ⟨b, o + k * 10, none⟩ = some (.string m.nm) := (hb7.cell (p := ⟨b, o + k * 10, none⟩) hb).trans HC0.out; have hly := Nat.lt_of_lt_of_le hb hb7.size; clear hb7)
          have hbz7 := HB7.out.size
          clear c0 c1
          go_wp2_with (at_builtin; refine wpList_append_src rfl (.tmp 30) (.tmp 36) 27 rfl w.heap.size 9 i0 _ 1 16 Try.underlying27 Hi.out Hz0.out Hz1.out Hz2.out rfl (by decide) _ Q.length (Q.flatMap scs) rfl (HO7.out.alloc _) (some ⟨w7.heap.size, 0, none⟩) 1 1 (scs m.nm) rfl rfl (fun q e => by injection e with e; rw [← e]; exact news_at _ _ _) (fun e => by cases e) (scs_one m.nm) (by unfold maxLen; omega) (by omega) (by simp; omega) ?_; intro v6 w6 hown6 hgrow6; obtain ⟨a6, k6, rfl⟩ := own_sl hown6; have HB6 := Lib.hid (own_below (HO7.out.alloc _) (HB7.out.alloc hbz7 _) (by simp; omega) hgrow6); have HO6 := Lib.hid hown6; clear hown6 hgrow6)
          go_roundw
          case rel =>
            refine ⟨k + 1, Q ++ [m.nm], by omega, by go_num, HNx.out, by rw [List.length_append]; show Q.length + 1 ≤ _; omega, ?_, HB6.out⟩
            rw [List.length_append, List.flatMap_append]
            have h9 := HO6.out
            simpa using h9
          case measure => simp [intOf]; omega
        · have q2 : ((u : Int) == 0) = false := by rw [beq_eq_false_iff_ne]; omega
          have HNx := Lib.hid (show Q = emptyL (ms.take (k + 1)) bs by rw [hnx, decide_eq_false h2, if_neg (by decide), List.append_nil])
          clear hnx h2
          go_wp2_with (go_at_call 17; (with_reducible refine (HUm.out _ HB.out).mono ?_); rintro e w7 ⟨⟨am, km, rfl⟩, hb7⟩; have HB7 := Lib.hid (HB.out.trans (hb7.mono hbz)); have HO7 := Lib.hid (own_kept HO.out hb7); clear hb7)
          go_roundw
          case rel => exact ⟨k + 1, Q, by omega, by go_num, HNx.out, by omega, HO7.out, HB7.out⟩
          case measure => simp [intOf]; omega
    · obtain rfl : k = n := by omega
      have HLe := Lib.hid (show Q = emptyL ms bs by rw [hE, List.take_of_length_le (by rw [Hn.out]; exact Nat.le_refl _)])
      clear hE hO hB
      go_wp2
      refine bodyPost_ret (v := .slice ao Q.length ko) (by simp [results, Try.results23, go_sem]) rfl ⟨⟨_, rfl, by rw [← HLe.out]; exact HO.out⟩, HB.out⟩
end Go.Proofs.Ytkmhicoimgpdlaa
