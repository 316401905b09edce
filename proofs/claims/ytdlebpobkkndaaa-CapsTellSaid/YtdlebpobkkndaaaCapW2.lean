/-
  The contract of the document's own answer for Room.
-/
import Derived.Test.YtdlebpobkkndaaaCapW
import Derived.Deep.Cut
namespace Go.Proofs.Ytdlebpobkkndaaa
open Go.RowKit
set_option linter.unusedVariables false
namespace capsTell
theorem Try.info30 : (Try.prog.info? 30).map (fun i => (i.zero, i.size, i.bytes)) = some (some (.agg #[.string ⟨#[]⟩, .string ⟨#[]⟩, .int .i64 0, .int .i64 0, .int .i64 0, .int .i64 0, .int .i64 0, .slice none 0 0, .slice none 0 0, .bool false]), 10, 128) := by kernel_rfl
theorem more_zero (ms : List Mac) (like : Mac) : more ms like 0 = ms := by simp [more]
theorem room_ins {c0 c1 c2 : Int} (h0 : 0 ≤ c0) (h1 : 0 ≤ c1) (h2 : 0 ≤ c2) {ms : List Mac} {like : Mac} (hl : MacsOk [like]) {j : Nat} (hk : ((j + 1 : Nat) : Int) ≤ roomV c0 c1 c2 ms like) : withinB c0 c1 c2 (more ms like (j + 1)) = true := by
  cases hw : withinB c0 c1 c2 ms
  · unfold roomV at hk
    rw [hw] at hk
    simp at hk
    omega
  · obtain ⟨r0, r1, r2⟩ := within_room hw
    unfold withinB at hw ⊢
    simp only [Bool.and_eq_true] at hw ⊢
    have hs : ((j + 1 : Nat) : Int) ≤ stepsTo c0 c1 c2 ms like 3 := by
      unfold roomV at hk
      rw [if_pos (by unfold withinB; simp [hw])] at hk
      split at hk <;> omega
    have e3 : stepsTo c0 c1 c2 ms like 3 = stepQ 2 c2 ms like (stepQ 1 c1 ms like (stepQ 0 c0 ms like (200 - (ms.length : Int)))) := rfl
    rw [e3] at hs
    have s2 := step_le 2 c2 ms like (stepQ 1 c1 ms like (stepQ 0 c0 ms like (200 - (ms.length : Int))))
    have s1 := step_le 1 c1 ms like (stepQ 0 c0 ms like (200 - (ms.length : Int)))
    exact ⟨⟨(keep_more hl (j + 1) h0 hw.1.1).2 (fits_of hl (n := 200 - (ms.length : Int)) (.inl (by omega)) r0), (keep_more hl (j + 1) h1 hw.1.2).2 (fits_of hl (n := stepQ 0 c0 ms like (200 - (ms.length : Int))) (.inl (by omega)) r1)⟩, (keep_more hl (j + 1) h2 hw.2).2 (fits_of hl (.inl hs) r2)⟩

set_option maxRecDepth 100000 in
set_option maxHeartbeats 8000000 in
theorem refroom_any (c0 c1 c2 : Int) (hc : rightC c0 c1 c2 = true) (c : Option Addr) (kc : Nat) (ms : List Mac) (like : Mac) (w : World) (hn : NilOk c ms.length kc) (hF : MacsAt w c ms) (hok : MacsOk ms) (hlk : MacsOk [like]) (hm : ms.length ≤ 30) :
    Calls Try.prog 13 #[.agg #[.int .i64 c0, .int .i64 c1, .int .i64 c2], .slice c ms.length kc, .agg #[.string (like).nm, .string (like).gp, .int .i64 (like).r0, .int .i64 (like).r1, .int .i64 (like).r2, .int .i64 (like).r3, .int .i64 (like).r4, .slice (like).la (like).labs.length (like).lk, .slice (like).ta (like).tnts.length (like).tk, .bool (like).rd]] w fun e w' => e = .returned (.int .i64 (roomV c0 c1 c2 ms like)) ∧ Below w.heap.size w w' := by
  have hc9 : (0 ≤ c0 ∧ c0 ≤ 288230376151711744) ∧ (0 ≤ c1 ∧ c1 ≤ 288230376151711744) ∧ (0 ≤ c2 ∧ c2 ≤ 288230376151711744) := by
    have hcc := hc
    unfold rightC capB at hcc
    simp only [Bool.and_eq_true, decide_eq_true_eq] at hcc
    exact ⟨hcc.1.1, hcc.1.2, hcc.2⟩
  have hbd := room_bounds c0 c1 c2 ms like hm
  have hins := fun (j : Nat) hk => room_ins hc9.1.1 hc9.2.1.1 hc9.2.2.1 hlk (ms := ms) (j := j) hk
  have hout := fun (k : Nat) hk => room_out hc9.1.1 hc9.2.1.1 hc9.2.2.1 hlk hm (k := k) hk
  obtain ⟨K, eK⟩ : ∃ K : Nat, roomV c0 c1 c2 ms like = (K : Int) := ⟨(roomV c0 c1 c2 ms like).toNat, by omega⟩
  rw [eK] at hbd ⊢
  simp only [eK] at hins hout
  have Hins := Lib.hid hins
  have Hout := Lib.hid (hout K rfl)
  have hK : K ≤ 200 - ms.length := by omega
  obtain ⟨n, hln⟩ : ∃ n, ms.length = n := ⟨_, rfl⟩
  have Hln := Lib.hid hln
  have HF := Lib.hid hF
  have Hok := Lib.hid hok
  have Hlk := Lib.hid hlk
  have Hcc := Lib.hid hc
  rw [hln] at hn hm hbd hK ⊢
  have Hn := Lib.hid hn
  have hc3 : 0 + n ≤ maxLen := by unfold maxLen; omega
  have hc4 : (0 + n) * 128 ≤ 140737488355328 := by omega
  clear hF hok hlk hc hc9 hbd hins hout eK hn hln
  obtain ⟨W, hW⟩ : ∃ W, W = (w.alloc (.cells #[.int .i64 c0, .int .i64 c1, .int .i64 c2] 23)).alloc (.cells #[.string like.nm, .string like.gp, .int .i64 like.r0, .int .i64 like.r1, .int .i64 like.r2, .int .i64 like.r3, .int .i64 like.r4, .slice like.la like.labs.length like.lk, .slice like.ta like.tnts.length like.tk, .bool like.rd] 30) := ⟨_, rfl⟩
  have HBW := Lib.hid (show Below w.heap.size w W by rw [hW]; (repeat' (first | with_reducible exact Below.refl _ _ | with_reducible assumption | with_reducible refine Below.drew ?_ | with_reducible refine below_drewN' ?_ _ | with_reducible refine Below.alloc ?_ ?_ _ | with_reducible refine Below.setCell ?_ ?_ _ | with_reducible refine below_step (by assumption) ?_ ?_ | omega | (simp; done) | (simp; omega))))
  have hWz : w.heap.size + 1 < W.heap.size := by rw [hW]; simp
  have hWz0 : w.heap.size < W.heap.size := by omega
  have x0 : W.cell? ⟨w.heap.size, 0, none⟩ = some (.int .i64 c0) := by rw [hW]; simp [go_sem]
  have x1 : W.cell? ⟨w.heap.size, 1, none⟩ = some (.int .i64 c1) := by rw [hW]; simp [go_sem]
  have x2 : W.cell? ⟨w.heap.size, 2, none⟩ = some (.int .i64 c2) := by rw [hW]; simp [go_sem]
  have y0 : W.cell? ⟨w.heap.size + 1, 0, none⟩ = some (.string like.nm) := by rw [hW]; simp [go_sem]
  have y1 : W.cell? ⟨w.heap.size + 1, 1, none⟩ = some (.string like.gp) := by rw [hW]; simp [go_sem]
  have y2 : W.cell? ⟨w.heap.size + 1, 2, none⟩ = some (.int .i64 like.r0) := by rw [hW]; simp [go_sem]
  have y3 : W.cell? ⟨w.heap.size + 1, 3, none⟩ = some (.int .i64 like.r1) := by rw [hW]; simp [go_sem]
  have y4 : W.cell? ⟨w.heap.size + 1, 4, none⟩ = some (.int .i64 like.r2) := by rw [hW]; simp [go_sem]
  have y5 : W.cell? ⟨w.heap.size + 1, 5, none⟩ = some (.int .i64 like.r3) := by rw [hW]; simp [go_sem]
  have y6 : W.cell? ⟨w.heap.size + 1, 6, none⟩ = some (.int .i64 like.r4) := by rw [hW]; simp [go_sem]
  have y7 : W.cell? ⟨w.heap.size + 1, 7, none⟩ = some (.slice like.la like.labs.length like.lk) := by rw [hW]; simp [go_sem]
  have y8 : W.cell? ⟨w.heap.size + 1, 8, none⟩ = some (.slice like.ta like.tnts.length like.tk) := by rw [hW]; simp [go_sem]
  have y9 : W.cell? ⟨w.heap.size + 1, 9, none⟩ = some (.bool like.rd) := by rw [hW]; simp [go_sem]
  have HFW := Lib.hid (HF.out.mono HBW.out)
  obtain ⟨i0, hi, hz0, hz1, hz2⟩ := info_parts Try.info30
  have Hi := Lib.hid hi
  have Hz0 := Lib.hid hz0
  have Hz1 := Lib.hid hz1
  have Hz2 := Lib.hid hz2
  clear hi hz0 hz1 hz2
  go_enter Try.func13, Try.ntmps13
  go_upto_region 2 with (fail)
  rw [← hW]
  clear hW
  go_wp2_with (at_builtin; refine wpList_append_src rfl (.tmp 9) (.tmp 10) 24 rfl W.heap.size 30 i0 _ 10 128 Try.underlying24 Hi.out Hz0.out Hz1.out Hz2.out rfl (by decide) _ 0 [] rfl (World.ownsRow_nil _ _ _ _) c n kc (ms.flatMap mcs) rfl (by rw [rows_length mcs 10 mcs_len ms, Hln.out]) (RowsAt.news mcs_len HFW.out) Hn.out (flat_ones mcs_one ms) hc3 hc4 (Nat.le_refl _) ?_; intro v1 w3 hown1 hgrow1; rw [Nat.zero_add, List.nil_append] at hown1; have HB3 := Lib.hid (own_below (World.ownsRow_nil _ _ _ _ : W.ownsRow W.heap.size 30 10 (.slice none 0 0) 0 []) (Below.refl _ W) (Nat.le_refl _) hgrow1); have HO3 := Lib.hid hown1; have hz3 := HB3.out.size; clear hown1 hgrow1)
  go_loopw [7, 8] (fun v i wr => ∃ k : Nat, k ≤ K ∧ i = .int .i64 k ∧ wr.ownsRow W.heap.size 30 10 v (more ms like k).length ((more ms like k).flatMap mcs) ∧ Below W.heap.size W wr) (fun _ i _ => K - (intOf i).toNat)
  case atStart => exact ⟨0, by omega, rfl, by rw [more_zero, Hln.out]; exact HO3.out, HB3.out⟩
  case round =>
    obtain ⟨k, hk, rfl, hown, hB⟩ := hrel
    obtain ⟨hcB, hfB⟩ := bcell hB
    have hbz := hB.size
    have Hown := Lib.hid hown
    have HB := Lib.hid hB
    clear hown
    have HFr := Lib.hid (HFW.out.mono HB.out)
    obtain ⟨m, hm⟩ : ∃ m, (more ms like k).length = m := ⟨_, rfl⟩
    obtain ⟨m1, hm1⟩ : ∃ m1, (more ms like (k + 1)).length = m1 := ⟨_, rfl⟩
    have q1 : m = n + k := by rw [← hm, more_len, Hln.out]
    have q2 : m1 = m + 1 := by rw [← hm1, more_len, q1, Hln.out]; omega
    have Hrow := Lib.hid (show (more ms like k).flatMap mcs ++ mcs like = (more ms like (k + 1)).flatMap mcs by rw [more_succ]; simp)
    have Hlen := Lib.hid (show m + 1 = m1 by rw [q2])
    have Hm1 := Lib.hid hm1
    have W3 := fun (s2 : Option Addr) (k2 : Nat) (W : World) (h : MacsAt W s2 (more ms like (k + 1))) => refwithin_any c0 c1 c2 Hcc.out s2 k2 (more ms like (k + 1)) W h (more_ok Hok.out Hlk.out (k + 1)) (by rw [hm1]; omega)
    simp only [hm1] at W3
    have hown2 := Hown.out
    rw [hm] at hown2
    clear Hown
    have Hown := Lib.hid hown2
    clear hown2
    have hq3 : m + 1 ≤ maxLen := by unfold maxLen; omega
    have hq4 : (m + 1) * 128 ≤ 140737488355328 := by omega
    have zr0 : w.heap.size < wr.heap.size := by omega
    have zr1 : w.heap.size + 1 < wr.heap.size := by omega
    have yr0 : w.heap.size ≤ wr.heap.size := by omega
    have yr1 : w.heap.size + 1 ≤ wr.heap.size := by omega
    by_cases hlt : k < K
    · have hw3 : withinB c0 c1 c2 (more ms like (k + 1)) = true := Hins.out k (by omega)
      have g4 : decide (200 < (m1 : Int)) = false := decide_eq_false (by omega)
      rw [hw3] at W3
      have HW3 := Lib.hid W3
      clear W3 hw3 hc3 hc4 hm hm1 q1 q2
      go_wp2_with (first
        | (at_builtin; refine wpList_append_own _ rfl (.tmp 14) (.tmp 16) 24 rfl W.heap.size 30 i0 _ 10 128 Try.underlying24 Hi.out Hz0.out Hz1.out Hz2.out rfl (by decide) _ m ((more ms like k).flatMap mcs) rfl (Hown.out.alloc _) ⟨wr.heap.size, 0, none⟩ 1 1 (mcs like) rfl rfl (news_at _ _ _) (mcs_one _) hq3 hq4 (le_alloc HB.out.size _) ?_; intro v6 w6 hown6 hgrow6 _; have HB6 := Lib.hid (own_below (Hown.out.alloc _) (HB.out.alloc HB.out.size _) (le_alloc HB.out.size _) hgrow6); rw [Hrow.out, Hlen.out, ← Hm1.out] at hown6; obtain ⟨s2, k2, rfl, hn2, hI2⟩ := IsL.of_own (l := more ms like (k + 1)) mcs_len (by decide) hown6; rw [Hm1.out] at hown6; have HO6 := Lib.hid hown6; have HI2 := Lib.hid hI2; have hz6 := HB6.out.size; obtain ⟨hc6, hf6⟩ := bcell HB6.out; have z6_0 : w.heap.size < w6.heap.size := (by omega); have y6_0 : w.heap.size ≤ w6.heap.size := (by omega); have z6_1 : w.heap.size + 1 < w6.heap.size := (by omega); have y6_1 : w.heap.size + 1 ≤ w6.heap.size := (by omega); rw [Hm1.out]; clear hown6 hgrow6 hI2 hn2)
        | (go_at_call 11; (with_reducible refine (HW3.out s2 k2 w6 HI2.out).mono ?_); rintro e w7 ⟨rfl, hb7⟩; have hz7 := hb7.size; have HB7 := Lib.hid (HB6.out.trans (hb7.mono HB6.out.size)); have HO7 := Lib.hid (own_kept HO6.out hb7); have z7_0 : w.heap.size < w7.heap.size := (by omega); have y7_0 : w.heap.size ≤ w7.heap.size := (by omega); have z7_1 : w.heap.size + 1 < w7.heap.size := (by omega); have y7_1 : w.heap.size + 1 ≤ w7.heap.size := (by omega)))
      go_roundw
      case rel => exact ⟨k + 1, by omega, by go_num, by rw [Hm1.out]; exact HO7.out, HB7.out⟩
      case measure => simp [intOf]; omega
    · obtain rfl : k = K := by omega
      have hout := Hout.out
      rw [Hln.out] at hout
      by_cases hov : 200 < m1
      · have g4 : decide (200 < (m1 : Int)) = true := decide_eq_true (by omega)
        clear W3 hout hc3 hc4 hm hm1 q1 q2
        go_wp2_with (at_builtin; refine wpList_append_own _ rfl (.tmp 14) (.tmp 16) 24 rfl W.heap.size 30 i0 _ 10 128 Try.underlying24 Hi.out Hz0.out Hz1.out Hz2.out rfl (by decide) _ m ((more ms like k).flatMap mcs) rfl (Hown.out.alloc _) ⟨wr.heap.size, 0, none⟩ 1 1 (mcs like) rfl rfl (news_at _ _ _) (mcs_one _) hq3 hq4 (le_alloc HB.out.size _) ?_; intro v6 w6 hown6 hgrow6 _; have HB6 := Lib.hid (own_below (Hown.out.alloc _) (HB.out.alloc HB.out.size _) (le_alloc HB.out.size _) hgrow6); rw [Hrow.out, Hlen.out, ← Hm1.out] at hown6; obtain ⟨s2, k2, rfl, hn2, hI2⟩ := IsL.of_own (l := more ms like (k + 1)) mcs_len (by decide) hown6; have hz6 := HB6.out.size; obtain ⟨hc6, hf6⟩ := bcell HB6.out; have z6_0 : w.heap.size < w6.heap.size := (by omega); have y6_0 : w.heap.size ≤ w6.heap.size := (by omega); have z6_1 : w.heap.size + 1 < w6.heap.size := (by omega); have y6_1 : w.heap.size + 1 ≤ w6.heap.size := (by omega); rw [Hm1.out]; clear hown6 hgrow6 hI2 hn2)
        go_ret
        exact ⟨rfl, HBW.out.trans (HB6.out.mono (Nat.le_of_lt hWz0))⟩
      · have g4 : decide (200 < (m1 : Int)) = false := decide_eq_false (by omega)
        have hw3 : withinB c0 c1 c2 (more ms like (k + 1)) = false := by
          rcases hout with h | h
          · omega
          · exact h
        rw [hw3] at W3
        have HW3 := Lib.hid W3
        clear W3 hout hw3 hc3 hc4 hm hm1 q1 q2
        go_wp2_with (first
          | (at_builtin; refine wpList_append_own _ rfl (.tmp 14) (.tmp 16) 24 rfl W.heap.size 30 i0 _ 10 128 Try.underlying24 Hi.out Hz0.out Hz1.out Hz2.out rfl (by decide) _ m ((more ms like k).flatMap mcs) rfl (Hown.out.alloc _) ⟨wr.heap.size, 0, none⟩ 1 1 (mcs like) rfl rfl (news_at _ _ _) (mcs_one _) hq3 hq4 (le_alloc HB.out.size _) ?_; intro v6 w6 hown6 hgrow6 _; have HB6 := Lib.hid (own_below (Hown.out.alloc _) (HB.out.alloc HB.out.size _) (le_alloc HB.out.size _) hgrow6); rw [Hrow.out, Hlen.out, ← Hm1.out] at hown6; obtain ⟨s2, k2, rfl, hn2, hI2⟩ := IsL.of_own (l := more ms like (k + 1)) mcs_len (by decide) hown6; have HI2 := Lib.hid hI2; have hz6 := HB6.out.size; obtain ⟨hc6, hf6⟩ := bcell HB6.out; have z6_0 : w.heap.size < w6.heap.size := (by omega); have y6_0 : w.heap.size ≤ w6.heap.size := (by omega); have z6_1 : w.heap.size + 1 < w6.heap.size := (by omega); have y6_1 : w.heap.size + 1 ≤ w6.heap.size := (by omega); rw [Hm1.out]; clear hown6 hgrow6 hI2 hn2)
          | (go_at_call 11; (with_reducible refine (HW3.out s2 k2 w6 HI2.out).mono ?_); rintro e w7 ⟨rfl, hb7⟩; have hz7 := hb7.size; have HB7 := Lib.hid (HB6.out.trans (hb7.mono HB6.out.size)); have z7_0 : w.heap.size < w7.heap.size := (by omega); have y7_0 : w.heap.size ≤ w7.heap.size := (by omega); have z7_1 : w.heap.size + 1 < w7.heap.size := (by omega); have y7_1 : w.heap.size + 1 ≤ w7.heap.size := (by omega)))
        go_ret
        exact ⟨rfl, HBW.out.trans (HB7.out.mono (Nat.le_of_lt hWz0))⟩
end capsTell
end Go.Proofs.Ytdlebpobkkndaaa
