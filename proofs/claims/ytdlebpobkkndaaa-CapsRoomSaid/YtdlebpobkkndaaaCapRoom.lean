/-
  CapsRoom: with as many machines more as there is room for it is within its caps, if it was; with one more it is not, or has too many. For any caps, any machines and any machine; no condition.
-/
import Derived.Test.YtdlebpobkkndaaaCapRP
namespace Go.Proofs.Ytdlebpobkkndaaa
open Go.ChangeShapes Go.WideShapes Go.ChangeAt Go.RowKit
set_option linter.unusedVariables false
theorem Try.info30 : (Try.prog.info? 30).map (fun i => (i.zero, i.size, i.bytes)) = some (some (.agg #[.string ⟨#[]⟩, .string ⟨#[]⟩, .int .i64 0, .int .i64 0, .int .i64 0, .int .i64 0, .int .i64 0, .slice none 0 0, .slice none 0 0, .bool false]), 10, 128) := by kernel_rfl
namespace capsRoom

theorem more_zero (ms : List Mac) (like : Mac) : more ms like 0 = ms := by simp [more]

set_option maxRecDepth 100000 in
set_option maxHeartbeats 4000000 in
theorem walk_no (c0 c1 c2 : Int) (c : Option Addr) (kc : Nat) (ms : List Mac) (like : Mac) (w : World) (hF : MacsAt w c ms) (hm : ms.length ≤ maxLen) (hA : ∀ x ∈ ms, MacAt w x) (hL : MacAt w like) (hr : rightAll c0 c1 c2 ms like = false) :
    Calls Try.prog 4 #[.agg #[.int .i64 c0, .int .i64 c1, .int .i64 c2], .slice c ms.length kc, .agg #[.string (like).nm, .string (like).gp, .int .i64 (like).r0, .int .i64 (like).r1, .int .i64 (like).r2, .int .i64 (like).r3, .int .i64 (like).r4, .slice (like).la (like).labs.length (like).lk, .slice (like).ta (like).tnts.length (like).tk, .bool (like).rd]] w fun e w' => e = .returned (.bool true) ∧ Below w.heap.size w w' := by
  have Hr := Lib.hid hr
  clear hr
  go_enter Try.func4, Try.ntmps4
  go_wp2_with (first | (go_at_call 8; (with_reducible refine (rightall_any c0 c1 c2 c kc ms like _ (hF.mono (by (repeat' (first | with_reducible exact Below.refl _ _ | with_reducible assumption | with_reducible refine Below.drew ?_ | with_reducible refine below_drewN' ?_ _ | with_reducible refine Below.alloc ?_ ?_ _ | with_reducible refine Below.setCell ?_ ?_ _ | with_reducible refine below_step (by assumption) ?_ ?_ | omega | (simp; done) | (simp; omega))))) hm (fun x hx => (hA x hx).mono (by (repeat' (first | with_reducible exact Below.refl _ _ | with_reducible assumption | with_reducible refine Below.drew ?_ | with_reducible refine below_drewN' ?_ _ | with_reducible refine Below.alloc ?_ ?_ _ | with_reducible refine Below.setCell ?_ ?_ _ | with_reducible refine below_step (by assumption) ?_ ?_ | omega | (simp; done) | (simp; omega))))) (hL.mono (by (repeat' (first | with_reducible exact Below.refl _ _ | with_reducible assumption | with_reducible refine Below.drew ?_ | with_reducible refine below_drewN' ?_ _ | with_reducible refine Below.alloc ?_ ?_ _ | with_reducible refine Below.setCell ?_ ?_ _ | with_reducible refine below_step (by assumption) ?_ ?_ | omega | (simp; done) | (simp; omega)))))).mono ?_); rw [Hr.out]; rintro e w1 ⟨rfl, hb1⟩; have hz1 := hb1.size; (try simp at hz1)) | (go_at_call 9; (with_reducible refine (known_any _).mono ?_); rintro e w2 ⟨rfl, hb2⟩; have hz2 := hb2.size))
  go_ret
  exact ⟨rfl, by (repeat' (first | with_reducible exact Below.refl _ _ | with_reducible assumption | with_reducible refine Below.drew ?_ | with_reducible refine below_drewN' ?_ _ | with_reducible refine Below.alloc ?_ ?_ _ | with_reducible refine Below.setCell ?_ ?_ _ | with_reducible refine below_step (by assumption) ?_ ?_ | omega | (simp; done) | (simp; omega)))⟩

set_option maxRecDepth 100000 in
set_option maxHeartbeats 4000000 in
theorem walk_yes (c0 c1 c2 : Int) (c : Option Addr) (kc : Nat) (ms : List Mac) (like : Mac) (w : World) (hn : NilOk c ms.length kc) (hF : MacsAt w c ms) (hA : ∀ x ∈ ms, MacAt w x) (hL : MacAt w like) (hr : rightAll c0 c1 c2 ms like = true) :
    Calls Try.prog 4 #[.agg #[.int .i64 c0, .int .i64 c1, .int .i64 c2], .slice c ms.length kc, .agg #[.string (like).nm, .string (like).gp, .int .i64 (like).r0, .int .i64 (like).r1, .int .i64 (like).r2, .int .i64 (like).r3, .int .i64 (like).r4, .slice (like).la (like).labs.length (like).lk, .slice (like).ta (like).tnts.length (like).tk, .bool (like).rd]] w fun e w' => e = .returned (.bool true) ∧ Below w.heap.size w w' := by
  obtain ⟨hm30, hcc, hlk, hok⟩ := rightAll_ok hr
  have hc9 : (0 ≤ c0 ∧ c0 ≤ 288230376151711744) ∧ (0 ≤ c1 ∧ c1 ≤ 288230376151711744) ∧ (0 ≤ c2 ∧ c2 ≤ 288230376151711744) := by
    unfold rightC capB at hcc
    simp only [Bool.and_eq_true, decide_eq_true_eq] at hcc
    exact ⟨hcc.1.1, hcc.1.2, hcc.2⟩
  have R0 := fun n : Held w => rightall_any c0 c1 c2 c kc ms like n.w (hF.mono n.below) (by unfold maxLen; omega) (fun x hx => (hA x hx).mono n.below) (hL.mono n.below)
  rw [hr] at R0
  have A1 := fun n : Held w => roomc_any c0 c1 c2 hcc c kc ms like n.w (hF.mono n.below) hok hlk (by omega)
  have hbd := room_bounds c0 c1 c2 ms like hm30
  have hin := fun (hw : withinB c0 c1 c2 ms = true) (k : Nat) hk => room_in hc9.1.1 hc9.2.1.1 hc9.2.2.1 hlk hw (k := k) hk
  have hout := fun (k : Nat) hk => room_out hc9.1.1 hc9.2.1.1 hc9.2.2.1 hlk hm30 (k := k) hk
  obtain ⟨K, eK⟩ : ∃ K : Nat, roomV c0 c1 c2 ms like = (K : Int) := ⟨(roomV c0 c1 c2 ms like).toNat, by omega⟩
  rw [eK] at hbd
  simp only [eK] at A1 hin hout
  have Hin := Lib.hid (fun hw => hin hw K rfl)
  have Hout := Lib.hid (hout K rfl)
  have hK : K ≤ 200 - ms.length := by omega
  obtain ⟨n, hln⟩ : ∃ n, ms.length = n := ⟨_, rfl⟩
  have Hln := Lib.hid hln
  simp only [hln] at A1 R0
  have HR := Lib.hid R0
  have HA1 := Lib.hid A1
  have HF := Lib.hid hF
  have Hok := Lib.hid hok
  have Hlk := Lib.hid hlk
  have Hcc := Lib.hid hcc
  rw [hln] at hn hm30 hbd hK ⊢
  have Hn := Lib.hid hn
  have hc3 : 0 + n ≤ maxLen := by unfold maxLen; omega
  have hc4 : (0 + n) * 128 ≤ 140737488355328 := by omega
  have g1 : decide ((K : Int) < 0) = false := decide_eq_false (by omega)
  have g2 : decide (200 < (K : Int)) = false := decide_eq_false (by omega)
  clear hF hA hL hr hok hlk hcc hc9 R0 A1 hbd hin hout eK hn hln
  obtain ⟨i0, hi, hz0, hz1, hz2⟩ := info_parts Try.info30
  have Hi := Lib.hid hi
  have Hz0 := Lib.hid hz0
  have Hz1 := Lib.hid hz1
  have Hz2 := Lib.hid hz2
  clear hi hz0 hz1 hz2
  go_enter Try.func4, Try.ntmps4
  go_wp2_with (first
    | ((with_reducible refine (HR.out ⟨_, ?_⟩).mono ?_); rotate_left; (rintro e w1 ⟨rfl, hb1⟩; dsimp only at hb1; obtain ⟨hc1, hf1⟩ := bcell hb1; have hz1 := hb1.size; (try simp at hz1); have z1_0 : w.heap.size < w1.heap.size := (by omega); have y1_0 : w.heap.size ≤ w1.heap.size := (by omega); have z1_1 : w.heap.size + 1 < w1.heap.size := (by omega); have y1_1 : w.heap.size + 1 ≤ w1.heap.size := (by omega)); rotate_left; ((repeat' (first | with_reducible exact Below.refl _ _ | with_reducible assumption | with_reducible refine Below.drew ?_ | with_reducible refine below_drewN' ?_ _ | with_reducible refine Below.alloc ?_ ?_ _ | with_reducible refine Below.setCell ?_ ?_ _ | with_reducible refine below_step (by assumption) ?_ ?_ | omega | (simp; done) | (simp; omega)))))
    | ((with_reducible refine (HA1.out ⟨_, ?_⟩).mono ?_); rotate_left; (rintro e w2 ⟨rfl, hb2⟩; dsimp only at hb2; obtain ⟨hc2, hf2⟩ := bcell hb2; have hz2 := hb2.size; (try simp at hz2); have z2_0 : w.heap.size < w2.heap.size := (by omega); have y2_0 : w.heap.size ≤ w2.heap.size := (by omega); have z2_1 : w.heap.size + 1 < w2.heap.size := (by omega); have y2_1 : w.heap.size + 1 ≤ w2.heap.size := (by omega); have HB2 := Lib.hid (show Below w.heap.size w w2 by (repeat' (first | with_reducible exact Below.refl _ _ | with_reducible assumption | with_reducible refine Below.drew ?_ | with_reducible refine below_drewN' ?_ _ | with_reducible refine Below.alloc ?_ ?_ _ | with_reducible refine Below.setCell ?_ ?_ _ | with_reducible refine below_step (by assumption) ?_ ?_ | omega | (simp; done) | (simp; omega)))); have HF2 := Lib.hid (HF.out.mono HB2.out)); rotate_left; ((repeat' (first | with_reducible exact Below.refl _ _ | with_reducible assumption | with_reducible refine Below.drew ?_ | with_reducible refine below_drewN' ?_ _ | with_reducible refine Below.alloc ?_ ?_ _ | with_reducible refine Below.setCell ?_ ?_ _ | with_reducible refine below_step (by assumption) ?_ ?_ | omega | (simp; done) | (simp; omega)))))
    | (at_builtin; refine wpList_append_src rfl (.tmp 26) (.tmp 27) 24 rfl w2.heap.size 30 i0 _ 10 128 Try.underlying24 Hi.out Hz0.out Hz1.out Hz2.out rfl (by decide) _ 0 [] rfl (World.ownsRow_made w2 #[] 0 (Nat.le_refl w2.heap.size) (Nat.zero_le _) rfl) c n kc (ms.flatMap mcs) rfl (by rw [rows_length mcs 10 mcs_len ms, Hln.out]) (RowsAt.news mcs_len (HF2.out.mono ((Below.refl _ w2).alloc (Nat.le_refl _) _))) Hn.out (flat_ones mcs_one ms) hc3 hc4 (le_alloc (Nat.le_refl w2.heap.size) _) ?_; intro v1 w3 hown1 hgrow1; rw [Nat.zero_add, List.nil_append] at hown1; have HB3 := Lib.hid (own_below (World.ownsRow_made w2 #[] 0 (Nat.le_refl w2.heap.size) (Nat.zero_le _) rfl : (w2.alloc (.cells #[] 30)).ownsRow w2.heap.size 30 10 (.slice (some ⟨w2.heap.size, 0, none⟩) 0 0) 0 []) ((Below.refl _ w2).alloc (Nat.le_refl w2.heap.size) _) (le_alloc (Nat.le_refl w2.heap.size) _) hgrow1); have HO3 := Lib.hid hown1; have hz3 := HB3.out.size; clear hown1 hgrow1))
  have HBW := HB2
  have HFW := Lib.hid (HF2.out)
  obtain ⟨W, hW⟩ : ∃ W, W = w2 := ⟨_, rfl⟩
  subst hW
  have hWz : w.heap.size + 1 < W.heap.size := by omega
  have hWz0 : w.heap.size < W.heap.size := by omega
  have x0 : W.cell? ⟨w.heap.size, 0, none⟩ = some (.int .i64 c0) := by simp [go_sem, *]
  have x1 : W.cell? ⟨w.heap.size, 1, none⟩ = some (.int .i64 c1) := by simp [go_sem, *]
  have x2 : W.cell? ⟨w.heap.size, 2, none⟩ = some (.int .i64 c2) := by simp [go_sem, *]
  have y0 : W.cell? ⟨w.heap.size + 1, 0, none⟩ = some (.string like.nm) := by simp [go_sem, *]
  have y1 : W.cell? ⟨w.heap.size + 1, 1, none⟩ = some (.string like.gp) := by simp [go_sem, *]
  have y2 : W.cell? ⟨w.heap.size + 1, 2, none⟩ = some (.int .i64 like.r0) := by simp [go_sem, *]
  have y3 : W.cell? ⟨w.heap.size + 1, 3, none⟩ = some (.int .i64 like.r1) := by simp [go_sem, *]
  have y4 : W.cell? ⟨w.heap.size + 1, 4, none⟩ = some (.int .i64 like.r2) := by simp [go_sem, *]
  have y5 : W.cell? ⟨w.heap.size + 1, 5, none⟩ = some (.int .i64 like.r3) := by simp [go_sem, *]
  have y6 : W.cell? ⟨w.heap.size + 1, 6, none⟩ = some (.int .i64 like.r4) := by simp [go_sem, *]
  have y7 : W.cell? ⟨w.heap.size + 1, 7, none⟩ = some (.slice like.la like.labs.length like.lk) := by simp [go_sem, *]
  have y8 : W.cell? ⟨w.heap.size + 1, 8, none⟩ = some (.slice like.ta like.tnts.length like.tk) := by simp [go_sem, *]
  have y9 : W.cell? ⟨w.heap.size + 1, 9, none⟩ = some (.bool like.rd) := by simp [go_sem, *]
  clear hb1 hc1 hf1 hb2 hc2 hf2
  go_loopw [8, 9] (fun v i wr => ∃ k : Nat, k ≤ K ∧ i = .int .i64 k ∧ wr.ownsRow W.heap.size 30 10 v (more ms like k).length ((more ms like k).flatMap mcs) ∧ Below W.heap.size W wr) (fun _ i _ => K - (intOf i).toNat)
  case atStart => exact ⟨0, by omega, rfl, by rw [more_zero, Hln.out]; exact HO3.out, HB3.out⟩
  case round =>
    obtain ⟨k, hk, rfl, hown, hB⟩ := hrel
    obtain ⟨hcB, hfB⟩ := bcell hB
    have hbz := hB.size
    have Hown := Lib.hid hown
    have HB := Lib.hid hB
    clear hown
    by_cases hlt : k < K
    · skip
      have HOx := Hown
      have HBx := HB
      have hbx := HB.out.size
      have hL : (more ms like k).length = n + k := by rw [more_len, Hln.out]
      have hc5 : (more ms like k).length + 1 ≤ maxLen := by unfold maxLen; omega
      have hc6 : ((more ms like k).length + 1) * 128 ≤ 140737488355328 := by omega
      have Hrow := Lib.hid (show (more ms like k).flatMap mcs ++ mcs like = (more ms like (k + 1)).flatMap mcs by rw [more_succ]; simp)
      have Hlen := Lib.hid (show (more ms like k).length + 1 = (more ms like (k + 1)).length by rw [more_succ]; simp)
      clear hL hc3 hc4
      have hc3 := hc5
      have hc4 := hc6
      clear hc5 hc6
      go_wp2_with (at_builtin; refine wpList_append_own _ rfl (.tmp 34) (.tmp 36) 24 rfl W.heap.size 30 i0 _ 10 128 Try.underlying24 Hi.out Hz0.out Hz1.out Hz2.out rfl (by decide) _ (more ms like k).length ((more ms like k).flatMap mcs) rfl (HOx.out.alloc _) ⟨wr.heap.size, 0, none⟩ 1 1 (mcs like) rfl rfl (news_at _ _ _) (mcs_one _) hc3 hc4 (le_alloc hbx _) ?_; intro v1 w1 hown1 hgrow1 _; rw [Hrow.out, Hlen.out] at hown1; have hB1 := own_below (HOx.out.alloc _) (HBx.out.alloc hbx _) (le_alloc hbx _) hgrow1; have HO1 := Lib.hid hown1; clear hown1 hgrow1)
      go_roundw
      case rel => exact ⟨k + 1, by omega, by go_num, HO1.out, hB1⟩
      case measure => simp [intOf]; omega
    · obtain rfl : k = K := by omega
      have HFr := Lib.hid (HFW.out.mono HB.out)
      obtain ⟨m, hm⟩ : ∃ m, (more ms like k).length = m := ⟨_, rfl⟩
      obtain ⟨m1, hm1⟩ : ∃ m1, (more ms like (k + 1)).length = m1 := ⟨_, rfl⟩
      have q1 : m = n + k := by rw [← hm, more_len, Hln.out]
      have q2 : m1 = m + 1 := by rw [← hm1, more_len, q1, Hln.out]; omega
      have Hrow := Lib.hid (show (more ms like k).flatMap mcs ++ mcs like = (more ms like (k + 1)).flatMap mcs by rw [more_succ]; simp)
      have Hlen := Lib.hid (show m + 1 = (more ms like (k + 1)).length by rw [hm1, q2])
      have Hm1 := Lib.hid hm1
      obtain ⟨s1, k1, rfl, hn1, hI1⟩ := IsL.of_own (l := more ms like k) mcs_len (by decide) Hown.out
      have W1 := fun h : Held wr => within_any c0 c1 c2 Hcc.out c kc ms h.w (HFr.out.mono h.below) Hok.out (by rw [Hln.out]; omega)
      have W2 := fun h : Held wr => within_any c0 c1 c2 Hcc.out s1 k1 (more ms like k) h.w (hI1.mono h.below) (more_ok Hok.out Hlk.out k) (by rw [hm]; omega)
      have W3 := fun (s2 : Option Addr) (k2 : Nat) (W : World) (h : MacsAt W s2 (more ms like (k + 1))) => within_any c0 c1 c2 Hcc.out s2 k2 (more ms like (k + 1)) W h (more_ok Hok.out Hlk.out (k + 1)) (by rw [hm1]; omega)
      have hown2 := Hown.out
      simp only [Hln.out] at W1
      simp only [hm] at W2
      simp only [hm1] at W3
      rw [hm] at hown2
      have hsl : (Value.slice s1 (more ms like k).length k1) = .slice s1 m k1 := by rw [hm]
      rw [hsl]
      clear hsl Hown
      have Hown := Lib.hid hown2
      have g3 : decide (200 < (m : Int)) = false := decide_eq_false (by omega)
      have hout : 200 < n + k + 1 ∨ withinB c0 c1 c2 (more ms like (k + 1)) = false := by have h := Hout.out; rw [Hln.out] at h; exact h
      have hin := Hin.out
      clear hc3 hc4 hown2 hn1 hI1 hm hm1
      have hq3 : m + 1 ≤ maxLen := by unfold maxLen; omega
      have hq4 : (m + 1) * 128 ≤ 140737488355328 := by omega
      have zr0 : w.heap.size < wr.heap.size := by omega
      have zr1 : w.heap.size + 1 < wr.heap.size := by omega
      have yr0 : w.heap.size ≤ wr.heap.size := by omega
      have yr1 : w.heap.size + 1 ≤ wr.heap.size := by omega
      cases hw : withinB c0 c1 c2 ms
      · rw [hw] at W1
        have HW1 := Lib.hid W1
        by_cases hov : 200 < m1
        · have g4 : decide (200 < (m1 : Int)) = true := decide_eq_true (by omega)
          clear W1 W2 W3 hw hin hout hov q1 q2
          go_wp2_with (first
            | ((with_reducible refine (HW1.out ⟨_, ?_⟩).mono ?_); rotate_left; (rintro e w4 ⟨rfl, hb4⟩; dsimp only at hb4; obtain ⟨hc4, hf4⟩ := bcell hb4; have hz4 := hb4.size; (try simp at hz4); have z4_0 : w.heap.size < w4.heap.size := (by omega); have y4_0 : w.heap.size ≤ w4.heap.size := (by omega); have z4_1 : w.heap.size + 1 < w4.heap.size := (by omega); have y4_1 : w.heap.size + 1 ≤ w4.heap.size := (by omega); have HB4 := Lib.hid hb4; have HO4 := Lib.hid (own_kept Hown.out hb4); have HZ4 := Lib.hid (HB.out.trans (hb4.mono HB.out.size))); rotate_left; ((repeat' (first | with_reducible exact Below.refl _ _ | with_reducible assumption | with_reducible refine Below.drew ?_ | with_reducible refine below_drewN' ?_ _ | with_reducible refine Below.alloc ?_ ?_ _ | with_reducible refine Below.setCell ?_ ?_ _ | with_reducible refine below_step (by assumption) ?_ ?_ | omega | (simp; done) | (simp; omega)))))
            | (at_builtin; refine wpList_append_own _ rfl (.tmp 52) (.tmp 54) 24 rfl W.heap.size 30 i0 _ 10 128 Try.underlying24 Hi.out Hz0.out Hz1.out Hz2.out rfl (by decide) _ m ((more ms like k).flatMap mcs) rfl (HO4.out.alloc _) ⟨w4.heap.size, 0, none⟩ 1 1 (mcs like) rfl rfl (news_at _ _ _) (mcs_one _) hq3 hq4 (le_alloc HZ4.out.size _) ?_; intro v6 w6 hown6 hgrow6 _; have HB6 := Lib.hid (own_below (HO4.out.alloc _) (HZ4.out.alloc HZ4.out.size _) (le_alloc HZ4.out.size _) hgrow6); rw [Hrow.out, Hlen.out] at hown6; obtain ⟨s2, k2, rfl, hn2, hI2⟩ := IsL.of_own (l := more ms like (k + 1)) mcs_len (by decide) hown6; have HI2 := Lib.hid hI2; have hz6 := HB6.out.size; obtain ⟨hc6, hf6⟩ := bcell HB6.out; have z6_0 : w.heap.size < w6.heap.size := (by omega); have y6_0 : w.heap.size ≤ w6.heap.size := (by omega); have z6_1 : w.heap.size + 1 < w6.heap.size := (by omega); have y6_1 : w.heap.size + 1 ≤ w6.heap.size := (by omega); rw [Hm1.out]; clear hown6 hgrow6 hI2 hn2)
            | (go_at_call 9; (with_reducible refine (known_any _).mono ?_); rintro e w8 ⟨rfl, hb8⟩; have hz8 := hb8.size))
          go_ret
          exact ⟨rfl, HBW.out.trans ((HB6.out.trans (hb8.mono HB6.out.size)).mono (Nat.le_of_lt hWz0))⟩
        · have g4 : decide (200 < (m1 : Int)) = false := decide_eq_false (by omega)
          have hw3 : withinB c0 c1 c2 (more ms like (k + 1)) = false := by
            rcases hout with h | h
            · omega
            · exact h
          rw [hw3] at W3
          have HW3 := Lib.hid W3
          clear W1 W2 W3 hw hw3 hin hout hov q1 q2
          go_wp2_with (first
            | ((with_reducible refine (HW1.out ⟨_, ?_⟩).mono ?_); rotate_left; (rintro e w4 ⟨rfl, hb4⟩; dsimp only at hb4; obtain ⟨hc4, hf4⟩ := bcell hb4; have hz4 := hb4.size; (try simp at hz4); have z4_0 : w.heap.size < w4.heap.size := (by omega); have y4_0 : w.heap.size ≤ w4.heap.size := (by omega); have z4_1 : w.heap.size + 1 < w4.heap.size := (by omega); have y4_1 : w.heap.size + 1 ≤ w4.heap.size := (by omega); have HB4 := Lib.hid hb4; have HO4 := Lib.hid (own_kept Hown.out hb4); have HZ4 := Lib.hid (HB.out.trans (hb4.mono HB.out.size))); rotate_left; ((repeat' (first | with_reducible exact Below.refl _ _ | with_reducible assumption | with_reducible refine Below.drew ?_ | with_reducible refine below_drewN' ?_ _ | with_reducible refine Below.alloc ?_ ?_ _ | with_reducible refine Below.setCell ?_ ?_ _ | with_reducible refine below_step (by assumption) ?_ ?_ | omega | (simp; done) | (simp; omega)))))
            | (at_builtin; refine wpList_append_own _ rfl (.tmp 52) (.tmp 54) 24 rfl W.heap.size 30 i0 _ 10 128 Try.underlying24 Hi.out Hz0.out Hz1.out Hz2.out rfl (by decide) _ m ((more ms like k).flatMap mcs) rfl (HO4.out.alloc _) ⟨w4.heap.size, 0, none⟩ 1 1 (mcs like) rfl rfl (news_at _ _ _) (mcs_one _) hq3 hq4 (le_alloc HZ4.out.size _) ?_; intro v6 w6 hown6 hgrow6 _; have HB6 := Lib.hid (own_below (HO4.out.alloc _) (HZ4.out.alloc HZ4.out.size _) (le_alloc HZ4.out.size _) hgrow6); rw [Hrow.out, Hlen.out] at hown6; obtain ⟨s2, k2, rfl, hn2, hI2⟩ := IsL.of_own (l := more ms like (k + 1)) mcs_len (by decide) hown6; have HI2 := Lib.hid hI2; have hz6 := HB6.out.size; obtain ⟨hc6, hf6⟩ := bcell HB6.out; have z6_0 : w.heap.size < w6.heap.size := (by omega); have y6_0 : w.heap.size ≤ w6.heap.size := (by omega); have z6_1 : w.heap.size + 1 < w6.heap.size := (by omega); have y6_1 : w.heap.size + 1 ≤ w6.heap.size := (by omega); rw [Hm1.out]; clear hown6 hgrow6 hI2 hn2)
            | (go_at_call 10; (with_reducible refine (HW3.out s2 k2 w6 HI2.out).mono ?_); rintro e w7 ⟨rfl, hb7⟩; have hz7 := hb7.size; have HB7 := Lib.hid (HB6.out.trans (hb7.mono HB6.out.size)); have z7_0 : w.heap.size < w7.heap.size := (by omega); have y7_0 : w.heap.size ≤ w7.heap.size := (by omega); have z7_1 : w.heap.size + 1 < w7.heap.size := (by omega); have y7_1 : w.heap.size + 1 ≤ w7.heap.size := (by omega))
            | (go_at_call 9; (with_reducible refine (known_any _).mono ?_); rintro e w8 ⟨rfl, hb8⟩; have hz8 := hb8.size))
          go_ret
          exact ⟨rfl, HBW.out.trans ((HB7.out.trans (hb8.mono HB7.out.size)).mono (Nat.le_of_lt hWz0))⟩
      · rw [hw] at W1
        rw [hin hw] at W2
        have HW1 := Lib.hid W1
        have HW2 := Lib.hid W2
        by_cases hov : 200 < m1
        · have g4 : decide (200 < (m1 : Int)) = true := decide_eq_true (by omega)
          clear W1 W2 W3 hw hin hout hov q1 q2
          go_wp2_with (first
            | ((with_reducible refine (HW1.out ⟨_, ?_⟩).mono ?_); rotate_left; (rintro e w4 ⟨rfl, hb4⟩; dsimp only at hb4; obtain ⟨hc4, hf4⟩ := bcell hb4; have hz4 := hb4.size; (try simp at hz4); have z4_0 : w.heap.size < w4.heap.size := (by omega); have y4_0 : w.heap.size ≤ w4.heap.size := (by omega); have z4_1 : w.heap.size + 1 < w4.heap.size := (by omega); have y4_1 : w.heap.size + 1 ≤ w4.heap.size := (by omega); have HB4 := Lib.hid hb4; have HO4 := Lib.hid (own_kept Hown.out hb4); have HZ4 := Lib.hid (HB.out.trans (hb4.mono HB.out.size))); rotate_left; ((repeat' (first | with_reducible exact Below.refl _ _ | with_reducible assumption | with_reducible refine Below.drew ?_ | with_reducible refine below_drewN' ?_ _ | with_reducible refine Below.alloc ?_ ?_ _ | with_reducible refine Below.setCell ?_ ?_ _ | with_reducible refine below_step (by assumption) ?_ ?_ | omega | (simp; done) | (simp; omega)))))
            | ((with_reducible refine (HW2.out ⟨_, ?_⟩).mono ?_); rotate_left; (rintro e w5 ⟨rfl, hb5⟩; dsimp only at hb5; obtain ⟨hc5, hf5⟩ := bcell hb5; have hz5 := hb5.size; (try simp at hz5); have z5_0 : w.heap.size < w5.heap.size := (by omega); have y5_0 : w.heap.size ≤ w5.heap.size := (by omega); have z5_1 : w.heap.size + 1 < w5.heap.size := (by omega); have y5_1 : w.heap.size + 1 ≤ w5.heap.size := (by omega); have HB5 := Lib.hid (show Below w4.heap.size w4 w5 by (repeat' (first | with_reducible exact Below.refl _ _ | with_reducible assumption | with_reducible refine Below.drew ?_ | with_reducible refine below_drewN' ?_ _ | with_reducible refine Below.alloc ?_ ?_ _ | with_reducible refine Below.setCell ?_ ?_ _ | with_reducible refine below_step (by assumption) ?_ ?_ | omega | (simp; done) | (simp; omega)))); have HO5 := Lib.hid (own_kept HO4.out HB5.out); have HZ5 := Lib.hid (HZ4.out.trans (HB5.out.mono HZ4.out.size))); rotate_left; ((repeat' (first | with_reducible exact Below.refl _ _ | with_reducible assumption | with_reducible refine Below.drew ?_ | with_reducible refine below_drewN' ?_ _ | with_reducible refine Below.alloc ?_ ?_ _ | with_reducible refine Below.setCell ?_ ?_ _ | with_reducible refine below_step (by assumption) ?_ ?_ | omega | (simp; done) | (simp; omega)))))
            | (at_builtin; refine wpList_append_own _ rfl (.tmp 52) (.tmp 54) 24 rfl W.heap.size 30 i0 _ 10 128 Try.underlying24 Hi.out Hz0.out Hz1.out Hz2.out rfl (by decide) _ m ((more ms like k).flatMap mcs) rfl (HO5.out.alloc _) ⟨w5.heap.size, 0, none⟩ 1 1 (mcs like) rfl rfl (news_at _ _ _) (mcs_one _) hq3 hq4 (le_alloc HZ5.out.size _) ?_; intro v6 w6 hown6 hgrow6 _; have HB6 := Lib.hid (own_below (HO5.out.alloc _) (HZ5.out.alloc HZ5.out.size _) (le_alloc HZ5.out.size _) hgrow6); rw [Hrow.out, Hlen.out] at hown6; obtain ⟨s2, k2, rfl, hn2, hI2⟩ := IsL.of_own (l := more ms like (k + 1)) mcs_len (by decide) hown6; have HI2 := Lib.hid hI2; have hz6 := HB6.out.size; obtain ⟨hc6, hf6⟩ := bcell HB6.out; have z6_0 : w.heap.size < w6.heap.size := (by omega); have y6_0 : w.heap.size ≤ w6.heap.size := (by omega); have z6_1 : w.heap.size + 1 < w6.heap.size := (by omega); have y6_1 : w.heap.size + 1 ≤ w6.heap.size := (by omega); rw [Hm1.out]; clear hown6 hgrow6 hI2 hn2)
            | (go_at_call 9; (with_reducible refine (known_any _).mono ?_); rintro e w8 ⟨rfl, hb8⟩; have hz8 := hb8.size))
          go_ret
          exact ⟨rfl, HBW.out.trans ((HB6.out.trans (hb8.mono HB6.out.size)).mono (Nat.le_of_lt hWz0))⟩
        · have g4 : decide (200 < (m1 : Int)) = false := decide_eq_false (by omega)
          have hw3 : withinB c0 c1 c2 (more ms like (k + 1)) = false := by
            rcases hout with h | h
            · omega
            · exact h
          rw [hw3] at W3
          have HW3 := Lib.hid W3
          clear W1 W2 W3 hw hw3 hin hout hov q1 q2
          go_wp2_with (first
            | ((with_reducible refine (HW1.out ⟨_, ?_⟩).mono ?_); rotate_left; (rintro e w4 ⟨rfl, hb4⟩; dsimp only at hb4; obtain ⟨hc4, hf4⟩ := bcell hb4; have hz4 := hb4.size; (try simp at hz4); have z4_0 : w.heap.size < w4.heap.size := (by omega); have y4_0 : w.heap.size ≤ w4.heap.size := (by omega); have z4_1 : w.heap.size + 1 < w4.heap.size := (by omega); have y4_1 : w.heap.size + 1 ≤ w4.heap.size := (by omega); have HB4 := Lib.hid hb4; have HO4 := Lib.hid (own_kept Hown.out hb4); have HZ4 := Lib.hid (HB.out.trans (hb4.mono HB.out.size))); rotate_left; ((repeat' (first | with_reducible exact Below.refl _ _ | with_reducible assumption | with_reducible refine Below.drew ?_ | with_reducible refine below_drewN' ?_ _ | with_reducible refine Below.alloc ?_ ?_ _ | with_reducible refine Below.setCell ?_ ?_ _ | with_reducible refine below_step (by assumption) ?_ ?_ | omega | (simp; done) | (simp; omega)))))
            | ((with_reducible refine (HW2.out ⟨_, ?_⟩).mono ?_); rotate_left; (rintro e w5 ⟨rfl, hb5⟩; dsimp only at hb5; obtain ⟨hc5, hf5⟩ := bcell hb5; have hz5 := hb5.size; (try simp at hz5); have z5_0 : w.heap.size < w5.heap.size := (by omega); have y5_0 : w.heap.size ≤ w5.heap.size := (by omega); have z5_1 : w.heap.size + 1 < w5.heap.size := (by omega); have y5_1 : w.heap.size + 1 ≤ w5.heap.size := (by omega); have HB5 := Lib.hid (show Below w4.heap.size w4 w5 by (repeat' (first | with_reducible exact Below.refl _ _ | with_reducible assumption | with_reducible refine Below.drew ?_ | with_reducible refine below_drewN' ?_ _ | with_reducible refine Below.alloc ?_ ?_ _ | with_reducible refine Below.setCell ?_ ?_ _ | with_reducible refine below_step (by assumption) ?_ ?_ | omega | (simp; done) | (simp; omega)))); have HO5 := Lib.hid (own_kept HO4.out HB5.out); have HZ5 := Lib.hid (HZ4.out.trans (HB5.out.mono HZ4.out.size))); rotate_left; ((repeat' (first | with_reducible exact Below.refl _ _ | with_reducible assumption | with_reducible refine Below.drew ?_ | with_reducible refine below_drewN' ?_ _ | with_reducible refine Below.alloc ?_ ?_ _ | with_reducible refine Below.setCell ?_ ?_ _ | with_reducible refine below_step (by assumption) ?_ ?_ | omega | (simp; done) | (simp; omega)))))
            | (at_builtin; refine wpList_append_own _ rfl (.tmp 52) (.tmp 54) 24 rfl W.heap.size 30 i0 _ 10 128 Try.underlying24 Hi.out Hz0.out Hz1.out Hz2.out rfl (by decide) _ m ((more ms like k).flatMap mcs) rfl (HO5.out.alloc _) ⟨w5.heap.size, 0, none⟩ 1 1 (mcs like) rfl rfl (news_at _ _ _) (mcs_one _) hq3 hq4 (le_alloc HZ5.out.size _) ?_; intro v6 w6 hown6 hgrow6 _; have HB6 := Lib.hid (own_below (HO5.out.alloc _) (HZ5.out.alloc HZ5.out.size _) (le_alloc HZ5.out.size _) hgrow6); rw [Hrow.out, Hlen.out] at hown6; obtain ⟨s2, k2, rfl, hn2, hI2⟩ := IsL.of_own (l := more ms like (k + 1)) mcs_len (by decide) hown6; have HI2 := Lib.hid hI2; have hz6 := HB6.out.size; obtain ⟨hc6, hf6⟩ := bcell HB6.out; have z6_0 : w.heap.size < w6.heap.size := (by omega); have y6_0 : w.heap.size ≤ w6.heap.size := (by omega); have z6_1 : w.heap.size + 1 < w6.heap.size := (by omega); have y6_1 : w.heap.size + 1 ≤ w6.heap.size := (by omega); rw [Hm1.out]; clear hown6 hgrow6 hI2 hn2)
            | (go_at_call 10; (with_reducible refine (HW3.out s2 k2 w6 HI2.out).mono ?_); rintro e w7 ⟨rfl, hb7⟩; have hz7 := hb7.size; have HB7 := Lib.hid (HB6.out.trans (hb7.mono HB6.out.size)); have z7_0 : w.heap.size < w7.heap.size := (by omega); have y7_0 : w.heap.size ≤ w7.heap.size := (by omega); have z7_1 : w.heap.size + 1 < w7.heap.size := (by omega); have y7_1 : w.heap.size + 1 ≤ w7.heap.size := (by omega))
            | (go_at_call 9; (with_reducible refine (known_any _).mono ?_); rintro e w8 ⟨rfl, hb8⟩; have hz8 := hb8.size))
          go_ret
          exact ⟨rfl, HBW.out.trans ((HB7.out.trans (hb8.mono HB7.out.size)).mono (Nat.le_of_lt hWz0))⟩

theorem walk {H : Type} {enc : TypeId × Value → H} {W : World} {base : Nat} {v u x : Value} {d f g : DataW H} {p q r : List MemPlace}
    (hv : Value.okWide Try.prog W .any base 23 v) (h : DataW.Trod enc Try.prog W 0 (fun _ => true) true 23 v d p)
    (hu : Value.okWide Try.prog W .any base 24 u) (k : DataW.Trod enc Try.prog W 0 (fun _ => true) true 24 u f q)
    (hx : Value.okWide Try.prog W .any base 30 x) (l : DataW.Trod enc Try.prog W 0 (fun _ => true) true 30 x g r) :
    Calls Try.prog 4 #[v, u, x] W fun e W' => e = .returned (.bool true) ∧ Below W.heap.size W W' := by
  obtain ⟨c0, c1, c2, rfl⟩ := open_caps hv h
  obtain ⟨a, ms, kc, rfl, hn, hF, hm, hA⟩ := open_macs hu k
  obtain ⟨like, rfl, hL⟩ := open_mac hx l
  cases hr : rightAll c0 c1 c2 ms like
  · exact walk_no c0 c1 c2 a kc ms like W hF hm hA hL hr
  · exact walk_yes c0 c1 c2 a kc ms like W hn hF hA hL hr

set_option maxRecDepth 100000 in
theorem lifted (os : Os) (started : os.Started) (H : Type) (enc : TypeId × Value → H) :
    ReturnsInHanded {} Try.checked os 4 .any (Rows.capsRoomSpec.pre6 enc Try.prog Try.f4 Rows.capsRoomRow.domain false) (Rows.capsRoomSpec.post enc Try.prog Try.f4 false true false false) := by
  refine returnsInHanded_of_change (C := Try.checked) Try.own started (by kernel_rfl) Try.func4
    (ChangeSpec.witness6 (enc := enc) (C := Try.checked) false ⟨#[], #[.agg #[.int .i64 0, .int .i64 0, .int .i64 0], .slice none 0 0, .agg #[.string ⟨#[]⟩, .string ⟨#[]⟩, .int .i64 0, .int .i64 0, .int .i64 0, .int .i64 0, .int .i64 0, .slice none 0 0, .slice none 0 0, .bool false]], []⟩ 8 (by kernel_rfl) (by kernel_rfl) (by kernel_rfl) (by kernel_rfl)) ?_
  intro W base args ds gs before hval hW _ _
  have hW' := hW
  obtain ⟨p, q, hA, hV, rfl, hfz, hnd⟩ := hW
  rw [Try.params4] at hA hval
  obtain ⟨v0, v1, v2, d0, d1, d2, p0, p1, p2, rfl, rfl, rfl, h0, h1, h2⟩ := trodAll_three hA
  refine (walk (hval 0 23 v0 rfl rfl) h0 (hval 1 24 v1 rfl rfl) h1 (hval 2 30 v2 rfl rfl) h2).mono fun e W' ⟨he, hb⟩ => ?_
  exact ⟨_, he, law_post Try.laidOut hW' rfl (by kernel_rfl) (by kernel_rfl) Try.underlying4 rfl rfl rfl hb⟩

theorem over : Rows.capsRoomRow.holds Try.pinned (OpenSpec.ofChange Rows.capsRoomSpec) :=
  OpenClaim.holds_of_wide 4 Try.f4 rfl rfl rfl rfl rfl rfl rfl ⟨rfl, rfl, rfl, rfl, rfl⟩ rfl rfl rfl rfl rfl (by kernel_rfl) Try.func4 (by kernel_rfl)
    (of_decide_eq_true (by kernel_rfl)) (by unfold Func.isWrapper; first | (rw [if_pos (by decide +kernel)]; kernel_rfl) | (rw [if_neg (by decide +kernel)]; exact ⟨rfl, rfl⟩))
    (fun os started H enc _ => lifted os started H enc)

/-- The statement. -/
theorem proved : Rows.CapsRoomSaid := over
end capsRoom
end Go.Proofs.Ytdlebpobkkndaaa
