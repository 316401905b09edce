/-
  The contract of permit.State.within.
-/
import Derived.Test.YtmkdfcggjlhcpaaPe1
import Derived.Test.YtmkdfcggjlhcpaaMA
namespace Go.Proofs.Ytmkdfcggjlhcpaa
open Go.RowKit
set_option linter.unusedVariables false
set_option linter.unusedSimpArgs false

theorem Try.info47 : (Try.prog.info? 47).map (fun i => (i.zero, i.size, i.bytes)) = some (some (.agg #[.string ⟨#[]⟩, .string ⟨#[]⟩, .int .i64 0, .int .i64 0, .int .i64 0, .int .i64 0, .int .i64 0, .slice none 0 0, .slice none 0 0, .bool false]), 10, 128) := by kernel_rfl
/-- Whether an instance counts. -/
def cntB (G : List Gk) (x : Ins) : Bool := (fndK G x.gp).isSome && !decide (x.st = 3)
theorem cntI_eq (s : St) : cntI s = s.L.countP (cntB s.G) := rfl
theorem cnt_take {G : List Gk} {L : List Ins} {k : Nat} {x : Ins} (h : L[k]? = some x) : (L.take (k + 1)).countP (cntB G) = (L.take k).countP (cntB G) + if cntB G x = true then 1 else 0 := by
  rw [take_at h, List.countP_append, List.countP_cons, List.countP_nil, Nat.zero_add]
def bigM (x y : Int) : Mac := ⟨⟨#[]⟩, ⟨#[]⟩, x, y, 0, 0, 0, none, 0, [], none, 0, [], false⟩
def RS (N : Nat) (x y : Int) (v : Value) (w : World) : Prop := ∃ (B : Nat), v = .slice (some ⟨B, 0, none⟩) 1 1 ∧ N ≤ B ∧ Blk w B 47 [.string ⟨#[]⟩, .string ⟨#[]⟩, .int .i64 x, .int .i64 y, .int .i64 0, .int .i64 0, .int .i64 0, .slice none 0 0, .slice none 0 0, .bool false]
theorem RS.stays (N : Nat) (x y : Int) : Stays (RS N x y) := fun v w w' hb ⟨B, e, h, hB⟩ => ⟨B, e, h, hB.below hb⟩
/-- The machines that count. -/
def likeF (C : List Gp) (x : Ins) : Option Mac := match fndK (C.map gkOf) x.gp with
  | none => none
  | some j => if x.st = 3 then none else (C[j]?).map Gp.like
def likesL (C : List Gp) (L : List Ins) : List Mac := L.filterMap (likeF C)
theorem likes_take {C : List Gp} {L : List Ins} {k : Nat} {x : Ins} (h : L[k]? = some x) : likesL C (L.take (k + 1)) = likesL C (L.take k) ++ (match likeF C x with | none => [] | some m => [m]) := by
  unfold likesL
  rw [take_at h, List.filterMap_append]
  congr 1
  cases hx : likeF C x with
  | none => simp [hx]
  | some m => simp [hx]
/-- Whether so many more machines of a group are within the caps. -/
def bS (s : St) (j : Nat) (n : Int) : Bool := match s.C[j]? with
  | none => true
  | some g => (decide (s.c0 = 0) || decide (n ≤ s.c0 - cntI s)) && withinB 0 s.c1 s.c2 (likesL s.C s.L ++ [bigM (tmZ g.like.r0 n) (tmZ g.like.r1 n)])
theorem bS_w {s : St} {j : Nat} {n : Int} {g : Gp} (hg : s.C[j]? = some g) (h1 : s.c1 = 0) (h2 : s.c2 = 0) : bS s j n = wB s n := by
  unfold bS wB
  rw [hg, h1, h2]
  exact Bool.and_true _
set_option maxRecDepth 100000 in
set_option maxHeartbeats 8000000 in
theorem pwithin_any (s : St) (j : Nat) (g : Gp) (n : Int) (w : World) (hI : StIn w s) (hO : StOk s) (hg : s.C[j]? = some g) (hn : 1 ≤ n) (hn1 : n ≤ 9223372036854775807) :
    Calls Try.prog 53 #[.agg #[.slice s.ga s.C.length s.gk, .slice s.ta s.T.length s.tk, .slice s.ia s.L.length s.ik, .int .i64 s.c0, .int .i64 s.c1, .int .i64 s.c2, .slice s.ra s.R.length s.rk, .int .i64 s.un, .int .i64 s.sh], .int .i64 (j : Int), .int .i64 n] w fun e w' => e = .returned (.bool (bS s j n)) ∧ Below w.heap.size w w' := by
  have hO9 := Lib.hid hO
  have hb0 := hO.cb
  have hg16 := hO.g16
  have hlb := hO.lb
  have hL1 : s.L.length ≤ 999999 := by omega
  have HF := Lib.hid (fun (key : ByteArray) V (hV : Below w.heap.size w V) => find_any s.ga s.C s.gk key V (hI.g.mono hV) (by unfold maxLen; omega))
  have hjn := lt_at hg
  obtain ⟨b2, o2, hb2, hbw2, hc2⟩ := hI.g (by omega)
  have HC := Lib.hid hc2
  obtain ⟨-, -, -, -, -, x5, x6, x7, x8, x9, -⟩ := grow_cells (hc2 j g hg)
  have HI := Lib.hid hI.i
  have hgb := (hO.gb g (List.mem_of_getElem? hg)).2.2
  have HGb := Lib.hid (fun x (hx : x ∈ s.C) => (hO.gb x hx).2.2)
  have hcb := hO.cb
  unfold rightC capB at hcb
  rw [Bool.and_eq_true, Bool.and_eq_true, decide_eq_true_eq, decide_eq_true_eq, decide_eq_true_eq] at hcb
  obtain ⟨⟨⟨l0, u0⟩, l1, u1⟩, l2, u2⟩ := hcb
  have HWi := Lib.hid (fun (c : Option Addr) (kc : Nat) (ms : List Mac) V => capwithin_any 0 s.c1 s.c2 (by unfold rightC capB; simp; omega) c kc ms V)
  obtain ⟨m0, hm0⟩ : ∃ z, g.like.r0 = z := ⟨_, rfl⟩
  obtain ⟨m1, hm1⟩ : ∃ z, g.like.r1 = z := ⟨_, rfl⟩
  have hbS : bS s j n = ((decide (s.c0 = 0) || decide (n ≤ s.c0 - cntI s)) && withinB 0 s.c1 s.c2 (likesL s.C s.L ++ [bigM (tmZ m0 n) (tmZ m1 n)])) := by unfold bS; rw [hg]; dsimp only; rw [hm0, hm1]
  rw [hbS]
  clear hbS
  rw [hm0] at x5 hgb
  rw [hm1] at x6 hgb
  obtain ⟨⟨p0, p1⟩, q0, q1⟩ := hgb
  rw [cntI_eq]
  have hG : s.G = s.C.map gkOf := rfl
  rw [hG]
  clear hI hg hc2 hm0 hm1 hO hb0 hlb hG
  obtain ⟨ga, C, gk, ta, T, tk, ia, L, ik, z0, z1, z2, ra, R, rk, un, sh⟩ := s
  dsimp only at HF HC HI HGb HWi hjn hb2 hL1 hg16 l0 u0 l1 u1 l2 u2 ⊢
  clear hO9
  subst hb2
  obtain ⟨m, hm⟩ : ∃ m, L.length = m := ⟨_, rfl⟩
  obtain ⟨N, hN⟩ : ∃ N, C.length = N := ⟨_, rfl⟩
  have Hm := Lib.hid hm
  have HN := Lib.hid hN
  rw [hm] at hL1 ⊢
  rw [hN] at HF hjn hg16 ⊢
  obtain ⟨cb, hcb⟩ : ∃ cb, cntB (C.map gkOf) = cb := ⟨_, rfl⟩
  obtain ⟨BB, hBB⟩ : ∃ BB, ((decide (z0 = 0) || decide (n ≤ z0 - ((L.countP cb : Nat) : Int))) && withinB 0 z1 z2 (likesL C L ++ [bigM (tmZ m0 n) (tmZ m1 n)])) = BB := ⟨_, rfl⟩
  have HBB := Lib.hid hBB
  have Hcb := Lib.hid hcb
  rw [hcb, hBB]
  have HT0 := Lib.hid (fun V => times_any m0 n V p0 p1 hn hn1)
  have HT1 := Lib.hid (fun V => times_any m1 n V q0 q1 hn hn1)
  obtain ⟨xa, hxa⟩ : ∃ z, tmZ m0 n = z := ⟨_, rfl⟩
  obtain ⟨xb, hxb⟩ : ∃ z, tmZ m1 n = z := ⟨_, rfl⟩
  have HTb := Lib.hid (show (0 ≤ tmZ m0 n ∧ tmZ m0 n ≤ 576460752303423488) ∧ 0 ≤ tmZ m1 n ∧ tmZ m1 n ≤ 576460752303423488 from ⟨tmZ_b p0 p1 hn, tmZ_b q0 q1 hn⟩)
  rw [hxa, hxb] at HTb
  rw [hxa] at HT0 HBB
  rw [hxb] at HT1 HBB
  clear hm hN hcb hBB hxa hxb
  obtain ⟨i0, hi, hz0, hz1, hz2⟩ := info_parts Try.info47
  have Hi := Lib.hid hi
  have Hz0 := Lib.hid hz0
  have Hz1 := Lib.hid hz1
  have Hz2 := Lib.hid hz2
  clear hi hz0 hz1 hz2
  go_enter Try.func53, Try.ntmps53
  go_wp2
  obtain ⟨W, hW⟩ : ∃ W, W = w.alloc (.cells #[.slice (some ⟨b2, o2, none⟩) N gk, .slice ta T.length tk, .slice ia m ik, .int .i64 z0, .int .i64 z1, .int .i64 z2, .slice ra R.length rk, .int .i64 un, .int .i64 sh] 33) := ⟨_, rfl⟩
  have HW := Lib.hid (show Below w.heap.size w W by rw [hW]; (repeat' (first | with_reducible exact Below.refl _ _ | with_reducible assumption | with_reducible refine Below.drew ?_ | with_reducible refine below_drewN' ?_ _ | with_reducible refine Below.alloc ?_ ?_ _ | with_reducible refine Below.setCell ?_ ?_ _ | with_reducible refine below_step (by assumption) ?_ ?_ | omega | (simp; done) | (simp; omega))))
  have hWz : w.heap.size < W.heap.size := by rw [hW]; simp
  have HBl := Lib.hid (show Blk W w.heap.size 33 [.slice (some ⟨b2, o2, none⟩) N gk, .slice ta T.length tk, .slice ia m ik, .int .i64 z0, .int .i64 z1, .int .i64 z2, .slice ra R.length rk, .int .i64 un, .int .i64 sh] by rw [hW]; exact Blk.new w _ _)
  rw [← hW]
  clear hW
  go_loopw [7, 15] (fun v vi wr => ∃ (k : Nat) (A : List Mac), k ≤ m ∧ vi = .int .i64 k ∧ A.length = (L.take k).countP cb ∧ A = likesL C (L.take k) ∧ wr.ownsRow W.heap.size 47 10 v A.length (A.flatMap mcs) ∧ (∀ x ∈ A, (0 ≤ x.r0 ∧ x.r0 ≤ 1125899906842624) ∧ (0 ≤ x.r1 ∧ x.r1 ≤ 1125899906842624)) ∧ Below W.heap.size W wr) (fun _ vi _ => m - (intOf vi).toNat)
  case atStart => exact ⟨0, [], Nat.zero_le _, rfl, rfl, rfl, World.ownsRow_nil _ _ _ _, (fun x h => by cases h), by (repeat' (first | with_reducible exact Below.refl _ _ | with_reducible assumption | with_reducible refine Below.drew ?_ | with_reducible refine below_drewN' ?_ _ | with_reducible refine Below.alloc ?_ ?_ _ | with_reducible refine Below.setCell ?_ ?_ _ | with_reducible refine below_step (by assumption) ?_ ?_ | omega | (simp; done) | (simp; omega)))⟩
  case round =>
    obtain ⟨k, A, hk, rfl, hA, hAl, hown, hAb, hB⟩ := hrel
    have HAl := Lib.hid hAl
    clear hAl
    have HB := Lib.hid (HW.out.trans (hB.mono (by omega)))
    have HY := Lib.hid (HBl.out.below hB)
    obtain ⟨hcB, hfB⟩ := bcell HB.out
    have hzB := hB.size
    have hww : w.heap.size < wr.heap.size := by omega
    have y0 := HY.out.cell 0
    have y1 := HY.out.cell 1
    have y2 := HY.out.cell 2
    have y3 := HY.out.cell 3
    have y4 := HY.out.cell 4
    have y5 := HY.out.cell 5
    dsimp only [List.getElem?_cons_zero, List.getElem?_cons_succ] at y0 y1 y2 y3 y4 y5
    have hb2r : b2 < wr.heap.size := by omega
    have Hown := Lib.hid hown
    have HA := Lib.hid hA
    have HAb := Lib.hid hAb
    have hAk : A.length ≤ k := by rw [hA]; exact Nat.le_trans List.countP_le_length (List.length_take_le _ _)
    clear hown hA hAb
    by_cases hlt : k < m
    · obtain ⟨x, hx⟩ := mem_at (l := L) (k := k) (by rw [Hm.out]; exact hlt)
      obtain ⟨q, o, rfl, hq, hc⟩ := HI.out (by rw [Hm.out]; omega)
      have hqw : q < wr.heap.size := by omega
      obtain ⟨d0, d1, d2, d3, d4⟩ := irow_cells (hc k x hx)
      have Hlk := Lib.hid (likes_take (C := C) hx)
      have hst := cnt_take (G := C.map gkOf) hx
      rw [Hcb.out] at hst
      have Hst := Lib.hid hst
      have HFx := Lib.hid (HF.out x.gp)
      have hcx : cb x = ((fndK (C.map gkOf) x.gp).isSome && !decide (x.st = 3)) := by rw [← Hcb.out]; rfl
      clear hc hx hst
      cases hf : fndK (C.map gkOf) x.gp with
      | none =>
        have hq9 := findA_none hf
        rw [hq9] at HFx
        rw [hf] at hcx
        have Hn := Lib.hid (show A.length = (L.take (k + 1)).countP cb by rw [Hst.out, hcx, HA.out]; rfl)
        have Hl := Lib.hid (show A = likesL C (L.take (k + 1)) by rw [Hlk.out, ← HAl.out]; unfold likeF; rw [hf]; exact (List.append_nil A).symm)
        clear hf hq9 hcx
        go_wp2_with (go_at_call 18; (with_reducible refine (HFx.out _ (HB.out.alloc (Nat.le_of_lt hww) _)).mono ?_); rintro e w5 ⟨rfl, hb5⟩; obtain ⟨hc5, hf5⟩ := bcell hb5; have hz5 := hb5.size; (try simp at hz5); have HOx := Lib.hid (own_kept (Hown.out.alloc _) hb5); have HBx := Lib.hid (show Below W.heap.size W w5 by (repeat' (first | with_reducible exact Below.refl _ _ | with_reducible assumption | with_reducible refine Below.drew ?_ | with_reducible refine below_drewN' ?_ _ | with_reducible refine Below.alloc ?_ ?_ _ | with_reducible refine Below.setCell ?_ ?_ _ | with_reducible refine below_step (by assumption) ?_ ?_ | omega | (simp; done) | (simp; omega)))); have hbx := HBx.out.size; have hy5 : w.heap.size < w5.heap.size := (by omega); have hx5 : b2 < w5.heap.size := (by omega); have hv5 : wr.heap.size < w5.heap.size := (by omega))
        go_roundw
        case rel => exact ⟨k + 1, A, by omega, by go_num, Hn.out, Hl.out, HOx.out, HAb.out, HBx.out⟩
        case measure => simp [intOf]; omega
      | some j2 =>
        have hq9 := findA_some hf
        rw [hq9] at HFx
        rw [hf] at hcx
        obtain ⟨g0, hg0, -⟩ := fndK_lt hf
        obtain ⟨g2, hg2⟩ : ∃ g2, C[j2]? = some g2 := by
          rw [List.getElem?_map] at hg0
          cases h : C[j2]? with
          | none => rw [h] at hg0; cases hg0
          | some g2 => exact ⟨g2, rfl⟩
        have hj2 : j2 < N := by have := lt_at hg2; rw [HN.out] at this; exact this
        by_cases h3 : x.st = 3
        · have k3 : (x.st != 3) = false := by rw [h3]; rfl
          have Hn := Lib.hid (show A.length = (L.take (k + 1)).countP cb by rw [Hst.out, hcx, decide_eq_true h3, HA.out]; rfl)
          have Hl := Lib.hid (show A = likesL C (L.take (k + 1)) by rw [Hlk.out, ← HAl.out]; unfold likeF; rw [hf]; dsimp only; rw [if_pos h3]; exact (List.append_nil A).symm)
          clear h3 hf hq9 hcx hg0 hg2
          go_wp2_with (go_at_call 18; (with_reducible refine (HFx.out _ (HB.out.alloc (Nat.le_of_lt hww) _)).mono ?_); rintro e w5 ⟨rfl, hb5⟩; obtain ⟨hc5, hf5⟩ := bcell hb5; have hz5 := hb5.size; (try simp at hz5); have HOx := Lib.hid (own_kept (Hown.out.alloc _) hb5); have HBx := Lib.hid (show Below W.heap.size W w5 by (repeat' (first | with_reducible exact Below.refl _ _ | with_reducible assumption | with_reducible refine Below.drew ?_ | with_reducible refine below_drewN' ?_ _ | with_reducible refine Below.alloc ?_ ?_ _ | with_reducible refine Below.setCell ?_ ?_ _ | with_reducible refine below_step (by assumption) ?_ ?_ | omega | (simp; done) | (simp; omega)))); have hbx := HBx.out.size; have hy5 : w.heap.size < w5.heap.size := (by omega); have hx5 : b2 < w5.heap.size := (by omega); have hv5 : wr.heap.size < w5.heap.size := (by omega))
          go_roundw
          case rel => exact ⟨k + 1, A, by omega, by go_num, Hn.out, Hl.out, HOx.out, HAb.out, HBx.out⟩
          case measure => simp [intOf]; omega
        · have k3 : (x.st != 3) = true := by simpa using h3
          have hGb := HGb.out g2 (List.mem_of_getElem? hg2)
          have Hn := Lib.hid (show (A ++ [g2.like]).length = (L.take (k + 1)).countP cb by rw [Hst.out, hcx, decide_eq_false h3, List.length_append, HA.out]; rfl)
          have Hl := Lib.hid (show A ++ [g2.like] = likesL C (L.take (k + 1)) by rw [Hlk.out, ← HAl.out]; unfold likeF; rw [hf]; dsimp only; rw [if_neg h3, hg2]; rfl)
          have HAn := Lib.hid (show ∀ x ∈ A ++ [g2.like], (0 ≤ x.r0 ∧ x.r0 ≤ 1125899906842624) ∧ (0 ≤ x.r1 ∧ x.r1 ≤ 1125899906842624) from fun x hx => by
            rcases List.mem_append.1 hx with h | h
            · exact HAb.out x h
            · rw [List.mem_singleton.1 h]; exact hGb)
          obtain ⟨-, -, -, t3, t4, t5, t6, t7, t8, t9, t10, t11, t12, -⟩ := grow_cells (HC.out j2 g2 hg2)
          obtain ⟨M2, hM2⟩ : ∃ M2, g2.like = M2 := ⟨_, rfl⟩
          rw [hM2] at t3 t4 t5 t6 t7 t8 t9 t10 t11 t12 Hn HAn Hl
          have hc3 : A.length + 1 ≤ maxLen := by unfold maxLen; omega
          have hc4 : (A.length + 1) * 128 ≤ 140737488355328 := by omega
          clear h3 hf hq9 hcx hg0 hg2 hGb hM2
          go_wp2_with (first
            | (go_at_call 18; (with_reducible refine (HFx.out _ (HB.out.alloc (Nat.le_of_lt hww) _)).mono ?_); rintro e w5 ⟨rfl, hb5⟩; obtain ⟨hc5, hf5⟩ := bcell hb5; have hz5 := hb5.size; (try simp at hz5); have HOx := Lib.hid (own_kept (Hown.out.alloc _) hb5); have HBx := Lib.hid (show Below W.heap.size W w5 by (repeat' (first | with_reducible exact Below.refl _ _ | with_reducible assumption | with_reducible refine Below.drew ?_ | with_reducible refine below_drewN' ?_ _ | with_reducible refine Below.alloc ?_ ?_ _ | with_reducible refine Below.setCell ?_ ?_ _ | with_reducible refine below_step (by assumption) ?_ ?_ | omega | (simp; done) | (simp; omega)))); have hbx := HBx.out.size; have hy5 : w.heap.size < w5.heap.size := (by omega); have hx5 : b2 < w5.heap.size := (by omega); have hv5 : wr.heap.size < w5.heap.size := (by omega))
            | (at_builtin; refine wpList_append_own _ rfl (.tmp 31) (.tmp 38) 110 rfl W.heap.size 47 i0 _ 10 128 Try.underlying110 Hi.out Hz0.out Hz1.out Hz2.out rfl (by decide) _ A.length (A.flatMap mcs) rfl (HOx.out.alloc _) ⟨w5.heap.size, 0, none⟩ 1 1 (mcs M2) rfl rfl (news_at _ _ _) (mcs_one _) hc3 hc4 (le_alloc hbx _) ?_; intro v1 w1 hown1 hgrow1 _; have hB1 := own_below (HOx.out.alloc _) (HBx.out.alloc hbx _) (le_alloc hbx _) hgrow1; have HO1 := Lib.hid hown1; clear hown1 hgrow1))
          go_roundw
          case rel => exact ⟨k + 1, A ++ [M2], by omega, by go_num, Hn.out, Hl.out, by (have h9 := HO1.out; have e9 : (A ++ [M2]).flatMap mcs = A.flatMap mcs ++ mcs M2 := (by rw [List.flatMap_append, List.flatMap_cons, List.flatMap_nil, List.append_nil]); rw [e9, List.length_append]; exact h9), HAn.out, hB1⟩
          case measure => simp [intOf]; omega
    · obtain rfl : k = m := by omega
      have hAL : A.length = L.countP cb := by rw [HA.out, List.take_of_length_le (Nat.le_of_eq Hm.out)]
      have HAL := Lib.hid hAL
      have HAl := Lib.hid (show A = likesL C L by rw [HAl.out, List.take_of_length_le (Nat.le_of_eq Hm.out)])
      obtain ⟨sa, ka, rfl, -⟩ := own_rows mcs_len Hown.out (by decide)
      obtain ⟨a, ha⟩ : ∃ a, A.length = a := ⟨_, rfl⟩
      have Ha := Lib.hid ha
      rw [ha] at hAk ⊢
      have k2 : IntKind.i64.wrap (z0 - (a : Int)) = z0 - (a : Int) := wrap_in (by omega) (by omega)
      clear hAL ha
      by_cases hg : z0 ≠ 0 ∧ z0 - (a : Int) < n
      · have k1 : (z0 != 0) = true := by simpa using hg.1
        have k3 : decide (z0 - (a : Int) < n) = true := decide_eq_true hg.2
        have hb : false = BB := by rw [← HBB.out, ← HAL.out, Ha.out, decide_eq_false hg.1, decide_eq_false (by omega)]; rfl
        subst hb
        clear hg
        go_wp2
        go_ret
        exact ⟨rfl, HB.out⟩
      · have hb := Lib.hid (show (decide (z0 = 0) || decide (n ≤ z0 - ((L.countP cb : Nat) : Int))) = true by
          rw [← HAL.out, Ha.out]
          by_cases h0 : z0 = 0
          · rw [decide_eq_true h0]; rfl
          · rw [decide_eq_true (show n ≤ z0 - (a : Int) by omega), Bool.or_true])
        have hk : ((z0 != 0) = false) ∨ ((z0 != 0) = true ∧ decide (z0 - (a : Int) < n) = false) := by
          by_cases h0 : z0 = 0
          · exact .inl (by rw [h0]; rfl)
          · exact .inr ⟨by simpa using h0, decide_eq_false (by omega)⟩
        clear hg
        rcases hk with k1 | ⟨k1, k3⟩
        all_goals
          go_wp2
          obtain ⟨W2, hW2⟩ : ∃ W2, W2 = wr.alloc (.cells #[.int .i64 m0, .int .i64 m1, .int .i64 g.like.r2, .int .i64 g.like.r3, .int .i64 g.like.r4] 43) := ⟨_, rfl⟩
          have HX2 := Lib.hid (show Blk W2 wr.heap.size 43 [.int .i64 m0, .int .i64 m1, .int .i64 g.like.r2, .int .i64 g.like.r3, .int .i64 g.like.r4] by rw [hW2]; exact Blk.new wr _ _)
          have hO2 : W2.ownsRow W.heap.size 47 10 (.slice sa A.length ka) A.length (A.flatMap mcs) := by rw [hW2]; exact Hown.out.alloc _
          have HB2 := Lib.hid (show Below W.heap.size W W2 by rw [hW2]; exact hB.alloc hzB _)
          have HY2 := Lib.hid (show Blk W2 w.heap.size 33 _ by rw [hW2]; exact HY.out.alloc _)
          have hw2 : W2.heap.size = wr.heap.size + 1 := by rw [hW2]; exact World.size_alloc _ _
          rw [Ha.out] at hO2
          have HO2 := Lib.hid hO2
          rw [← hW2]
          clear hW2 hO2 y0 y1 y2 y3 y4 y5
          have y0 := HX2.out.cell 0
          have y1 := HX2.out.cell 1
          dsimp only [List.getElem?_cons_zero, List.getElem?_cons_succ] at y0 y1
          have hyl : wr.heap.size < W2.heap.size := by omega
          have hyW : W.heap.size ≤ W2.heap.size := by omega
          have HN2 := Lib.hid (fun (x y : Int) (V : World) => Blk.new V 47 [.string ⟨#[]⟩, .string ⟨#[]⟩, .int .i64 x, .int .i64 y, .int .i64 0, .int .i64 0, .int .i64 0, .slice none 0 0, .slice none 0 0, .bool false])
          clear hw2
          have hcH := held_cell
          refine region_rel_tail 12 (by kernel_rfl) (by kernel_rfl) (by kernel_rfl) ?_
          dsimp only [List.take, List.drop]
          repeat
            ((with_reducible refine relStep (fun K hK => ?_))
             (have HK := Lib.hid hK)
             clear hK
             (apply relInl
              · intro r n hf
                have Hf := Lib.hid hf
                clear hf
                (first
                  | (fail)
                  | (unfold relAt
                     go_simp
                     (first | (refine relUpon_val ?_ (Below.refl _ _); exact rfl) | exact rfl | (refine relUpon_enter ?_; (first | (go_at_call 68; (with_reducible refine (HT0.out _).mono ?_); rintro e w9 ⟨rfl, hb⟩; exact ⟨⟨_, rfl, rfl⟩, hb⟩) | (go_at_call 68; (with_reducible refine (HT1.out _).mono ?_); rintro e w9 ⟨rfl, hb⟩; exact ⟨⟨_, rfl, rfl⟩, hb⟩))))))
              (simp only [Act.put, List.setIfInBounds_toArray, List.set_cons_zero, List.set_cons_succ])
              (with_reducible refine HK.out _ _ ?_)
              clear HK K))
          (with_reducible refine relStep (fun K hK => ?_))
          (have HK := Lib.hid hK)
          clear hK
          refine relInr (RS W2.heap.size xa xb) (RS.stays _ _ _) (fun r n hf => ?_) ?_
          · have Hf := Lib.hid hf
            clear hf HK K
            unfold relAt
            (skip)
            go_simp
            ((refine relUpon_val ⟨_, rfl, n.below.size, HN2.out xa xb n.w⟩ ((Below.refl _ _).alloc (Nat.le_refl _) _)))
          (simp only [Act.put, List.setIfInBounds_toArray, List.set_cons_zero, List.set_cons_succ])
          (with_reducible refine HK.out _ _ ?_)
          clear HK K
          refine relNil ?_
          intro r9 n9 hx9
          clear hcH
          (try simp only [List.nil_append, List.cons_append, List.mem_cons, List.not_mem_nil, or_false, forall_eq_or_imp, forall_eq, false_implies, implies_true] at hx9)
          obtain ⟨w9, hb9⟩ := n9
          (try dsimp only)
          obtain ⟨hc9, hf9⟩ := bcell hb9
          have hz9 := hb9.size
          (try simp at hz9)
          obtain ⟨X, e9, hX, hBk⟩ := hx9
          have e9 : r9 11 = _ := e9
          dsimp only at hBk
          rw [e9]
          have HX9 := Lib.hid hBk
          have HO9 := Lib.hid (own_kept HO2.out hb9)
          have HB9 := Lib.hid (HB2.out.trans (hb9.mono hyW))
          have HY9 := Lib.hid (HY2.out.below hb9)
          have hq9 : W.heap.size ≤ w9.heap.size := HB9.out.size
          have HMo := Lib.hid (show MacsOk (A ++ [bigM xa xb]) from fun x hx => by
            rcases List.mem_append.1 hx with h | h
            · have := HAb.out x h
              omega
            · rw [List.mem_singleton.1 h]; exact HTb.out)
          clear hBk e9 hb9 hc9 hf9 hz9 y0 y1 HX2 HO2 HB2 HY2 HN2 hX
          refine wpList_append_src rfl (.tmp 62) (.tmp 73) 110 rfl W.heap.size 47 i0 _ 10 128 Try.underlying110 Hi.out Hz0.out Hz1.out Hz2.out rfl (by decide) _ a (A.flatMap mcs) rfl HO9.out (some ⟨X, 0, none⟩) 1 1 (mcs (bigM xa xb)) rfl rfl (fun q e => by injection e with e; subst e; exact NewRow.news HX9.out) (fun e => by cases e) (mcs_one _) (by unfold maxLen; omega) (by omega) hq9 ?_
          intro v6 w6 hown6 hgrow6
          have hB6 := own_below HO9.out HB9.out hq9 hgrow6
          have hne : some w.heap.size ≠ (Value.slice sa a ka).ownBlock := fun e => by have := (own_lt HO9.out e.symm).1; omega
          have HY6 := Lib.hid (HY9.out.same (hgrow6.block w.heap.size HY9.out.lt hne))
          have hown7 : w6.ownsRow W.heap.size 47 10 v6 (A ++ [bigM xa xb]).length ((A ++ [bigM xa xb]).flatMap mcs) := by
            have e9 : (A ++ [bigM xa xb]).flatMap mcs = A.flatMap mcs ++ mcs (bigM xa xb) := by rw [List.flatMap_append, List.flatMap_cons, List.flatMap_nil, List.append_nil]
            rw [e9, List.length_append, Ha.out]
            exact hown6
          obtain ⟨a6, k6, rfl, -, hR6⟩ := OwnL.isL mcs_len (by decide) hown7
          have HR6 := Lib.hid hR6
          have hln : (A ++ [bigM xa xb]).length = a + 1 := by rw [List.length_append, Ha.out]; rfl
          have HW6 := Lib.hid (HWi.out a6 k6 (A ++ [bigM xa xb]) w6 HR6.out HMo.out (by rw [hln]; omega))
          have HB6 := Lib.hid (HW.out.trans (hB6.mono (Nat.le_of_lt hWz)))
          rw [hln] at HW6 ⊢
          have y3 := HY6.out.cell 3
          have y4 := HY6.out.cell 4
          have y5 := HY6.out.cell 5
          dsimp only [List.getElem?_cons_zero, List.getElem?_cons_succ] at y3 y4 y5
          have hyl := HY6.out.lt
          have hwb : withinB 0 z1 z2 (A ++ [bigM xa xb]) = BB := by rw [← HBB.out, hb.out, HAl.out]; rfl
          rw [hwb] at HW6
          clear hwb
          clear hown6 hgrow6 hown7 hR6 hB6 hne hln HO9 HX9 HB9 HY9 HY6 hq9 hcB hfB hzB
          dsimp only [Act.put, Array.setIfInBounds]
          go_wp2_with (go_at_call 69; (with_reducible refine HW6.out.mono ?_); rintro e w8 ⟨rfl, hb8⟩; have HB8 := Lib.hid (HB6.out.trans (hb8.mono HB6.out.size)))
          go_ret
          exact ⟨rfl, HB8.out⟩
end Go.Proofs.Ytmkdfcggjlhcpaa
