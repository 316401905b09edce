/-
  SimilarEven: all machines are given, or there is no room for more; no group is above its most by what it got; of two groups that are not full the one that got something is at most one above the other one.
  For every number, and all lists of sizes and greatest sizes, without a condition.
-/
import Derived.Test.YtlgbbfaeclaghaaSimE1
import Derived.Deep.AppendLies
import Derived.IntWalk
namespace Go.Proofs.Ytlgbbfaeclaghaa
open Go.ChangeShapes Go.WideShapes Go.ChangeAt Go.RowKit
set_option linter.unusedVariables false
namespace similarEven
theorem Try.cells5 : Try.prog.cellsOf 5 = 1 := by kernel_rfl

/-- The bytes that a slice holds. -/
def BytesAt (w : World) (a : Option Addr) (n : Nat) (D : Nat → Int) : Prop :=
  0 < n → ∃ b off, a = some ⟨b, off, none⟩ ∧ b < w.heap.size ∧ ∀ i, i < n → w.cell? ⟨b, off + i, none⟩ = some (.int .u8 (D i)) ∧ 0 ≤ D i ∧ D i ≤ 255
theorem BytesAt.mono {w w' : World} {a : Option Addr} {n : Nat} {D : Nat → Int} (h : BytesAt w a n D) (hb : Below w.heap.size w w') : BytesAt w' a n D := fun h0 => by
  obtain ⟨b, off, e, hlt, hc⟩ := h h0
  refine ⟨b, off, e, Nat.lt_of_lt_of_le hlt hb.size, fun i hi => ?_⟩
  rw [hb.cell (p := ⟨b, _, none⟩) hlt]
  exact hc i hi

theorem open_bytes {H : Type} {enc : TypeId × Value → H} {W : World} {base : Nat} {v : Value} {d : DataW H} {p : List MemPlace}
    (hv : Value.okWide Try.prog W .any base 23 v) (h : DataW.Trod enc Try.prog W 0 (fun _ => true) true 23 v d p) :
    ∃ (a : Option Addr) (n k : Nat) (D : Nat → Int), v = .slice a n k ∧ BytesAt W a n D := by
  rcases open_rows Try.underlying23 Try.cells5 (by decide) hv h with rfl | ⟨a, cap, rfl⟩ | ⟨b, off, n, cap, rfl, hn, hnc, hcm, hb, hr⟩
  · exact ⟨none, 0, 0, fun _ => 0, rfl, fun h => absurd h (Nat.lt_irrefl 0)⟩
  · exact ⟨some a, 0, cap, fun _ => 0, rfl, fun h => absurd h (Nat.lt_irrefl 0)⟩
  · have hD : ∀ i, ∃ o : Int, i < n → W.cell? ⟨b, off + i, none⟩ = some (.int .u8 o) ∧ 0 ≤ o ∧ o ≤ 255 := by
      intro i
      by_cases hi : i < n
      · obtain ⟨cs, hl, hc, fuel, y, hy⟩ := hr i hi
        match cs, hl with
        | [c0], _ =>
          obtain ⟨m, q0, _, hw⟩ := DataW.trod_int Try.underlying5 hy
          have h0 := hc 0 (by decide)
          have hx : 0 ≤ m ∧ m ≤ 255 := by simpa [Lit.wf, IntKind.min, IntKind.max, IntKind.signed, IntKind.bits] using hw
          refine ⟨m, fun _ => ⟨?_, hx⟩⟩
          rw [show off + i = off + i * 1 + 0 by omega, h0]
          simpa using q0
      · exact ⟨0, fun h => absurd h hi⟩
    obtain ⟨D, hD⟩ := Classical.axiomOfChoice hD
    exact ⟨some ⟨b, off, none⟩, n, cap, D, rfl, fun _ => ⟨b, off, rfl, hb, fun i hi => hD i hi⟩⟩

theorem apart_kept {s m : Value} (h : ∀ q, s.ownBlock = some q → m.ownBlock ≠ some q) : m.ownBlock = none ∨ m.ownBlock ≠ s.ownBlock := by
  cases hm : m.ownBlock with
  | none => exact .inl rfl
  | some q => exact .inr fun e => h q e.symm hm
theorem apart_next {w : World} {base g n k cap H : Nat} {e : TypeId} {s m : Value} {xs : List Value} (h : ∀ q, s.ownBlock = some q → m.ownBlock ≠ some q) (hm : w.ownsRow base e 1 m k xs) (hat : s.ownBlock = some g ∨ g = H) (hH : w.heap.size ≤ H) : ∀ q, (Value.slice (some ⟨g, 0, none⟩) n cap).ownBlock = some q → m.ownBlock ≠ some q := by
  intro q hq
  obtain rfl : g = q := by simpa [Value.ownBlock] using hq
  rcases hat with hat | rfl
  · exact h g hat
  · intro hx
    have := (hm.lt g hx).2
    omega
theorem rowF_at (D : Nat → Int) {n k : Nat} (h : k < n) : (rowF icell D n)[k]? = some (.int .i64 (D k)) := by
  have hx : ((List.range n).map D)[k]? = some (D k) := by simp [h]
  have := rows_get icell 1 icell_len _ k 0 _ hx (by decide)
  rw [Nat.mul_one, Nat.add_zero] at this
  exact this
def md (D : Nat → Int) : Nat → Int := fun i => D i % 201

set_option maxRecDepth 100000 in
set_option maxHeartbeats 2000000 in
theorem walk_long (N : Int) (a c : Option Addr) (n m ka kc : Nat) (w : World) (h : ¬ n = m ∨ 16 < n) :
    Calls Try.prog 3 #[.int .u16 N, .slice a n ka, .slice c m kc] w fun e w' => e = .returned (.bool true) ∧ Below w.heap.size w w' := by
  by_cases h1 : n = m
  · subst h1
    have e2 : decide ((16 : Int) < (n : Int)) = true := by simp; omega
    clear h
    go_enter Try.func3, Try.ntmps3
    go_wp2_with (first | (go_at_call 6; refine (known_any _).mono ?_; rintro e w1 ⟨rfl, hb1⟩; obtain ⟨hc1, hf1⟩ := bcell hb1; have hz1 := hb1.size; (try simp at hz1); (try have hza : w.heap.size < w1.heap.size := by omega); (try have hzb : w.heap.size + 1 < w1.heap.size := by omega); (try have hzc : w.heap.size + 1 + 1 < w1.heap.size := by omega); (try have hzd : w.heap.size + 1 + 1 + 1 < w1.heap.size := by omega)))
    go_ret
    exact ⟨rfl, by (repeat' (first | with_reducible exact Below.refl _ _ | with_reducible assumption | with_reducible refine Below.drew ?_ | with_reducible refine below_drewN' ?_ _ | with_reducible refine Below.alloc ?_ ?_ _ | with_reducible refine Below.setCell ?_ ?_ _ | with_reducible refine below_step (by assumption) ?_ ?_ | omega | (simp; done) | (simp; omega)))⟩
  · have hd : ((n : Int) != (m : Int)) = true := by simp; omega
    clear h h1
    go_enter Try.func3, Try.ntmps3
    go_wp2_with (first | (go_at_call 6; refine (known_any _).mono ?_; rintro e w1 ⟨rfl, hb1⟩; obtain ⟨hc1, hf1⟩ := bcell hb1; have hz1 := hb1.size; (try simp at hz1); (try have hza : w.heap.size < w1.heap.size := by omega); (try have hzb : w.heap.size + 1 < w1.heap.size := by omega); (try have hzc : w.heap.size + 1 + 1 < w1.heap.size := by omega); (try have hzd : w.heap.size + 1 + 1 + 1 < w1.heap.size := by omega)))
    go_ret
    exact ⟨rfl, by (repeat' (first | with_reducible exact Below.refl _ _ | with_reducible assumption | with_reducible refine Below.drew ?_ | with_reducible refine below_drewN' ?_ _ | with_reducible refine Below.alloc ?_ ?_ _ | with_reducible refine Below.setCell ?_ ?_ _ | with_reducible refine below_step (by assumption) ?_ ?_ | omega | (simp; done) | (simp; omega)))⟩

theorem share_n (N : Int) (a c : Option Addr) (n ka kc : Nat) (D F : Nat → Int) (w : World) (hD : IntsAt w a n D) (hF : IntsAt w c n F) (hn : n ≤ 16) (h0 : 0 ≤ N) (hN : N ≤ 65535)
    (bD : ∀ i, i < n → 0 ≤ D i ∧ D i ≤ 200) (bF : ∀ i, i < n → 0 ≤ F i ∧ F i ≤ 200) :
    Calls Try.prog 7 #[.int .i64 N, .slice a n ka, .slice c n kc] w fun e w' => ∃ r kr, e = .returned (.slice r n kr) ∧ IntsAt w' r n (shF D F n N.toNat) ∧ Below w.heap.size w w' := by
  have hL : shL N n n D F = n := if_neg (fun t => t.elim (by omega) (fun t => by
    rw [wrongB_of n D F hn ((okI_iff D n).2 bD) ((okI_iff F n).2 bF)] at t
    cases t))
  refine (share_any N a c n n ka kc D F w hD hF (by omega) (by omega) (by omega)).mono ?_
  rintro e w' ⟨r, kr, rfl, hI, hb⟩
  rw [hL] at hI
  exact ⟨r, kr, by rw [hL], hI, hb⟩
theorem md_bd (D : Nat → Int) (i : Nat) (h : 0 ≤ D i ∧ D i ≤ 255) : 0 ≤ md D i ∧ md D i ≤ 200 := by unfold md; omega

set_option maxRecDepth 100000 in
set_option maxHeartbeats 8000000 in
theorem walk_some (N : Int) (a c : Option Addr) (n ka kc : Nat) (D F : Nat → Int) (w : World) (h0 : 0 ≤ N) (h1 : N ≤ 65535) (h2 : n ≤ 16) (hD : BytesAt w a n D) (hF : BytesAt w c n F) :
    Calls Try.prog 3 #[.int .u16 N, .slice a n ka, .slice c n kc] w fun e w' => e = .returned (.bool true) ∧ Below w.heap.size w w' := by
  have HD := Lib.hid hD
  have HF := Lib.hid hF
  clear hD hF
  have BD := Lib.hid (show ∀ i, i < n → 0 ≤ D i ∧ D i ≤ 255 from fun i hi => by obtain ⟨_, _, _, _, h⟩ := HD.out (by omega); exact (h i hi).2)
  have BF := Lib.hid (show ∀ i, i < n → 0 ≤ F i ∧ F i ≤ 255 from fun i hi => by obtain ⟨_, _, _, _, h⟩ := HF.out (by omega); exact (h i hi).2)
  have e2 : decide ((16 : Int) < (n : Int)) = false := by simp; omega
  obtain ⟨i0, hi, hz0, hz1, hz2⟩ := info_parts Try.info3
  have Hi := Lib.hid hi
  have Hz0 := Lib.hid hz0
  have Hz1 := Lib.hid hz1
  have Hz2 := Lib.hid hz2
  clear hi hz0 hz1 hz2
  go_enter Try.func3, Try.ntmps3
  go_wp2
  go_loopw [7, 8, 9, 10] (fun s m r i wr => ∃ k : Nat, k ≤ n ∧ i = .int .i64 k ∧ r = .int .i64 (roomI (md D) (md F) k) ∧ wr.ownsRow w.heap.size 3 1 s k (rowF icell (md D) k) ∧ wr.ownsRow w.heap.size 3 1 m k (rowF icell (md F) k) ∧ Below w.heap.size w wr ∧ (∀ q, s.ownBlock = some q → m.ownBlock ≠ some q)) (fun _ _ _ i _ => n - (intOf i).toNat)
  case atStart => exact ⟨0, by omega, rfl, rfl, World.ownsRow_nil _ _ _ _, World.ownsRow_nil _ _ _ _, by (repeat' (first | with_reducible exact Below.refl _ _ | with_reducible assumption | with_reducible refine Below.drew ?_ | with_reducible refine below_drewN' ?_ _ | with_reducible refine Below.alloc ?_ ?_ _ | with_reducible refine Below.setCell ?_ ?_ _ | with_reducible refine below_step (by assumption) ?_ ?_ | omega | (simp; done) | (simp; omega))), fun q h => by cases h⟩
  case round =>
    obtain ⟨k, hk, rfl, rfl, hs, hm, hB, hne⟩ := hrel
    obtain ⟨hcB, hfB⟩ := bcell hB
    have hbz := hB.size
    have Hs := Lib.hid hs
    have Hm := Lib.hid hm
    have HB := Lib.hid hB
    have Hne := Lib.hid hne
    clear hs hm hne
    by_cases hlt : k < n
    · obtain ⟨b, off, rfl, hb, hc⟩ := HD.out (by omega)
      obtain ⟨b2, off2, rfl, hb2, hc2⟩ := HF.out (by omega)
      have hbw : b < wr.heap.size := by omega
      have hbw2 : b2 < wr.heap.size := by omega
      obtain ⟨c1, d0, d1⟩ := hc k hlt
      obtain ⟨c2, f0, f1⟩ := hc2 k hlt
      clear hc hc2
      have hc3 : k + 1 ≤ maxLen := by unfold maxLen; omega
      have hc4 : (k + 1) * 8 ≤ 140737488355328 := by omega
      have HrD := Lib.hid (rowF_succ icell (md D) k)
      have HrF := Lib.hid (rowF_succ icell (md F) k)
      have HK := Lib.hid (icell_one (md D k))
      go_wp2_with (first | (at_builtin; refine wpList_append_lies _ rfl (.tmp 32) (.tmp 39) 25 rfl w.heap.size 3 i0 _ 1 8 Try.underlying25 Hi.out Hz0.out Hz1.out Hz2.out rfl (by decide) _ k (rowF icell (md D) k) rfl (Hs.out.alloc _) ⟨wr.heap.size, 0, none⟩ 1 1 (icell (md D k)) rfl rfl (news_at _ _ _) (icell_one _) (by decide) hc3 hc4 (le_alloc hbz _) (wr.heap.size + 1) (by simp) ?_; intro g1 cap1 w1 hown1 hgrow1 hat1 hlt1; rw [← HrD.out] at hown1; have hB1 := own_below (Hs.out.alloc _) (HB.out.alloc hbz _) (le_alloc hbz _) hgrow1; have HM1 := Lib.hid ((Hm.out.alloc _).kept hgrow1 (apart_kept Hne.out)); have HN1 := Lib.hid (apart_next (n := k + 1) (cap := cap1) Hne.out Hm.out hat1 (by omega)); have HO1 := Lib.hid hown1; have hz1b := hB1.size; obtain ⟨hcc1, hff1⟩ := bcell hB1; clear hown1 hgrow1 hat1) | (at_builtin; refine wpList_append_lies _ rfl (.tmp 41) (.tmp 48) 25 rfl w.heap.size 3 i0 _ 1 8 Try.underlying25 Hi.out Hz0.out Hz1.out Hz2.out rfl (by decide) _ k (rowF icell (md F) k) rfl (HM1.out.alloc _) ⟨w1.heap.size, 0, none⟩ 1 1 (icell (md F k)) rfl rfl (news_at _ _ _) (icell_one _) (by decide) hc3 hc4 (le_alloc hz1b _) (w1.heap.size + 1) (by simp) ?_; intro g2 cap2 w2 hown2 hgrow2 hat2 hlt2; rw [← HrF.out] at hown2; have hB2 := own_below (HM1.out.alloc _) (hB1.alloc hz1b _) (le_alloc hz1b _) hgrow2; have HS2 := Lib.hid ((HO1.out.alloc _).kept hgrow2 (apart_kept fun q hq hx => HN1.out q hx hq)); have HN2 := Lib.hid (apart_next (n := k + 1) (cap := cap2) (fun q hq hx => HN1.out q hx hq) HO1.out hat2 (by omega)); have HO2 := Lib.hid hown2; have hz2b := hB2.size; obtain ⟨hcc2, hff2⟩ := bcell hB2; clear hown2 hgrow2 hat2))
      have k1 : w2.cell? ⟨g1, k, none⟩ = some (.int .i64 (md D k)) := (World.ownsRow.cellAt HS2.out k (by omega)).trans (rowF_at _ (by omega))
      have k2 : w2.cell? ⟨g2, k, none⟩ = some (.int .i64 (md F k)) := (World.ownsRow.cellAt HO2.out k (by omega)).trans (rowF_at _ (by omega))
      obtain ⟨x1, x2⟩ := md_bd D k ⟨d0, d1⟩
      obtain ⟨y1, y2⟩ := md_bd F k ⟨f0, f1⟩
      have hrb := roomI_bd (md D) (md F) k (fun i hi => md_bd D i (BD.out i (by omega))) (fun i hi => md_bd F i (BF.out i (by omega)))
      have hw1 : IntKind.i64.wrap (md F k - md D k) = md F k - md D k := i64_in _ (by omega) (by omega)
      have hw2 : IntKind.i64.wrap (roomI (md D) (md F) k + max 0 (md F k - md D k)) = roomI (md D) (md F) k + max 0 (md F k - md D k) := i64_in _ (by omega) (by omega)
      have hkk : (0 : Int) ≤ (k : Int) := Int.natCast_nonneg _
      have hk1 : (k : Int) < (k : Int) + 1 := by omega
      have Hrm := Lib.hid (show wrap64 (roomI (md D) (md F) k + if md D k < md F k then md F k - md D k else 0) = roomI (md D) (md F) (k + 1) from by rw [IntWalk.wrap64_in _ (by constructor <;> (split <;> omega))]; show _ = roomI (md D) (md F) k + max 0 (md F k - md D k); split <;> omega)
      clear hrb
      go_quiet (fail)
      go_wp2
      go_roundw
      case rel => exact ⟨k + 1, by omega, by go_num, by rw [Hrm.out], own_kept HS2.out (by (repeat' (first | with_reducible exact Below.refl _ _ | with_reducible assumption | with_reducible refine Below.drew ?_ | with_reducible refine below_drewN' ?_ _ | with_reducible refine Below.alloc ?_ ?_ _ | with_reducible refine Below.setCell ?_ ?_ _ | with_reducible refine below_step (by assumption) ?_ ?_ | omega | (simp; done) | (simp; omega)))), own_kept HO2.out (by (repeat' (first | with_reducible exact Below.refl _ _ | with_reducible assumption | with_reducible refine Below.drew ?_ | with_reducible refine below_drewN' ?_ _ | with_reducible refine Below.alloc ?_ ?_ _ | with_reducible refine Below.setCell ?_ ?_ _ | with_reducible refine below_step (by assumption) ?_ ?_ | omega | (simp; done) | (simp; omega)))), by (repeat' (first | with_reducible exact Below.refl _ _ | with_reducible assumption | with_reducible refine Below.drew ?_ | with_reducible refine below_drewN' ?_ _ | with_reducible refine Below.alloc ?_ ?_ _ | with_reducible refine Below.setCell ?_ ?_ _ | with_reducible refine below_step (by assumption) ?_ ?_ | omega | (simp; done) | (simp; omega))), fun q hs hm => HN2.out q hm hs⟩
      case measure => simp [intOf]; omega
    · obtain rfl : k = n := by omega
      obtain ⟨sa, sk, rfl, hsI⟩ := ints_own Hs.out
      obtain ⟨ma, mk, rfl, hmI⟩ := ints_own Hm.out
      have HsI := Lib.hid hsI
      have HmI := Lib.hid hmI
      clear hsI hmI Hs Hm Hne
      have bD := Lib.hid (fun i (hi : i < k) => md_bd D i (BD.out i hi))
      have bF := Lib.hid (fun i (hi : i < k) => md_bd F i (BF.out i hi))
      have HS := Lib.hid (shF_bd (md D) (md F) k bD.out bF.out N.toNat)
      have HS2 := Lib.hid (shF_bd2 (md D) (md F) k bD.out bF.out N.toNat)
      have HEv := Lib.hid (shF_even (md D) (md F) k bD.out bF.out N.toNat)
      have HSum := Lib.hid (shF_sum (md D) (md F) k bD.out bF.out N.toNat)
      go_wp2_with (go_at_call 7; refine (share_n N sa ma k sk mk (md D) (md F) wr HsI.out HmI.out h2 h0 h1 bD.out bF.out).mono ?_; rintro e w5 ⟨r5, k5, rfl, hI5, hb5⟩; have HI5 := Lib.hid hI5; have hz5 := hb5.size; obtain ⟨hc5, hf5⟩ := bcell hb5; clear hI5)
      generalize shF (md D) (md F) k N.toNat = S at HS HS2 HEv HSum HI5
      have HB5 := Lib.hid (show Below w.heap.size w w5 by (repeat' (first | with_reducible exact Below.refl _ _ | with_reducible assumption | with_reducible refine Below.drew ?_ | with_reducible refine below_drewN' ?_ _ | with_reducible refine Below.alloc ?_ ?_ _ | with_reducible refine Below.setCell ?_ ?_ _ | with_reducible refine below_step (by assumption) ?_ ?_ | omega | (simp; done) | (simp; omega))))
      have HsI5 := Lib.hid (HsI.out.mono hb5)
      have HmI5 := Lib.hid (HmI.out.mono hb5)
      have hz5b := HB5.out.size
      clear hcB hfB hc5 hf5
      go_loopw [12, 13] (fun s i wx => ∃ j : Nat, j ≤ k ∧ i = .int .i64 j ∧ s = .int .i64 (sumI S j) ∧ Below w5.heap.size w5 wx) (fun _ i _ => k - (intOf i).toNat)
      case atStart => exact ⟨0, by omega, rfl, rfl, by (repeat' (first | with_reducible exact Below.refl _ _ | with_reducible assumption | with_reducible refine Below.drew ?_ | with_reducible refine below_drewN' ?_ _ | with_reducible refine Below.alloc ?_ ?_ _ | with_reducible refine Below.setCell ?_ ?_ _ | with_reducible refine below_step (by assumption) ?_ ?_ | omega | (simp; done) | (simp; omega)))⟩
      case round =>
        obtain ⟨j, hj, rfl, rfl, hC⟩ := hrel
        obtain ⟨hcC, hfC⟩ := bcell hC
        have hzC := hC.size
        by_cases hlj : j < k
        · obtain ⟨b5, o5, rfl, hb5l, hc5⟩ := HI5.out (by omega)
          obtain ⟨bs, os, rfl, hbs, hcs⟩ := HsI5.out (by omega)
          obtain ⟨bm, om, rfl, hbm, hcm⟩ := HmI5.out (by omega)
          have c1 := hc5 j hlj
          have c2 := hcs j hlj
          have c3 := hcm j hlj
          obtain ⟨s0, s1⟩ := HS.out j hlj
          obtain ⟨_, s2⟩ := HS2.out j hlj
          obtain ⟨p0, p1⟩ := bD.out j hlj
          have hsb := sumI_bd S j (fun i hi => HS2.out i (by omega))
          have g0 : decide (S j < 0) = false := decide_eq_false (by omega)
          have u1 : IntKind.i64.wrap (md D j + S j) = md D j + S j := i64_in _ (by omega) (by omega)
          have u2 : IntKind.i64.wrap (sumI S j + S j) = sumI S j + S j := i64_in _ (by omega) (by omega)
          by_cases hp : 0 < S j
          · have g3 : decide (0 < S j) = true := decide_eq_true hp
            have g4 : decide (md F j < md D j + S j) = false := decide_eq_false (by have := s1 hp; omega)
            clear s1
            go_wp2
            (try go_quiet (fail))
            (try go_wp2)
            go_loopw [14] (fun v wy => ∃ l : Nat, l ≤ k ∧ v = .int .i64 l ∧ Below w5.heap.size w5 wy) (fun v _ => k - (intOf v).toNat)
            case atStart => exact ⟨0, by omega, rfl, by (repeat' (first | with_reducible exact Below.refl _ _ | with_reducible assumption | with_reducible refine Below.drew ?_ | with_reducible refine below_drewN' ?_ _ | with_reducible refine Below.alloc ?_ ?_ _ | with_reducible refine Below.setCell ?_ ?_ _ | with_reducible refine below_step (by assumption) ?_ ?_ | omega | (simp; done) | (simp; omega)))⟩
            case round =>
              obtain ⟨l, hl, rfl, hE⟩ := hrel
              obtain ⟨hcE, hfE⟩ := bcell hE
              have hzE := hE.size
              by_cases hll : l < k
              · have d1 := hc5 l hll
                have d2 := hcs l hll
                have d3 := hcm l hll
                obtain ⟨t0, t1⟩ := HS2.out l hll
                obtain ⟨q0, q1⟩ := bD.out l hll
                have v1 : IntKind.i64.wrap (md D l + S l) = md D l + S l := i64_in _ (by omega) (by omega)
                have v2 : IntKind.i64.wrap (md D l + S l + 1) = md D l + S l + 1 := i64_in _ (by omega) (by omega)
                have hev := HEv.out j l hlj hll
                by_cases hroom : md D l + S l < md F l
                all_goals
                  first | (have g1 : decide (md D l + S l < md F l) = true := decide_eq_true hroom; have g2 : decide (md D l + S l + 1 < md D j + S j) = false := decide_eq_false (by have := hev hp hroom; omega)) | (have g1 : decide (md D l + S l < md F l) = false := decide_eq_false hroom)
                  clear hev
                  go_wp2
                  (try go_quiet (fail))
                  (try go_wp2)
                  go_roundw
                  case rel => exact ⟨l + 1, by omega, by go_num, by (repeat' (first | with_reducible exact Below.refl _ _ | with_reducible assumption | with_reducible refine Below.drew ?_ | with_reducible refine below_drewN' ?_ _ | with_reducible refine Below.alloc ?_ ?_ _ | with_reducible refine Below.setCell ?_ ?_ _ | with_reducible refine below_step (by assumption) ?_ ?_ | omega | (simp; done) | (simp; omega)))⟩
                  case measure => simp [intOf]; omega
              · go_wp2
                go_roundw
                case rel => exact ⟨j + 1, by omega, by go_num, rfl, by (repeat' (first | with_reducible exact Below.refl _ _ | with_reducible assumption | with_reducible refine Below.drew ?_ | with_reducible refine below_drewN' ?_ _ | with_reducible refine Below.alloc ?_ ?_ _ | with_reducible refine Below.setCell ?_ ?_ _ | with_reducible refine below_step (by assumption) ?_ ?_ | omega | (simp; done) | (simp; omega)))⟩
                case measure => simp [intOf]; omega
          · have g3 : decide (0 < S j) = false := decide_eq_false hp
            clear s1
            go_wp2
            (try go_quiet (fail))
            (try go_wp2)
            go_loopw [14] (fun v wy => ∃ l : Nat, l ≤ k ∧ v = .int .i64 l ∧ Below w5.heap.size w5 wy) (fun v _ => k - (intOf v).toNat)
            case atStart => exact ⟨0, by omega, rfl, by (repeat' (first | with_reducible exact Below.refl _ _ | with_reducible assumption | with_reducible refine Below.drew ?_ | with_reducible refine below_drewN' ?_ _ | with_reducible refine Below.alloc ?_ ?_ _ | with_reducible refine Below.setCell ?_ ?_ _ | with_reducible refine below_step (by assumption) ?_ ?_ | omega | (simp; done) | (simp; omega)))⟩
            case round =>
              obtain ⟨l, hl, rfl, hE⟩ := hrel
              obtain ⟨hcE, hfE⟩ := bcell hE
              have hzE := hE.size
              by_cases hll : l < k
              · have d1 := hc5 l hll
                have d2 := hcs l hll
                have d3 := hcm l hll
                obtain ⟨t0, t1⟩ := HS2.out l hll
                obtain ⟨q0, q1⟩ := bD.out l hll
                have v1 : IntKind.i64.wrap (md D l + S l) = md D l + S l := i64_in _ (by omega) (by omega)
                have v2 : IntKind.i64.wrap (md D l + S l + 1) = md D l + S l + 1 := i64_in _ (by omega) (by omega)
                have hev := HEv.out j l hlj hll
                clear hev
                go_wp2
                (try go_quiet (fail))
                (try go_wp2)
                go_roundw
                case rel => exact ⟨l + 1, by omega, by go_num, by (repeat' (first | with_reducible exact Below.refl _ _ | with_reducible assumption | with_reducible refine Below.drew ?_ | with_reducible refine below_drewN' ?_ _ | with_reducible refine Below.alloc ?_ ?_ _ | with_reducible refine Below.setCell ?_ ?_ _ | with_reducible refine below_step (by assumption) ?_ ?_ | omega | (simp; done) | (simp; omega)))⟩
                case measure => simp [intOf]; omega
              · go_wp2
                go_roundw
                case rel => exact ⟨j + 1, by omega, by go_num, rfl, by (repeat' (first | with_reducible exact Below.refl _ _ | with_reducible assumption | with_reducible refine Below.drew ?_ | with_reducible refine below_drewN' ?_ _ | with_reducible refine Below.alloc ?_ ?_ _ | with_reducible refine Below.setCell ?_ ?_ _ | with_reducible refine below_step (by assumption) ?_ ?_ | omega | (simp; done) | (simp; omega)))⟩
                case measure => simp [intOf]; omega
        · obtain rfl : j = k := by omega
          have hs := HSum.out
          have hnn : ((N.toNat : Nat) : Int) = N := by omega
          rw [hnn] at hs
          have hrb := roomI_bd (md D) (md F) j bD.out bF.out
          have HBr := Lib.hid (show Below w.heap.size w wr by (repeat' (first | with_reducible exact Below.refl _ _ | with_reducible assumption | with_reducible refine Below.drew ?_ | with_reducible refine below_drewN' ?_ _ | with_reducible refine Below.alloc ?_ ?_ _ | with_reducible refine Below.setCell ?_ ?_ _ | with_reducible refine below_step (by assumption) ?_ ?_ | omega | (simp; done) | (simp; omega))))
          obtain ⟨r, hr⟩ : ∃ r, roomI (md D) (md F) j = r := ⟨_, rfl⟩
          rw [hr] at hs hrb ⊢
          obtain ⟨q, hq⟩ : ∃ q, sumI S j = q := ⟨_, rfl⟩
          rw [hq] at hs ⊢
          clear hq hr hnn
          by_cases hm : r < N
          · obtain rfl : q = r := by omega
            have g1 : decide (q < N) = true := decide_eq_true hm
            have g2 : decide (N ≤ q) = false := decide_eq_false (by omega)
            have g3 : decide (N < q) = false := decide_eq_false (by omega)
            have g4 : decide (q ≤ N) = true := decide_eq_true (by omega)
            clear hs
            go_wp2_with (first | (go_at_call 6; refine (known_any _).mono ?_; rintro e w1 ⟨rfl, hb1⟩; obtain ⟨hc1, hf1⟩ := bcell hb1; have hz1 := hb1.size; (try simp at hz1); (try have hza : w.heap.size < w1.heap.size := by omega); (try have hzb : w.heap.size + 1 < w1.heap.size := by omega); (try have hzc : w.heap.size + 1 + 1 < w1.heap.size := by omega); (try have hzd : w.heap.size + 1 + 1 + 1 < w1.heap.size := by omega)))
            all_goals
              go_ret
              exact ⟨rfl, by (repeat' (first | with_reducible exact Below.refl _ _ | with_reducible assumption | with_reducible refine Below.drew ?_ | with_reducible refine below_drewN' ?_ _ | with_reducible refine Below.alloc ?_ ?_ _ | with_reducible refine Below.setCell ?_ ?_ _ | with_reducible refine below_step (by assumption) ?_ ?_ | omega | (simp; done) | (simp; omega)))⟩
          · obtain rfl : q = N := by omega
            have g1 : decide (r < q) = false := decide_eq_false hm
            have g2 : decide (q ≤ r) = true := decide_eq_true (by omega)
            by_cases he : q = r
            · subst he
              clear hs
              go_wp2_with (first | (go_at_call 6; refine (known_any _).mono ?_; rintro e w1 ⟨rfl, hb1⟩; obtain ⟨hc1, hf1⟩ := bcell hb1; have hz1 := hb1.size; (try simp at hz1); (try have hza : w.heap.size < w1.heap.size := by omega); (try have hzb : w.heap.size + 1 < w1.heap.size := by omega); (try have hzc : w.heap.size + 1 + 1 < w1.heap.size := by omega); (try have hzd : w.heap.size + 1 + 1 + 1 < w1.heap.size := by omega)))
              all_goals
                go_ret
                exact ⟨rfl, by (repeat' (first | with_reducible exact Below.refl _ _ | with_reducible assumption | with_reducible refine Below.drew ?_ | with_reducible refine below_drewN' ?_ _ | with_reducible refine Below.alloc ?_ ?_ _ | with_reducible refine Below.setCell ?_ ?_ _ | with_reducible refine below_step (by assumption) ?_ ?_ | omega | (simp; done) | (simp; omega)))⟩
            · have g3 : decide (q < r) = true := decide_eq_true (by omega)
              have g4 : decide (r ≤ q) = false := decide_eq_false (by omega)
              clear hs
              go_wp2_with (first | (go_at_call 6; refine (known_any _).mono ?_; rintro e w1 ⟨rfl, hb1⟩; obtain ⟨hc1, hf1⟩ := bcell hb1; have hz1 := hb1.size; (try simp at hz1); (try have hza : w.heap.size < w1.heap.size := by omega); (try have hzb : w.heap.size + 1 < w1.heap.size := by omega); (try have hzc : w.heap.size + 1 + 1 < w1.heap.size := by omega); (try have hzd : w.heap.size + 1 + 1 + 1 < w1.heap.size := by omega)))
              all_goals
                go_ret
                exact ⟨rfl, by (repeat' (first | with_reducible exact Below.refl _ _ | with_reducible assumption | with_reducible refine Below.drew ?_ | with_reducible refine below_drewN' ?_ _ | with_reducible refine Below.alloc ?_ ?_ _ | with_reducible refine Below.setCell ?_ ?_ _ | with_reducible refine below_step (by assumption) ?_ ?_ | omega | (simp; done) | (simp; omega)))⟩

theorem walk {H : Type} {enc : TypeId × Value → H} {W : World} {base : Nat} {v u : Value} {d f : DataW H} {p q : List MemPlace} (N : Int) (hN : (Lit.int .u16 N).wf = true)
    (hv : Value.okWide Try.prog W .any base 23 v) (h : DataW.Trod enc Try.prog W 0 (fun _ => true) true 23 v d p)
    (hu : Value.okWide Try.prog W .any base 23 u) (k : DataW.Trod enc Try.prog W 0 (fun _ => true) true 23 u f q) :
    Calls Try.prog 3 #[.int .u16 N, v, u] W fun e W' => e = .returned (.bool true) ∧ Below W.heap.size W W' := by
  obtain ⟨a, n, ka, D, rfl, hD⟩ := open_bytes hv h
  obtain ⟨c, m, kc, F, rfl, hF⟩ := open_bytes hu k
  have hx : 0 ≤ N ∧ N ≤ 65535 := by simpa [Lit.wf, IntKind.min, IntKind.max, IntKind.signed, IntKind.bits] using hN
  by_cases hg : ¬ n = m ∨ 16 < n
  · exact walk_long N a c n m ka kc W hg
  · obtain rfl : n = m := by omega
    exact walk_some N a c n ka kc D F W hx.1 hx.2 (by omega) hD hF

set_option maxRecDepth 100000 in
theorem lifted (os : Os) (started : os.Started) (H : Type) (enc : TypeId × Value → H) :
    ReturnsInHanded {} Try.checked os 3 .any (Rows.similarEvenSpec.pre6 enc Try.prog Try.f3 Rows.similarEvenRow.domain false) (Rows.similarEvenSpec.post enc Try.prog Try.f3 false true false false) := by
  refine returnsInHanded_of_change (C := Try.checked) Try.own started (by kernel_rfl) Try.func3
    (ChangeSpec.witness6 (enc := enc) (C := Try.checked) false ⟨#[], #[.int .u16 0, .slice none 0 0, .slice none 0 0], []⟩ 8 (by kernel_rfl) (by kernel_rfl) (by kernel_rfl) (by kernel_rfl)) ?_
  intro W base args ds gs before hval hW _ _
  have hW' := hW
  obtain ⟨p, q, hA, hV, rfl, hfz, hnd⟩ := hW
  rw [Try.params3] at hA hval
  obtain ⟨v0, v1, v2, d0, d1, d2, p0, p1, p2, rfl, rfl, rfl, h0, h1, h2⟩ := trodAll_three hA
  obtain ⟨n, rfl, _, _, wn⟩ := open_int Try.underlying22 (hval 0 22 v0 rfl rfl) h0
  refine (walk n wn (hval 1 23 v1 rfl rfl) h1 (hval 2 23 v2 rfl rfl) h2).mono fun e W' ⟨he, hb⟩ => ?_
  exact ⟨_, he, law_post Try.laidOut hW' rfl (by kernel_rfl) (by kernel_rfl) Try.underlying4 rfl rfl rfl hb⟩

theorem over : Rows.similarEvenRow.holds Try.pinned (OpenSpec.ofChange Rows.similarEvenSpec) :=
  OpenClaim.holds_of_wide 3 Try.f3 rfl rfl rfl rfl rfl rfl rfl ⟨rfl, rfl, rfl, rfl, rfl⟩ rfl rfl rfl rfl rfl (by kernel_rfl) Try.func3 (by kernel_rfl)
    (of_decide_eq_true (by kernel_rfl)) (by unfold Func.isWrapper; first | (rw [if_pos (by decide +kernel)]; kernel_rfl) | (rw [if_neg (by decide +kernel)]; exact ⟨rfl, rfl⟩))
    (fun os started H enc _ => lifted os started H enc)

/-- The statement. -/
theorem proved : Rows.SimilarEvenSaid := over
end similarEven
end Go.Proofs.Ytlgbbfaeclaghaa
