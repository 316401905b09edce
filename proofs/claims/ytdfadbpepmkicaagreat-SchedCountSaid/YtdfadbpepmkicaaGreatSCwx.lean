/-
  SchedCount's walk: each move is of a pod that was pending, to a machine that is ready; the order has each pending pod once, and no greater Rank behind a lesser one.
-/
import Derived.Test.YtdfadbpepmkicaaGreatNHx
import Derived.Test.YtdfadbpepmkicaaGreatYeAx
import Derived.Test.YtdfadbpepmkicaaGreatScIx
import Derived.Test.YtdfadbpepmkicaaGreatScOx
namespace Go.Proofs.YtdfadbpepmkicaaGreat
open Go.RowKit
set_option linter.unusedVariables false
set_option linter.unusedSimpArgs false
set_option maxRecDepth 100000 in
set_option maxHeartbeats 2000000 in
theorem rfind_any (a : Option Addr) (ka : Nat) (ms : List Mac) (nm : ByteArray) (w : World) (hF : MacL w a ms) (hl : ms.length ≤ 1000000) :
    Calls Tryz.prog 25 #[.slice a ms.length ka, .string nm] w fun e w' => e = .returned (.int .i64 (findN (ms.map Mac.nm) nm 0)) ∧ Below w.heap.size w w' := by
  obtain ⟨n, hn⟩ : ∃ n, ms.length = n := ⟨_, rfl⟩
  obtain ⟨N, hN⟩ : ∃ N, ms.map Mac.nm = N := ⟨_, rfl⟩
  have HN := Lib.hid hn
  have HM := Lib.hid hN
  have HL := Lib.hid (show N.length = n by rw [← hN, List.length_map, hn])
  obtain ⟨R, hR⟩ : ∃ R, findN N nm 0 = R := ⟨_, rfl⟩
  have HR := Lib.hid (show findN (N.drop 0) nm 0 = R from hR)
  have HF := Lib.hid hF
  rw [hn] at hl ⊢
  rw [hN, hR]
  clear hn hN hR hF
  go_enter Tryz.func25, Tryz.ntmps25
  go_wp2
  go_loopw [5] (fun vi wr => ∃ k : Nat, k ≤ n ∧ vi = .int .i64 k ∧ findN (N.drop k) nm k = R ∧ wr = w) (fun vi _ => n - (intOf vi).toNat)
  case atStart => exact ⟨0, Nat.zero_le _, rfl, HR.out, rfl⟩
  case round =>
    clear HR
    obtain ⟨k, hk, rfl, hE, rfl⟩ := hrel
    have HE := Lib.hid hE
    clear hE
    by_cases hlt : k < n
    · obtain ⟨m, hm⟩ := mem_at (l := ms) (k := k) (by rw [HN.out]; exact hlt)
      obtain ⟨b, o, rfl, hb, hc⟩ := HF.out (by rw [HN.out]; omega)
      have c0 : wr.cell? ⟨b, o + k * 10, none⟩ = some (.string (Mac.nm m)) := hc k m hm 0 (by decide)
      have hmN := nm_at hm
      rw [HM.out] at hmN
      obtain ⟨y, hy⟩ : ∃ y, Mac.nm m = y := ⟨_, rfl⟩
      rw [hy] at c0 hmN
      have HNx := Lib.hid ((findN_at (x := nm) hmN).symm.trans HE.out)
      clear hc hm hmN hy
      by_cases he : y = nm
      · have q := str_yes he
        obtain rfl : R = (k : Int) := by have := HNx.out; rw [if_pos he] at this; exact this.symm
        clear he
        go_wp2
        go_ret
        exact ⟨rfl, Below.refl _ _⟩
      · have q := str_no he
        have HNy := Lib.hid (show findN (N.drop (k + 1)) nm (k + 1) = R by have := HNx.out; rw [if_neg he] at this; exact this)
        clear he
        go_wp2
        go_roundw
        case rel => exact ⟨k + 1, by omega, by go_num, HNy.out, by trivial⟩
        case measure => simp [intOf]; omega
    · obtain rfl : k = n := by omega
      obtain rfl : R = -1 := by
        rw [← HE.out, List.drop_of_length_le (by rw [HL.out]; exact Nat.le_refl _)]
        rfl
      go_wp2
      go_ret
      exact ⟨rfl, Below.refl _ _⟩
set_option maxRecDepth 100000 in
set_option maxHeartbeats 2000000 in
theorem rplace_any (a : Option Addr) (ka : Nat) (bs : List Bd) (nm : ByteArray) (w : World) (hF : BndL w a bs) (hl : bs.length ≤ 1000000) :
    Calls Tryz.prog 24 #[.slice a bs.length ka, .string nm] w fun e w' => e = .returned (.int .i64 (findN (bs.map pnm) nm 0)) ∧ Below w.heap.size w w' := by
  obtain ⟨n, hn⟩ : ∃ n, bs.length = n := ⟨_, rfl⟩
  obtain ⟨N, hN⟩ : ∃ N, bs.map pnm = N := ⟨_, rfl⟩
  have HN := Lib.hid hn
  have HM := Lib.hid hN
  have HL := Lib.hid (show N.length = n by rw [← hN, List.length_map, hn])
  obtain ⟨R, hR⟩ : ∃ R, findN N nm 0 = R := ⟨_, rfl⟩
  have HR := Lib.hid (show findN (N.drop 0) nm 0 = R from hR)
  have HF := Lib.hid hF
  rw [hn] at hl ⊢
  rw [hN, hR]
  clear hn hN hR hF
  go_enter Tryz.func24, Tryz.ntmps24
  go_wp2
  go_loopw [5] (fun vi wr => ∃ k : Nat, k ≤ n ∧ vi = .int .i64 k ∧ findN (N.drop k) nm k = R ∧ wr = w) (fun vi _ => n - (intOf vi).toNat)
  case atStart => exact ⟨0, Nat.zero_le _, rfl, HR.out, rfl⟩
  case round =>
    clear HR
    obtain ⟨k, hk, rfl, hE, rfl⟩ := hrel
    have HE := Lib.hid hE
    clear hE
    by_cases hlt : k < n
    · obtain ⟨m, hm⟩ := mem_at (l := bs) (k := k) (by rw [HN.out]; exact hlt)
      obtain ⟨b, o, rfl, hb, hc⟩ := HF.out (by rw [HN.out]; omega)
      have c0 : wr.cell? ⟨b, o + k * 21, none⟩ = some (.string (pnm m)) := hc k m hm 0 (by decide)
      have hmN := pnm_at hm
      rw [HM.out] at hmN
      obtain ⟨y, hy⟩ : ∃ y, pnm m = y := ⟨_, rfl⟩
      rw [hy] at c0 hmN
      have HNx := Lib.hid ((findN_at (x := nm) hmN).symm.trans HE.out)
      clear hc hm hmN hy
      by_cases he : y = nm
      · have q := str_yes he
        obtain rfl : R = (k : Int) := by have := HNx.out; rw [if_pos he] at this; exact this.symm
        clear he
        go_wp2
        go_ret
        exact ⟨rfl, Below.refl _ _⟩
      · have q := str_no he
        have HNy := Lib.hid (show findN (N.drop (k + 1)) nm (k + 1) = R by have := HNx.out; rw [if_neg he] at this; exact this)
        clear he
        go_wp2
        go_roundw
        case rel => exact ⟨k + 1, by omega, by go_num, HNy.out, by trivial⟩
        case measure => simp [intOf]; omega
    · obtain rfl : k = n := by omega
      obtain rfl : R = -1 := by
        rw [← HE.out, List.drop_of_length_le (by rw [HL.out]; exact Nat.le_refl _)]
        rfl
      go_wp2
      go_ret
      exact ⟨rfl, Below.refl _ _⟩
theorem findN_pos {N : List ByteArray} {i : Nat} {x : ByteArray} (h : N[i]? = some x) : 0 ≤ findN N x 0 ∧ findN N x 0 ≤ i := by
  have h1 : ∀ (l : List ByteArray) (x : ByteArray) (i k : Nat), l[i]? = some x → (k : Int) ≤ findN l x k ∧ findN l x k ≤ k + i := by
    intro l
    induction l with
    | nil => intro x i k h; simp at h
    | cons y l ih =>
      intro x i k h
      unfold findN
      by_cases e : y = x
      · rw [if_pos e]
        omega
      · rw [if_neg e]
        cases i with
        | zero => exact absurd (by simpa using h) e
        | succ i =>
          have h9 := ih x i (k + 1) (by simpa using h)
          omega
  have h2 := h1 N x i 0 h
  omega
theorem twice_no {N : List ByteArray} (h : ((List.range N.length).any fun i => decide (findN N (N.getD i emp) 0 < (i : Int))) = false) : twiceN N = false := h
theorem twice_yes {N : List ByteArray} {k : Nat} {y : ByteArray} (h : N[k]? = some y) (hz : findN N y 0 < k) : twiceN N = true := by
  unfold twiceN
  rw [List.any_eq_true]
  refine ⟨k, List.mem_range.2 (List.getElem?_eq_some_iff.1 h).1, ?_⟩
  rw [List.getD_eq_getElem?_getD, h]
  exact decide_eq_true hz
theorem twice_step {N : List ByteArray} {k : Nat} {y : ByteArray} (h : N[k]? = some y) (hz : ¬ findN N y 0 < k) (hE : ((List.range k).any fun i => decide (findN N (N.getD i emp) 0 < (i : Int))) = false) :
    ((List.range (k + 1)).any fun i => decide (findN N (N.getD i emp) 0 < (i : Int))) = false := by
  rw [List.range_succ, List.any_append, hE]
  simp only [List.any_cons, List.any_nil, Bool.or_false, Bool.false_or]
  rw [List.getD_eq_getElem?_getD, h]
  exact decide_eq_false hz
set_option maxRecDepth 100000 in
set_option maxHeartbeats 16000000 in
theorem rcheck_any (a : Option Addr) (ka : Nat) (ms : List Mac) (c : Option Addr) (kc : Nat) (bs : List Bd) (w : World) (hF : MacL w a ms) (hG : BndL w c bs) (hA : ∀ m ∈ ms, MacIn w m) (hB : ∀ b ∈ bs, BndIn w b) (hLm : ∀ m ∈ ms, lightM m = true) (hLb : ∀ b ∈ bs, lightP b.p = true) (hl : ms.length ≤ 200) (hl2 : bs.length ≤ 400) :
    Calls Tryz.prog 22 #[.slice a ms.length ka, .slice c bs.length kc] w fun e w' => e = .returned (.int .i64 (checkY ms bs)) ∧ Below w.heap.size w w' := by
  have H1 := Lib.hid (fun (m : Mac) (hm : m ∈ ms) (V : World) (hV : Below w.heap.size w V) => rightm_any m V ((hA m hm).here.mono hV) (hLm m hm))
  have H2 := Lib.hid (fun (m : Bd) (hm : m ∈ bs) (V : World) (hV : Below w.heap.size w V) => refrightp_any m.p V ((hB m hm).here.mono hV) (hLb m hm))
  have H3 := Lib.hid (fun (x : ByteArray) (V : World) (hV : Below w.heap.size w V) => rfind_any a ka ms x V (hF.mono hV) (by omega))
  have H4 := Lib.hid (fun (x : ByteArray) (V : World) (hV : Below w.heap.size w V) => rplace_any c kc bs x V (hG.mono hV) (by omega))
  obtain ⟨n, hn⟩ : ∃ n, ms.length = n := ⟨_, rfl⟩
  obtain ⟨p, hp⟩ : ∃ p, bs.length = p := ⟨_, rfl⟩
  obtain ⟨N, hN⟩ : ∃ N, ms.map Mac.nm = N := ⟨_, rfl⟩
  obtain ⟨M, hM⟩ : ∃ M, bs.map pnm = M := ⟨_, rfl⟩
  obtain ⟨R, hR⟩ : ∃ R, checkY ms bs = R := ⟨_, rfl⟩
  have HNl := Lib.hid (show N.length = n by rw [← hN, List.length_map, hn])
  have HMl := Lib.hid (show M.length = p by rw [← hM, List.length_map, hp])
  rw [hR]
  unfold checkY at hR
  rw [if_neg (by omega), hN, hM] at hR
  have HR1 := Lib.hid (show ms.all okM = false → R = 12 from fun h => by rw [← hR, if_pos (by rw [h]; rintro ⟨h, -⟩; cases h)])
  have HR2 := Lib.hid (show bs.all okBd = false → R = 12 from fun h => by rw [← hR, if_pos (by rw [h]; rintro ⟨-, h⟩; cases h)])
  have HR3 := Lib.hid (show ms.all okM = true → bs.all okBd = true → twiceN N = true → R = 15 from fun h1 h2 h => by rw [← hR, if_neg (by simp [h1, h2]), if_pos (.inl h)])
  have HR4 := Lib.hid (show ms.all okM = true → bs.all okBd = true → twiceN M = true → R = 15 from fun h1 h2 h => by rw [← hR, if_neg (by simp [h1, h2]), if_pos (.inr h)])
  have HR5 := Lib.hid (show ms.all okM = true → bs.all okBd = true → twiceN N = false → twiceN M = false → bs.all (onB N) = false → R = 16 from fun h1 h2 h3 h4 h => by rw [← hR, if_neg (by simp [h1, h2]), if_neg (by rw [h3, h4]; rintro (h | h) <;> cases h), if_pos (by rw [h]; decide)])
  have HR6 := Lib.hid (show ms.all okM = true → bs.all okBd = true → twiceN N = false → twiceN M = false → bs.all (onB N) = true → R = 0 from fun h1 h2 h3 h4 h => by rw [← hR, if_neg (by simp [h1, h2]), if_neg (by rw [h3, h4]; rintro (h | h) <;> cases h), if_neg (by rw [h]; decide)])
  have HF := Lib.hid hF
  have HG := Lib.hid hG
  have Hn := Lib.hid hn
  have Hp := Lib.hid hp
  have HN := Lib.hid hN
  have HM := Lib.hid hM
  rw [hn, hN] at H3
  rw [hp, hM] at H4
  rw [hn] at hl
  rw [hp] at hl2
  rw [hn, hp]
  have k1 : decide ((200 : Int) < (n : Int)) = false := decide_eq_false (by omega)
  have k2 : decide ((400 : Int) < (p : Int)) = false := decide_eq_false (by omega)
  clear hF hG hA hB hLm hLb hn hp hN hM hR
  go_enter Tryz.func22, Tryz.ntmps22
  go_wp2
  go_loopw [5] (fun vi wr => ∃ k : Nat, k ≤ n ∧ vi = .int .i64 k ∧ (ms.take k).all okM = true ∧ Below w.heap.size w wr) (fun vi _ => n - (intOf vi).toNat)
  case atStart => exact ⟨0, Nat.zero_le _, rfl, rfl, by (repeat' (first | with_reducible exact Below.refl _ _ | with_reducible assumption | with_reducible refine Below.drew ?_ | with_reducible refine below_drewN' ?_ _ | with_reducible refine Below.alloc ?_ ?_ _ | with_reducible refine Below.setCell ?_ ?_ _ | with_reducible refine below_step (by assumption) ?_ ?_ | omega | (simp; done) | (simp; omega)))⟩
  case round =>
    obtain ⟨k, hk, rfl, hE, hB⟩ := hrel
    have HE := Lib.hid hE
    have HB := Lib.hid hB
    have hbz := hB.size
    by_cases hlt : k < n
    · obtain ⟨m, hm⟩ := mem_at (l := ms) (k := k) (by rw [Hn.out]; exact hlt)
      obtain ⟨b, o, rfl, hb, hc⟩ := (HF.out.mono hB) (by rw [Hn.out]; omega)
      have hrg : wr.rangeAt b (o + k * 10) (mrow m) := fun j v hj => by rw [hc k m hm j (by have := (List.getElem?_eq_some_iff.1 hj).1; exact this)]; exact hj
      have HRg := Lib.hid hrg
      have c0 : wr.cell? ⟨b, o + k * 10, none⟩ = some (.string m.nm) := hc k m hm 0 (by decide)
      have Hm := Lib.hid hm
      have HCm := Lib.hid (fun V hV => H1.out m (List.mem_of_getElem? hm) V hV)
      have hok : okM m = (!decide (m.nm = emp) && rightM m) := rfl
      obtain ⟨z, hz⟩ : ∃ z, rightM m = z := ⟨_, rfl⟩
      rw [hz] at HCm hok
      have HOk := Lib.hid hok
      obtain ⟨nm, gp, r0, r1, r2, r3, r4, la, lk, L, ta, tk, T, rd⟩ := m
      dsimp only at c0
      clear hE hB hc hm hz hok hrg
      by_cases he : nm = emp
      · obtain ⟨q1, q2, q3, q4⟩ := emp_lits he
        obtain rfl : R = 12 := HR1.out (all_bad (P := okM) Hm.out (by rw [HOk.out, decide_eq_true he]; rfl))
        clear he
        go_wp2
        go_ret
        exact ⟨rfl, HB.out⟩
      · obtain ⟨q1, q2, q3, q4⟩ := emp_litn he
        cases z with
        | false =>
          obtain rfl : R = 12 := HR1.out (all_bad (P := okM) Hm.out (by rw [HOk.out, Bool.and_false]))
          clear he
          go_wp2_with (first
            | ((with_reducible refine at_load (ty := 57) ?_); refine load_cells rfl 57 (.tmp 33) rfl b (o + k * 10) rfl [.string nm, .string gp, .int .i64 r0, .int .i64 r1, .int .i64 r2, .int .i64 r3, .int .i64 r4, .slice la L.length lk, .slice ta T.length tk, .bool rd] _ Tryz.underlying57 rfl (by kernel_rfl) HRg.out ?_)
            | (go_at_call 49; (with_reducible refine (HCm.out _ HB.out).mono ?_); rintro e w3 ⟨rfl, hb3⟩; have HB3 := Lib.hid (HB.out.trans (hb3.mono hbz)); clear hb3))
          go_ret
          exact ⟨rfl, HB3.out⟩
        | true =>
          have HE2 := Lib.hid (all_take1 (P := okM) Hm.out (by rw [HOk.out, decide_eq_false he]; rfl) HE.out)
          clear he
          go_wp2_with (first
            | ((with_reducible refine at_load (ty := 57) ?_); refine load_cells rfl 57 (.tmp 33) rfl b (o + k * 10) rfl [.string nm, .string gp, .int .i64 r0, .int .i64 r1, .int .i64 r2, .int .i64 r3, .int .i64 r4, .slice la L.length lk, .slice ta T.length tk, .bool rd] _ Tryz.underlying57 rfl (by kernel_rfl) HRg.out ?_)
            | (go_at_call 49; (with_reducible refine (HCm.out _ HB.out).mono ?_); rintro e w3 ⟨rfl, hb3⟩; have HB3 := Lib.hid (HB.out.trans (hb3.mono hbz)); clear hb3))
          go_roundw
          case rel => exact ⟨k + 1, by omega, by go_num, HE2.out, HB3.out⟩
          case measure => simp [intOf]; omega
    · obtain rfl : n = k := by omega
      have HOm := Lib.hid (all_done (P := okM) Hn.out HE.out)
      clear hE HE hB H1 HR1
      go_wp2
      go_loopw [6] (fun vi wr => ∃ q : Nat, q ≤ p ∧ vi = .int .i64 q ∧ (bs.take q).all okBd = true ∧ Below w.heap.size w wr) (fun vi _ => p - (intOf vi).toNat)
      case atStart => exact ⟨0, Nat.zero_le _, rfl, rfl, HB.out⟩
      case round =>
        obtain ⟨k, hk, rfl, hE, hB⟩ := hrel
        have HE := Lib.hid hE
        have HB := Lib.hid hB
        have hbz := hB.size
        by_cases hlt : k < p
        · obtain ⟨m, hm⟩ := mem_at (l := bs) (k := k) (by rw [Hp.out]; exact hlt)
          obtain ⟨b, o, rfl, hb, hc⟩ := (HG.out.mono hB) (by rw [Hp.out]; omega)
          have hrg : wr.rangeAt b (o + k * 21) (prow m.p) := fun j v hj => by
            have hj20 : j < 20 := (List.getElem?_eq_some_iff.1 hj).1
            rw [hc k m hm j (by omega)]
            show (prow m.p ++ [.string m.on])[j]? = some v
            rw [List.getElem?_append_left hj20]
            exact hj
          have HRg := Lib.hid hrg
          have Hm := Lib.hid hm
          have HCm := Lib.hid (fun V hV => H2.out m (List.mem_of_getElem? hm) V hV)
          obtain ⟨z, hz⟩ : ∃ z, rightP m.p = z := ⟨_, rfl⟩
          have HZ := Lib.hid (show okBd m = z from hz)
          rw [hz] at HCm
          obtain ⟨pd, on⟩ := m
          dsimp only at HRg HCm
          obtain ⟨ag, hag⟩ : ∃ ag, (prow pd).toArray = ag := ⟨_, rfl⟩
          rw [hag] at HCm
          have HAg := Lib.hid hag
          clear hE hB hc hm hz hrg hag
          cases z with
          | false =>
            obtain rfl : R = 12 := HR2.out (all_bad (P := okBd) Hm.out HZ.out)
            go_wp2_with (first
              | ((with_reducible refine at_load (ty := 40) ?_); refine load_cells rfl 40 (.tmp 47) rfl b (o + k * 21) rfl (prow pd) _ Tryz.underlying40 rfl (by kernel_rfl) HRg.out ?_; rw [HAg.out])
              | (go_at_call 17; (with_reducible refine (HCm.out _ HB.out).mono ?_); rintro e w3 ⟨rfl, hb3⟩; have HB3 := Lib.hid (HB.out.trans (hb3.mono hbz)); clear hb3))
            go_ret
            exact ⟨rfl, HB3.out⟩
          | true =>
            have HE2 := Lib.hid (all_take1 (P := okBd) Hm.out HZ.out HE.out)
            go_wp2_with (first
              | ((with_reducible refine at_load (ty := 40) ?_); refine load_cells rfl 40 (.tmp 47) rfl b (o + k * 21) rfl (prow pd) _ Tryz.underlying40 rfl (by kernel_rfl) HRg.out ?_; rw [HAg.out])
              | (go_at_call 17; (with_reducible refine (HCm.out _ HB.out).mono ?_); rintro e w3 ⟨rfl, hb3⟩; have HB3 := Lib.hid (HB.out.trans (hb3.mono hbz)); clear hb3))
            go_roundw
            case rel => exact ⟨k + 1, by omega, by go_num, HE2.out, HB3.out⟩
            case measure => simp [intOf]; omega
        · obtain rfl : p = k := by omega
          have HOb := Lib.hid (all_done (P := okBd) Hp.out HE.out)
          clear hE HE hB H2 HR2
          have HR3 := Lib.hid (HR3.out HOm.out HOb.out)
          have HR4 := Lib.hid (HR4.out HOm.out HOb.out)
          have HR5 := Lib.hid (HR5.out HOm.out HOb.out)
          have HR6 := Lib.hid (HR6.out HOm.out HOb.out)
          go_wp2
          go_loopw [7] (fun vi wr => ∃ q : Nat, q ≤ n ∧ vi = .int .i64 q ∧ ((List.range q).any fun i => decide (findN N (N.getD i emp) 0 < (i : Int))) = false ∧ Below w.heap.size w wr) (fun vi _ => n - (intOf vi).toNat)
          case atStart => exact ⟨0, Nat.zero_le _, rfl, rfl, HB.out⟩
          case round =>
            obtain ⟨k, hk, rfl, hE, hB⟩ := hrel
            have HE := Lib.hid hE
            have HB := Lib.hid hB
            have hbz := hB.size
            by_cases hlt : k < n
            · obtain ⟨m, hm⟩ := mem_at (l := ms) (k := k) (by rw [Hn.out]; exact hlt)
              obtain ⟨b, o, rfl, hb, hc⟩ := (HF.out.mono hB) (by rw [Hn.out]; omega)
              have c0 : wr.cell? ⟨b, o + k * 10, none⟩ = some (.string m.nm) := hc k m hm 0 (by decide)
              have hmN := nm_at hm
              rw [HN.out] at hmN
              obtain ⟨y, hy⟩ : ∃ y, m.nm = y := ⟨_, rfl⟩
              rw [hy] at c0 hmN
              have HmN := Lib.hid hmN
              have hfp := findN_pos hmN
              have htwy := fun h => twice_yes hmN h
              have htws := fun h => twice_step hmN h HE.out
              obtain ⟨z, hz⟩ : ∃ z, findN N y 0 = z := ⟨_, rfl⟩
              have HCy := Lib.hid (H3.out y)
              rw [hz] at HCy hfp htwy htws
              clear hE hB hc hm hmN hy hz
              by_cases hd : z < (k : Int)
              · have q : (z == (k : Int)) = false := by rw [beq_eq_false_iff_ne]; omega
                obtain rfl : R = 15 := HR3.out (htwy hd)
                clear hd htwy htws hfp
                go_wp2_with (go_at_call 25; (with_reducible refine (HCy.out _ HB.out).mono ?_); rintro e w3 ⟨rfl, hb3⟩; have HB3 := Lib.hid (HB.out.trans (hb3.mono hbz)); clear hb3)
                go_ret
                exact ⟨rfl, HB3.out⟩
              · obtain rfl : z = (k : Int) := by omega
                have HE2 := Lib.hid (htws hd)
                clear hd htwy htws hfp
                go_wp2_with (go_at_call 25; (with_reducible refine (HCy.out _ HB.out).mono ?_); rintro e w3 ⟨rfl, hb3⟩; have HB3 := Lib.hid (HB.out.trans (hb3.mono hbz)); clear hb3)
                go_roundw
                case rel => exact ⟨k + 1, by omega, by go_num, HE2.out, HB3.out⟩
                case measure => simp [intOf]; omega
            · obtain rfl : n = k := by omega
              have HTn := Lib.hid (twice_no (N := N) (by rw [HNl.out]; exact HE.out))
              clear hE HE hB HR3
              have HR5 := Lib.hid (HR5.out HTn.out)
              have HR6 := Lib.hid (HR6.out HTn.out)
              go_wp2
              go_loopw [8] (fun vi wr => ∃ q : Nat, q ≤ p ∧ vi = .int .i64 q ∧ ((List.range q).any fun i => decide (findN M (M.getD i emp) 0 < (i : Int))) = false ∧ Below w.heap.size w wr) (fun vi _ => p - (intOf vi).toNat)
              case atStart => exact ⟨0, Nat.zero_le _, rfl, rfl, HB.out⟩
              case round =>
                obtain ⟨k, hk, rfl, hE, hB⟩ := hrel
                have HE := Lib.hid hE
                have HB := Lib.hid hB
                have hbz := hB.size
                by_cases hlt : k < p
                · obtain ⟨m, hm⟩ := mem_at (l := bs) (k := k) (by rw [Hp.out]; exact hlt)
                  obtain ⟨b, o, rfl, hb, hc⟩ := (HG.out.mono hB) (by rw [Hp.out]; omega)
                  have c0 : wr.cell? ⟨b, o + k * 21, none⟩ = some (.string (pnm m)) := hc k m hm 0 (by decide)
                  have hmN := pnm_at hm
                  rw [HM.out] at hmN
                  obtain ⟨y, hy⟩ : ∃ y, pnm m = y := ⟨_, rfl⟩
                  rw [hy] at c0 hmN
                  have HmN := Lib.hid hmN
                  have hfp := findN_pos hmN
                  have htwy := fun h => twice_yes hmN h
                  have htws := fun h => twice_step hmN h HE.out
                  obtain ⟨z, hz⟩ : ∃ z, findN M y 0 = z := ⟨_, rfl⟩
                  have HCy := Lib.hid (H4.out y)
                  rw [hz] at HCy hfp htwy htws
                  clear hE hB hc hm hmN hy hz
                  by_cases hd : z < (k : Int)
                  · have q : (z == (k : Int)) = false := by rw [beq_eq_false_iff_ne]; omega
                    obtain rfl : R = 15 := HR4.out (htwy hd)
                    clear hd htwy htws hfp
                    go_wp2_with (go_at_call 24; (with_reducible refine (HCy.out _ HB.out).mono ?_); rintro e w3 ⟨rfl, hb3⟩; have HB3 := Lib.hid (HB.out.trans (hb3.mono hbz)); clear hb3)
                    go_ret
                    exact ⟨rfl, HB3.out⟩
                  · obtain rfl : z = (k : Int) := by omega
                    have HE2 := Lib.hid (htws hd)
                    clear hd htwy htws hfp
                    go_wp2_with (go_at_call 24; (with_reducible refine (HCy.out _ HB.out).mono ?_); rintro e w3 ⟨rfl, hb3⟩; have HB3 := Lib.hid (HB.out.trans (hb3.mono hbz)); clear hb3)
                    go_roundw
                    case rel => exact ⟨k + 1, by omega, by go_num, HE2.out, HB3.out⟩
                    case measure => simp [intOf]; omega
                · obtain rfl : p = k := by omega
                  have HTp := Lib.hid (twice_no (N := M) (by rw [HMl.out]; exact HE.out))
                  clear hE HE hB HR4 H4
                  have HR5 := Lib.hid (HR5.out HTp.out)
                  have HR6 := Lib.hid (HR6.out HTp.out)
                  go_wp2
                  go_loopw [9] (fun vi wr => ∃ q : Nat, q ≤ p ∧ vi = .int .i64 q ∧ (bs.take q).all (onB N) = true ∧ Below w.heap.size w wr) (fun vi _ => p - (intOf vi).toNat)
                  case atStart => exact ⟨0, Nat.zero_le _, rfl, rfl, HB.out⟩
                  case round =>
                    obtain ⟨k, hk, rfl, hE, hB⟩ := hrel
                    have HE := Lib.hid hE
                    have HB := Lib.hid hB
                    have hbz := hB.size
                    by_cases hlt : k < p
                    · obtain ⟨m, hm⟩ := mem_at (l := bs) (k := k) (by rw [Hp.out]; exact hlt)
                      obtain ⟨b, o, rfl, hb, hc⟩ := (HG.out.mono hB) (by rw [Hp.out]; omega)
                      have c0 : wr.cell? ⟨b, o + k * 21 + 20, none⟩ = some (.string m.on) := hc k m hm 20 (by decide)
                      have Hm := Lib.hid hm
                      obtain ⟨y, hy⟩ : ∃ y, m.on = y := ⟨_, rfl⟩
                      rw [hy] at c0
                      have hon : onB N m = (decide (y = emp) || decide (0 ≤ findN N y 0)) := by unfold onB; rw [hy]
                      have HCy := Lib.hid (H3.out y)
                      obtain ⟨z, hz⟩ : ∃ z, findN N y 0 = z := ⟨_, rfl⟩
                      rw [hz] at HCy hon
                      have HOn := Lib.hid hon
                      clear hE hB hc hm hy hz hon
                      by_cases he : y = emp
                      · obtain ⟨q1, q2, q3, q4⟩ := emp_lits he
                        have HE2 := Lib.hid (all_take1 (P := onB N) Hm.out (by rw [HOn.out, decide_eq_true he]; rfl) HE.out)
                        clear he
                        go_wp2
                        go_roundw
                        case rel => exact ⟨k + 1, by omega, by go_num, HE2.out, HB.out⟩
                        case measure => simp [intOf]; omega
                      · obtain ⟨q1, q2, q3, q4⟩ := emp_litn he
                        by_cases hd : z < 0
                        · have q5 : decide (z < 0) = true := decide_eq_true hd
                          obtain rfl : R = 16 := HR5.out (all_bad (P := onB N) Hm.out (by rw [HOn.out, decide_eq_false he, decide_eq_false (by omega)]; rfl))
                          clear he hd
                          go_wp2_with (go_at_call 25; (with_reducible refine (HCy.out _ HB.out).mono ?_); rintro e w3 ⟨rfl, hb3⟩; have HB3 := Lib.hid (HB.out.trans (hb3.mono hbz)); clear hb3)
                          go_ret
                          exact ⟨rfl, HB3.out⟩
                        · have q5 : decide (z < 0) = false := decide_eq_false hd
                          have HE2 := Lib.hid (all_take1 (P := onB N) Hm.out (by rw [HOn.out, decide_eq_true (show 0 ≤ z by omega)]; simp) HE.out)
                          clear he hd
                          go_wp2_with (go_at_call 25; (with_reducible refine (HCy.out _ HB.out).mono ?_); rintro e w3 ⟨rfl, hb3⟩; have HB3 := Lib.hid (HB.out.trans (hb3.mono hbz)); clear hb3)
                          go_roundw
                          case rel => exact ⟨k + 1, by omega, by go_num, HE2.out, HB3.out⟩
                          case measure => simp [intOf]; omega
                    · obtain rfl : p = k := by omega
                      obtain rfl : R = 0 := HR6.out (all_done (P := onB N) Hp.out HE.out)
                      clear hE hB
                      go_wp2
                      go_ret
                      exact ⟨rfl, HB.out⟩
end Go.Proofs.YtdfadbpepmkicaaGreat
namespace Go.Proofs.YtdfadbpepmkicaaGreat
open Go.RowKit Go.Shelf
set_option linter.unusedVariables false
set_option linter.unusedSimpArgs false
def mS (x : UInt8) : Mac := ⟨⟨#[x]⟩, emp, 1000, 0, 0, 9, 0, none, 0, [], none, 0, [], true⟩
def pS (x : UInt8) (rk : Int) : Pd := ⟨⟨#[x]⟩, 600, 0, 0, 1, 0, none, 0, [], none, 0, [], none, 0, [], none, 0, [], none, 0, [], none, 0, [], false, none, 0, [], 0, rk, emp, false, false, false⟩
def msK : List Mac := [mS 109, mS 110]
def bsK : List Bd := [⟨pS 112 0, emp⟩, ⟨pS 113 5, emp⟩, ⟨pS 114 0, emp⟩]
def outK : List Bd := [⟨pS 112 0, ⟨#[110]⟩⟩, ⟨pS 113 5, ⟨#[109]⟩⟩, ⟨pS 114 0, emp⟩]
def mvK : List (ByteArray × ByteArray) := [(⟨#[113]⟩, ⟨#[109]⟩), (⟨#[112]⟩, ⟨#[110]⟩)]
theorem mS_in (w : World) (x : UInt8) : MacIn w (mS x) := ⟨⟨RowsAt.nil, RowsAt.nil, Nat.zero_le _, Nat.zero_le _⟩, fun _ => ⟨rfl, rfl⟩, Nat.le_refl _, fun _ => ⟨rfl, rfl⟩, Nat.le_refl _⟩
theorem pS_at (w : World) (x : UInt8) (r : Int) : PodAt w (pS x r) := ⟨RowsAt.nil, RowsAt.nil, RowsAt.nil, (fun t ht => by cases ht), RowsAt.nil, RowsAt.nil, RowsAt.nil, RowsAt.nil, Nat.zero_le _, Nat.zero_le _, Nat.zero_le _, Nat.zero_le _, Nat.zero_le _, Nat.zero_le _, Nat.zero_le _⟩
theorem pS_in (w : World) (x : UInt8) (r : Int) : PodIn w (pS x r) := ⟨pS_at w x r, ⟨fun _ => ⟨rfl, rfl⟩, Nat.le_refl _⟩, ⟨fun _ => ⟨rfl, rfl⟩, Nat.le_refl _⟩, ⟨fun _ => ⟨rfl, rfl⟩, Nat.le_refl _⟩, ⟨fun _ => ⟨rfl, rfl⟩, Nat.le_refl _⟩, ⟨fun _ => ⟨rfl, rfl⟩, Nat.le_refl _⟩, ⟨fun _ => ⟨rfl, rfl⟩, Nat.le_refl _⟩, ⟨fun _ => ⟨rfl, rfl⟩, Nat.le_refl _⟩⟩
set_option maxRecDepth 100000 in
theorem ks_step : stepF msK bsK = (outK, mvK) := by kernel_rfl
set_option maxRecDepth 100000 in
theorem ks_ord : ordB bsK bsK.length = [1, 0, 2] := by kernel_rfl
set_option maxRecDepth 100000 in
theorem ks_best1 : bestF msK outK (pS 114 0) = emp := by kernel_rfl
set_option maxRecDepth 100000 in
theorem ks_best2 : bestF msK [] (pS 114 0) = ⟨#[109]⟩ := by kernel_rfl
set_option maxRecDepth 100000 in
theorem ks_light : (∀ m ∈ msK, lightM m = true) ∧ (∀ b ∈ bsK, lightP b.p = true) ∧ (∀ b ∈ outK, lightP b.p = true) ∧ lightP (pS 114 0) = true := by
  refine ⟨?_, ?_, ?_, by decide +kernel⟩
  · exact List.all_eq_true.1 (show msK.all lightM = true by decide +kernel)
  · exact (List.all_eq_true (p := fun b : Bd => lightP b.p)).1 (show bsK.all (fun b => lightP b.p) = true by decide +kernel)
  · exact (List.all_eq_true (p := fun b : Bd => lightP b.p)).1 (show outK.all (fun b => lightP b.p) = true by decide +kernel)
theorem mem2 {α : Type} {P : α → Prop} {x y : α} (hx : P x) (hy : P y) : ∀ z ∈ [x, y], P z := fun z hz => by
  simp only [List.mem_cons, List.not_mem_nil, or_false] at hz
  rcases hz with rfl | rfl <;> assumption
theorem mem3 {α : Type} {P : α → Prop} {x y u : α} (hx : P x) (hy : P y) (hu : P u) : ∀ z ∈ [x, y, u], P z := fun z hz => by
  simp only [List.mem_cons, List.not_mem_nil, or_false] at hz
  rcases hz with rfl | rfl | rfl <;> assumption
theorem yaK {V : World} {a c : Option Addr} {bs : List Bd} (hm : MacL V a msK) (hb : BndL V c bs) (hi : ∀ b ∈ bs, PodIn V b.p) (hl : bs.length ≤ 1000) (hp : ∀ b ∈ bs, lightP b.p = true) (ho : ∀ b ∈ bs, b.on.size ≤ 300) : YA V a msK c bs :=
  ⟨hm, mem2 (mS_in V _) (mS_in V _), hb, hi, by decide, hl, ks_light.1, hp, ho⟩
structure KN (w V : World) : Prop where
  ml : MacL V (some ⟨w.heap.size, 0, none⟩) msK
  b0 : BndL V (some ⟨w.heap.size + 1, 0, none⟩) bsK
  bl : Below w.heap.size w V
theorem KN.mono {w V V' : World} (h : KN w V) (hb : Below V.heap.size V V') : KN w V' := ⟨h.ml.mono hb, h.b0.mono hb, h.bl.trans (hb.mono h.bl.size)⟩
theorem KN.ya {w V : World} (h : KN w V) : YA V (some ⟨w.heap.size, 0, none⟩) msK (some ⟨w.heap.size + 1, 0, none⟩) bsK :=
  yaK h.ml h.b0 (mem3 (pS_in V _ _) (pS_in V _ _) (pS_in V _ _)) (by decide) ks_light.2.1 (mem3 (by decide) (by decide) (by decide))
structure KT (w : World) (bb oo : Nat) (aM : Option Addr) (V : World) : Prop where
  f : KN w V
  o : BndL V (some ⟨bb, oo, none⟩) outK
  m : MvL V aM mvK
  lt : bb < V.heap.size
theorem KT.mono {w V V' : World} {bb oo : Nat} {aM : Option Addr} (h : KT w bb oo aM V) (hb : Below V.heap.size V V') : KT w bb oo aM V' := ⟨h.f.mono hb, h.o.mono hb, h.m.mono hb, Nat.lt_of_lt_of_le h.lt hb.size⟩
theorem KT.ya {w V : World} {bb oo : Nat} {aM : Option Addr} (h : KT w bb oo aM V) : YA V (some ⟨w.heap.size, 0, none⟩) msK (some ⟨bb, oo, none⟩) outK :=
  yaK h.f.ml h.o (mem3 (pS_in V _ _) (pS_in V _ _) (pS_in V _ _)) (by decide) ks_light.2.2.1 (mem3 (by decide) (by decide) (by decide))
theorem KT.cell {w V : World} {bb oo : Nat} {aM : Option Addr} (h : KT w bb oo aM V) : V.cell? ⟨bb, oo + 20, none⟩ = some (.string ⟨#[110]⟩) ∧ V.cell? ⟨bb, oo + 41, none⟩ = some (.string ⟨#[109]⟩) ∧ V.cell? ⟨bb, oo + 62, none⟩ = some (.string ⟨#[]⟩) := by
  obtain ⟨b, o, e, hb, hc⟩ := h.o (by decide)
  injection e with e
  injection e with e1 e2
  subst e1 e2
  exact ⟨hc 0 _ rfl 20 (by decide), hc 1 _ rfl 20 (by decide), hc 2 _ rfl 20 (by decide)⟩
theorem KN.rng {w V : World} (h : KN w V) : V.rangeAt (w.heap.size + 1) 42 [.string ((pS 114 0)).nm, .int .i64 ((pS 114 0)).n0, .int .i64 ((pS 114 0)).n1, .int .i64 ((pS 114 0)).n2, .int .i64 ((pS 114 0)).n3, .int .i64 ((pS 114 0)).n4, .slice ((pS 114 0)).la ((pS 114 0)).labs.length ((pS 114 0)).lk, .slice ((pS 114 0)).sa ((pS 114 0)).sels.length ((pS 114 0)).sk, .slice ((pS 114 0)).ta ((pS 114 0)).trms.length ((pS 114 0)).tk, .slice ((pS 114 0)).ba ((pS 114 0)).bers.length ((pS 114 0)).bk, .slice ((pS 114 0)).pa ((pS 114 0)).prts.length ((pS 114 0)).pk, .slice ((pS 114 0)).aa ((pS 114 0)).aprs.length ((pS 114 0)).ak, .bool ((pS 114 0)).wd, .slice ((pS 114 0)).da ((pS 114 0)).spds.length ((pS 114 0)).dk, .int .i64 ((pS 114 0)).sw, .int .i64 ((pS 114 0)).rk, .string ((pS 114 0)).ow, .bool ((pS 114 0)).dm, .bool ((pS 114 0)).pn, .bool ((pS 114 0)).lc] := fun j v hj => by
  have hj20 : j < 20 := (List.getElem?_eq_some_iff.1 hj).1
  obtain ⟨b, o, e, hb, hc⟩ := h.b0 (by decide)
  injection e with e
  injection e with e1 e2
  subst e1 e2
  have h9 := hc 2 _ rfl j (by omega)
  rw [Nat.zero_add] at h9
  rw [h9, brow_pod, List.getElem?_append_left hj20]
  exact hj
theorem kn_step {w V : World} (h : KN w V) : Calls Tryz.prog 9 #[.slice (some ⟨w.heap.size, 0, none⟩) 2 2, .slice (some ⟨w.heap.size + 1, 0, none⟩) 3 3] V fun e w' => (∃ bb oo kn aM kM, e = .returned (.tuple #[.slice (some ⟨bb, oo, none⟩) 3 kn, .slice aM 2 kM]) ∧ KT w bb oo aM w') ∧ Below V.heap.size V w' :=
  (step_any (some ⟨w.heap.size, 0, none⟩) (some ⟨w.heap.size + 1, 0, none⟩) 2 3 msK bsK V h.ya (by decide)).mono fun e w' ⟨⟨an, aM, kn, kM, he, ho, hm⟩, hb, _⟩ => by
    rw [ks_step] at he ho hm
    have h1 := (own_parts (l := outK) brow_len (by decide) ho).1
    have h2 := (own_parts (l := mvK) (enc := mvE) (K := 2) mvE_len (by decide) hm).1
    obtain ⟨bb, oo, rfl, hlt, _⟩ := h1 (by decide)
    exact ⟨⟨bb, oo, kn, aM, kM, he, h.mono hb, h1, h2, hlt⟩, hb⟩
theorem kn_ord {w V : World} (h : KN w V) : Calls Tryz.prog 12 #[.slice (some ⟨w.heap.size + 1, 0, none⟩) 3 3] V fun e w' => (∃ a k, e = .returned (.slice a 3 k) ∧ RowsAt icl 1 w' a [1, 0, 2]) ∧ Below V.heap.size V w' :=
  (sorder_any (some ⟨w.heap.size + 1, 0, none⟩) 3 bsK V h.b0 (by decide)).mono fun e w' ⟨⟨v, he, ho⟩, hb⟩ => by
    rw [ks_ord] at ho
    obtain ⟨a, k, rfl⟩ := own_sl ho
    exact ⟨⟨a, k, he, (own_parts (l := [1, 0, 2]) (enc := icl) (K := 1) (fun _ => rfl) (by decide) ho).1⟩, hb⟩
theorem kn_ints {V : World} {a : Option Addr} (h : RowsAt icl 1 V a [1, 0, 2]) (k : Nat) (t : TypeId) : Calls Tryz.prog 11 #[.slice a 3 k, .slice (some ⟨V.heap.size, 0, none⟩) 3 3] (V.alloc (.cells #[.int .i64 1, .int .i64 0, .int .i64 2] t)) fun e w' => e = .returned (.bool true) ∧ Below (V.alloc (.cells #[.int .i64 1, .int .i64 0, .int .i64 2] t)).heap.size (V.alloc (.cells #[.int .i64 1, .int .i64 0, .int .i64 2] t)) w' := by
  have hb : Below V.heap.size V (V.alloc (.cells #[.int .i64 1, .int .i64 0, .int .i64 2] t)) := (Below.refl _ _).alloc (Nat.le_refl _) _
  have h9 := ints_any a (some ⟨V.heap.size, 0, none⟩) k 3 [1, 0, 2] [1, 0, 2] (V.alloc (.cells #[.int .i64 1, .int .i64 0, .int .i64 2] t)) (h.mono hb) (RowsAt.new icl_len V [1, 0, 2] t) (by decide) (by decide)
  rw [decide_eq_true rfl] at h9
  exact h9
theorem kn_moves {V : World} {a : Option Addr} (h : MvL V a mvK) (k : Nat) (t : TypeId) : Calls Tryz.prog 15 #[.slice a 2 k, .slice (some ⟨V.heap.size, 0, none⟩) 2 2] (V.alloc (.cells #[.string ⟨#[113]⟩, .string ⟨#[109]⟩, .string ⟨#[112]⟩, .string ⟨#[110]⟩] t)) fun e w' => e = .returned (.bool true) ∧ Below (V.alloc (.cells #[.string ⟨#[113]⟩, .string ⟨#[109]⟩, .string ⟨#[112]⟩, .string ⟨#[110]⟩] t)).heap.size (V.alloc (.cells #[.string ⟨#[113]⟩, .string ⟨#[109]⟩, .string ⟨#[112]⟩, .string ⟨#[110]⟩] t)) w' := by
  have hb : Below V.heap.size V (V.alloc (.cells #[.string ⟨#[113]⟩, .string ⟨#[109]⟩, .string ⟨#[112]⟩, .string ⟨#[110]⟩] t)) := (Below.refl _ _).alloc (Nat.le_refl _) _
  have h9 := moves_any a (some ⟨V.heap.size, 0, none⟩) k 2 mvK mvK (V.alloc (.cells #[.string ⟨#[113]⟩, .string ⟨#[109]⟩, .string ⟨#[112]⟩, .string ⟨#[110]⟩] t)) (h.mono hb) (RowsAt.new mvE_len V mvK t) (by decide) (by decide)
  rw [decide_eq_true rfl] at h9
  exact h9
theorem kn_best1 {w V : World} {bb oo : Nat} {aM : Option Addr} (h : KT w bb oo aM V) (k : Nat) : Calls Tryz.prog 18 #[.slice (some ⟨w.heap.size, 0, none⟩) 2 2, .slice (some ⟨bb, oo, none⟩) 3 k, .agg #[.string ((pS 114 0)).nm, .int .i64 ((pS 114 0)).n0, .int .i64 ((pS 114 0)).n1, .int .i64 ((pS 114 0)).n2, .int .i64 ((pS 114 0)).n3, .int .i64 ((pS 114 0)).n4, .slice ((pS 114 0)).la ((pS 114 0)).labs.length ((pS 114 0)).lk, .slice ((pS 114 0)).sa ((pS 114 0)).sels.length ((pS 114 0)).sk, .slice ((pS 114 0)).ta ((pS 114 0)).trms.length ((pS 114 0)).tk, .slice ((pS 114 0)).ba ((pS 114 0)).bers.length ((pS 114 0)).bk, .slice ((pS 114 0)).pa ((pS 114 0)).prts.length ((pS 114 0)).pk, .slice ((pS 114 0)).aa ((pS 114 0)).aprs.length ((pS 114 0)).ak, .bool ((pS 114 0)).wd, .slice ((pS 114 0)).da ((pS 114 0)).spds.length ((pS 114 0)).dk, .int .i64 ((pS 114 0)).sw, .int .i64 ((pS 114 0)).rk, .string ((pS 114 0)).ow, .bool ((pS 114 0)).dm, .bool ((pS 114 0)).pn, .bool ((pS 114 0)).lc]] V fun e w' => e = .returned (.string ⟨#[]⟩) ∧ Below V.heap.size V w' := by
  have h9 := best_any (some ⟨w.heap.size, 0, none⟩) (some ⟨bb, oo, none⟩) 2 k msK outK (pS 114 0) V h.ya (pS_at V _ _) ks_light.2.2.2
  rw [ks_best1] at h9
  exact h9
theorem kn_best2 {w V : World} (h : KN w V) : Calls Tryz.prog 18 #[.slice (some ⟨w.heap.size, 0, none⟩) 2 2, .slice none 0 0, .agg #[.string ((pS 114 0)).nm, .int .i64 ((pS 114 0)).n0, .int .i64 ((pS 114 0)).n1, .int .i64 ((pS 114 0)).n2, .int .i64 ((pS 114 0)).n3, .int .i64 ((pS 114 0)).n4, .slice ((pS 114 0)).la ((pS 114 0)).labs.length ((pS 114 0)).lk, .slice ((pS 114 0)).sa ((pS 114 0)).sels.length ((pS 114 0)).sk, .slice ((pS 114 0)).ta ((pS 114 0)).trms.length ((pS 114 0)).tk, .slice ((pS 114 0)).ba ((pS 114 0)).bers.length ((pS 114 0)).bk, .slice ((pS 114 0)).pa ((pS 114 0)).prts.length ((pS 114 0)).pk, .slice ((pS 114 0)).aa ((pS 114 0)).aprs.length ((pS 114 0)).ak, .bool ((pS 114 0)).wd, .slice ((pS 114 0)).da ((pS 114 0)).spds.length ((pS 114 0)).dk, .int .i64 ((pS 114 0)).sw, .int .i64 ((pS 114 0)).rk, .string ((pS 114 0)).ow, .bool ((pS 114 0)).dm, .bool ((pS 114 0)).pn, .bool ((pS 114 0)).lc]] V fun e w' => e = .returned (.string ⟨#[109]⟩) ∧ Below V.heap.size V w' := by
  have h9 := best_any (some ⟨w.heap.size, 0, none⟩) none 2 0 msK [] (pS 114 0) V (yaK h.ml RowsAt.nil (fun b hb => by cases hb) (Nat.zero_le _) (fun b hb => by cases hb) (fun b hb => by cases hb)) (pS_at V _ _) ks_light.2.2.2
  rw [ks_best2] at h9
  exact h9
end Go.Proofs.YtdfadbpepmkicaaGreat
namespace Go.Proofs.YtdfadbpepmkicaaGreat
open Go.RowKit Go.Shelf
set_option linter.unusedVariables false
set_option linter.unusedSimpArgs false
set_option maxRecDepth 100000 in
set_option maxHeartbeats 8000000 in
theorem sknown_any (w : World) :
    Calls Tryz.prog 8 #[] w fun e w' => e = .returned (.bool true) ∧ Below w.heap.size w w' := by
  go_enter Tryz.func8, Tryz.ntmps8
  go_upto_region 2 with (fail)
  obtain ⟨W1, hW1⟩ : ∃ V, V = (w.alloc (.cells #[.string ⟨#[109]⟩, .string ⟨#[]⟩, .int .i64 1000, .int .i64 0, .int .i64 0, .int .i64 9, .int .i64 0, .slice none 0 0, .slice none 0 0, .bool true, .string ⟨#[110]⟩, .string ⟨#[]⟩, .int .i64 1000, .int .i64 0, .int .i64 0, .int .i64 9, .int .i64 0, .slice none 0 0, .slice none 0 0, .bool true] 57)) := ⟨_, rfl⟩
  have HM1 := Lib.hid (show MacL W1 (some ⟨w.heap.size, 0, none⟩) msK by rw [hW1]; exact RowsAt.new (enc := mrow) (K := 10) (fun _ => rfl) w msK 57)
  have HB1 := Lib.hid (show Below w.heap.size w W1 by rw [hW1]; exact (Below.refl _ _).alloc (Nat.le_refl _) _)
  have Hs1 := Lib.hid (show W1.heap.size = w.heap.size + 1 by rw [hW1]; exact World.size_alloc _ _)
  rw [← hW1]
  clear hW1
  go_upto_region 3 with (fail)
  (try simp only [Hs1.out])
  obtain ⟨W2, hW2⟩ : ∃ V, V = (W1.alloc (.cells #[.string ⟨#[112]⟩, .int .i64 600, .int .i64 0, .int .i64 0, .int .i64 1, .int .i64 0, .slice none 0 0, .slice none 0 0, .slice none 0 0, .slice none 0 0, .slice none 0 0, .slice none 0 0, .bool false, .slice none 0 0, .int .i64 0, .int .i64 0, .string ⟨#[]⟩, .bool false, .bool false, .bool false, .string ⟨#[]⟩, .string ⟨#[113]⟩, .int .i64 600, .int .i64 0, .int .i64 0, .int .i64 1, .int .i64 0, .slice none 0 0, .slice none 0 0, .slice none 0 0, .slice none 0 0, .slice none 0 0, .slice none 0 0, .bool false, .slice none 0 0, .int .i64 0, .int .i64 5, .string ⟨#[]⟩, .bool false, .bool false, .bool false, .string ⟨#[]⟩, .string ⟨#[114]⟩, .int .i64 600, .int .i64 0, .int .i64 0, .int .i64 1, .int .i64 0, .slice none 0 0, .slice none 0 0, .slice none 0 0, .slice none 0 0, .slice none 0 0, .slice none 0 0, .bool false, .slice none 0 0, .int .i64 0, .int .i64 0, .string ⟨#[]⟩, .bool false, .bool false, .bool false, .string ⟨#[]⟩] 42)) := ⟨_, rfl⟩
  have HN := Lib.hid (show KN w W2 by
    have hb : Below W1.heap.size W1 W2 := by rw [hW2]; exact (Below.refl _ _).alloc (Nat.le_refl _) _
    refine ⟨HM1.out.mono hb, ?_, HB1.out.trans (hb.mono HB1.out.size)⟩
    rw [hW2, ← Hs1.out]
    exact RowsAt.new brow_len W1 bsK 42)
  rw [← hW2]
  clear hW2 HM1 HB1 Hs1
  go_upto_region 4 with (go_at_call 9; (with_reducible refine (kn_step HN.out).mono ?_); rintro e w3 ⟨⟨bb, oo, kn, aM, kM, rfl, h3⟩, hb⟩; have H := Lib.hid h3; clear hb h3)
  clear HN
  go_wp2_with (first
    | (go_at_call 12; (with_reducible refine (kn_ord H.out.f).mono ?_); rintro e w4 ⟨⟨a4, k4, rfl, ho4⟩, hb⟩; have HO4 := Lib.hid ho4; have HD := Lib.hid (H.out.mono hb); clear H hb ho4; have H := HD; clear HD)
    | (go_at_call 11; (with_reducible refine (kn_ints HO4.out _ _).mono ?_); rintro e w5 ⟨rfl, hb⟩; have HD := Lib.hid (H.out.mono (((Below.refl _ _).alloc (Nat.le_refl _) _).trans (hb.mono (by simp)))); clear H hb HO4; have H := HD; clear HD; obtain ⟨c20, c41, c62⟩ := H.out.cell; have hlo := H.out.lt)
    | (go_at_call 15; (with_reducible refine (kn_moves H.out.m _ _).mono ?_); rintro e w6 ⟨rfl, hb⟩; have HD := Lib.hid (H.out.mono (((Below.refl _ _).alloc (Nat.le_refl _) _).trans (hb.mono (by simp)))); clear H hb c20 c41 c62 hlo; have H := HD; clear HD)
    | ((with_reducible refine at_load (ty := 40) ?_); first | refine load_cells rfl 40 (.tmp 68) rfl (w.heap.size + 1) 42 rfl [.string ((pS 114 0)).nm, .int .i64 ((pS 114 0)).n0, .int .i64 ((pS 114 0)).n1, .int .i64 ((pS 114 0)).n2, .int .i64 ((pS 114 0)).n3, .int .i64 ((pS 114 0)).n4, .slice ((pS 114 0)).la ((pS 114 0)).labs.length ((pS 114 0)).lk, .slice ((pS 114 0)).sa ((pS 114 0)).sels.length ((pS 114 0)).sk, .slice ((pS 114 0)).ta ((pS 114 0)).trms.length ((pS 114 0)).tk, .slice ((pS 114 0)).ba ((pS 114 0)).bers.length ((pS 114 0)).bk, .slice ((pS 114 0)).pa ((pS 114 0)).prts.length ((pS 114 0)).pk, .slice ((pS 114 0)).aa ((pS 114 0)).aprs.length ((pS 114 0)).ak, .bool ((pS 114 0)).wd, .slice ((pS 114 0)).da ((pS 114 0)).spds.length ((pS 114 0)).dk, .int .i64 ((pS 114 0)).sw, .int .i64 ((pS 114 0)).rk, .string ((pS 114 0)).ow, .bool ((pS 114 0)).dm, .bool ((pS 114 0)).pn, .bool ((pS 114 0)).lc] _ Tryz.underlying40 rfl (by kernel_rfl) H.out.f.rng ?_ | refine load_cells rfl 40 (.tmp 77) rfl (w.heap.size + 1) 42 rfl [.string ((pS 114 0)).nm, .int .i64 ((pS 114 0)).n0, .int .i64 ((pS 114 0)).n1, .int .i64 ((pS 114 0)).n2, .int .i64 ((pS 114 0)).n3, .int .i64 ((pS 114 0)).n4, .slice ((pS 114 0)).la ((pS 114 0)).labs.length ((pS 114 0)).lk, .slice ((pS 114 0)).sa ((pS 114 0)).sels.length ((pS 114 0)).sk, .slice ((pS 114 0)).ta ((pS 114 0)).trms.length ((pS 114 0)).tk, .slice ((pS 114 0)).ba ((pS 114 0)).bers.length ((pS 114 0)).bk, .slice ((pS 114 0)).pa ((pS 114 0)).prts.length ((pS 114 0)).pk, .slice ((pS 114 0)).aa ((pS 114 0)).aprs.length ((pS 114 0)).ak, .bool ((pS 114 0)).wd, .slice ((pS 114 0)).da ((pS 114 0)).spds.length ((pS 114 0)).dk, .int .i64 ((pS 114 0)).sw, .int .i64 ((pS 114 0)).rk, .string ((pS 114 0)).ow, .bool ((pS 114 0)).dm, .bool ((pS 114 0)).pn, .bool ((pS 114 0)).lc] _ Tryz.underlying40 rfl (by kernel_rfl) H.out.f.rng ?_)
    | (go_at_call 18; (first | (with_reducible refine (kn_best1 H.out _).mono ?_) | (with_reducible refine (kn_best2 H.out.f).mono ?_)); rintro e w7 ⟨rfl, hb⟩; have HD := Lib.hid (H.out.mono hb); clear H hb; have H := HD; clear HD))
  go_ret
  exact ⟨rfl, H.out.f.bl⟩
end Go.Proofs.YtdfadbpepmkicaaGreat
namespace Go.Proofs.YtdfadbpepmkicaaGreat
open Go.RowKit Go.Shelf
set_option linter.unusedVariables false
set_option linter.unusedSimpArgs false
def rightS (ms : List Mac) (bs : List Bd) : Bool := lightY ms bs && decide (checkY ms bs = 0)
theorem rightS_iff {ms : List Mac} {bs : List Bd} (h : rightS ms bs = true) : lightY ms bs = true ∧ checkY ms bs = 0 := by
  unfold rightS at h
  simp only [Bool.and_eq_true, decide_eq_true_eq] at h
  exact h
theorem ya_of' {w : World} {a c : Option Addr} {ms : List Mac} {bs : List Bd} (hF : MacL w a ms) (hG : BndL w c bs) (hA : ∀ m ∈ ms, MacIn w m) (hB : ∀ b ∈ bs, BndIn w b) (h : lightY ms bs = true) : YA w a ms c bs := by
  obtain ⟨h1, h2, h3, h4⟩ := lightY_iff h
  exact ⟨hF, hA, hG, hB, by omega, by omega, h3, fun b hb => (h4 b hb).1, fun b hb => (h4 b hb).2⟩
set_option maxRecDepth 100000 in
set_option maxHeartbeats 4000000 in
theorem sright_any (a c : Option Addr) (ka kc : Nat) (ms : List Mac) (bs : List Bd) (w : World) (hF : MacL w a ms) (hG : BndL w c bs) (hA : ∀ m ∈ ms, MacIn w m) (hB : ∀ b ∈ bs, BndIn w b) (hl : ms.length ≤ maxLen) (hl2 : bs.length ≤ maxLen) :
    Calls Tryz.prog 7 #[.slice a ms.length ka, .slice c bs.length kc] w fun e w' => e = .returned (.bool (rightS ms bs)) ∧ Below w.heap.size w w' := by
  have hLi := lighty_any a ka ms c kc bs w hF hG hA hB hl hl2
  have hCk := fun (h : lightY ms bs = true) V (hV : Below w.heap.size w V) => rcheck_any a ka ms c kc bs V (hF.mono hV) (hG.mono hV) (fun m hm => (hA m hm).mono hV) (fun b hb => (hB b hb).mono hV) (lightY_iff h).2.2.1 (fun b hb => ((lightY_iff h).2.2.2 b hb).1) (by have := (lightY_iff h).1; omega) (by have := (lightY_iff h).2.1; omega)
  obtain ⟨R, hR⟩ : ∃ R, rightS ms bs = R := ⟨_, rfl⟩
  rw [hR]
  unfold rightS at hR
  obtain ⟨b1, h1⟩ : ∃ b, lightY ms bs = b := ⟨_, rfl⟩
  obtain ⟨E, h3⟩ : ∃ b, checkY ms bs = b := ⟨_, rfl⟩
  rw [h1, h3] at hR
  rw [h1] at hLi
  simp only [h1, h3] at hCk
  generalize ms.length = n at hLi hCk ⊢
  generalize bs.length = N at hLi hCk ⊢
  have HLi := Lib.hid hLi
  clear hLi h1 h3 hF hG hA hB hl hl2
  cases b1 with
  | false =>
    obtain rfl : R = false := by rw [← hR]; rfl
    clear hR hCk
    go_enter Tryz.func7, Tryz.ntmps7
    go_wp2_with (go_at_call 27; (with_reducible refine HLi.out.mono ?_); rintro e w1 ⟨rfl, hb⟩; have HB1 := Lib.hid hb; clear hb)
    go_ret
    exact ⟨rfl, HB1.out⟩
  | true =>
    have HCk := Lib.hid (hCk rfl)
    clear hCk
    by_cases he : E = 0
    · subst he
      obtain rfl : R = true := by rw [← hR]; rfl
      clear hR
      go_enter Tryz.func7, Tryz.ntmps7
      go_wp2_with (first | (go_at_call 27; (with_reducible refine HLi.out.mono ?_); rintro e w1 ⟨rfl, hb⟩; have HB1 := Lib.hid hb; clear hb) | (go_at_call 22; (with_reducible refine (HCk.out _ HB1.out).mono ?_); rintro e w2 ⟨rfl, hb⟩; have HB2 := Lib.hid (HB1.out.trans (hb.mono HB1.out.size)); clear hb))
      go_ret
      exact ⟨rfl, HB2.out⟩
    · have q0 : (E == 0) = false := by simpa using he
      have q1 : (E = 0) = False := eq_false he
      obtain rfl : R = false := by rw [← hR, decide_eq_false he]; rfl
      clear hR he
      go_enter Tryz.func7, Tryz.ntmps7
      go_wp2_with (first | (go_at_call 27; (with_reducible refine HLi.out.mono ?_); rintro e w1 ⟨rfl, hb⟩; have HB1 := Lib.hid hb; clear hb) | (go_at_call 22; (with_reducible refine (HCk.out _ HB1.out).mono ?_); rintro e w2 ⟨rfl, hb⟩; have HB2 := Lib.hid (HB1.out.trans (hb.mono HB1.out.size)); clear hb))
      go_ret
      exact ⟨rfl, HB2.out⟩
end Go.Proofs.YtdfadbpepmkicaaGreat
namespace Go.Proofs.YtdfadbpepmkicaaGreat
open Go.RowKit
set_option linter.unusedVariables false
set_option linter.unusedSimpArgs false
set_option maxRecDepth 100000 in
set_option maxHeartbeats 4000000 in
theorem refon_any (a : Option Addr) (ka : Nat) (bs : List Bd) (mm : ByteArray) (w : World) (hF : BndL w a bs) (hl : bs.length ≤ 1000000) :
    Calls Tryz.prog 26 #[.slice a bs.length ka, .string mm] w (GivesP w (onL bs mm)) := by
  obtain ⟨n, hn⟩ : ∃ n, bs.length = n := ⟨_, rfl⟩
  have HN := Lib.hid hn
  have HF := Lib.hid hF
  rw [hn] at hl ⊢
  clear hn hF
  obtain ⟨i0, hi, hz0, hz1, hz2⟩ := info_parts Tryz.info40
  have Hi := Lib.hid hi
  have Hz0 := Lib.hid hz0
  have Hz1 := Lib.hid hz1
  have Hz2 := Lib.hid hz2
  clear hi hz0 hz1 hz2
  go_enter Tryz.func26, Tryz.ntmps26
  go_wp2
  go_loopw [5, 6] (fun vo vi wr => ∃ (k : Nat) (Q : List Pd), k ≤ n ∧ vi = .int .i64 k ∧ Q = onL (bs.take k) mm ∧ Q.length ≤ k ∧ wr.ownsRow w.heap.size 40 20 vo Q.length (Q.flatMap prow) ∧ Below w.heap.size w wr) (fun _ vi _ => n - (intOf vi).toNat)
  case atStart => exact ⟨0, [], Nat.zero_le _, rfl, rfl, Nat.le_refl _, World.ownsRow_nil _ _ _ _, by (repeat' (first | with_reducible exact Below.refl _ _ | with_reducible assumption | with_reducible refine Below.drew ?_ | with_reducible refine below_drewN' ?_ _ | with_reducible refine Below.alloc ?_ ?_ _ | with_reducible refine Below.setCell ?_ ?_ _ | with_reducible refine below_step (by assumption) ?_ ?_ | omega | (simp; done) | (simp; omega)))⟩
  case round =>
    obtain ⟨k, Q, hk, rfl, hE, hLk, hO, hB⟩ := hrel
    have HE := Lib.hid hE
    have HB := Lib.hid hB
    have HO := Lib.hid hO
    have hbz := hB.size
    obtain ⟨ao, ko, rfl⟩ := own_sl hO
    by_cases hlt : k < n
    · obtain ⟨m, hm⟩ := mem_at (l := bs) (k := k) (by rw [HN.out]; exact hlt)
      obtain ⟨b, o, rfl, hb, hc⟩ := (HF.out.mono hB) (by rw [HN.out]; omega)
      have hrg : wr.rangeAt b (o + k * 21) (prow m.p) := fun j v hj => by
        have hj20 : j < 20 := (List.getElem?_eq_some_iff.1 hj).1
        rw [hc k m hm j (by omega)]
        show (prow m.p ++ [.string m.on])[j]? = some v
        rw [List.getElem?_append_left hj20]
        exact hj
      have HRg := Lib.hid hrg
      have c20 : wr.cell? ⟨b, o + k * 21 + 20, none⟩ = some (.string m.on) := hc k m hm 20 (by decide)
      have hnx := onL_next hm mm
      obtain ⟨p, on⟩ := m
      dsimp only at HRg c20 hnx
      by_cases ho : on = mm
      · have q := str_yes ho
        rw [if_pos (show isOn mm ⟨p, on⟩ = true from decide_eq_true ho), ← hE] at hnx
        have HNx := Lib.hid hnx
        obtain ⟨nm, n0, n1, n2, n3, n4, la, lk, L, sa, sk, S, ta, tk, T, ba, bk, B, pa, pk, P, aa, ak, A, wd, da, dk, D, sw, rk, ow, dm, pn, lc⟩ := p
        have HRg := Lib.hid (show wr.rangeAt b (o + k * 21) [.string nm, .int .i64 n0, .int .i64 n1, .int .i64 n2, .int .i64 n3, .int .i64 n4, .slice la L.length lk, .slice sa S.length sk, .slice ta T.length tk, .slice ba B.length bk, .slice pa P.length pk, .slice aa A.length ak, .bool wd, .slice da D.length dk, .int .i64 sw, .int .i64 rk, .string ow, .bool dm, .bool pn, .bool lc] from HRg.out)
        have HNx := Lib.hid (show Q ++ [(⟨nm, n0, n1, n2, n3, n4, la, lk, L, sa, sk, S, ta, tk, T, ba, bk, B, pa, pk, P, aa, ak, A, wd, da, dk, D, sw, rk, ow, dm, pn, lc⟩ : Pd)] = onL (bs.take (k + 1)) mm from HNx.out.symm)
        obtain ⟨pb, hpb⟩ : ∃ pb, (⟨nm, n0, n1, n2, n3, n4, la, lk, L, sa, sk, S, ta, tk, T, ba, bk, B, pa, pk, P, aa, ak, A, wd, da, dk, D, sw, rk, ow, dm, pn, lc⟩ : Pd) = pb := ⟨_, rfl⟩
        have HP := Lib.hid (show prow pb = [.string nm, .int .i64 n0, .int .i64 n1, .int .i64 n2, .int .i64 n3, .int .i64 n4, .slice la L.length lk, .slice sa S.length sk, .slice ta T.length tk, .slice ba B.length bk, .slice pa P.length pk, .slice aa A.length ak, .bool wd, .slice da D.length dk, .int .i64 sw, .int .i64 rk, .string ow, .bool dm, .bool pn, .bool lc] by rw [← hpb]; rfl)
        rw [hpb] at HNx
        clear hE hO hB hc hm hrg hnx ho hpb
        go_wp2_with (first
          | ((with_reducible refine at_load (ty := 40) ?_); refine load_cells rfl 40 (.tmp 24) rfl b (o + k * 21) rfl [.string nm, .int .i64 n0, .int .i64 n1, .int .i64 n2, .int .i64 n3, .int .i64 n4, .slice la L.length lk, .slice sa S.length sk, .slice ta T.length tk, .slice ba B.length bk, .slice pa P.length pk, .slice aa A.length ak, .bool wd, .slice da D.length dk, .int .i64 sw, .int .i64 rk, .string ow, .bool dm, .bool pn, .bool lc] _ Tryz.underlying40 rfl (by kernel_rfl) HRg.out ?_)
          | (at_builtin; refine wpList_append_src rfl (.tmp 20) (.tmp 26) 58 rfl w.heap.size 40 i0 _ 20 272 Tryz.underlying58 Hi.out Hz0.out Hz1.out Hz2.out rfl (by decide) _ Q.length (Q.flatMap prow) rfl (HO.out.alloc _) (some ⟨wr.heap.size, 0, none⟩) 1 1 [.string nm, .int .i64 n0, .int .i64 n1, .int .i64 n2, .int .i64 n3, .int .i64 n4, .slice la L.length lk, .slice sa S.length sk, .slice ta T.length tk, .slice ba B.length bk, .slice pa P.length pk, .slice aa A.length ak, .bool wd, .slice da D.length dk, .int .i64 sw, .int .i64 rk, .string ow, .bool dm, .bool pn, .bool lc] rfl rfl (fun q e => by injection e with e; rw [← e]; exact news_at _ _ _) (fun e => by cases e) (HP.out ▸ prow_one pb) (by unfold maxLen; omega) (by omega) (by simp; omega) ?_; intro v6 w6 hown6 hgrow6; obtain ⟨a6, k6, rfl⟩ := own_sl hown6; have HB6 := Lib.hid (own_below (HO.out.alloc _) (HB.out.alloc hbz _) (by simp; omega) hgrow6); have HO6 := Lib.hid hown6; clear hown6 hgrow6))
        go_roundw
        case rel =>
          refine ⟨k + 1, Q ++ [pb], by omega, by go_num, HNx.out, by rw [List.length_append]; show Q.length + 1 ≤ _; omega, ?_, HB6.out⟩
          rw [List.length_append, List.flatMap_append]
          have h9 := HO6.out
          rw [← HP.out] at h9
          simpa using h9
        case measure => simp [intOf]; omega
      · have q := str_no ho
        rw [if_neg (show ¬ isOn mm ⟨p, on⟩ = true from fun e => ho (of_decide_eq_true e)), List.append_nil, ← hE] at hnx
        have HNx := Lib.hid hnx.symm
        clear hE hO hB hc hm hrg hnx ho
        go_wp2
        go_roundw
        case rel => exact ⟨k + 1, Q, by omega, by go_num, HNx.out, by omega, HO.out, HB.out⟩
        case measure => simp [intOf]; omega
    · obtain rfl : k = n := by omega
      have hL : Q = onL bs mm := by rw [hE, List.take_of_length_le (by rw [HN.out]; exact Nat.le_refl _)]
      have HL := Lib.hid hL
      clear hE hO hB hL
      go_wp2
      refine bodyPost_ret (v := .slice ao Q.length ko) (by simp [results, Tryz.results26, go_sem]) rfl ⟨⟨_, rfl, by rw [← HL.out]; exact HO.out⟩, HB.out⟩
end Go.Proofs.YtdfadbpepmkicaaGreat
namespace Go.Proofs.YtdfadbpepmkicaaGreat
open Go.RowKit Go.Shelf
set_option linter.unusedVariables false
set_option linter.unusedSimpArgs false
def MvOk (ms : List Mac) (bs : List Bd) (x : ByteArray × ByteArray) : Prop := (∃ (i : Nat) (b : Bd), bs[i]? = some b ∧ b.on = emp ∧ b.p.nm = x.1) ∧ ∃ m, mOf ms x.2 = some m ∧ m.rd = true
theorem suit_ready {m : Mac} {bs : List Bd} {p : Pd} (h : suitS m bs p = 0) : m.rd = true := by
  cases hr : m.rd with
  | true => rfl
  | false =>
    obtain ⟨nm, gp, r0, r1, r2, r3, r4, la, lk, labs, ta, tk, tnts, rd⟩ := m
    dsimp only at hr
    subst hr
    have h9 : suitS ⟨nm, gp, r0, r1, r2, r3, r4, la, lk, labs, ta, tk, tnts, false⟩ bs p = 1 := rfl
    rw [h9] at h
    cases h
theorem why_ready {ms : List Mac} {bs : List Bd} {p : Pd} {x : ByteArray} (h : whyF ms bs p x = 0) : ∃ m, mOf ms x = some m ∧ m.rd = true := by
  unfold whyF at h
  cases hm : mOf ms x with
  | none => rw [hm] at h; cases h
  | some m =>
    rw [hm] at h
    dsimp only at h
    refine ⟨m, rfl, ?_⟩
    by_cases hs : suitS m bs p = 0
    · exact suit_ready hs
    · rw [if_neg hs] at h; exact absurd h hs
theorem step_inv (ms : List Mac) (bs : List Bd) : ∀ (l : List Int) (s : StT), (∀ x ∈ l, ∃ (i : Nat) (b : Bd), x = (i : Int) ∧ bs[i]? = some b ∧ b.on = emp) → s.1.map Bd.p = bs.map Bd.p → (∀ x ∈ s.2, MvOk ms bs x) → (∀ x ∈ (l.foldl (stepS ms) s).2, MvOk ms bs x) ∧ (l.foldl (stepS ms) s).2.length ≤ s.2.length + l.length
  | [], s, _, _, h => ⟨h, Nat.le_refl _⟩
  | y :: l, s, hl, hp, hm => by
    obtain ⟨i, b, rfl, hb, ho⟩ := hl y List.mem_cons_self
    have h1 : ∃ c, s.1[i]? = some c ∧ c.p = b.p := by
      have h9 : (s.1.map Bd.p)[i]? = some b.p := by rw [hp, List.getElem?_map, hb]; rfl
      rw [List.getElem?_map] at h9
      cases hc : s.1[i]? with
      | none => rw [hc] at h9; cases h9
      | some c => rw [hc] at h9; exact ⟨c, rfl, Option.some.inj h9⟩
    obtain ⟨c, hc, hcp⟩ := h1
    rw [List.foldl_cons, stepS_at hc]
    unfold bindS
    by_cases ht : bestF ms s.1 c.p = emp
    · rw [if_pos ht]
      have h9 := step_inv ms bs l s (fun x hx => hl x (List.mem_cons_of_mem _ hx)) hp hm
      exact ⟨h9.1, by rw [List.length_cons]; omega⟩
    · rw [if_neg ht]
      have h9 := step_inv ms bs l (setOn s.1 i c (bestF ms s.1 c.p), s.2 ++ [(c.p.nm, bestF ms s.1 c.p)]) (fun x hx => hl x (List.mem_cons_of_mem _ hx)) ((setOn_pods hc _).trans hp) (fun x hx => by
        rcases List.mem_append.1 hx with h | h
        · exact hm x h
        · rw [List.mem_singleton] at h
          subst h
          obtain ⟨m, _, _, hw⟩ := bestF_in ht
          exact ⟨⟨i, b, hb, ho, by rw [hcp]⟩, why_ready hw⟩)
      refine ⟨h9.1, Nat.le_trans h9.2 ?_⟩
      show (s.2 ++ [(c.p.nm, bestF ms s.1 c.p)]).length + l.length ≤ s.2.length + (l.length + 1)
      rw [List.length_append]
      show s.2.length + 1 + l.length ≤ _
      omega
structure OrdOk (bs : List Bd) (O : List Int) : Prop where
  at_ : ∀ (k : Nat) (x : Int), O[k]? = some x → ∃ (i : Nat) (b : Bd), x = (i : Int) ∧ bs[i]? = some b ∧ b.on = emp
  down : ∀ (k i j : Nat) (b c : Bd), O[k]? = some ((j : Nat) : Int) → O[k + 1]? = some ((i : Nat) : Int) → bs[j]? = some c → bs[i]? = some b → b.p.rk ≤ c.p.rk
  once : ∀ (k l : Nat) (x y : Int), k < l → O[k]? = some x → O[l]? = some y → x ≠ y
  num : O.length = (onL bs emp).length
theorem ord_ok (bs : List Bd) : OrdOk bs (ordB bs bs.length) := by
  obtain ⟨h1, h2⟩ := ordB_ok bs bs.length
  have hpw : ∀ (k l : Nat) (x y : Int), k < l → (ordB bs bs.length)[k]? = some x → (ordB bs bs.length)[l]? = some y → ahB bs x y := fun k l x y hkl hx hy => by
    obtain ⟨a1, a2⟩ := List.getElem?_eq_some_iff.1 hx
    obtain ⟨b1, b2⟩ := List.getElem?_eq_some_iff.1 hy
    have h9 := List.pairwise_iff_getElem.1 h1 k l a1 b1 hkl
    rw [a2, b2] at h9
    exact h9
  refine ⟨fun k x hx => ?_, fun k i j b c hx hy hc hb => ?_, fun k l x y hkl hx hy e => ?_, ?_⟩
  · obtain ⟨n, e, _, b, hb, ho⟩ := pend_lt (h2.mem_iff.1 (List.mem_of_getElem? hx))
    exact ⟨n, b, e, hb, ho⟩
  · have h9 := hpw k (k + 1) _ _ (Nat.lt_succ_self k) hx hy
    unfold ahB at h9
    rw [rkB_at hc, rkB_at hb] at h9
    omega
  · subst e
    have h9 := hpw k l _ _ hkl hx hy
    unfold ahB at h9
    omega
  · rw [h2.length_eq]
    have : ∀ (k : Nat), k ≤ bs.length → (pend bs k).length = ((bs.take k).filter (isOn emp)).length := by
      intro k
      induction k with
      | zero => intro _; rfl
      | succ k ih =>
        intro hk
        obtain ⟨b, hb⟩ := mem_at (l := bs) (k := k) hk
        rw [pend_next bs k b hb, List.take_add_one, hb, List.filter_append, List.length_append, List.length_append, ih (by omega)]
        congr 1
        show _ = (List.filter (isOn emp) [b]).length
        rw [List.filter_cons]
        unfold isOn
        by_cases e : b.on = emp
        · rw [if_pos e, decide_eq_true e, if_pos rfl]; rfl
        · rw [if_neg e, decide_eq_false e, if_neg (by decide)]; rfl
    rw [this bs.length (Nat.le_refl _), List.take_length]
    unfold onL
    rw [List.length_map]
theorem moves_ok (ms : List Mac) (bs : List Bd) : (∀ x ∈ (stepF ms bs).2, MvOk ms bs x) ∧ (stepF ms bs).2.length ≤ (ordB bs bs.length).length := by
  have h := step_inv ms bs (ordB bs bs.length) (bs, []) (fun x hx => by
    obtain ⟨k, hk⟩ := List.mem_iff_getElem?.1 hx
    exact (ord_ok bs).at_ k x hk) rfl (fun x hx => by cases hx)
  exact ⟨h.1, Nat.le_trans h.2 (by simp)⟩
end Go.Proofs.YtdfadbpepmkicaaGreat
namespace Go.Proofs.YtdfadbpepmkicaaGreat
open Go.ChangeShapes Go.WideShapes Go.ChangeAt Go.RowKit Go.Shelf
set_option linter.unusedVariables false
set_option linter.unusedSimpArgs false
namespace schedCount
theorem check_pods {ms : List Mac} {bs : List Bd} (h : checkY ms bs = 0) : twiceN (bs.map pnm) = false := by
  unfold checkY at h
  split at h
  · omega
  · split at h
    · omega
    · split at h
      · omega
      · rename_i h3
        cases ht : twiceN (bs.map pnm)
        · rfl
        · exact absurd (.inr ht) h3
structure SC (w : World) (a c aM aO : Option Addr) (ms : List Mac) (bs : List Bd) (M : List (ByteArray × ByteArray)) (O : List Int) (V : World) : Prop where
  ya : YA V a ms c bs
  mv : MvL V aM M
  od : RowsAt icl 1 V aO O
  bl : Below w.heap.size w V
theorem SC.mono {w V V' : World} {a c aM aO : Option Addr} {ms : List Mac} {bs : List Bd} {M : List (ByteArray × ByteArray)} {O : List Int} (h : SC w a c aM aO ms bs M O V) (hb : Below V.heap.size V V') : SC w a c aM aO ms bs M O V' := ⟨h.ya.mono hb, h.mv.mono hb, h.od.mono hb, h.bl.trans (hb.mono h.bl.size)⟩
theorem SC.cell {w V : World} {a c aM : Option Addr} {q o : Nat} {ms : List Mac} {bs : List Bd} {M : List (ByteArray × ByteArray)} {O : List Int} (h : SC w a c aM (some ⟨q, o, none⟩) ms bs M O V) {k : Nat} {x : Int} (hx : O[k]? = some x) : V.cell? ⟨q, o + k, none⟩ = some (.int .i64 x) ∧ q < V.heap.size := by
  obtain ⟨b, o', e, hb, hc⟩ := h.od (by have := (List.getElem?_eq_some_iff.1 hx).1; omega)
  injection e with e
  injection e with e1 e2
  subst e1 e2
  exact ⟨icl_at hc hx, hb⟩
theorem SC.bd {w V : World} {a aM aO : Option Addr} {q o : Nat} {ms : List Mac} {bs : List Bd} {M : List (ByteArray × ByteArray)} {O : List Int} (h : SC w a (some ⟨q, o, none⟩) aM aO ms bs M O V) {i : Nat} {b : Bd} (hb : bs[i]? = some b) : V.cell? ⟨q, o + i * 21 + 20, none⟩ = some (.string b.on) ∧ V.cell? ⟨q, o + i * 21 + 15, none⟩ = some (.int .i64 b.p.rk) ∧ q < V.heap.size := by
  obtain ⟨b', o', e, hq, hc⟩ := h.ya.bl (by have := (List.getElem?_eq_some_iff.1 hb).1; omega)
  injection e with e
  injection e with e1 e2
  subst e1 e2
  exact ⟨(hc i b hb 20 (by decide)).trans rfl, (hc i b hb 15 (by decide)).trans rfl, hq⟩
set_option maxRecDepth 100000 in
set_option maxHeartbeats 8000000 in
theorem walk1 (a : Option Addr) (ka : Nat) (ms : List Mac) (c : Option Addr) (kc : Nat) (bs : List Bd) (w : World) (hF : MacL w a ms) (hG : BndL w c bs) (hA : ∀ m ∈ ms, MacIn w m) (hB : ∀ b ∈ bs, BndIn w b) (hl : ms.length ≤ maxLen) (hl2 : bs.length ≤ maxLen) :
    Calls Tryz.prog 6 #[.slice a ms.length ka, .slice c bs.length kc] w fun e w' => e = .returned (.bool true) ∧ Below w.heap.size w w' := by
  have hRt := sright_any a c ka kc ms bs w hF hG hA hB hl hl2
  have HKn := Lib.hid (fun V => sknown_any V)
  obtain ⟨g, hg⟩ : ∃ g, rightS ms bs = g := ⟨_, rfl⟩
  rw [hg] at hRt
  cases g with
  | false =>
    generalize ms.length = n at hRt ⊢
    generalize bs.length = N at hRt ⊢
    have HRt := Lib.hid hRt
    clear hRt hg hF hG hA hB hl hl2
    go_enter Tryz.func6, Tryz.ntmps6
    go_wp2_with (first
      | (go_at_call 7; (with_reducible refine HRt.out.mono ?_); rintro e w1 ⟨rfl, hb⟩; have HB1 := Lib.hid hb; clear hb)
      | (go_at_call 8; (with_reducible refine (HKn.out _).mono ?_); rintro e w2 ⟨rfl, hb⟩; have HB2 := Lib.hid (HB1.out.trans (hb.mono HB1.out.size)); clear hb))
    go_ret
    exact ⟨rfl, HB2.out⟩
  | true =>
    obtain ⟨hly, hck⟩ := rightS_iff hg
    have hY := ya_of' hF hG hA hB hly
    have h40 := (lightY_iff hly).2.1
    have HSt := Lib.hid (fun V (hV : Below w.heap.size w V) => step_any a c ka kc ms bs V (hY.mono hV) (by omega))
    have HOd := Lib.hid (fun V (hV : Below w.heap.size w V) => sorder_any c kc bs V (hY.mono hV).bl (by omega))
    have HPl := Lib.hid (fun V x (hV : YA V a ms c bs) => rplace_any c kc bs x V hV.bl (by omega))
    have HFi := Lib.hid (fun V x (hV : YA V a ms c bs) => rfind_any a ka ms x V hV.ml (by have := hV.mm; omega))
    have HOn := Lib.hid (fun V (hV : YA V a ms c bs) => refon_any c kc bs emp V hV.bl (by omega))
    have hMv := moves_ok ms bs
    have hOk := ord_ok bs
    unfold StG at HSt
    obtain ⟨O, hO⟩ : ∃ O, ordB bs bs.length = O := ⟨_, rfl⟩
    obtain ⟨⟨X, M⟩, hM⟩ : ∃ M, stepF ms bs = M := ⟨_, rfl⟩
    rw [hO] at HOd hOk hMv
    rw [hM] at HSt hMv
    dsimp only at HSt hMv
    have hplace : ∀ (i : Nat) (b : Bd), bs[i]? = some b → findN (bs.map pnm) b.p.nm 0 = (i : Int) := fun i b hb => find_once (check_pods hck) (pnm_at hb)
    have HAt := Lib.hid (show ∀ (k : Nat) (x : Int), O[k]? = some x → ∃ (i : Nat) (b : Bd), x = (i : Int) ∧ bs[i]? = some b ∧ b.on = emp from hOk.at_)
    have HDn := Lib.hid hOk.down
    have HOc := Lib.hid hOk.once
    have hnum := hOk.num
    have hMl := hMv.2
    have HMv := Lib.hid hMv.1
    have HPc := Lib.hid hplace
    obtain ⟨n, hn⟩ : ∃ n, ms.length = n := ⟨_, rfl⟩
    obtain ⟨N, hN⟩ : ∃ N, bs.length = N := ⟨_, rfl⟩
    obtain ⟨L, hL⟩ : ∃ L, O.length = L := ⟨_, rfl⟩
    obtain ⟨K, hK⟩ : ∃ K, M.length = K := ⟨_, rfl⟩
    have hLN : L ≤ N := by
      rw [← hL, ← hN, hnum]
      unfold onL
      rw [List.length_map]
      exact List.length_filter_le _ _
    have HN := Lib.hid hN
    have Hn := Lib.hid hn
    have HL := Lib.hid hL
    have HK := Lib.hid hK
    have HYA := Lib.hid hY
    have HOn2 := Lib.hid (show ∀ V, YA V a ms c bs → Calls Tryz.prog 26 #[.slice c N kc, .string ⟨#[]⟩] V fun e w' => (∃ x k, e = .returned (.slice x L k)) ∧ Below V.heap.size V w' from fun V hV => by
      have h9 := HOn.out V hV
      rw [hN] at h9
      refine h9.mono fun e w' h => ?_
      obtain ⟨⟨v, rfl, hv⟩, hb⟩ := h
      obtain ⟨x, k, rfl⟩ := own_sl hv
      refine ⟨⟨x, k, ?_⟩, hb⟩
      rw [← hL, hnum])
    rw [hn, hN, hK] at HSt
    rw [hN] at HOd HPl h40
    rw [hn] at HFi
    rw [hL, hK] at hMl
    rw [hn, hN] at hRt ⊢
    have HRt := Lib.hid hRt
    have hn20 : n ≤ 1000 := by rw [← hn]; exact hY.mm
    clear hRt hF hG hA hB hl hl2 hg hly hck hY hOk hMv hO hM hnum hplace hn hN hL hK HOn
    go_enter Tryz.func6, Tryz.ntmps6
    go_upto_region 6 with (first
      | (go_at_call 7; (with_reducible refine HRt.out.mono ?_); rintro e w1 ⟨rfl, hb⟩; have HB1 := Lib.hid hb; clear hb)
      | (go_at_call 9; (with_reducible refine (HSt.out _ HB1.out).mono ?_); rintro e w2 ⟨⟨an, aM, kn, kM, rfl, -, hm⟩, hb, -⟩; have HM2 := Lib.hid hm; have HB2 := Lib.hid (HB1.out.trans (hb.mono HB1.out.size)); clear hb hm)
      | (go_at_call 12; (with_reducible refine (HOd.out _ HB2.out).mono ?_); rintro e w3 ⟨⟨v, rfl, ho⟩, hb⟩; have HO3 := Lib.hid ho; have HM3 := Lib.hid (own_kept HM2.out hb); have HB3 := Lib.hid (HB2.out.trans (hb.mono HB2.out.size)); clear hb ho))
    obtain ⟨aO, kO, rfl⟩ := own_sl HO3.out
    have HS0 := Lib.hid (show SC w a c aM aO ms bs M O w3 from ⟨HYA.out.mono HB3.out, (own_parts (l := M) (enc := mvE) (K := 2) mvE_len (by decide) (by rw [HK.out]; exact HM3.out)).1, (own_parts (l := O) (enc := icl) (K := 1) (fun _ => rfl) (by decide) HO3.out).1, HB3.out⟩)
    rw [HL.out]
    obtain ⟨V3, hV3⟩ : ∃ V3, V3 = w3 := ⟨_, rfl⟩
    rw [← hV3] at HS0 ⊢
    clear hV3 HO3 HM2 HM3 HB1 HB2 HB3 HRt HSt HOd HYA
    go_loopw [8] (fun vi wr => ∃ k : Nat, k ≤ L ∧ vi = .int .i64 k ∧ SC w a c aM aO ms bs M O wr) (fun vi _ => L - (intOf vi).toNat)
    case atStart => exact ⟨0, Nat.zero_le _, rfl, HS0.out⟩
    case round =>
      clear HS0
      obtain ⟨k, hk, rfl, hS⟩ := hrel
      have HS := Lib.hid hS
      clear hS
      by_cases hlt : k < L
      · obtain ⟨x, hx⟩ := mem_at (l := O) (k := k) (by rw [HL.out]; exact hlt)
        obtain ⟨i, b, rfl, hb, hon⟩ := HAt.out k x hx
        obtain ⟨qo, oo, hqe, hqo, hco⟩ := HS.out.od (by rw [HL.out]; omega)
        have hi : i < N := by rw [← HN.out]; exact (List.getElem?_eq_some_iff.1 hb).1
        obtain ⟨qb, ob, hqb', hqb, hcb⟩ := HS.out.ya.bl (by rw [HN.out]; omega)
        subst hqe hqb'
        have c0 := icl_at hco hx
        have d20 : wr.cell? ⟨qb, ob + i * 21 + 20, none⟩ = some (.string ⟨#[]⟩) := by
          have h9 := hcb i b hb 20 (by decide)
          rw [h9]
          show some (Value.string b.on) = _
          rw [hon]
          rfl
        have d15 : wr.cell? ⟨qb, ob + i * 21 + 15, none⟩ = some (.int .i64 b.p.rk) := (hcb i b hb 15 (by decide)).trans rfl
        obtain ⟨r, hr⟩ : ∃ r, b.p.rk = r := ⟨_, rfl⟩
        rw [hr] at d15
        have HX := Lib.hid hx
        have e0 : decide (((i : Nat) : Int) < 0) = false := decide_eq_false (by omega)
        have e1 : decide (N ≤ i) = false := decide_eq_false (by omega)
        have hin : ((i : Nat) : Int) < (N : Int) := by omega
        by_cases hk0 : k = 0
        · subst hk0
          clear hx hb hon hco hcb hr
          rw [Nat.add_zero] at c0
          go_upto_region 8 with (fail)
          have hcH := held_cell
          refine region_rel (by kernel_rfl) (by kernel_rfl) ?_
          repeat
            ((with_reducible refine relStep (fun K hK => ?_))
             (have HK := Lib.hid hK)
             clear hK
             (apply relInl
              · intro r n hf
                have Hf := Lib.hid hf
                clear hf
                (first
                  | (fail)
                  | (unfold relAt
                     go_simp
                     (first | (refine relUpon_val ?_ (Below.refl _ _); exact rfl) | exact rfl | (refine relUpon_enter ?_; fail))))
              (simp only [Act.put, List.setIfInBounds_toArray, List.set_cons_zero, List.set_cons_succ])
              (with_reducible refine HK.out _ _ ?_)
              clear HK K))
          refine relNil ?_
          intro r9 n9 hx9
          clear hcH
          (try simp only [List.nil_append, List.cons_append, List.mem_cons, List.not_mem_nil, or_false, forall_eq_or_imp, forall_eq, false_implies, implies_true] at hx9)
          obtain ⟨w9, hb9⟩ := n9
          (try dsimp only)
          obtain ⟨hc9, hf9⟩ := bcell hb9
          have hz9 := hb9.size
          (try simp at hz9)
          have HS9 := Lib.hid (HS.out.mono hb9)
          clear hb9 hc9 hf9 hz9 HS d20 d15 hqo hqb c0
          go_wp2
          refine wp_loop_rounds 1 ?_
          rw [rounds_succ]
          go_wp2
          go_roundw
          case rel => exact ⟨1, by omega, by go_num, HS9.out⟩
          case measure => simp [intOf]; omega
        · obtain ⟨k', rfl⟩ : ∃ k', k = k' + 1 := ⟨k - 1, by omega⟩
          obtain ⟨x2, hx2⟩ := mem_at (l := O) (k := k') (by rw [HL.out]; omega)
          obtain ⟨i2, b2, rfl, hb2, hon2⟩ := HAt.out k' x2 hx2
          have hi2 : i2 < N := by rw [← HN.out]; exact (List.getElem?_eq_some_iff.1 hb2).1
          have hle := HDn.out k' i i2 b b2 hx2 hx hb2 hb
          have c1 := (HS.out.cell hx2).1
          have f15 := (HS.out.bd hb2).2.1
          obtain ⟨r2, hr2⟩ : ∃ r, b2.p.rk = r := ⟨_, rfl⟩
          rw [hr2] at f15 hle
          rw [hr] at hle
          have e2 : decide (r2 < r) = false := decide_eq_false (by omega)
          have hin2 : ((i2 : Nat) : Int) < (N : Int) := by omega
          have hw1 : IntKind.i64.wrap (((k' + 1 : Nat) : Int) - 1) = (k' : Int) := by rw [wrap_in (by omega) (by omega)]; omega
          have hw2 : IntKind.i64.wrap ((k' : Int) + 1 - 1) = (k' : Int) := by rw [wrap_in (by omega) (by omega)]; omega
          have hw3 : IntKind.i64.wrap (k' : Int) = (k' : Int) := wrap_in (by omega) (by omega)
          have hkl : ((k' : Nat) : Int) < (L : Int) := by omega
          have hkl2 : k' < L := by omega
          have hpos : decide (0 < k' + 1) = true := decide_eq_true (by omega)
          clear hx hb hon hco hcb hr hx2 hb2 hon2 hr2 hle hk0
          go_upto_region 8 with (fail)
          have hcH := held_cell
          refine region_rel (by kernel_rfl) (by kernel_rfl) ?_
          repeat
            ((with_reducible refine relStep (fun K hK => ?_))
             (have HK := Lib.hid hK)
             clear hK
             (apply relInl
              · intro r n hf
                have Hf := Lib.hid hf
                clear hf
                (first
                  | (fail)
                  | (unfold relAt
                     go_simp
                     (first | (refine relUpon_val ?_ (Below.refl _ _); exact rfl) | exact rfl | (refine relUpon_enter ?_; fail))))
              (simp only [Act.put, List.setIfInBounds_toArray, List.set_cons_zero, List.set_cons_succ])
              (with_reducible refine HK.out _ _ ?_)
              clear HK K))
          refine relNil ?_
          intro r9 n9 hx9
          clear hcH
          (try simp only [List.nil_append, List.cons_append, List.mem_cons, List.not_mem_nil, or_false, forall_eq_or_imp, forall_eq, false_implies, implies_true] at hx9)
          obtain ⟨w9, hb9⟩ := n9
          (try dsimp only)
          obtain ⟨hc9, hf9⟩ := bcell hb9
          have hz9 := hb9.size
          (try simp at hz9)
          have HS9 := Lib.hid (HS.out.mono hb9)
          clear hb9 hc9 hf9 hz9 HS d20 d15 hqo hqb c0 c1 f15
          go_wp2
          go_loopw [9] (fun vj wz => ∃ j : Nat, j ≤ k' + 1 ∧ vj = .int .i64 j ∧ SC w a (some ⟨qb, ob, none⟩) aM (some ⟨qo, oo, none⟩) ms bs M O wz) (fun vj _ => k' + 1 - (intOf vj).toNat)
          case atStart => exact ⟨0, Nat.zero_le _, rfl, HS9.out⟩
          case round =>
            clear HS9
            obtain ⟨j, hj, rfl, hSz⟩ := hrel
            have HSz := Lib.hid hSz
            by_cases hlj : j < k' + 1
            · obtain ⟨y, hy⟩ := mem_at (l := O) (k := j) (by rw [HL.out]; omega)
              have hne := HOc.out j (k' + 1) y _ hlj hy HX.out
              obtain ⟨c0, hqz⟩ := hSz.cell HX.out
              have c1 := (hSz.cell hy).1
              have q1 : (y == ((i : Nat) : Int)) = false := by simpa using hne
              have q2 : (y = ((i : Nat) : Int)) = False := eq_false hne
              clear hSz hy hne
              go_wp2
              go_region
              all_goals
                go_wp2
                go_roundw
                case rel => exact ⟨j + 1, by omega, by go_num, HSz.out.mono (by first | exact (Below.refl _ _).drew | exact Below.refl _ _ | exact below_drewN' (Below.refl _ _) _)⟩
                case measure => simp [intOf]; omega
            · obtain rfl : j = k' + 1 := by omega
              clear hSz
              go_wp2
              go_roundw
              case rel => exact ⟨k' + 1 + 1, by omega, by go_num, HSz.out⟩
              case measure => simp [intOf]; omega
      · obtain rfl : k = L := by omega
        obtain ⟨V4, hV4⟩ : ∃ V4, V4 = wr := ⟨_, rfl⟩
        have HS0 := Lib.hid (show SC w a c aM aO ms bs M O V4 by rw [hV4]; exact HS.out)
        subst hV4
        clear HS
        go_wp2
        go_loopw [10] (fun vi wr => ∃ t : Nat, t ≤ K ∧ vi = .int .i64 t ∧ SC w a c aM aO ms bs M O wr) (fun vi _ => K - (intOf vi).toNat)
        case atStart => exact ⟨0, Nat.zero_le _, rfl, HS0.out⟩
        case round =>
          clear HS0
          obtain ⟨t, ht, rfl, hS⟩ := hrel
          have HS := Lib.hid hS
          clear hS
          by_cases htl : t < K
          · obtain ⟨⟨x1, x2⟩, hx⟩ := mem_at (l := M) (k := t) (by rw [HK.out]; exact htl)
            obtain ⟨⟨i, b, hb, hon, hnm⟩, m, hm, hrd⟩ := HMv.out _ (List.mem_of_getElem? hx)
            dsimp only at hnm hm
            have hpl := HPc.out i b hb
            rw [hnm] at hpl
            rcases find_cases ms x2 with ⟨_, h2⟩ | ⟨f, m', h1, h2, h3, h4⟩
            · rw [hm] at h2; cases h2
            obtain rfl : m = m' := by rw [hm] at h4; exact Option.some.inj h4
            have hi : i < N := by rw [← HN.out]; exact (List.getElem?_eq_some_iff.1 hb).1
            have hf : f < n := by rw [← Hn.out]; exact (List.getElem?_eq_some_iff.1 h2).1
            obtain ⟨qm, om, hqm, hqm2, hcm⟩ := HS.out.mv (by rw [HK.out]; omega)
            obtain ⟨qb, ob, hqb, hqb2, hcb⟩ := HS.out.ya.bl (by rw [HN.out]; omega)
            obtain ⟨qa, oa, hqa, hqa2, hca⟩ := HS.out.ya.ml (by rw [Hn.out]; omega)
            subst hqm hqb hqa
            have c0 : wr.cell? ⟨qm, om + t * 2, none⟩ = some (.string x1) := (hcm t _ hx 0 (by decide)).trans rfl
            have c1 : wr.cell? ⟨qm, om + t * 2 + 1, none⟩ = some (.string x2) := (hcm t _ hx 1 (by decide)).trans rfl
            have HD20 := Lib.hid (show wr.cell? ⟨qb, ob + i * 21 + 20, none⟩ = some (.string ⟨#[]⟩) by
              have h9 := hcb i b hb 20 (by decide)
              rw [h9]
              show some (Value.string b.on) = _
              rw [hon]
              rfl)
            have HD9 := Lib.hid (show wr.cell? ⟨qa, oa + f * 10 + 9, none⟩ = some (.bool true) by
              have h9 := hca f m h2 9 (by decide)
              rw [h9]
              show some (Value.bool m.rd) = _
              rw [hrd])
            have HPl1 := Lib.hid (show Calls Tryz.prog 24 #[.slice (some ⟨qb, ob, none⟩) N kc, .string x1] wr fun e w' => e = .returned (.int .i64 (i : Nat)) ∧ Below wr.heap.size wr w' by
              have h9 := HPl.out wr x1 HS.out.ya
              rw [hpl] at h9
              exact h9)
            have HFi1 := Lib.hid (show ∀ V, YA V (some ⟨qa, oa, none⟩) ms (some ⟨qb, ob, none⟩) bs → Calls Tryz.prog 25 #[.slice (some ⟨qa, oa, none⟩) n ka, .string x2] V fun e w' => e = .returned (.int .i64 (f : Nat)) ∧ Below V.heap.size V w' from fun V hV => by
              have h9 := HFi.out V x2 hV
              rw [h1] at h9
              exact h9)
            have hzi : decide (((i : Nat) : Int) < 0) = false := decide_eq_false (by omega)
            have hzf : decide (((f : Nat) : Int) < 0) = false := decide_eq_false (by omega)
            clear hx hb hon hnm hm hrd hpl h1 h2 h3 h4 hcm hcb hca
            go_wp2_with (first
              | (go_at_call 24; (with_reducible refine HPl1.out.mono ?_); rintro e w5 ⟨rfl, hb5⟩; have HS5 := Lib.hid (HS.out.mono hb5); have HD205 := Lib.hid ((hb5.cell (p := ⟨qb, ob + i * 21 + 20, none⟩) hqb2).trans HD20.out); have HD95 := Lib.hid ((hb5.cell (p := ⟨qa, oa + f * 10 + 9, none⟩) hqa2).trans HD9.out); have c1 : w5.cell? ⟨qm, om + t * 2 + 1, none⟩ = some (.string x2) := (hb5.cell (p := ⟨qm, om + t * 2 + 1, none⟩) hqm2).trans c1; have hqm5 : qm < w5.heap.size := Nat.lt_of_lt_of_le hqm2 hb5.size; have hqb5 : qb < w5.heap.size := Nat.lt_of_lt_of_le hqb2 hb5.size; have hqa5 : qa < w5.heap.size := Nat.lt_of_lt_of_le hqa2 hb5.size; clear hb5)
              | (go_at_call 25; (with_reducible refine (HFi1.out _ HS5.out.ya).mono ?_); rintro e w6 ⟨rfl, hb6⟩; have HS6 := Lib.hid (HS5.out.mono hb6); have d20 := (hb6.cell (p := ⟨qb, ob + i * 21 + 20, none⟩) hqb5).trans HD205.out; have d9 := (hb6.cell (p := ⟨qa, oa + f * 10 + 9, none⟩) hqa5).trans HD95.out; have hqb6 : qb < w6.heap.size := Nat.lt_of_lt_of_le hqb5 hb6.size; have hqa6 : qa < w6.heap.size := Nat.lt_of_lt_of_le hqa5 hb6.size; clear hb6))
            go_roundw
            case rel => exact ⟨t + 1, by omega, by go_num, HS6.out⟩
            case measure => simp [intOf]; omega
          · obtain rfl : t = K := by omega
            have hKL : decide (t ≤ k) = true := decide_eq_true hMl
            have hKL2 : decide (((t : Nat) : Int) ≤ ((k : Nat) : Int)) = true := decide_eq_true (by omega)
            go_wp2_with (first
              | (go_at_call 26; (with_reducible refine (HOn2.out _ HS.out.ya).mono ?_); rintro e w5 ⟨⟨x5, k5, rfl⟩, hb5⟩; have HS5 := Lib.hid (HS.out.mono hb5); clear hb5)
              | (go_at_call 8; (with_reducible refine (HKn.out _).mono ?_); rintro e w6 ⟨rfl, hb6⟩; have HS6 := Lib.hid (HS5.out.mono hb6); clear hb6))
            go_ret
            exact ⟨rfl, HS6.out.bl⟩
end schedCount
end Go.Proofs.YtdfadbpepmkicaaGreat
