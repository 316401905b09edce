/-
  Yards of the document: Find, Place, Check.
-/
import Derived.Test.YtkmhicoimgpdlaaNF
import Derived.Test.YtkmhicoimgpdlaaYeA
namespace Go.Proofs.Ytkmhicoimgpdlaa
open Go.RowKit
set_option linter.unusedVariables false
set_option linter.unusedSimpArgs false

set_option maxRecDepth 100000 in
set_option maxHeartbeats 2000000 in
theorem rfind_any (a : Option Addr) (ka : Nat) (ms : List Mac) (nm : ByteArray) (w : World) (hF : MacL w a ms) (hl : ms.length ≤ 1000000) :
    Calls Try.prog 10 #[.slice a ms.length ka, .string nm] w fun e w' => e = .returned (.int .i64 (findN (ms.map Mac.nm) nm 0)) ∧ Below w.heap.size w w' := by
  obtain ⟨n, hn⟩ : ∃ n, ms.length = n := ⟨_, rfl⟩
  obtain ⟨N, hN⟩ : ∃ N, ms.map Mac.nm = N := ⟨_, rfl⟩
  have HN := Lib.hid hn
  have HM := Lib.hid hN
  have HL := Lib.hid (show N.length = n by rw [← hN, List.length_map, hn])
  obtain ⟨R, hR⟩ : ∃ R, findN N nm 0 = R := ⟨_, rfl⟩
  have HR := Lib.hid (show findN (N.drop 0) nm 0 = R from hR)
  have HF := Lib.hid hF
  rw [hn] at hl ⊢
  rw [hN, hR]
  clear hn hN hR hF
  go_enter Try.func10, Try.ntmps10
  go_wp2
  go_loopw [5] (fun vi wr => ∃ k : Nat, k ≤ n ∧ vi = .int .i64 k ∧ findN (N.drop k) nm k = R ∧ wr = w) (fun vi _ => n - (intOf vi).toNat)
  case atStart => exact ⟨0, Nat.zero_le _, rfl, HR.out, rfl⟩
  case round =>
    clear HR
    obtain ⟨k, hk, rfl, hE, rfl⟩ := hrel
    have HE := Lib.hid hE
    clear hE
    by_cases hlt : k < n
    · obtain ⟨m, hm⟩ := mem_at (l := ms) (k := k) (by rw [HN.out]; exact hlt)
      obtain ⟨b, o, rfl, hb, hc⟩ := HF.out (by rw [HN.out]; omega)
      have c0 : wr.cell? ⟨b, o + k * 10, none⟩ = some (.string (Mac.nm m)) := hc k m hm 0 (by decide)
      have hmN := nm_at hm
      rw [HM.out] at hmN
      obtain ⟨y, hy⟩ : ∃ y, Mac.nm m = y := ⟨_, rfl⟩
      rw [hy] at c0 hmN
      have HNx := Lib.hid ((findN_at (x := nm) hmN).symm.trans HE.out)
      clear hc hm hmN hy
      by_cases he : y = nm
      · have q := str_yes he
        obtain rfl : R = (k : Int) := by have := HNx.out; rw [if_pos he] at this; exact this.symm
        clear he
        go_wp2
        go_ret
        exact ⟨rfl, Below.refl _ _⟩
      · have q := str_no he
        have HNy := Lib.hid (show findN (N.drop (k + 1)) nm (k + 1) = R by have := HNx.out; rw [if_neg he] at this; exact this)
        clear he
        go_wp2
        go_roundw
        case rel => exact ⟨k + 1, by omega, by go_num, HNy.out, by trivial⟩
        case measure => simp [intOf]; omega
    · obtain rfl : k = n := by omega
      obtain rfl : R = -1 := by
        rw [← HE.out, List.drop_of_length_le (by rw [HL.out]; exact Nat.le_refl _)]
        rfl
      go_wp2
      go_ret
      exact ⟨rfl, Below.refl _ _⟩
set_option maxRecDepth 100000 in
set_option maxHeartbeats 2000000 in
theorem rplace_any (a : Option Addr) (ka : Nat) (bs : List Bd) (nm : ByteArray) (w : World) (hF : BndL w a bs) (hl : bs.length ≤ 1000000) :
    Calls Try.prog 36 #[.slice a bs.length ka, .string nm] w fun e w' => e = .returned (.int .i64 (findN (bs.map pnm) nm 0)) ∧ Below w.heap.size w w' := by
  obtain ⟨n, hn⟩ : ∃ n, bs.length = n := ⟨_, rfl⟩
  obtain ⟨N, hN⟩ : ∃ N, bs.map pnm = N := ⟨_, rfl⟩
  have HN := Lib.hid hn
  have HM := Lib.hid hN
  have HL := Lib.hid (show N.length = n by rw [← hN, List.length_map, hn])
  obtain ⟨R, hR⟩ : ∃ R, findN N nm 0 = R := ⟨_, rfl⟩
  have HR := Lib.hid (show findN (N.drop 0) nm 0 = R from hR)
  have HF := Lib.hid hF
  rw [hn] at hl ⊢
  rw [hN, hR]
  clear hn hN hR hF
  go_enter Try.func36, Try.ntmps36
  go_wp2
  go_loopw [5] (fun vi wr => ∃ k : Nat, k ≤ n ∧ vi = .int .i64 k ∧ findN (N.drop k) nm k = R ∧ wr = w) (fun vi _ => n - (intOf vi).toNat)
  case atStart => exact ⟨0, Nat.zero_le _, rfl, HR.out, rfl⟩
  case round =>
    clear HR
    obtain ⟨k, hk, rfl, hE, rfl⟩ := hrel
    have HE := Lib.hid hE
    clear hE
    by_cases hlt : k < n
    · obtain ⟨m, hm⟩ := mem_at (l := bs) (k := k) (by rw [HN.out]; exact hlt)
      obtain ⟨b, o, rfl, hb, hc⟩ := HF.out (by rw [HN.out]; omega)
      have c0 : wr.cell? ⟨b, o + k * 21, none⟩ = some (.string (pnm m)) := hc k m hm 0 (by decide)
      have hmN := pnm_at hm
      rw [HM.out] at hmN
      obtain ⟨y, hy⟩ : ∃ y, pnm m = y := ⟨_, rfl⟩
      rw [hy] at c0 hmN
      have HNx := Lib.hid ((findN_at (x := nm) hmN).symm.trans HE.out)
      clear hc hm hmN hy
      by_cases he : y = nm
      · have q := str_yes he
        obtain rfl : R = (k : Int) := by have := HNx.out; rw [if_pos he] at this; exact this.symm
        clear he
        go_wp2
        go_ret
        exact ⟨rfl, Below.refl _ _⟩
      · have q := str_no he
        have HNy := Lib.hid (show findN (N.drop (k + 1)) nm (k + 1) = R by have := HNx.out; rw [if_neg he] at this; exact this)
        clear he
        go_wp2
        go_roundw
        case rel => exact ⟨k + 1, by omega, by go_num, HNy.out, by trivial⟩
        case measure => simp [intOf]; omega
    · obtain rfl : k = n := by omega
      obtain rfl : R = -1 := by
        rw [← HE.out, List.drop_of_length_le (by rw [HL.out]; exact Nat.le_refl _)]
        rfl
      go_wp2
      go_ret
      exact ⟨rfl, Below.refl _ _⟩
theorem findN_pos {N : List ByteArray} {i : Nat} {x : ByteArray} (h : N[i]? = some x) : 0 ≤ findN N x 0 ∧ findN N x 0 ≤ i := by
  have h1 : ∀ (l : List ByteArray) (x : ByteArray) (i k : Nat), l[i]? = some x → (k : Int) ≤ findN l x k ∧ findN l x k ≤ k + i := by
    intro l
    induction l with
    | nil => intro x i k h; simp at h
    | cons y l ih =>
      intro x i k h
      unfold findN
      by_cases e : y = x
      · rw [if_pos e]
        omega
      · rw [if_neg e]
        cases i with
        | zero => exact absurd (by simpa using h) e
        | succ i =>
          have h9 := ih x i (k + 1) (by simpa using h)
          omega
  have h2 := h1 N x i 0 h
  omega
theorem twice_no {N : List ByteArray} (h : ((List.range N.length).any fun i => decide (findN N (N.getD i emp) 0 < (i : Int))) = false) : twiceN N = false := h
theorem twice_yes {N : List ByteArray} {k : Nat} {y : ByteArray} (h : N[k]? = some y) (hz : findN N y 0 < k) : twiceN N = true := by
  unfold twiceN
  rw [List.any_eq_true]
  refine ⟨k, List.mem_range.2 (List.getElem?_eq_some_iff.1 h).1, ?_⟩
  rw [List.getD_eq_getElem?_getD, h]
  exact decide_eq_true hz
theorem twice_step {N : List ByteArray} {k : Nat} {y : ByteArray} (h : N[k]? = some y) (hz : ¬ findN N y 0 < k) (hE : ((List.range k).any fun i => decide (findN N (N.getD i emp) 0 < (i : Int))) = false) :
    ((List.range (k + 1)).any fun i => decide (findN N (N.getD i emp) 0 < (i : Int))) = false := by
  rw [List.range_succ, List.any_append, hE]
  simp only [List.any_cons, List.any_nil, Bool.or_false, Bool.false_or]
  rw [List.getD_eq_getElem?_getD, h]
  exact decide_eq_false hz

set_option maxRecDepth 100000 in
set_option maxHeartbeats 16000000 in
theorem rcheck_any (a : Option Addr) (ka : Nat) (ms : List Mac) (c : Option Addr) (kc : Nat) (bs : List Bd) (w : World) (hF : MacL w a ms) (hG : BndL w c bs) (hA : ∀ m ∈ ms, MacIn w m) (hB : ∀ b ∈ bs, BndIn w b) (hLm : ∀ m ∈ ms, lightM m = true) (hLb : ∀ b ∈ bs, lightP b.p = true) (hl : ms.length ≤ 200) (hl2 : bs.length ≤ 400) :
    Calls Try.prog 26 #[.slice a ms.length ka, .slice c bs.length kc] w fun e w' => e = .returned (.int .i64 (checkY ms bs)) ∧ Below w.heap.size w w' := by
  have H1 := Lib.hid (fun (m : Mac) (hm : m ∈ ms) (V : World) (hV : Below w.heap.size w V) => rightm_any m V ((hA m hm).here.mono hV) (hLm m hm))
  have H2 := Lib.hid (fun (m : Bd) (hm : m ∈ bs) (V : World) (hV : Below w.heap.size w V) => refrightp_any m.p V ((hB m hm).here.mono hV) (hLb m hm))
  have H3 := Lib.hid (fun (x : ByteArray) (V : World) (hV : Below w.heap.size w V) => rfind_any a ka ms x V (hF.mono hV) (by omega))
  have H4 := Lib.hid (fun (x : ByteArray) (V : World) (hV : Below w.heap.size w V) => rplace_any c kc bs x V (hG.mono hV) (by omega))
  obtain ⟨n, hn⟩ : ∃ n, ms.length = n := ⟨_, rfl⟩
  obtain ⟨p, hp⟩ : ∃ p, bs.length = p := ⟨_, rfl⟩
  obtain ⟨N, hN⟩ : ∃ N, ms.map Mac.nm = N := ⟨_, rfl⟩
  obtain ⟨M, hM⟩ : ∃ M, bs.map pnm = M := ⟨_, rfl⟩
  obtain ⟨R, hR⟩ : ∃ R, checkY ms bs = R := ⟨_, rfl⟩
  have HNl := Lib.hid (show N.length = n by rw [← hN, List.length_map, hn])
  have HMl := Lib.hid (show M.length = p by rw [← hM, List.length_map, hp])
  rw [hR]
  unfold checkY at hR
  rw [if_neg (by omega), hN, hM] at hR
  have HR1 := Lib.hid (show ms.all okM = false → R = 12 from fun h => by rw [← hR, if_pos (by rw [h]; rintro ⟨h, -⟩; cases h)])
  have HR2 := Lib.hid (show bs.all okBd = false → R = 12 from fun h => by rw [← hR, if_pos (by rw [h]; rintro ⟨-, h⟩; cases h)])
  have HR3 := Lib.hid (show ms.all okM = true → bs.all okBd = true → twiceN N = true → R = 15 from fun h1 h2 h => by rw [← hR, if_neg (by simp [h1, h2]), if_pos (.inl h)])
  have HR4 := Lib.hid (show ms.all okM = true → bs.all okBd = true → twiceN M = true → R = 15 from fun h1 h2 h => by rw [← hR, if_neg (by simp [h1, h2]), if_pos (.inr h)])
  have HR5 := Lib.hid (show ms.all okM = true → bs.all okBd = true → twiceN N = false → twiceN M = false → bs.all (onB N) = false → R = 16 from fun h1 h2 h3 h4 h => by rw [← hR, if_neg (by simp [h1, h2]), if_neg (by rw [h3, h4]; rintro (h | h) <;> cases h), if_pos (by rw [h]; decide)])
  have HR6 := Lib.hid (show ms.all okM = true → bs.all okBd = true → twiceN N = false → twiceN M = false → bs.all (onB N) = true → R = 0 from fun h1 h2 h3 h4 h => by rw [← hR, if_neg (by simp [h1, h2]), if_neg (by rw [h3, h4]; rintro (h | h) <;> cases h), if_neg (by rw [h]; decide)])
  have HF := Lib.hid hF
  have HG := Lib.hid hG
  have Hn := Lib.hid hn
  have Hp := Lib.hid hp
  have HN := Lib.hid hN
  have HM := Lib.hid hM
  rw [hn, hN] at H3
  rw [hp, hM] at H4
  rw [hn] at hl
  rw [hp] at hl2
  rw [hn, hp]
  have k1 : decide ((200 : Int) < (n : Int)) = false := decide_eq_false (by omega)
  have k2 : decide ((400 : Int) < (p : Int)) = false := decide_eq_false (by omega)
  clear hF hG hA hB hLm hLb hn hp hN hM hR
  go_enter Try.func26, Try.ntmps26
  go_wp2
  go_loopw [5] (fun vi wr => ∃ k : Nat, k ≤ n ∧ vi = .int .i64 k ∧ (ms.take k).all okM = true ∧ Below w.heap.size w wr) (fun vi _ => n - (intOf vi).toNat)
  case atStart => exact ⟨0, Nat.zero_le _, rfl, rfl, by (repeat' (first | with_reducible exact Below.refl _ _ | with_reducible assumption | with_reducible refine Below.drew ?_ | with_reducible refine below_drewN' ?_ _ | with_reducible refine Below.alloc ?_ ?_ _ | with_reducible refine Below.setCell ?_ ?_ _ | with_reducible refine below_step (by assumption) ?_ ?_ | omega | (simp; done) | (simp; omega)))⟩
  case round =>
    obtain ⟨k, hk, rfl, hE, hB⟩ := hrel
    have HE := Lib.hid hE
    have HB := Lib.hid hB
    have hbz := hB.size
    by_cases hlt : k < n
    · obtain ⟨m, hm⟩ := mem_at (l := ms) (k := k) (by rw [Hn.out]; exact hlt)
      obtain ⟨b, o, rfl, hb, hc⟩ := (HF.out.mono hB) (by rw [Hn.out]; omega)
      have hrg : wr.rangeAt b (o + k * 10) (mrow m) := fun j v hj => by rw [hc k m hm j (by have := (List.getElem?_eq_some_iff.1 hj).1; exact this)]; exact hj
      have HRg := Lib.hid hrg
      have c0 : wr.cell? ⟨b, o + k * 10, none⟩ = some (.string m.nm) := hc k m hm 0 (by decide)
      have Hm := Lib.hid hm
      have HCm := Lib.hid (fun V hV => H1.out m (List.mem_of_getElem? hm) V hV)
      have hok : okM m = (!decide (m.nm = emp) && rightM m) := rfl
      obtain ⟨z, hz⟩ : ∃ z, rightM m = z := ⟨_, rfl⟩
      rw [hz] at HCm hok
      have HOk := Lib.hid hok
      obtain ⟨nm, gp, r0, r1, r2, r3, r4, la, lk, L, ta, tk, T, rd⟩ := m
      dsimp only at c0
      clear hE hB hc hm hz hok hrg
      by_cases he : nm = emp
      · obtain ⟨q1, q2, q3, q4⟩ := emp_lits he
        obtain rfl : R = 12 := HR1.out (all_bad (P := okM) Hm.out (by rw [HOk.out, decide_eq_true he]; rfl))
        clear he
        go_wp2
        go_ret
        exact ⟨rfl, HB.out⟩
      · obtain ⟨q1, q2, q3, q4⟩ := emp_litn he
        cases z with
        | false =>
          obtain rfl : R = 12 := HR1.out (all_bad (P := okM) Hm.out (by rw [HOk.out, Bool.and_false]))
          clear he
          go_wp2_with (first
            | ((with_reducible refine at_load (ty := 35) ?_); refine load_cells rfl 35 (.tmp 33) rfl b (o + k * 10) rfl [.string nm, .string gp, .int .i64 r0, .int .i64 r1, .int .i64 r2, .int .i64 r3, .int .i64 r4, .slice la L.length lk, .slice ta T.length tk, .bool rd] _ Try.underlying35 rfl (by kernel_rfl) HRg.out ?_)
            | (go_at_call 45; (with_reducible refine (HCm.out _ HB.out).mono ?_); rintro e w3 ⟨rfl, hb3⟩; have HB3 := Lib.hid (HB.out.trans (hb3.mono hbz)); clear hb3))
          go_ret
          exact ⟨rfl, HB3.out⟩
        | true =>
          have HE2 := Lib.hid (all_take1 (P := okM) Hm.out (by rw [HOk.out, decide_eq_false he]; rfl) HE.out)
          clear he
          go_wp2_with (first
            | ((with_reducible refine at_load (ty := 35) ?_); refine load_cells rfl 35 (.tmp 33) rfl b (o + k * 10) rfl [.string nm, .string gp, .int .i64 r0, .int .i64 r1, .int .i64 r2, .int .i64 r3, .int .i64 r4, .slice la L.length lk, .slice ta T.length tk, .bool rd] _ Try.underlying35 rfl (by kernel_rfl) HRg.out ?_)
            | (go_at_call 45; (with_reducible refine (HCm.out _ HB.out).mono ?_); rintro e w3 ⟨rfl, hb3⟩; have HB3 := Lib.hid (HB.out.trans (hb3.mono hbz)); clear hb3))
          go_roundw
          case rel => exact ⟨k + 1, by omega, by go_num, HE2.out, HB3.out⟩
          case measure => simp [intOf]; omega
    · obtain rfl : n = k := by omega
      have HOm := Lib.hid (all_done (P := okM) Hn.out HE.out)
      clear hE HE hB H1 HR1
      go_wp2
      go_loopw [6] (fun vi wr => ∃ q : Nat, q ≤ p ∧ vi = .int .i64 q ∧ (bs.take q).all okBd = true ∧ Below w.heap.size w wr) (fun vi _ => p - (intOf vi).toNat)
      case atStart => exact ⟨0, Nat.zero_le _, rfl, rfl, HB.out⟩
      case round =>
        obtain ⟨k, hk, rfl, hE, hB⟩ := hrel
        have HE := Lib.hid hE
        have HB := Lib.hid hB
        have hbz := hB.size
        by_cases hlt : k < p
        · obtain ⟨m, hm⟩ := mem_at (l := bs) (k := k) (by rw [Hp.out]; exact hlt)
          obtain ⟨b, o, rfl, hb, hc⟩ := (HG.out.mono hB) (by rw [Hp.out]; omega)
          have hrg : wr.rangeAt b (o + k * 21) (prow m.p) := fun j v hj => by
            have hj20 : j < 20 := (List.getElem?_eq_some_iff.1 hj).1
            rw [hc k m hm j (by omega)]
            show (prow m.p ++ [.string m.on])[j]? = some v
            rw [List.getElem?_append_left hj20]
            exact hj
          have HRg := Lib.hid hrg
          have Hm := Lib.hid hm
          have HCm := Lib.hid (fun V hV => H2.out m (List.mem_of_getElem? hm) V hV)
          obtain ⟨z, hz⟩ : ∃ z, rightP m.p = z := ⟨_, rfl⟩
          have HZ := Lib.hid (show okBd m = z from hz)
          rw [hz] at HCm
          obtain ⟨pd, on⟩ := m
          dsimp only at HRg HCm
          obtain ⟨ag, hag⟩ : ∃ ag, (prow pd).toArray = ag := ⟨_, rfl⟩
          rw [hag] at HCm
          have HAg := Lib.hid hag
          clear hE hB hc hm hz hrg hag
          cases z with
          | false =>
            obtain rfl : R = 12 := HR2.out (all_bad (P := okBd) Hm.out HZ.out)
            go_wp2_with (first
              | ((with_reducible refine at_load (ty := 50) ?_); refine load_cells rfl 50 (.tmp 47) rfl b (o + k * 21) rfl (prow pd) _ Try.underlying50 rfl (by kernel_rfl) HRg.out ?_; rw [HAg.out])
              | (go_at_call 46; (with_reducible refine (HCm.out _ HB.out).mono ?_); rintro e w3 ⟨rfl, hb3⟩; have HB3 := Lib.hid (HB.out.trans (hb3.mono hbz)); clear hb3))
            go_ret
            exact ⟨rfl, HB3.out⟩
          | true =>
            have HE2 := Lib.hid (all_take1 (P := okBd) Hm.out HZ.out HE.out)
            go_wp2_with (first
              | ((with_reducible refine at_load (ty := 50) ?_); refine load_cells rfl 50 (.tmp 47) rfl b (o + k * 21) rfl (prow pd) _ Try.underlying50 rfl (by kernel_rfl) HRg.out ?_; rw [HAg.out])
              | (go_at_call 46; (with_reducible refine (HCm.out _ HB.out).mono ?_); rintro e w3 ⟨rfl, hb3⟩; have HB3 := Lib.hid (HB.out.trans (hb3.mono hbz)); clear hb3))
            go_roundw
            case rel => exact ⟨k + 1, by omega, by go_num, HE2.out, HB3.out⟩
            case measure => simp [intOf]; omega
        · obtain rfl : p = k := by omega
          have HOb := Lib.hid (all_done (P := okBd) Hp.out HE.out)
          clear hE HE hB H2 HR2
          have HR3 := Lib.hid (HR3.out HOm.out HOb.out)
          have HR4 := Lib.hid (HR4.out HOm.out HOb.out)
          have HR5 := Lib.hid (HR5.out HOm.out HOb.out)
          have HR6 := Lib.hid (HR6.out HOm.out HOb.out)
          go_wp2
          go_loopw [7] (fun vi wr => ∃ q : Nat, q ≤ n ∧ vi = .int .i64 q ∧ ((List.range q).any fun i => decide (findN N (N.getD i emp) 0 < (i : Int))) = false ∧ Below w.heap.size w wr) (fun vi _ => n - (intOf vi).toNat)
          case atStart => exact ⟨0, Nat.zero_le _, rfl, rfl, HB.out⟩
          case round =>
            obtain ⟨k, hk, rfl, hE, hB⟩ := hrel
            have HE := Lib.hid hE
            have HB := Lib.hid hB
            have hbz := hB.size
            by_cases hlt : k < n
            · obtain ⟨m, hm⟩ := mem_at (l := ms) (k := k) (by rw [Hn.out]; exact hlt)
              obtain ⟨b, o, rfl, hb, hc⟩ := (HF.out.mono hB) (by rw [Hn.out]; omega)
              have c0 : wr.cell? ⟨b, o + k * 10, none⟩ = some (.string m.nm) := hc k m hm 0 (by decide)
              have hmN := nm_at hm
              rw [HN.out] at hmN
              obtain ⟨y, hy⟩ : ∃ y, m.nm = y := ⟨_, rfl⟩
              rw [hy] at c0 hmN
              have HmN := Lib.hid hmN
              have hfp := findN_pos hmN
              have htwy := fun h => twice_yes hmN h
              have htws := fun h => twice_step hmN h HE.out
              obtain ⟨z, hz⟩ : ∃ z, findN N y 0 = z := ⟨_, rfl⟩
              have HCy := Lib.hid (H3.out y)
              rw [hz] at HCy hfp htwy htws
              clear hE hB hc hm hmN hy hz
              by_cases hd : z < (k : Int)
              · have q : (z == (k : Int)) = false := by rw [beq_eq_false_iff_ne]; omega
                obtain rfl : R = 15 := HR3.out (htwy hd)
                clear hd htwy htws hfp
                go_wp2_with (go_at_call 10; (with_reducible refine (HCy.out _ HB.out).mono ?_); rintro e w3 ⟨rfl, hb3⟩; have HB3 := Lib.hid (HB.out.trans (hb3.mono hbz)); clear hb3)
                go_ret
                exact ⟨rfl, HB3.out⟩
              · obtain rfl : z = (k : Int) := by omega
                have HE2 := Lib.hid (htws hd)
                clear hd htwy htws hfp
                go_wp2_with (go_at_call 10; (with_reducible refine (HCy.out _ HB.out).mono ?_); rintro e w3 ⟨rfl, hb3⟩; have HB3 := Lib.hid (HB.out.trans (hb3.mono hbz)); clear hb3)
                go_roundw
                case rel => exact ⟨k + 1, by omega, by go_num, HE2.out, HB3.out⟩
                case measure => simp [intOf]; omega
            · obtain rfl : n = k := by omega
              have HTn := Lib.hid (twice_no (N := N) (by rw [HNl.out]; exact HE.out))
              clear hE HE hB HR3
              have HR5 := Lib.hid (HR5.out HTn.out)
              have HR6 := Lib.hid (HR6.out HTn.out)
              go_wp2
              go_loopw [8] (fun vi wr => ∃ q : Nat, q ≤ p ∧ vi = .int .i64 q ∧ ((List.range q).any fun i => decide (findN M (M.getD i emp) 0 < (i : Int))) = false ∧ Below w.heap.size w wr) (fun vi _ => p - (intOf vi).toNat)
              case atStart => exact ⟨0, Nat.zero_le _, rfl, rfl, HB.out⟩
              case round =>
                obtain ⟨k, hk, rfl, hE, hB⟩ := hrel
                have HE := Lib.hid hE
                have HB := Lib.hid hB
                have hbz := hB.size
                by_cases hlt : k < p
                · obtain ⟨m, hm⟩ := mem_at (l := bs) (k := k) (by rw [Hp.out]; exact hlt)
                  obtain ⟨b, o, rfl, hb, hc⟩ := (HG.out.mono hB) (by rw [Hp.out]; omega)
                  have c0 : wr.cell? ⟨b, o + k * 21, none⟩ = some (.string (pnm m)) := hc k m hm 0 (by decide)
                  have hmN := pnm_at hm
                  rw [HM.out] at hmN
                  obtain ⟨y, hy⟩ : ∃ y, pnm m = y := ⟨_, rfl⟩
                  rw [hy] at c0 hmN
                  have HmN := Lib.hid hmN
                  have hfp := findN_pos hmN
                  have htwy := fun h => twice_yes hmN h
                  have htws := fun h => twice_step hmN h HE.out
                  obtain ⟨z, hz⟩ : ∃ z, findN M y 0 = z := ⟨_, rfl⟩
                  have HCy := Lib.hid (H4.out y)
                  rw [hz] at HCy hfp htwy htws
                  clear hE hB hc hm hmN hy hz
                  by_cases hd : z < (k : Int)
                  · have q : (z == (k : Int)) = false := by rw [beq_eq_false_iff_ne]; omega
                    obtain rfl : R = 15 := HR4.out (htwy hd)
                    clear hd htwy htws hfp
                    go_wp2_with (go_at_call 36; (with_reducible refine (HCy.out _ HB.out).mono ?_); rintro e w3 ⟨rfl, hb3⟩; have HB3 := Lib.hid (HB.out.trans (hb3.mono hbz)); clear hb3)
                    go_ret
                    exact ⟨rfl, HB3.out⟩
                  · obtain rfl : z = (k : Int) := by omega
                    have HE2 := Lib.hid (htws hd)
                    clear hd htwy htws hfp
                    go_wp2_with (go_at_call 36; (with_reducible refine (HCy.out _ HB.out).mono ?_); rintro e w3 ⟨rfl, hb3⟩; have HB3 := Lib.hid (HB.out.trans (hb3.mono hbz)); clear hb3)
                    go_roundw
                    case rel => exact ⟨k + 1, by omega, by go_num, HE2.out, HB3.out⟩
                    case measure => simp [intOf]; omega
                · obtain rfl : p = k := by omega
                  have HTp := Lib.hid (twice_no (N := M) (by rw [HMl.out]; exact HE.out))
                  clear hE HE hB HR4 H4
                  have HR5 := Lib.hid (HR5.out HTp.out)
                  have HR6 := Lib.hid (HR6.out HTp.out)
                  go_wp2
                  go_loopw [9] (fun vi wr => ∃ q : Nat, q ≤ p ∧ vi = .int .i64 q ∧ (bs.take q).all (onB N) = true ∧ Below w.heap.size w wr) (fun vi _ => p - (intOf vi).toNat)
                  case atStart => exact ⟨0, Nat.zero_le _, rfl, rfl, HB.out⟩
                  case round =>
                    obtain ⟨k, hk, rfl, hE, hB⟩ := hrel
                    have HE := Lib.hid hE
                    have HB := Lib.hid hB
                    have hbz := hB.size
                    by_cases hlt : k < p
                    · obtain ⟨m, hm⟩ := mem_at (l := bs) (k := k) (by rw [Hp.out]; exact hlt)
                      obtain ⟨b, o, rfl, hb, hc⟩ := (HG.out.mono hB) (by rw [Hp.out]; omega)
                      have c0 : wr.cell? ⟨b, o + k * 21 + 20, none⟩ = some (.string m.on) := hc k m hm 20 (by decide)
                      have Hm := Lib.hid hm
                      obtain ⟨y, hy⟩ : ∃ y, m.on = y := ⟨_, rfl⟩
                      rw [hy] at c0
                      have hon : onB N m = (decide (y = emp) || decide (0 ≤ findN N y 0)) := by unfold onB; rw [hy]
                      have HCy := Lib.hid (H3.out y)
                      obtain ⟨z, hz⟩ : ∃ z, findN N y 0 = z := ⟨_, rfl⟩
                      rw [hz] at HCy hon
                      have HOn := Lib.hid hon
                      clear hE hB hc hm hy hz hon
                      by_cases he : y = emp
                      · obtain ⟨q1, q2, q3, q4⟩ := emp_lits he
                        have HE2 := Lib.hid (all_take1 (P := onB N) Hm.out (by rw [HOn.out, decide_eq_true he]; rfl) HE.out)
                        clear he
                        go_wp2
                        go_roundw
                        case rel => exact ⟨k + 1, by omega, by go_num, HE2.out, HB.out⟩
                        case measure => simp [intOf]; omega
                      · obtain ⟨q1, q2, q3, q4⟩ := emp_litn he
                        by_cases hd : z < 0
                        · have q5 : decide (z < 0) = true := decide_eq_true hd
                          obtain rfl : R = 16 := HR5.out (all_bad (P := onB N) Hm.out (by rw [HOn.out, decide_eq_false he, decide_eq_false (by omega)]; rfl))
                          clear he hd
                          go_wp2_with (go_at_call 10; (with_reducible refine (HCy.out _ HB.out).mono ?_); rintro e w3 ⟨rfl, hb3⟩; have HB3 := Lib.hid (HB.out.trans (hb3.mono hbz)); clear hb3)
                          go_ret
                          exact ⟨rfl, HB3.out⟩
                        · have q5 : decide (z < 0) = false := decide_eq_false hd
                          have HE2 := Lib.hid (all_take1 (P := onB N) Hm.out (by rw [HOn.out, decide_eq_true (show 0 ≤ z by omega)]; simp) HE.out)
                          clear he hd
                          go_wp2_with (go_at_call 10; (with_reducible refine (HCy.out _ HB.out).mono ?_); rintro e w3 ⟨rfl, hb3⟩; have HB3 := Lib.hid (HB.out.trans (hb3.mono hbz)); clear hb3)
                          go_roundw
                          case rel => exact ⟨k + 1, by omega, by go_num, HE2.out, HB3.out⟩
                          case measure => simp [intOf]; omega
                    · obtain rfl : p = k := by omega
                      obtain rfl : R = 0 := HR6.out (all_done (P := onB N) Hp.out HE.out)
                      clear hE hB
                      go_wp2
                      go_ret
                      exact ⟨rfl, HB.out⟩
end Go.Proofs.Ytkmhicoimgpdlaa
