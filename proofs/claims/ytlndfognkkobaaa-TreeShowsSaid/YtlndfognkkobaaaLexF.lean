/-
  The scanner: step.
-/
import Derived.Test.YtlndfognkkobaaaLexD
namespace Go.Proofs.Ytlndfognkkobaaa
open Go.RowKit
set_option linter.unusedVariables false
set_option linter.unusedSimpArgs false

theorem Rn.le4 {b : List UInt8} {r : Nat} (h : Rn b r) : b.length ≤ 4 := by
  obtain ⟨hd, ho, hn⟩ := h
  cases b with
  | nil => exact absurd rfl hn
  | cons b0 u =>
    have hd : dec (u.length + 1) 0 b0.toNat (u.getD 0 0).toNat (u.getD 1 0).toNat (u.getD 2 0).toNat = (r, (b0 :: u).length) := hd
    rcases dec_cases (u.length + 1) 0 b0.toNat (u.getD 0 0).toNat (u.getD 1 0).toNat (u.getD 2 0).toNat with ⟨_, e⟩ | ⟨_, _, _, e⟩ | ⟨_, _, _, _, e⟩ | ⟨_, _, _, _, _, e⟩ | ⟨_, e⟩
    all_goals
      rw [e] at hd
      have := (Prod.mk.inj hd).2
      omega
set_option maxRecDepth 100000 in
set_option maxHeartbeats 4000000 in
theorem sstep_any (base b : Nat) (src : ByteArray) (s : SC) (tv cv : Value) (pos r : Nat) (w : World) (h : ST w base b src s tv cv) (hI : SInv src pos s) (hp : pos < src.size) (hr : (Utf8.decode src pos).1 = r) (hsz : src.size ≤ 65536) (hk : s.tk.length ≤ 999999) (hn : s.ct.length ≤ 1000000) :
    Calls Try.prog 46 #[.pointer (some ⟨b, 0, none⟩), .int .i64 pos, .int .i32 r] w fun e w' => e = .returned (.tuple #[.int .i64 (s.step src pos r).2.1, .int .i64 (s.step src pos r).2.2]) ∧ (∃ tv' cv', ST w' base b src (s.step src pos r).1 tv' cv') ∧ Fr base TS w w' := by
  have c0 := h.row.cell 0
  have c2 := h.row.cell 2
  dsimp only [srow, List.getElem?_cons_zero, List.getElem?_cons_succ] at c0 c2
  have hbl := h.row.lt
  have Hh := Lib.hid h
  have hru : 0 ≤ s.md ∧ s.md ≤ 4 := hI.md
  have hV : (((r : Nat) : Int) != 65533 || preF (src.extract pos src.size)) = !badAt src pos := by rw [← hr]; exact decode_fffd src pos
  obtain ⟨R, hR⟩ : ∃ R, s.step src pos r = R := ⟨_, rfl⟩
  rw [hR]
  have HR := Lib.hid hR
  have hj : (pos : Int) < (src.size : Int) := by omega
  have hj0 : (0 : Int) ≤ (pos : Int) := by omega
  by_cases m3 : s.md = 3
  · have e : R = s.esc pos r := by rw [← hR]; exact step_esc m3
    have E := Lib.hid e
    have HE := Lib.hid (sesc_any base b src s tv cv pos r w h hn (by omega))
    rw [m3] at c2
    clear h hI hR hV hr m3 e hru
    go_enter Try.func46, Try.ntmps46
    go_wp2_with (go_at_call 59; (with_reducible refine HE.out.mono ?_); rintro e w6 ⟨rfl, hT, hF⟩; have HT := Lib.hid hT; have HF := Lib.hid hF; clear hT hF)
    go_ret2
    rw [E.out]
    exact ⟨rfl, ⟨tv, HT.out⟩, HF.out⟩
  · have k3 : (s.md == 3) = false := by simpa using m3
    cases hb : badAt src pos with
    | true =>
      have e : R = (s, 2, (pos : Int)) := by rw [← hR]; unfold SC.step; rw [if_neg m3, if_pos hb]
      have E := Lib.hid e
      rw [hb] at hV
      have HV := Lib.hid hV
      have hm : s.md = s.md := rfl
      clear h hI hR hV hr m3 e hru hb
      go_enter Try.func46, Try.ntmps46
      go_wp2_with (go_at_call 50; (with_reducible refine (valid_any _ _ _).mono ?_); rintro e w5 ⟨rfl, hb5⟩; rw [HV.out]; have HB5 := Lib.hid hb5; have HT5 := Lib.hid (Hh.out.below hb5); have HF5 := Lib.hid (show Fr base TS w w5 from Fr.of_below hb5); have x2 := HT5.out.row.cell 2; have y2 := HT5.out.row.frozen 2; have hbl5 := HT5.out.row.lt; dsimp only [srow, List.getElem?_cons_zero, List.getElem?_cons_succ] at x2; rw [hm] at x2; clear hb5)
      go_ret2
      rw [E.out]
      exact ⟨rfl, ⟨tv, cv, HT5.out⟩, HF5.out⟩
    | false =>
      rw [hb] at hV
      have HV := Lib.hid hV
      obtain ⟨l, hl⟩ : ∃ l, src.toList.drop pos = l := ⟨_, rfl⟩
      have hS : Sat src pos l := ⟨hl, by omega⟩
      have hne : l ≠ [] := fun e => by have := hS.len; rw [e, List.length_nil] at this; omega
      have hbl2 : badL l = false := by rw [← (hS.bad hne).1]; exact hb
      obtain ⟨hrn, hle, hw⟩ := Rn.head hne hbl2
      have hdd := decode_drop src pos hp
      rw [hl] at hdd
      rw [← hdd, hr] at hrn
      obtain ⟨bb, hbe⟩ : ∃ bb, l.take (Utf8.decode src pos).2 = bb := ⟨_, rfl⟩
      rw [hbe] at hrn
      have hlb : (Utf8.decode src pos).2 = bb.length := by rw [← hbe, List.length_take, hdd]; omega
      have hSb : Sat src pos (bb ++ l.drop (Utf8.decode src pos).2) := by rw [← hbe, List.take_append_drop]; exact hS
      have hx := hSb.ext
      have hb4 : bb.length ≤ 4 := hrn.le4
      by_cases m4 : s.md = 4
      · have hm := m4
        by_cases r10 : r = 10
        · have e : R = ({ s with md := 0 }, 0, 0) := by rw [← hR]; unfold SC.step; rw [if_neg m3, if_neg (by rw [hb]; decide), if_pos m4, if_pos (by omega)]
          have E := Lib.hid e
          clear h hI hR hV hr m3 e hru hb hl hS hne hbl2 hrn hle hw hdd hbe hlb hSb hx m4
          go_enter Try.func46, Try.ntmps46
          have HR10 := Lib.hid r10
          clear r10
          go_wp2_with ((go_at_call 50; (with_reducible refine (valid_any _ _ _).mono ?_); rintro e w5 ⟨rfl, hb5⟩; rw [HV.out]; have HB5 := Lib.hid hb5; have HT5 := Lib.hid (Hh.out.below hb5); have HF5 := Lib.hid (show Fr base TS w w5 from Fr.of_below hb5); have x2 := HT5.out.row.cell 2; have y2 := HT5.out.row.frozen 2; have hbl5 := HT5.out.row.lt; dsimp only [srow, List.getElem?_cons_zero, List.getElem?_cons_succ] at x2; rw [hm] at x2; clear hb5); have k11 : ((r : Nat) : Int) = 10 := (by rw [HR10.out]; rfl))
          go_ret2
          rw [E.out]
          exact ⟨rfl, ⟨tv, cv, HT5.out.rset (s' := { s with md := 0 }) 2 (.int .i64 0) rfl rfl rfl⟩, HF5.out.trans (HT5.out.fr 2 _)⟩
        · have e : R = (s, 0, 0) := by rw [← hR]; unfold SC.step; rw [if_neg m3, if_neg (by rw [hb]; decide), if_pos m4, if_neg (by omega)]
          have E := Lib.hid e
          have k10 : (((r : Nat) : Int) == 10) = false := by
            have : ((r : Nat) : Int) ≠ 10 := by omega
            simpa using this
          clear h hI hR hV hr m3 e hru hb hl hS hne hbl2 hrn hle hw hdd hbe hlb hSb hx m4
          go_enter Try.func46, Try.ntmps46
          go_wp2_with (go_at_call 50; (with_reducible refine (valid_any _ _ _).mono ?_); rintro e w5 ⟨rfl, hb5⟩; rw [HV.out]; have HB5 := Lib.hid hb5; have HT5 := Lib.hid (Hh.out.below hb5); have HF5 := Lib.hid (show Fr base TS w w5 from Fr.of_below hb5); have x2 := HT5.out.row.cell 2; have y2 := HT5.out.row.frozen 2; have hbl5 := HT5.out.row.lt; dsimp only [srow, List.getElem?_cons_zero, List.getElem?_cons_succ] at x2; rw [hm] at x2; clear hb5)
          go_ret2
          rw [E.out]
          exact ⟨rfl, ⟨tv, cv, HT5.out⟩, HF5.out⟩
      · by_cases m2 : s.md = 2
        · have hm := m2
          have e : R = s.inside src pos r := by rw [← hR]; unfold SC.step; rw [if_neg m3, if_neg (by rw [hb]; decide), if_neg m4, if_pos m2]
          have E := Lib.hid e
          have HE := Lib.hid (fun V (hV : Below w.heap.size w V) => sins_any base b src s tv cv pos r bb V (h.below hV) hn (by omega) hrn hlb hx hb4)
          clear h hI hR hV hr m3 e hru hb hl hS hne hbl2 hrn hle hw hdd hbe hlb hSb hx m4 m2
          go_enter Try.func46, Try.ntmps46
          go_wp2_with (first
            | (go_at_call 50; (with_reducible refine (valid_any _ _ _).mono ?_); rintro e w5 ⟨rfl, hb5⟩; rw [HV.out]; have HB5 := Lib.hid hb5; have HT5 := Lib.hid (Hh.out.below hb5); have HF5 := Lib.hid (show Fr base TS w w5 from Fr.of_below hb5); have x2 := HT5.out.row.cell 2; have y2 := HT5.out.row.frozen 2; have hbl5 := HT5.out.row.lt; dsimp only [srow, List.getElem?_cons_zero, List.getElem?_cons_succ] at x2; rw [hm] at x2; clear hb5)
            | (go_at_call 60; (with_reducible refine (HE.out _ HB5.out).mono ?_); rintro e w6 ⟨rfl, hT, hF⟩; have HT := Lib.hid hT; have HF := Lib.hid (HF5.out.trans hF); clear hT hF))
          go_ret2
          rw [E.out]
          exact ⟨rfl, HT.out, HF.out⟩
        · have k4 : (s.md == 4) = false := by simpa using m4
          have k2 : (s.md == 2) = false := by simpa using m2
          have hm : s.md = s.md := rfl
          by_cases m1 : s.md = 1
          · have k1 : (s.md == 1) = true := by simpa using m1
            cases hi : inW (r : Int) with
            | true =>
              have e : R = s.grow := by rw [← hR]; unfold SC.step; rw [if_neg m3, if_neg (by rw [hb]; decide), if_neg m4, if_neg m2, if_pos m1, if_pos hi]
              have E := Lib.hid e
              have H1 := Lib.hid hi
              obtain ⟨cc, q, w1, w2, w3, w4, w5, w6, w7⟩ := hI.wd m1
              have HE := Lib.hid (fun V (hV : Below w.heap.size w V) => sgrow_any base b src s tv cv V (h.below hV) (by omega))
              clear h hI hR hV hr m3 e hru hb hl hS hne hbl2 hrn hle hw hdd hbe hlb hSb hx m4 m2 m1 w1 w2 w3 w4 w5 w6 w7 hi
              go_enter Try.func46, Try.ntmps46
              go_wp2_with (first
                | (go_at_call 50; (with_reducible refine (valid_any _ _ _).mono ?_); rintro e w5 ⟨rfl, hb5⟩; rw [HV.out]; have HB5 := Lib.hid hb5; have HT5 := Lib.hid (Hh.out.below hb5); have HF5 := Lib.hid (show Fr base TS w w5 from Fr.of_below hb5); have x2 := HT5.out.row.cell 2; have y2 := HT5.out.row.frozen 2; have hbl5 := HT5.out.row.lt; dsimp only [srow, List.getElem?_cons_zero, List.getElem?_cons_succ] at x2; rw [hm] at x2; clear hb5)
                | (go_at_call 49; (with_reducible refine (inwords_any _ _).mono ?_); rintro e w6 ⟨rfl, hb6⟩; rw [H1.out]; have HB6 := Lib.hid (HB5.out.trans (hb6.mono HB5.out.size)); clear hb6)
                | (go_at_call 61; (with_reducible refine (HE.out _ HB6.out).mono ?_); rintro e w7 ⟨rfl, hT, hF⟩; have HT := Lib.hid hT; have HF := Lib.hid ((show Fr base TS w w6 from Fr.of_below HB6.out).trans hF); clear hT hF))
              go_ret2
              rw [E.out]
              exact ⟨rfl, ⟨tv, cv, HT.out⟩, HF.out⟩
            | false =>
              have e : R = (s.endW src pos).begin pos r := by rw [← hR]; unfold SC.step; rw [if_neg m3, if_neg (by rw [hb]; decide), if_neg m4, if_neg m2, if_pos m1, if_neg (by rw [hi]; decide)]
              have E := Lib.hid e
              have H1 := Lib.hid hi
              obtain ⟨q1, q2, _⟩ := hI.cu (.inl m1)
              unfold Ahead at q2
              have HE := Lib.hid (fun V (hV : Below w.heap.size w V) => sendw_any base b src s tv cv pos V (h.below hV) (by omega) (by omega))
              have hk2 : (s.endW src pos).tk.length ≤ 1000000 := by show (s.tk ++ [_]).length ≤ 1000000; rw [List.length_append]; show s.tk.length + 1 ≤ 1000000; omega
              have HG := Lib.hid (fun V tv' (hT : ST V base b src (s.endW src pos) tv' cv) => sbeg_any base b src (s.endW src pos) tv' cv pos r V hT hk2)
              clear h hI hR hV hr m3 e hru hb hl hS hne hbl2 hrn hle hw hdd hbe hlb hSb hx m4 m2 m1 q1 q2 hi hk2
              go_enter Try.func46, Try.ntmps46
              go_wp2_with (first
                | (go_at_call 50; (with_reducible refine (valid_any _ _ _).mono ?_); rintro e w5 ⟨rfl, hb5⟩; rw [HV.out]; have HB5 := Lib.hid hb5; have HT5 := Lib.hid (Hh.out.below hb5); have HF5 := Lib.hid (show Fr base TS w w5 from Fr.of_below hb5); have x2 := HT5.out.row.cell 2; have y2 := HT5.out.row.frozen 2; have hbl5 := HT5.out.row.lt; dsimp only [srow, List.getElem?_cons_zero, List.getElem?_cons_succ] at x2; rw [hm] at x2; clear hb5)
                | (go_at_call 49; (with_reducible refine (inwords_any _ _).mono ?_); rintro e w6 ⟨rfl, hb6⟩; rw [H1.out]; have HB6 := Lib.hid (HB5.out.trans (hb6.mono HB5.out.size)); clear hb6)
                | (go_at_call 62; (with_reducible refine (HE.out _ HB6.out).mono ?_); rintro e w7 ⟨rfl, ⟨tv7, hT⟩, hF⟩; have HT7 := Lib.hid hT; have HF7 := Lib.hid ((show Fr base TS w w6 from Fr.of_below HB6.out).trans hF); clear hT hF)
                | (go_at_call 63; (with_reducible refine (HG.out _ _ HT7.out).mono ?_); rintro e w8 ⟨rfl, hT, hF⟩; have HT := Lib.hid hT; have HF := Lib.hid (HF7.out.trans hF); clear hT hF))
              go_ret2
              rw [E.out]
              exact ⟨rfl, HT.out, HF.out⟩
          · have k1 : (s.md == 1) = false := by simpa using m1
            have e : R = s.begin pos r := by rw [← hR]; unfold SC.step; rw [if_neg m3, if_neg (by rw [hb]; decide), if_neg m4, if_neg m2, if_neg m1]
            have E := Lib.hid e
            have HG := Lib.hid (fun V (hV : Below w.heap.size w V) => sbeg_any base b src s tv cv pos r V (h.below hV) (by omega))
            clear h hI hR hV hr m3 e hru hb hl hS hne hbl2 hrn hle hw hdd hbe hlb hSb hx m4 m2 m1
            go_enter Try.func46, Try.ntmps46
            go_wp2_with (first
              | (go_at_call 50; (with_reducible refine (valid_any _ _ _).mono ?_); rintro e w5 ⟨rfl, hb5⟩; rw [HV.out]; have HB5 := Lib.hid hb5; have HT5 := Lib.hid (Hh.out.below hb5); have HF5 := Lib.hid (show Fr base TS w w5 from Fr.of_below hb5); have x2 := HT5.out.row.cell 2; have y2 := HT5.out.row.frozen 2; have hbl5 := HT5.out.row.lt; dsimp only [srow, List.getElem?_cons_zero, List.getElem?_cons_succ] at x2; rw [hm] at x2; clear hb5)
              | (go_at_call 63; (with_reducible refine (HG.out _ HB5.out).mono ?_); rintro e w8 ⟨rfl, hT, hF⟩; have HT := Lib.hid hT; have HF := Lib.hid (HF5.out.trans hF); clear hT hF))
            go_ret2
            rw [E.out]
            exact ⟨rfl, HT.out, HF.out⟩
end Go.Proofs.Ytlndfognkkobaaa
