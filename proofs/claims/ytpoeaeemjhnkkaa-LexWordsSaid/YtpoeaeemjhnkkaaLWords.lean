/-
  LexWords: a word, by itself, is one Word token, that is it; what is no word is not.
-/
import Derived.Test.YtpoeaeemjhnkkaaLexM
import Derived.Test.YtpoeaeemjhnkkaaLexX
import Derived.Test.YtpoeaeemjhnkkaaMA
namespace Go.Proofs.Ytpoeaeemjhnkkaa
open Go.ChangeShapes Go.WideShapes Go.ChangeAt Go.RowKit
set_option linter.unusedVariables false
set_option linter.unusedSimpArgs false
namespace lexWords
theorem scan_word {s : ByteArray} (h : WordOk s) (hs : s.size ≤ 65536) : scanB s = ([⟨3, s, 0, 1, 1⟩], 0, 0) := by
  obtain ⟨c, h1, h2, h3, h4⟩ := h
  rw [scanB_at hs]
  match c, h2 with
  | (b, r) :: c, _ =>
    obtain ⟨g1, g2, g3⟩ := h1
    have hS : Sat s 0 (b ++ cat c) := by have := Sat.start s; rw [h4] at this; exact this
    have hin : inW (r : Int) = true := g2
    obtain ⟨n1, n2, n3, n4, n5, n6⟩ := inW_ne hin
    have st : sc0.step s 0 (r : Int) = ({ sc0.at 0 with md := 1, ru := 1 }, 0, 0) := by
      unfold SC.step
      rw [if_neg (by decide), if_neg (by rw [(hS.dec g1).2.2]; decide), if_neg (by decide), if_neg (by decide), if_neg (by decide)]
      unfold SC.begin
      rw [if_neg n2, if_neg n3, if_neg n4, if_neg n5, if_pos hin]
      rfl
    rw [take_one hS g1 st, adv_ne _ n1]
    have hS2 : Sat s (0 + b.length) (cat c ++ []) := by rw [List.append_nil]; exact hS.next
    show scanAt s (0 + b.length) (⟨1, [], ⟨0, emp, 0, 1, 1⟩, [], 1, 1, 2⟩ : SC) = _
    rw [word_run c (s := ⟨1, [], ⟨0, emp, 0, 1, 1⟩, [], 1, 1, 2⟩) g3 hS2 rfl (by decide) (by rw [List.length_cons] at h3; show (1 : Int) + (c.length : Int) ≤ 64; omega)]
    have hl := hS.len
    rw [List.length_append] at hl
    rw [scanAt_end (by omega)]
    show endR (SC.endW _ s s.size, 0, 0) = _
    show ([] ++ [(⟨3, s.extract (0 : Int).toNat ((s.size : Nat) : Int).toNat, 0, 1, 1⟩ : Tk)], (0 : Int), (0 : Int)) = _
    rw [show s.extract (0 : Int).toNat ((s.size : Nat) : Int).toNat = s from by
      refine bytes_inj ?_
      rw [ext_list]
      show (s.toList.drop 0).take (s.size - 0) = _
      rw [List.drop_zero, List.take_of_length_le (by rw [toList_len]; omega)]]
    rfl
/-- Whether there is one token, a Word, that is the text. -/
def oneB (s : ByteArray) (q : ScanR) : Bool := match q with
  | ([t], e, _) => decide (e = 0 ∧ t.kd = 3 ∧ t.tx = s)
  | _ => false
theorem one_iff (s : ByteArray) (hs : s.size ≤ 65536) : oneB s (scanB s) = wordB s := by
  cases hw : wordB s with
  | true =>
    rw [scan_word ((wordB_iff s).1 hw) hs]
    exact decide_eq_true ⟨rfl, rfl, rfl⟩
  | false =>
    obtain ⟨h1, _, _⟩ := scanB_inv hs
    obtain ⟨⟨l, e, p⟩, hq⟩ : ∃ q, scanB s = q := ⟨_, rfl⟩
    rw [hq] at h1 ⊢
    match l, h1 with
    | [], _ => rfl
    | [t], h1 =>
      refine decide_eq_false fun ⟨h2, h3, h4⟩ => ?_
      have h5 := h1 t (List.mem_cons_self ..)
      rcases h5 with ⟨h6, _⟩ | ⟨h6, _⟩ | ⟨_, h6⟩ | ⟨h6, _⟩
      · omega
      · omega
      · rw [h4] at h6
        rw [(wordB_iff s).2 h6] at hw
        cases hw
      · omega
    | _ :: _ :: _, _ => rfl
theorem own_len {w : World} {B n k : Nat} {v : Value} {e : TypeId} {xs : List Value} (h : w.ownsRow B e k v n xs) : ∃ a c, v = .slice a n c := by
  rcases h.2 with ⟨e, h0⟩ | ⟨g, cap, cur, e, _⟩
  · exact ⟨none, 0, by rw [e, h0]⟩
  · exact ⟨_, _, e⟩
set_option maxRecDepth 100000 in
set_option maxHeartbeats 4000000 in
theorem walk (s : ByteArray) (w : World) :
    Calls Try.prog 7 #[.string s] w fun e w' => e = .returned (.bool true) ∧ Below w.heap.size w w' := by
  by_cases h : 1000 < s.size
  · have k1 : decide ((1000 : Int) < (s.size : Int)) = true := decide_eq_true (by omega)
    clear h
    go_enter Try.func7, Try.ntmps7
    go_wp2_with (go_at_call 9; (with_reducible refine (known_any _).mono ?_); rintro e w1 ⟨rfl, hb1⟩; have HB1 := Lib.hid hb1; clear hb1)
    go_ret
    exact ⟨rfl, HB1.out⟩
  · have k1 : decide ((1000 : Int) < (s.size : Int)) = false := decide_eq_false (by omega)
    have HS := Lib.hid (scan_any s w)
    have ho := one_iff s (by omega)
    have HW := Lib.hid (fun V => word_any s V)
    obtain ⟨⟨l, e, p⟩, hq⟩ : ∃ q, scanB s = q := ⟨_, rfl⟩
    obtain ⟨b, hb⟩ : ∃ b, wordB s = b := ⟨_, rfl⟩
    rw [hq] at HS ho
    rw [hb] at ho HW
    have e2 : (b == b) = true := by simp
    have HO := Lib.hid ho
    clear h hq hb ho
    by_cases he : e = 0
    · subst he
      match l with
      | [] =>
        have hf : b = false := HO.out.symm
        subst hf
        go_enter Try.func7, Try.ntmps7
        go_wp2_with (first
          | (go_at_call 18; (with_reducible refine HS.out.mono ?_); rintro e9 w1 ⟨⟨v, rfl, ho⟩, hb1⟩; have HB1 := Lib.hid hb1; dsimp only at ho; ((obtain ⟨a1, c1, rfl⟩ := own_len ho; clear ho; skip)); clear hb1)
          | (go_at_call 12; (with_reducible refine (HW.out _).mono ?_); rintro e9 w2 ⟨rfl, hb2⟩; have HB2 := Lib.hid (HB1.out.trans (hb2.mono HB1.out.size)); clear hb2)
          | (go_at_call 9; (with_reducible refine (known_any _).mono ?_); rintro e9 w3 ⟨rfl, hb3⟩; have HB3 := Lib.hid (HB2.out.trans (hb3.mono HB2.out.size)); clear hb3))
        go_ret
        exact ⟨rfl, HB3.out⟩
      | _ :: _ :: rest =>
        have hf : b = false := HO.out.symm
        subst hf
        go_enter Try.func7, Try.ntmps7
        go_wp2_with (first
          | (go_at_call 18; (with_reducible refine HS.out.mono ?_); rintro e9 w1 ⟨⟨v, rfl, ho⟩, hb1⟩; have HB1 := Lib.hid hb1; dsimp only at ho; ((obtain ⟨a1, c1, rfl⟩ := own_len ho; clear ho; skip)); clear hb1)
          | (go_at_call 12; (with_reducible refine (HW.out _).mono ?_); rintro e9 w2 ⟨rfl, hb2⟩; have HB2 := Lib.hid (HB1.out.trans (hb2.mono HB1.out.size)); clear hb2)
          | (go_at_call 9; (with_reducible refine (known_any _).mono ?_); rintro e9 w3 ⟨rfl, hb3⟩; have HB3 := Lib.hid (HB2.out.trans (hb3.mono HB2.out.size)); clear hb3))
        go_ret
        exact ⟨rfl, HB3.out⟩
      | [t] =>
        by_cases h3 : t.kd = 3
        · by_cases h4 : t.tx = s
          · have hf : b = true := by rw [← HO.out]; exact decide_eq_true ⟨rfl, h3, h4⟩
            subst hf
            have e4 : (s.toList == s.toList) = true := by simp
            have H3 := Lib.hid h3
            have H4 := Lib.hid h4
            clear h3 h4
            go_enter Try.func7, Try.ntmps7
            go_wp2_with (first
              | (go_at_call 18; (with_reducible refine HS.out.mono ?_); rintro e9 w1 ⟨⟨v, rfl, ho⟩, hb1⟩; have HB1 := Lib.hid hb1; dsimp only at ho; ((obtain ⟨g, kk, rfl, _, hg, hT⟩ := own_tks (n := 0) ho (by show 0 < 1; decide); have a0 := tk_at hT (i := 0) rfl 0 (by decide); have a1 := tk_at hT (i := 0) rfl 1 (by decide); dsimp only [tkrow, List.getElem?_cons_zero, List.getElem?_cons_succ] at a0 a1; rw [H3.out] at a0; rw [H4.out] at a1; clear ho hT; skip)); clear hb1)
              | (go_at_call 12; (with_reducible refine (HW.out _).mono ?_); rintro e9 w2 ⟨rfl, hb2⟩; have HB2 := Lib.hid (HB1.out.trans (hb2.mono HB1.out.size)); clear hb2)
              | (go_at_call 9; (with_reducible refine (known_any _).mono ?_); rintro e9 w3 ⟨rfl, hb3⟩; have HB3 := Lib.hid (HB2.out.trans (hb3.mono HB2.out.size)); clear hb3))
            go_ret
            exact ⟨rfl, HB3.out⟩
          · have hf : b = false := by rw [← HO.out]; exact decide_eq_false fun h => h4 h.2.2
            subst hf
            have e4 : (t.tx.toList == s.toList) = false := by
              rw [beq_eq_false_iff_ne]
              exact fun e => h4 (bytes_inj e)
            have H3 := Lib.hid h3
            clear h3 h4
            go_enter Try.func7, Try.ntmps7
            go_wp2_with (first
              | (go_at_call 18; (with_reducible refine HS.out.mono ?_); rintro e9 w1 ⟨⟨v, rfl, ho⟩, hb1⟩; have HB1 := Lib.hid hb1; dsimp only at ho; ((obtain ⟨g, kk, rfl, _, hg, hT⟩ := own_tks (n := 0) ho (by show 0 < 1; decide); have a0 := tk_at hT (i := 0) rfl 0 (by decide); have a1 := tk_at hT (i := 0) rfl 1 (by decide); dsimp only [tkrow, List.getElem?_cons_zero, List.getElem?_cons_succ] at a0 a1; rw [H3.out] at a0; clear ho hT; skip)); clear hb1)
              | (go_at_call 12; (with_reducible refine (HW.out _).mono ?_); rintro e9 w2 ⟨rfl, hb2⟩; have HB2 := Lib.hid (HB1.out.trans (hb2.mono HB1.out.size)); clear hb2)
              | (go_at_call 9; (with_reducible refine (known_any _).mono ?_); rintro e9 w3 ⟨rfl, hb3⟩; have HB3 := Lib.hid (HB2.out.trans (hb3.mono HB2.out.size)); clear hb3))
            go_ret
            exact ⟨rfl, HB3.out⟩
        · have hf : b = false := by rw [← HO.out]; exact decide_eq_false fun h => h3 h.2.1
          subst hf
          have e3 : (t.kd == 3) = false := by simpa using h3
          clear h3
          go_enter Try.func7, Try.ntmps7
          go_wp2_with (first
            | (go_at_call 18; (with_reducible refine HS.out.mono ?_); rintro e9 w1 ⟨⟨v, rfl, ho⟩, hb1⟩; have HB1 := Lib.hid hb1; dsimp only at ho; ((obtain ⟨g, kk, rfl, _, hg, hT⟩ := own_tks (n := 0) ho (by show 0 < 1; decide); have a0 := tk_at hT (i := 0) rfl 0 (by decide); have a1 := tk_at hT (i := 0) rfl 1 (by decide); dsimp only [tkrow, List.getElem?_cons_zero, List.getElem?_cons_succ] at a0 a1; clear ho hT; skip)); clear hb1)
            | (go_at_call 12; (with_reducible refine (HW.out _).mono ?_); rintro e9 w2 ⟨rfl, hb2⟩; have HB2 := Lib.hid (HB1.out.trans (hb2.mono HB1.out.size)); clear hb2)
            | (go_at_call 9; (with_reducible refine (known_any _).mono ?_); rintro e9 w3 ⟨rfl, hb3⟩; have HB3 := Lib.hid (HB2.out.trans (hb3.mono HB2.out.size)); clear hb3))
          go_ret
          exact ⟨rfl, HB3.out⟩
    · have hf : b = false := by
        rw [← HO.out]
        match l with
        | [] => rfl
        | [t] => exact decide_eq_false fun h => he h.1
        | _ :: _ :: _ => rfl
      subst hf
      have e1 : (e == 0) = false := by simpa using he
      clear he
      go_enter Try.func7, Try.ntmps7
      go_wp2_with (first
        | (go_at_call 18; (with_reducible refine HS.out.mono ?_); rintro e9 w1 ⟨⟨v, rfl, ho⟩, hb1⟩; have HB1 := Lib.hid hb1; dsimp only at ho; ((obtain ⟨a1, c1, rfl⟩ := own_len ho; clear ho; skip)); clear hb1)
        | (go_at_call 12; (with_reducible refine (HW.out _).mono ?_); rintro e9 w2 ⟨rfl, hb2⟩; have HB2 := Lib.hid (HB1.out.trans (hb2.mono HB1.out.size)); clear hb2)
        | (go_at_call 9; (with_reducible refine (known_any _).mono ?_); rintro e9 w3 ⟨rfl, hb3⟩; have HB3 := Lib.hid (HB2.out.trans (hb3.mono HB2.out.size)); clear hb3))
      go_ret
      exact ⟨rfl, HB3.out⟩

set_option maxRecDepth 100000 in
theorem lifted (os : Os) (started : os.Started) (H : Type) (enc : TypeId × Value → H) :
    ReturnsInHanded {} Try.checked os 7 .any (Rows.lexWordsSpec.pre6 enc Try.prog Try.f7 Rows.lexWordsRow.domain false) (Rows.lexWordsSpec.post enc Try.prog Try.f7 false true false false) := by
  refine returnsInHanded_of_change (C := Try.checked) Try.own started (by kernel_rfl) Try.func7
    (ChangeSpec.witness6 (enc := enc) (C := Try.checked) false ⟨#[], #[.string ⟨#[]⟩], []⟩ 8 (by kernel_rfl) (by kernel_rfl) (by kernel_rfl) (by kernel_rfl)) ?_
  intro W base args ds gs before hval hW _ _
  have hW' := hW
  obtain ⟨p, q, hA, hV, rfl, hfz, hnd⟩ := hW
  rw [Try.params7] at hA hval
  obtain ⟨v0, d0, rfl, rfl, h0⟩ := trodAll_one hA
  obtain ⟨s, rfl, _, _, _⟩ := Go.ChangeMaps.open_string Try.underlying9 (hval 0 9 v0 rfl rfl) h0
  refine (walk s W).mono fun e W' ⟨he, hb⟩ => ?_
  exact ⟨_, he, law_post Try.laidOut hW' rfl (by kernel_rfl) (by kernel_rfl) Try.underlying4 rfl rfl rfl hb⟩

theorem over : Rows.lexWordsRow.holds Try.pinned (OpenSpec.ofChange Rows.lexWordsSpec) :=
  OpenClaim.holds_of_wide 7 Try.f7 rfl rfl rfl rfl rfl rfl rfl ⟨rfl, rfl, rfl, rfl, rfl⟩ rfl rfl rfl rfl rfl (by kernel_rfl) Try.func7 (by kernel_rfl)
    (of_decide_eq_true (by kernel_rfl)) (by unfold Func.isWrapper; first | (rw [if_pos (by decide +kernel)]; kernel_rfl) | (rw [if_neg (by decide +kernel)]; exact ⟨rfl, rfl⟩))
    (fun os started H enc _ => lifted os started H enc)

/-- The statement. -/
theorem proved : Rows.LexWordsSaid := over
end lexWords
end Go.Proofs.Ytpoeaeemjhnkkaa
