/-
  The document's texts in quotes: what its scanner makes of them.
-/
import Derived.Test.YtlndfognkkobaaaLexO
import Derived.Test.YtlndfognkkobaaaLexJ
import Derived.BigQuiet
import Derived.Lib.AppendStr
namespace Go.Proofs.Ytlndfognkkobaaa
open Go.RowKit
set_option linter.unusedVariables false
set_option linter.unusedSimpArgs false

abbrev QuR := ByteArray × Int × Int × Int
/-- The text that begins at a quote, and the place behind it, or what is wrong. -/
def quF (s : ByteArray) (at0 : Nat) : Nat → Nat → List UInt8 → QuR
  | 0, _, _ => (emp, 0, 3, (at0 : Int))
  | f + 1, i, acc =>
    if i < s.size then
      (if badAt s i = true ∨ oddR ((Utf8.decode s i).1 : Nat) = true then (emp, 0, 2, (i : Int))
       else if (Utf8.decode s i).1 = 34 then (toB acc, ((i + 1 : Nat) : Int), 0, 0)
       else if (Utf8.decode s i).1 = 92 then
         (if i + 1 = s.size ∨ ¬ (s.get! (i + 1) = 110 ∨ s.get! (i + 1) = 34 ∨ s.get! (i + 1) = 92) then (emp, 0, 2, (i : Int))
          else quF s at0 f (i + 2) (acc ++ [if s.get! (i + 1) = 110 then 10 else s.get! (i + 1)]))
       else quF s at0 f (i + (Utf8.decode s i).2) (acc ++ (s.extract i (i + (Utf8.decode s i).2)).toList))
    else (emp, 0, 3, (at0 : Int))
theorem quF_bad {s : ByteArray} {a f i : Nat} {acc : List UInt8} (hi : i < s.size) (h : badAt s i = true ∨ oddR ((Utf8.decode s i).1 : Nat) = true) : quF s a (f + 1) i acc = (emp, 0, 2, (i : Int)) := by
  rw [quF, if_pos hi, if_pos h]
theorem quF_end {s : ByteArray} {a f i : Nat} {acc : List UInt8} (hi : ¬ i < s.size) : quF s a f i acc = (emp, 0, 3, (a : Int)) := by
  cases f with
  | zero => rfl
  | succ f => rw [quF, if_neg hi]
theorem quF_quote {s : ByteArray} {a f i : Nat} {acc : List UInt8} (hi : i < s.size) (h : ¬ (badAt s i = true ∨ oddR ((Utf8.decode s i).1 : Nat) = true)) (h34 : (Utf8.decode s i).1 = 34) : quF s a (f + 1) i acc = (toB acc, ((i + 1 : Nat) : Int), 0, 0) := by
  rw [quF, if_pos hi, if_neg h, if_pos h34]
theorem quF_esc {s : ByteArray} {a f i : Nat} {acc : List UInt8} (hi : i < s.size) (h : ¬ (badAt s i = true ∨ oddR ((Utf8.decode s i).1 : Nat) = true)) (h92 : (Utf8.decode s i).1 = 92) : quF s a (f + 1) i acc =
    if i + 1 = s.size ∨ ¬ (s.get! (i + 1) = 110 ∨ s.get! (i + 1) = 34 ∨ s.get! (i + 1) = 92) then (emp, 0, 2, (i : Int))
          else quF s a f (i + 2) (acc ++ [if s.get! (i + 1) = 110 then 10 else s.get! (i + 1)]) := by
  rw [quF, if_pos hi, if_neg h, if_neg (by omega), if_pos h92]
theorem quF_more {s : ByteArray} {a f i : Nat} {acc : List UInt8} (hi : i < s.size) (h : ¬ (badAt s i = true ∨ oddR ((Utf8.decode s i).1 : Nat) = true)) (h34 : (Utf8.decode s i).1 ≠ 34) (h92 : (Utf8.decode s i).1 ≠ 92) :
    quF s a (f + 1) i acc = quF s a f (i + (Utf8.decode s i).2) (acc ++ (s.extract i (i + (Utf8.decode s i).2)).toList) := by
  rw [quF, if_pos hi, if_neg h, if_neg h34, if_neg h92]
def quB (s : ByteArray) (a : Nat) : QuR := quF s a s.size (a + 1) []
theorem str_sl (s : ByteArray) (i j : Nat) (h : i ≤ j) (hj : j ≤ s.size) (V : World) : (Instr.slice 9 (.string s) (some (.int .i64 (i : Int))) (some (.int .i64 (j : Int))) none).run Try.prog V = .ok (.string (s.extract i j)) V := by
  rw [run_slice_string_if V 9 s .i64 .i64 i j Try.underlying9, if_pos ⟨by omega, by omega⟩, if_pos ⟨by omega, by omega⟩]
  rfl
theorem ext_len (s : ByteArray) (i j : Nat) (h : i ≤ j) (hj : j ≤ s.size) : (s.extract i j).size = j - i := by
  rw [← toList_len, ext_list, List.length_take, List.length_drop, toList_len]
  omega
set_option maxRecDepth 100000 in
set_option maxHeartbeats 4000000 in
theorem quoted_any (s : ByteArray) (a : Nat) (ha : a < s.size) (hs : s.size ≤ 1000000) (w : World) :
    Calls Try.prog 56 #[.string s, .int .i64 (a : Int)] w fun e w' => e = .returned (.tuple #[.string (quB s a).1, .int .i64 (quB s a).2.1, .int .i64 (quB s a).2.2.1, .int .i64 (quB s a).2.2.2]) ∧ Below w.heap.size w w' := by
  obtain ⟨R, hR⟩ : ∃ R, quB s a = R := ⟨_, rfl⟩
  rw [hR]
  have HR := Lib.hid (show quF s a s.size (a + 1) [] = R from hR)
  obtain ⟨n, hn⟩ : ∃ n, s.size = n := ⟨_, rfl⟩
  have HN := Lib.hid hn
  rw [hn] at hs ha
  clear hR hn
  obtain ⟨i0, hi, hz0, hz1, hz2⟩ := info_parts Try.info5
  have Hi := Lib.hid hi
  have Hz0 := Lib.hid hz0
  have Hz1 := Lib.hid hz1
  have Hz2 := Lib.hid hz2
  clear hi hz0 hz1 hz2
  go_enter Try.func56, Try.ntmps56
  go_wp2
  go_loopw [8, 9] (fun v u wr => ∃ (i f : Nat) (acc : List UInt8), i ≤ n ∧ n ≤ i + f ∧ u = .int .i64 i ∧ acc.length ≤ i ∧ quF s a f i acc = R ∧ wr.ownsRow w.heap.size 5 1 v acc.length (Lib.byteCells acc) ∧ Below w.heap.size w wr) (fun _ u _ => n - (intOf u).toNat)
  case atStart => exact ⟨a + 1, s.size, [], by omega, by rw [HN.out]; omega, by rw [Int.natCast_add]; rfl, Nat.zero_le _, HR.out, World.ownsRow_nil _ _ _ _, by (repeat' (first | with_reducible exact Below.refl _ _ | with_reducible assumption | with_reducible refine Below.drew ?_ | with_reducible refine below_drewN' ?_ _ | with_reducible refine Below.alloc ?_ ?_ _ | with_reducible refine Below.setCell ?_ ?_ _ | with_reducible refine below_step (by assumption) ?_ ?_ | omega | (simp; done) | (simp; omega)))⟩
  case round =>
    clear HR
    obtain ⟨i, f, acc, hi, hf, rfl, hacc, hq, hO, hB⟩ := hrel
    have hbz := hB.size
    have HO := Lib.hid hO
    have HB := Lib.hid hB
    have HQ := Lib.hid hq
    clear hO hq
    by_cases hlt : i < n
    · have hltS : i < s.size := by rw [HN.out]; exact hlt
      have HL := Lib.hid hltS
      have hwd := Lib.decode_width_pos s i hltS
      have hde := decode_end s i hltS
      rw [HN.out] at hde
      obtain ⟨f, rfl⟩ : ∃ g, f = g + 1 := ⟨f - 1, by omega⟩
      cases h2 : badAt s i
      · obtain ⟨r2, r1⟩ := rune_wid h2
        have R1 := Lib.hid r1
        have R2 := Lib.hid r2
        have H2 := Lib.hid h2
        obtain ⟨⟨r, b⟩, hd⟩ : ∃ q, Utf8.decode s i = q := ⟨_, rfl⟩
        have HD := Lib.hid hd
        rw [hd] at R1 R2 hwd hde
        dsimp only at R1 R2 hwd hde
        have hb0 : ((b : Int) == 0) = false := by rw [beq_eq_false_iff_ne]; omega
        clear h2 r1 r2 hd hltS
        have hno : ∀ h : oddR ((r : Nat) : Int) = true, R = (emp, 0, 2, (i : Int)) := fun h => by
          rw [← HQ.out]
          exact quF_bad HL.out (.inr (by rw [HD.out]; exact h))
        by_cases k1 : r = 127
        · have hr := hno (by rw [k1]; decide)
          subst hr
          subst k1
          clear hno
          go_wp2_with (go_at_call 51; (with_reducible refine (refrune_any s i HL.out (by have := HN.out; omega) _).mono ?_); rw [R1.out, R2.out]; rintro e w5 ⟨rfl, hb5⟩; have hz5 := hb5.size; have HO5 := Lib.hid (own_kept HO.out hb5); have HB5 := Lib.hid (HB.out.trans (hb5.mono hbz)); clear hb5)
          refine bodyPost_ret (v := .tuple #[.string ⟨#[]⟩, .int .i64 0, .int .i64 2, .int .i64 (i : Int)]) (by simp [results, Try.results56, go_sem]) rfl ⟨rfl, HB5.out⟩
        have q127 : ((r : Int) == 127) = false := by rw [beq_eq_false_iff_ne]; omega
        by_cases k2 : r < 32 ∧ r ≠ 9 ∧ r ≠ 10
        · have hr := hno (by unfold oddR; exact decide_eq_true (by omega))
          subst hr
          have q1 : decide ((r : Int) < 32) = true := decide_eq_true (by omega)
          have q2 : ((r : Int) != 9) = true := by rw [bne_iff_ne]; omega
          have q3 : ((r : Int) != 10) = true := by rw [bne_iff_ne]; omega
          clear hno k1 k2
          go_wp2_with (go_at_call 51; (with_reducible refine (refrune_any s i HL.out (by have := HN.out; omega) _).mono ?_); rw [R1.out, R2.out]; rintro e w5 ⟨rfl, hb5⟩; have hz5 := hb5.size; have HO5 := Lib.hid (own_kept HO.out hb5); have HB5 := Lib.hid (HB.out.trans (hb5.mono hbz)); clear hb5)
          refine bodyPost_ret (v := .tuple #[.string ⟨#[]⟩, .int .i64 0, .int .i64 2, .int .i64 (i : Int)]) (by simp [results, Try.results56, go_sem]) rfl ⟨rfl, HB5.out⟩
        have hok : ¬ (badAt s i = true ∨ oddR ((Utf8.decode s i).1 : Nat) = true) := fun h => by
          rcases h with h | h
          · rw [H2.out] at h; cases h
          · rw [HD.out] at h
            unfold oddR at h
            have h := of_decide_eq_true h
            dsimp only at h
            omega
        clear hno
        by_cases k3 : r = 34
        · have hr : R = (toB acc, ((i + 1 : Nat) : Int), 0, 0) := by
            rw [← HQ.out]
            exact quF_quote HL.out hok (by rw [HD.out]; exact k3)
          subst hr
          subst k3
          have hcv := fun (V : World) (v : Value) (h : V.ownsRow w.heap.size 5 1 v acc.length (Lib.byteCells acc)) => own_row_cells h rfl
          have Hcv := Lib.hid hcv
          clear hok k1 k2 hcv
          go_wp2_with (go_at_call 51; (with_reducible refine (refrune_any s i HL.out (by have := HN.out; omega) _).mono ?_); rw [R1.out, R2.out]; rintro e w5 ⟨rfl, hb5⟩; have hz5 := hb5.size; have hcv := Hcv.out _ _ (own_kept HO.out hb5); have HB5 := Lib.hid (HB.out.trans (hb5.mono hbz)); clear hb5)
          refine bodyPost_ret (v := .tuple #[.string (toB acc), .int .i64 ((i : Int) + 1), .int .i64 0, .int .i64 0]) (by simp [results, Try.results56, go_sem]) rfl ⟨rfl, HB5.out⟩
        have q34 : ((r : Int) == 34) = false := by rw [beq_eq_false_iff_ne]; omega
        by_cases k4 : r = 92
        · have he := HQ.out
          rw [quF_esc HL.out hok (by rw [HD.out]; exact k4)] at he
          subst k4
          clear hok k1 k2 k3 q34 q127
          by_cases g1 : i + 1 = n
          · have hr : R = (emp, 0, 2, (i : Int)) := by rw [← he, if_pos (.inl (by rw [HN.out]; exact g1))]
            subst hr
            have q4 : ((i : Int) + 1 == (s.size : Int)) = true := by rw [beq_iff_eq, HN.out]; omega
            clear he g1
            go_wp2_with (go_at_call 51; (with_reducible refine (refrune_any s i HL.out (by have := HN.out; omega) _).mono ?_); rw [R1.out, R2.out]; rintro e w5 ⟨rfl, hb5⟩; have hz5 := hb5.size; have HO5 := Lib.hid (own_kept HO.out hb5); have HB5 := Lib.hid (HB.out.trans (hb5.mono hbz)); clear hb5)
            refine bodyPost_ret (v := .tuple #[.string ⟨#[]⟩, .int .i64 0, .int .i64 2, .int .i64 (i : Int)]) (by simp [results, Try.results56, go_sem]) rfl ⟨rfl, HB5.out⟩
          have q4 : ((i : Int) + 1 == (s.size : Int)) = false := by rw [beq_eq_false_iff_ne, HN.out]; omega
          have hx := str_ix s (i + 1) (by rw [HN.out]; omega)
          rw [Int.natCast_add] at hx
          have hx : ∀ V : World, (Instr.index 9 (.string s) (.int .i64 ((i : Int) + 1))).run Try.prog V = .ok (.int .u8 (((s.get! (i + 1)).toNat : Nat) : Int)) V := hx
          obtain ⟨c, hc⟩ : ∃ c, s.get! (i + 1) = c := ⟨_, rfl⟩
          rw [hc] at hx he
          have hni : ¬ i + 1 = s.size := by rw [HN.out]; exact g1
          by_cases c1 : c = 110
          · subst c1
            rw [if_neg (fun h => by rcases h with h | h; exact hni h; exact h (.inl rfl)), if_pos rfl] at he
            have Hnx := Lib.hid he
            clear he hni hc
            have hx : ∀ V : World, (Instr.index 9 (.string s) (.int .i64 ((i : Int) + 1))).run Try.prog V = .ok (.int .u8 110) V := hx
            go_wp2_with (first
              | (go_at_call 51; (with_reducible refine (refrune_any s i HL.out (by have := HN.out; omega) _).mono ?_); rw [R1.out, R2.out]; rintro e w5 ⟨rfl, hb5⟩; have hz5 := hb5.size; have HO5 := Lib.hid (own_kept HO.out hb5); have HB5 := Lib.hid (HB.out.trans (hb5.mono hbz)); clear hb5)
              | (at_builtin; refine wpList_append_own _ rfl (.tmp 97) (.tmp 98) 46 rfl w.heap.size 5 i0 _ 1 1 Try.underlying46 Hi.out Hz0.out Hz1.out Hz2.out rfl (by decide) _ acc.length (Lib.byteCells acc) rfl (HO5.out.alloc _) ⟨w5.heap.size, 0, none⟩ 1 1 ([.int .u8 10]) rfl rfl (news_at _ _ _) (by simp [Value.oneCell']) (by unfold maxLen; omega) (by omega) (le_alloc (by omega) _) ?_; intro v6 w6 hown6 hgrow6 _; have HB6 := Lib.hid (own_below (HO5.out.alloc _) (HB5.out.alloc (by omega) _) (le_alloc (by omega) _) hgrow6); have HO6 := Lib.hid hown6; clear hown6 hgrow6))
            go_roundw
            case rel => exact ⟨i + 2, f, acc ++ [10], by omega, by omega, by go_num, by rw [List.length_append]; show acc.length + 1 ≤ _; omega, Hnx.out, by rw [List.length_append, bytes_app]; exact HO6.out, HB6.out⟩
            case measure => simp [intOf]; omega
          by_cases c2 : c = 34
          · subst c2
            rw [if_neg (fun h => by rcases h with h | h; exact hni h; exact h (.inr (.inl rfl))), if_neg c1] at he
            have Hnx := Lib.hid he
            clear he hni c1 hc
            have hx : ∀ V : World, (Instr.index 9 (.string s) (.int .i64 ((i : Int) + 1))).run Try.prog V = .ok (.int .u8 34) V := hx
            go_wp2_with (first
              | (go_at_call 51; (with_reducible refine (refrune_any s i HL.out (by have := HN.out; omega) _).mono ?_); rw [R1.out, R2.out]; rintro e w5 ⟨rfl, hb5⟩; have hz5 := hb5.size; have HO5 := Lib.hid (own_kept HO.out hb5); have HB5 := Lib.hid (HB.out.trans (hb5.mono hbz)); clear hb5)
              | (at_builtin; refine wpList_append_own _ rfl (.tmp 100) (.tmp 105) 46 rfl w.heap.size 5 i0 _ 1 1 Try.underlying46 Hi.out Hz0.out Hz1.out Hz2.out rfl (by decide) _ acc.length (Lib.byteCells acc) rfl (HO5.out.alloc _) ⟨w5.heap.size, 0, none⟩ 1 1 ([.int .u8 34]) rfl rfl (news_at _ _ _) (by simp [Value.oneCell']) (by unfold maxLen; omega) (by omega) (le_alloc (by omega) _) ?_; intro v6 w6 hown6 hgrow6 _; have HB6 := Lib.hid (own_below (HO5.out.alloc _) (HB5.out.alloc (by omega) _) (le_alloc (by omega) _) hgrow6); have HO6 := Lib.hid hown6; clear hown6 hgrow6))
            go_roundw
            case rel => exact ⟨i + 2, f, acc ++ [34], by omega, by omega, by go_num, by rw [List.length_append]; show acc.length + 1 ≤ _; omega, Hnx.out, by rw [List.length_append, bytes_app]; exact HO6.out, HB6.out⟩
            case measure => simp [intOf]; omega
          by_cases c3 : c = 92
          · subst c3
            rw [if_neg (fun h => by rcases h with h | h; exact hni h; exact h (.inr (.inr rfl))), if_neg c1] at he
            have Hnx := Lib.hid he
            clear he hni c1 c2 hc
            have hx : ∀ V : World, (Instr.index 9 (.string s) (.int .i64 ((i : Int) + 1))).run Try.prog V = .ok (.int .u8 92) V := hx
            go_wp2_with (first
              | (go_at_call 51; (with_reducible refine (refrune_any s i HL.out (by have := HN.out; omega) _).mono ?_); rw [R1.out, R2.out]; rintro e w5 ⟨rfl, hb5⟩; have hz5 := hb5.size; have HO5 := Lib.hid (own_kept HO.out hb5); have HB5 := Lib.hid (HB.out.trans (hb5.mono hbz)); clear hb5)
              | (at_builtin; refine wpList_append_own _ rfl (.tmp 100) (.tmp 105) 46 rfl w.heap.size 5 i0 _ 1 1 Try.underlying46 Hi.out Hz0.out Hz1.out Hz2.out rfl (by decide) _ acc.length (Lib.byteCells acc) rfl (HO5.out.alloc _) ⟨w5.heap.size, 0, none⟩ 1 1 ([.int .u8 92]) rfl rfl (news_at _ _ _) (by simp [Value.oneCell']) (by unfold maxLen; omega) (by omega) (le_alloc (by omega) _) ?_; intro v6 w6 hown6 hgrow6 _; have HB6 := Lib.hid (own_below (HO5.out.alloc _) (HB5.out.alloc (by omega) _) (le_alloc (by omega) _) hgrow6); have HO6 := Lib.hid hown6; clear hown6 hgrow6))
            go_roundw
            case rel => exact ⟨i + 2, f, acc ++ [92], by omega, by omega, by go_num, by rw [List.length_append]; show acc.length + 1 ≤ _; omega, Hnx.out, by rw [List.length_append, bytes_app]; exact HO6.out, HB6.out⟩
            case measure => simp [intOf]; omega
          have hr : R = (emp, 0, 2, (i : Int)) := by rw [← he, if_pos (.inr (fun h => by rcases h with h | h | h; exact c1 h; exact c2 h; exact c3 h))]
          subst hr
          have ne : ∀ y : UInt8, ¬ c = y → (((c.toNat : Nat) : Int) != ((y.toNat : Nat) : Int)) = true := fun y h => by
            rw [bne_iff_ne]
            intro e
            exact h (UInt8.toNat_inj.1 (by omega))
          have n1 := ne 110 c1
          have n2 := ne 34 c2
          have n3 := ne 92 c3
          obtain ⟨q, hq⟩ : ∃ q : Int, ((c.toNat : Nat) : Int) = q := ⟨_, rfl⟩
          rw [hq] at hx n1 n2 n3
          have n1 : (q != 110) = true := n1
          have n2 : (q != 34) = true := n2
          have n3 : (q != 92) = true := n3
          clear he hni c1 c2 c3 ne hq hc g1
          go_wp2_with (go_at_call 51; (with_reducible refine (refrune_any s i HL.out (by have := HN.out; omega) _).mono ?_); rw [R1.out, R2.out]; rintro e w5 ⟨rfl, hb5⟩; have hz5 := hb5.size; have HO5 := Lib.hid (own_kept HO.out hb5); have HB5 := Lib.hid (HB.out.trans (hb5.mono hbz)); clear hb5)
          refine bodyPost_ret (v := .tuple #[.string ⟨#[]⟩, .int .i64 0, .int .i64 2, .int .i64 (i : Int)]) (by simp [results, Try.results56, go_sem]) rfl ⟨rfl, HB5.out⟩
        have q92 : ((r : Int) == 92) = false := by rw [beq_eq_false_iff_ne]; omega
        have he := HQ.out
        rw [quF_more HL.out hok (by rw [HD.out]; exact k3) (by rw [HD.out]; exact k4), HD.out] at he
        dsimp only at he
        obtain ⟨E, hE⟩ : ∃ E, s.extract i (i + b) = E := ⟨_, rfl⟩
        rw [hE] at he
        have hEs : E.size = b := by rw [← hE, ext_len s i (i + b) (by omega) (by rw [HN.out]; exact hde)]; omega
        have hsl : ∀ V : World, (Instr.slice 9 (.string s) (some (.int .i64 (i : Int))) (some (.int .i64 ((i : Int) + (b : Int)))) none).run Try.prog V = .ok (.string E) V := fun V => by
          have h9 := str_sl s i (i + b) (by omega) (by rw [HN.out]; exact hde) V
          rw [Int.natCast_add, hE] at h9
          exact h9
        have Hbc := Lib.hid (show Lib.strCells E = Lib.byteCells E.toList by rw [Lib.strCells_eq, ByteArray.toList_eq])
        have Hnx := Lib.hid he
        clear he hok hE
        by_cases k5 : r = 9
        · subst k5
          clear k1 k2 k3 k4 q127 q34 q92
          go_wp2_with (first | (go_at_call 51; (with_reducible refine (refrune_any s i HL.out (by have := HN.out; omega) _).mono ?_); rw [R1.out, R2.out]; rintro e w5 ⟨rfl, hb5⟩; have hz5 := hb5.size; have HO5 := Lib.hid (own_kept HO.out hb5); have HB5 := Lib.hid (HB.out.trans (hb5.mono hbz)); clear hb5) | (at_builtin; refine Lib.wpList_append_own_string _ rfl (.tmp 24) (.tmp 30) 46 9 rfl w.heap.size 5 i0 Try.underlying46 Try.underlying9 Hi.out Hz0.out Hz1.out Hz2.out _ acc.length (Lib.byteCells acc) rfl HO5.out E rfl (by unfold maxLen; omega) (by omega) (by omega) ?_; intro v6 w6 hown6 hgrow6 _; have HB6 := Lib.hid (own_below HO5.out HB5.out (by omega) hgrow6); have HO6 := Lib.hid hown6; clear hown6 hgrow6))
          go_roundw
          case rel => exact ⟨i + b, f, acc ++ E.toList, by omega, by omega, by rw [Int.natCast_add], by rw [List.length_append, toList_len]; omega, Hnx.out, by rw [List.length_append, toList_len, bytes_app, ← Hbc.out]; exact HO6.out, HB6.out⟩
          case measure => simp [intOf]; omega
        by_cases k6 : r = 10
        · subst k6
          clear k1 k2 k3 k4 k5 q127 q34 q92
          go_wp2_with (first | (go_at_call 51; (with_reducible refine (refrune_any s i HL.out (by have := HN.out; omega) _).mono ?_); rw [R1.out, R2.out]; rintro e w5 ⟨rfl, hb5⟩; have hz5 := hb5.size; have HO5 := Lib.hid (own_kept HO.out hb5); have HB5 := Lib.hid (HB.out.trans (hb5.mono hbz)); clear hb5) | (at_builtin; refine Lib.wpList_append_own_string _ rfl (.tmp 24) (.tmp 30) 46 9 rfl w.heap.size 5 i0 Try.underlying46 Try.underlying9 Hi.out Hz0.out Hz1.out Hz2.out _ acc.length (Lib.byteCells acc) rfl HO5.out E rfl (by unfold maxLen; omega) (by omega) (by omega) ?_; intro v6 w6 hown6 hgrow6 _; have HB6 := Lib.hid (own_below HO5.out HB5.out (by omega) hgrow6); have HO6 := Lib.hid hown6; clear hown6 hgrow6))
          go_roundw
          case rel => exact ⟨i + b, f, acc ++ E.toList, by omega, by omega, by rw [Int.natCast_add], by rw [List.length_append, toList_len]; omega, Hnx.out, by rw [List.length_append, toList_len, bytes_app, ← Hbc.out]; exact HO6.out, HB6.out⟩
          case measure => simp [intOf]; omega
        have q1 : decide ((r : Int) < 32) = false := decide_eq_false (by omega)
        clear k1 k2 k3 k4 k5 k6
        go_wp2_with (first | (go_at_call 51; (with_reducible refine (refrune_any s i HL.out (by have := HN.out; omega) _).mono ?_); rw [R1.out, R2.out]; rintro e w5 ⟨rfl, hb5⟩; have hz5 := hb5.size; have HO5 := Lib.hid (own_kept HO.out hb5); have HB5 := Lib.hid (HB.out.trans (hb5.mono hbz)); clear hb5) | (at_builtin; refine Lib.wpList_append_own_string _ rfl (.tmp 24) (.tmp 30) 46 9 rfl w.heap.size 5 i0 Try.underlying46 Try.underlying9 Hi.out Hz0.out Hz1.out Hz2.out _ acc.length (Lib.byteCells acc) rfl HO5.out E rfl (by unfold maxLen; omega) (by omega) (by omega) ?_; intro v6 w6 hown6 hgrow6 _; have HB6 := Lib.hid (own_below HO5.out HB5.out (by omega) hgrow6); have HO6 := Lib.hid hown6; clear hown6 hgrow6))
        go_roundw
        case rel => exact ⟨i + b, f, acc ++ E.toList, by omega, by omega, by rw [Int.natCast_add], by rw [List.length_append, toList_len]; omega, Hnx.out, by rw [List.length_append, toList_len, bytes_app, ← Hbc.out]; exact HO6.out, HB6.out⟩
        case measure => simp [intOf]; omega
      · have r2 := rune_wid0 h2
        have hr : R = (emp, 0, 2, (i : Int)) := by
          rw [← HQ.out]
          exact quF_bad HL.out (.inl h2)
        subst hr
        have R2 := Lib.hid r2
        have R1 := Lib.hid (show runeC s i = 0 by unfold runeC; rw [h2]; rfl)
        clear h2 r2 hltS
        go_wp2_with (go_at_call 51; (with_reducible refine (refrune_any s i HL.out (by have := HN.out; omega) _).mono ?_); rw [R1.out, R2.out]; rintro e w5 ⟨rfl, hb5⟩; have hz5 := hb5.size; have HO5 := Lib.hid (own_kept HO.out hb5); have HB5 := Lib.hid (HB.out.trans (hb5.mono hbz)); clear hb5)
        refine bodyPost_ret (v := .tuple #[.string ⟨#[]⟩, .int .i64 0, .int .i64 2, .int .i64 (i : Int)]) (by simp [results, Try.results56, go_sem]) rfl ⟨rfl, HB5.out⟩
    · have hr : R = (emp, 0, 3, (a : Int)) := by
        rw [← HQ.out]
        exact quF_end (by rw [HN.out]; exact hlt)
      subst hr
      have hge : ¬ i < s.size := by rw [HN.out]; exact hlt
      go_wp2
      refine bodyPost_ret (v := .tuple #[.string ⟨#[]⟩, .int .i64 0, .int .i64 3, .int .i64 (a : Int)]) (by simp [results, Try.results56, go_sem]) rfl ⟨rfl, HB.out⟩
end Go.Proofs.Ytlndfognkkobaaa
