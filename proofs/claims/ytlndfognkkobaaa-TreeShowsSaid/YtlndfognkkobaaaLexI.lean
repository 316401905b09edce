/-
  Runes, Quote: the program's and the document's.
-/
import Derived.Test.YtlndfognkkobaaaLexH
import Derived.Test.YtlndfognkkobaaaMC
namespace Go.Proofs.Ytlndfognkkobaaa
open Go.RowKit
set_option linter.unusedVariables false
set_option linter.unusedSimpArgs false

/-- How many runes stand from a place on, if all are right. -/
def runesF (s : ByteArray) : Nat → Nat → Option Nat
  | 0, _ => some 0
  | f + 1, pos => if pos < s.size then (if badAt s pos = true then none else (runesF s f (pos + (Utf8.decode s pos).2)).map (· + 1)) else some 0
def runesB (s : ByteArray) : Int := match runesF s s.size 0 with
  | some n => (n : Int)
  | none => -1
def RunSt (s : ByteArray) (pos fuel n : Nat) : Prop := runesF s s.size 0 = (runesF s fuel pos).map (· + n) ∧ s.size ≤ pos + fuel
theorem RunSt.start (s : ByteArray) : RunSt s 0 s.size 0 := ⟨by cases runesF s s.size 0 <;> rfl, by omega⟩
theorem RunSt.fuel {s : ByteArray} {pos fuel n : Nat} (h : RunSt s pos fuel n) (hp : pos < s.size) : ∃ f, fuel = f + 1 := ⟨fuel - 1, by have := h.2; omega⟩
theorem RunSt.step {s : ByteArray} {pos f n : Nat} (h : RunSt s pos (f + 1) n) (hp : pos < s.size) (h2 : badAt s pos = false) : RunSt s (pos + (Utf8.decode s pos).2) f (n + 1) := by
  obtain ⟨h, hf⟩ := h
  have hw := Lib.decode_width_pos s pos hp
  refine ⟨?_, by omega⟩
  rw [h, runesF, if_pos hp, if_neg (by rw [h2]; decide)]
  cases runesF s f (pos + (Utf8.decode s pos).2)
  · rfl
  · simp only [Option.map_some]
    congr 1
    omega
theorem RunSt.odd {s : ByteArray} {pos f n : Nat} (h : RunSt s pos (f + 1) n) (hp : pos < s.size) (h1 : badAt s pos = true) : runesB s = -1 := by
  unfold runesB
  rw [h.1, runesF, if_pos hp, if_pos h1]
  rfl
theorem RunSt.done {s : ByteArray} {pos fuel n : Nat} (h : RunSt s pos fuel n) (hp : ¬ pos < s.size) : runesB s = n := by
  unfold runesB
  have e : runesF s fuel pos = some 0 := by
    cases fuel with
    | zero => rfl
    | succ f => rw [runesF, if_neg hp]
  rw [h.1, e]
  simp only [Option.map_some, Nat.zero_add]
set_option maxRecDepth 100000 in
set_option maxHeartbeats 1000000 in
theorem refrunes_any (s : ByteArray) (hs : s.size ≤ 1000000000) (w : World) :
    Calls Try.prog 66 #[.string s] w fun e w' => e = .returned (.int .i64 (runesB s)) ∧ Below w.heap.size w w' := by
  go_enter Try.func66, Try.ntmps66
  go_wp2
  go_loopw [3, 4] (fun v u wr => ∃ pos fuel n : Nat, v = .int .i64 n ∧ u = .int .i64 pos ∧ n ≤ pos ∧ pos ≤ s.size ∧ RunSt s pos fuel n ∧ Below w.heap.size w wr) (fun _ u _ => s.size - (intOf u).toNat)
  case atStart => exact ⟨0, s.size, 0, rfl, rfl, Nat.le_refl _, Nat.zero_le _, RunSt.start s, by (repeat' (first | with_reducible exact Below.refl _ _ | with_reducible assumption | with_reducible refine Below.drew ?_ | with_reducible refine below_drewN' ?_ _ | with_reducible refine Below.alloc ?_ ?_ _ | with_reducible refine Below.setCell ?_ ?_ _ | with_reducible refine below_step (by assumption) ?_ ?_ | omega | (simp; done) | (simp; omega)))⟩
  case round =>
    obtain ⟨pos, fuel, n, rfl, rfl, hn, hpe, hst, hB⟩ := hrel
    have hbz := hB.size
    have Hst := Lib.hid hst
    clear hst
    by_cases hp : pos < s.size
    · have hwd := Lib.decode_width_pos s pos hp
      have hde := decode_end s pos hp
      obtain ⟨f, rfl⟩ := Hst.out.fuel hp
      cases h2 : badAt s pos
      · obtain ⟨r2, r1⟩ := rune_wid h2
        have R1 := Lib.hid r1
        have R2 := Lib.hid r2
        have hs2 := Hst.out.step hp h2
        have Hs2 := Lib.hid hs2
        clear h2 hs2 r1 r2
        have hw0 : (((Utf8.decode s pos).2 : Nat) : Int) ≠ 0 := by omega
        go_wp2_with (go_at_call 51; (with_reducible refine (refrune_any s pos hp hs _).mono ?_); rw [R1.out, R2.out]; rintro e w5 ⟨rfl, hb5⟩; have hz5 := hb5.size)
        go_roundw
        case rel => exact ⟨pos + (Utf8.decode s pos).2, f, n + 1, by go_num, by rw [Int.natCast_add], by omega, hde, Hs2.out, by (repeat' (first | with_reducible exact Below.refl _ _ | with_reducible assumption | with_reducible refine Below.drew ?_ | with_reducible refine below_drewN' ?_ _ | with_reducible refine Below.alloc ?_ ?_ _ | with_reducible refine Below.setCell ?_ ?_ _ | with_reducible refine below_step (by assumption) ?_ ?_ | omega | (simp; done) | (simp; omega)))⟩
        case measure => simp [intOf]; omega
      · have r2 := rune_wid0 h2
        have hr := Hst.out.odd hp h2
        have R2 := Lib.hid r2
        clear h2 r2
        go_wp2_with (go_at_call 51; (with_reducible refine (refrune_any s pos hp hs _).mono ?_); rw [R2.out]; rintro e w5 ⟨rfl, hb5⟩; have hz5 := hb5.size)
        go_ret
        exact ⟨by rw [hr]; rfl, by (repeat' (first | with_reducible exact Below.refl _ _ | with_reducible assumption | with_reducible refine Below.drew ?_ | with_reducible refine below_drewN' ?_ _ | with_reducible refine Below.alloc ?_ ?_ _ | with_reducible refine Below.setCell ?_ ?_ _ | with_reducible refine below_step (by assumption) ?_ ?_ | omega | (simp; done) | (simp; omega)))⟩
    · have hr := Hst.out.done hp
      go_wp2
      go_ret
      exact ⟨by rw [hr]; rfl, hB⟩
theorem byte_take (s : ByteArray) (k : Nat) (h : k < s.size) : s.toList.take (k + 1) = s.toList.take k ++ [s.get! k] := by
  have e : s.toList[k]? = some (s.get! k) := by
    have h1 := get_drop s k 0
    rw [Nat.add_zero] at h1
    rw [h1, List.getD_eq_getElem?_getD, List.getElem?_drop, Nat.add_zero, List.getElem?_eq_getElem (by rw [toList_len]; exact h)]
    rfl
  rw [List.take_add_one, e]
  rfl
theorem qL_len (l : List UInt8) : (qL l).length ≤ 2 * l.length := by
  induction l with
  | nil => exact Nat.le_refl _
  | cons b l ih =>
    show (escB b ++ qL l).length ≤ 2 * (l.length + 1)
    have : (escB b).length ≤ 2 := by
      unfold escB
      split
      · exact Nat.le_refl _
      split
      · exact Nat.le_refl _
      split
      · exact Nat.le_refl _
      · show 1 ≤ 2
        decide
    rw [List.length_append]
    omega
theorem qL_next (s : ByteArray) (k : Nat) (h : k < s.size) : qL (s.toList.take (k + 1)) = qL (s.toList.take k) ++ escB (s.get! k) := by
  rw [byte_take s k h, qL_app]
  show _ ++ (escB _ ++ []) = _
  rw [List.append_nil]
set_option maxRecDepth 100000 in
set_option maxHeartbeats 2000000 in
theorem quote_any (s : ByteArray) (hs : s.size ≤ 1000000) (w : World) :
    Calls Try.prog 43 #[.string s] w fun e w' => e = .returned (.string (quoteB s)) ∧ Below w.heap.size w w' := by
  obtain ⟨X, hX⟩ : ∃ X, X = w.heap.size := ⟨_, rfl⟩
  have HXe := Lib.hid hX
  have hB0 : IsBld (w.alloc (.cells #[.pointer none, .slice none 0 0] 48)) w.heap.size w.heap.size [] := bld_new w
  have HB0 := Lib.hid hB0
  have hb1 : Below X w (w.alloc (.cells #[.pointer none, .slice none 0 0] 48)) := (Below.refl _ _).alloc (by omega) _
  have HW0 := Lib.hid hb1
  have hl0 : ([] : List UInt8).length ≤ 1000000000 := by decide
  have k34 : (34 : Int) = (((34 : UInt8).toNat : Nat) : Int) := rfl
  have k92 : (92 : Int) = (((92 : UInt8).toNat : Nat) : Int) := rfl
  obtain ⟨n, hn⟩ : ∃ n, s.size = n := ⟨_, rfl⟩
  have HN := Lib.hid hn
  have K34 := Lib.hid k34
  have K92 := Lib.hid k92
  rw [hn] at hs
  clear hB0 hb1 k34 k92
  go_enter Try.func43, Try.ntmps43
  go_wp2_with (go_at_call 29; (with_reducible refine (bbyte_any w.heap.size w.heap.size [] 34 _ K34.out _ HB0.out hl0 (Nat.le_of_lt (HB0.out).lt.1)).mono ?_); rintro e w1 ⟨rfl, hI, hF⟩; have HIw1 := Lib.hid hI; have HFw1 := Lib.hid hF; clear hI hF)
  rw [← hX] at HIw1 HFw1 ⊢
  clear hX
  have HW1 := Lib.hid (HFw1.out.below HW0.out (Nat.le_refl _) (by rw [HXe.out]; simp))
  go_loopw [9] (fun v wr => ∃ k : Nat, k ≤ n ∧ v = .int .i64 k ∧ IsBld wr X X (34 :: qL (s.toList.take k)) ∧ Below X w wr) (fun v _ => n - (intOf v).toNat)
  case atStart => exact ⟨0, Nat.zero_le _, rfl, HIw1.out, HW1.out⟩
  case round =>
    clear HIw1 HW1 HFw1 HB0 HW0
    obtain ⟨k, hk, rfl, hI, hB⟩ := hrel
    have HI := Lib.hid hI
    have HB := Lib.hid hB
    have hXs : X ≤ wr.heap.size := Nat.le_of_lt hI.lt.1
    have hlen : (34 :: qL (s.toList.take k)).length ≤ 2000100 := by
      have h1 := qL_len (s.toList.take k)
      have h2 : (s.toList.take k).length ≤ k := by rw [List.length_take]; omega
      rw [List.length_cons]
      omega
    obtain ⟨L, hL⟩ : ∃ L, 34 :: qL (s.toList.take k) = L := ⟨_, rfl⟩
    rw [hL] at HI hlen
    clear hI hB
    by_cases hlt : k < n
    · have hx := str_ix s k (by rw [HN.out]; exact hlt)
      obtain ⟨c, hc⟩ : ∃ c, s.get! k = c := ⟨_, rfl⟩
      have hnext : 34 :: qL (s.toList.take (k + 1)) = L ++ escB c := by
        rw [qL_next s k (by rw [HN.out]; exact hlt), ← hL, hc]
        rfl
      have Hnx := Lib.hid hnext
      rw [hc] at hx
      have hl1 : L.length ≤ 1000000000 := by omega
      have hl2 : L.length + (⟨#[92, 110]⟩ : ByteArray).size ≤ 1000000000 := by show L.length + 2 ≤ _; omega
      have hl3 : (L ++ [(92 : UInt8)]).length ≤ 1000000000 := by rw [List.length_append]; show L.length + 1 ≤ _; omega
      have Hl2 := Lib.hid hl2
      have Hl3 := Lib.hid hl3
      clear hL hc hnext hl2 hl3
      by_cases c1 : c = 10
      · subst c1
        have hx : ∀ V : World, (Instr.index 9 (.string s) (.int .i64 (k : Int))).run Try.prog V = .ok (.int .u8 10) V := hx
        have e10 : (⟨#[92, 110]⟩ : ByteArray).toList = escB 10 := by rw [ByteArray.toList_eq]; rfl
        have E10 := Lib.hid e10
        clear e10
        go_wp2_with (go_at_call 42; (with_reducible refine (bstr_any X X (L) (⟨#[92, 110]⟩) _ HI.out Hl2.out (Nat.le_of_lt (HI.out).lt.1)).mono ?_); rintro e w5 ⟨rfl, hI, hF⟩; have HIw5 := Lib.hid hI; have HFw5 := Lib.hid hF; clear hI hF)
        have e10 := E10.out
        go_roundw
        case rel => exact ⟨k + 1, by omega, by go_num, by rw [Hnx.out]; have h9 := HIw5.out; rw [e10] at h9; exact h9, HFw5.out.below HB.out (Nat.le_refl _) hXs⟩
        case measure => simp [intOf]; omega
      by_cases c2 : c = 34
      · subst c2
        have hx : ∀ V : World, (Instr.index 9 (.string s) (.int .i64 (k : Int))).run Try.prog V = .ok (.int .u8 34) V := hx
        go_wp2_with (first | (go_at_call 29; (with_reducible refine (bbyte_any X X (L) (92) _ K92.out _ HI.out hl1 (Nat.le_of_lt (HI.out).lt.1)).mono ?_); rintro e w5 ⟨rfl, hI, hF⟩; have HIw5 := Lib.hid hI; have HFw5 := Lib.hid hF; clear hI hF) | (go_at_call 29; (with_reducible refine (bbyte_any X X (L ++ [92]) (34) _ K34.out _ HIw5.out Hl3.out (Nat.le_of_lt (HIw5.out).lt.1)).mono ?_); rintro e w6 ⟨rfl, hI, hF⟩; have HIw6 := Lib.hid hI; have HFw6 := Lib.hid hF; clear hI hF))
        go_roundw
        case rel => exact ⟨k + 1, by omega, by go_num, by rw [Hnx.out]; have h9 := HIw6.out; rw [List.append_assoc] at h9; exact h9, (HFw5.out.trans HFw6.out).below HB.out (Nat.le_refl _) hXs⟩
        case measure => simp [intOf]; omega
      by_cases c3 : c = 92
      · subst c3
        have hx : ∀ V : World, (Instr.index 9 (.string s) (.int .i64 (k : Int))).run Try.prog V = .ok (.int .u8 92) V := hx
        go_wp2_with (first | (go_at_call 29; (with_reducible refine (bbyte_any X X (L) (92) _ K92.out _ HI.out hl1 (Nat.le_of_lt (HI.out).lt.1)).mono ?_); rintro e w5 ⟨rfl, hI, hF⟩; have HIw5 := Lib.hid hI; have HFw5 := Lib.hid hF; clear hI hF) | (go_at_call 29; (with_reducible refine (bbyte_any X X (L ++ [92]) (92) _ K92.out _ HIw5.out Hl3.out (Nat.le_of_lt (HIw5.out).lt.1)).mono ?_); rintro e w6 ⟨rfl, hI, hF⟩; have HIw6 := Lib.hid hI; have HFw6 := Lib.hid hF; clear hI hF))
        go_roundw
        case rel => exact ⟨k + 1, by omega, by go_num, by rw [Hnx.out]; have h9 := HIw6.out; rw [List.append_assoc] at h9; exact h9, (HFw5.out.trans HFw6.out).below HB.out (Nat.le_refl _) hXs⟩
        case measure => simp [intOf]; omega
      have he : escB c = [c] := by unfold escB; rw [if_neg c1, if_neg c2, if_neg c3]
      have ne : ∀ y : UInt8, ¬ c = y → (((c.toNat : Nat) : Int) == ((y.toNat : Nat) : Int)) = false := fun y h => by
        rw [beq_eq_false_iff_ne]
        intro e
        exact h (UInt8.toNat_inj.1 (by omega))
      have n1 := ne 10 c1
      have n2 := ne 34 c2
      have n3 := ne 92 c3
      obtain ⟨q, hq⟩ : ∃ q : Int, ((c.toNat : Nat) : Int) = q := ⟨_, rfl⟩
      rw [hq] at hx n1 n2 n3
      have n1 : (q == 10) = false := n1
      have n2 : (q == 34) = false := n2
      have n3 : (q == 92) = false := n3
      rw [he] at Hnx
      have Hq := Lib.hid hq.symm
      clear c1 c2 c3 ne he hq
      go_wp2_with (go_at_call 29; (with_reducible refine (bbyte_any X X (L) (c) _ Hq.out _ HI.out hl1 (Nat.le_of_lt (HI.out).lt.1)).mono ?_); rintro e w5 ⟨rfl, hI, hF⟩; have HIw5 := Lib.hid hI; have HFw5 := Lib.hid hF; clear hI hF)
      go_roundw
      case rel => exact ⟨k + 1, by omega, by go_num, by rw [Hnx.out]; exact HIw5.out, HFw5.out.below HB.out (Nat.le_refl _) hXs⟩
      case measure => simp [intOf]; omega
    · obtain rfl : k = n := by omega
      have hall : s.toList.take k = s.toList := List.take_of_length_le (by rw [toList_len, HN.out]; exact Nat.le_refl _)
      have hl1 : L.length ≤ 1000000000 := by omega
      rw [hall] at hL
      have Hq := Lib.hid (show toB (L ++ [34]) = quoteB s by rw [← hL]; rfl)
      clear hL hall
      go_wp2_with (first
        | (go_at_call 29; (with_reducible refine (bbyte_any X X (L) (34) _ K34.out _ HI.out hl1 (Nat.le_of_lt (HI.out).lt.1)).mono ?_); rintro e w5 ⟨rfl, hI, hF⟩; have HIw5 := Lib.hid hI; have HFw5 := Lib.hid hF; clear hI hF)
        | (go_at_call 30; (with_reducible refine (bstring_any X X (L ++ [34]) _ HIw5.out (Nat.le_of_lt HIw5.out.lt.1)).mono ?_); rintro e w6 ⟨rfl, hb6⟩; rw [Hq.out]; have HB6 := Lib.hid hb6; clear hb6))
      refine bodyPost_ret (v := .string (quoteB s)) (by simp [results, Try.results43, go_sem]) rfl ⟨rfl, ?_⟩
      rw [← HXe.out]
      exact (HFw5.out.below HB.out (Nat.le_refl _) hXs).trans HB6.out
end Go.Proofs.Ytlndfognkkobaaa
