/-
  The program's Show, by a builder.
-/
import Derived.Test.YtaehcnoendieaaaDoorTc8
import Derived.Test.YtaehcnoendieaaaDoorTcH
namespace Go.Proofs.YtaehcnoendieaaaDoor
open Go.RowKit
set_option linter.unusedVariables false
set_option linter.unusedSimpArgs false

set_option maxRecDepth 100000 in
set_option maxHeartbeats 4000000 in
theorem show_any (l : List Ev) (a : Option Addr) (c : Nat) (w : World) (hF : EvL w a l) (hl : l.length ≤ 200) (hT : Tab10 w) :
    Calls Tryd.prog 16 #[.slice a l.length c] w fun r w' => r = .returned (.string (lsB (showL l))) ∧ Below w.heap.size w w' := by
  obtain ⟨n, hn⟩ : ∃ n, l.length = n := ⟨_, rfl⟩
  have HN := Lib.hid hn
  have HF := Lib.hid hF
  have HT := Lib.hid hT
  have HE := Lib.hid (show lsB (showL (l.take n)) = lsB (showL l) by rw [← hn, List.take_length])
  obtain ⟨R, hR⟩ : ∃ R, lsB (showL l) = R := ⟨_, rfl⟩
  rw [hR] at HE ⊢
  rw [hn] at hl ⊢
  clear hn hF hR hT
  go_enter Tryd.func16, Tryd.ntmps16
  go_wp2
  have Hnew := Lib.hid (bld_new w)
  have HBn := Lib.hid ((Below.refl w.heap.size w).alloc (Nat.le_refl _) (.cells #[.pointer none, .slice none 0 0] 58))
  obtain ⟨X, hX⟩ : ∃ X, w.heap.size = X := ⟨_, rfl⟩
  rw [hX] at Hnew HBn ⊢
  go_loopw [8] (fun vi wr => ∃ k : Nat, k ≤ n ∧ vi = .int .i64 k ∧ IsBld wr X X (showL (l.take k)) ∧ Below X w wr) (fun vi _ => n - (intOf vi).toNat)
  case atStart => exact ⟨0, Nat.zero_le _, rfl, Hnew.out, HBn.out⟩
  case round =>
    clear Hnew HBn
    obtain ⟨k, hk, rfl, hI, hB⟩ := hrel
    have HI1 := Lib.hid hI
    have HB1 := Lib.hid hB
    have HBw := Lib.hid (show Below w.heap.size w wr by rw [hX]; exact hB)
    clear hI hB
    by_cases hlt : k < n
    · obtain ⟨e, he⟩ := mem_at (l := l) (k := k) (by rw [HN.out]; exact hlt)
      have hlen := show_len (l.take k)
      have hlk : (l.take k).length ≤ k := List.length_take_le _ _
      have Hst := Lib.hid (show_take he)
      obtain ⟨S0, hS0⟩ : ∃ S, showL (l.take k) = S := ⟨_, rfl⟩
      rw [hS0] at hlen Hst HI1
      obtain ⟨b, o, rfl, hb, hcc⟩ := (HF.out.mono HBw.out) (by rw [HN.out]; omega)
      obtain ⟨c0, c1, c2, c3⟩ := ev_cells (hcc k e he)
      have hXw : X < wr.heap.size := HI1.out.lt.1
      have HRR := Lib.hid (fun w : World => right_any e w)
      clear hcc he hS0
      cases hr : rightE e
      · rw [hr] at HRR
        have Hs2 := Lib.hid (show S0 = showL (l.take (k + 1)) by rw [Hst.out, hr, if_neg (by decide), List.append_nil])
        obtain ⟨now, what, name, en⟩ := e
        dsimp only at c0 c1 c2 c3 HRR
        clear hlen hlk
        go_wp2_with (go_at_call 14; (with_reducible refine (HRR.out _).mono ?_); rintro e w6 ⟨rfl, hb6⟩; have HI6 := Lib.hid ((HI1.out.below ((Below.refl _ _).alloc (Nat.le_refl _) _)).below hb6); have HB6 := Lib.hid ((HB1.out.alloc (Nat.le_of_lt hXw) _).trans (hb6.mono (by simp; omega))); clear hb6)
        go_roundw
        case rel => exact ⟨k + 1, by omega, by go_num, by rw [← Hs2.out]; exact HI6.out, HB6.out⟩
        case measure => simp [intOf]; omega
      · rw [hr] at HRR
        have hri := right_is hr
        have HRL := Lib.hid (fun (V : World) (hV : Below w.heap.size w V) => line_any e hri V (HT.out.mono hV))
        have hll := (line_high hr).2
        have Hs2 := Lib.hid (show S0 ++ (lineE e).toList ++ [10] = showL (l.take (k + 1)) by rw [Hst.out, hr, if_pos rfl, ByteArray.toList_eq, List.append_assoc]; rfl)
        obtain ⟨L, hL⟩ : ∃ L, lineE e = L := ⟨_, rfl⟩
        rw [hL] at HRL hll Hs2
        have hl1 : S0.length + L.size ≤ 1000000000 := by omega
        have hl2 : (S0 ++ L.toList).length ≤ 1000000000 := by rw [List.length_append, toList_len]; omega
        obtain ⟨now, what, name, en⟩ := e
        dsimp only at c0 c1 c2 c3 HRR HRL
        have K10 : Hid ((10 : Int) = ((10 : UInt8).toNat : Int)) := Lib.hid rfl
        clear hr hL hlen hll hlk hri
        go_wp2_with (first
          | (go_at_call 14; (with_reducible refine (HRR.out _).mono ?_); rintro e w5 ⟨rfl, hb5⟩; obtain ⟨hc5, hf5⟩ := bcell hb5; have hz5 := hb5.size; (try simp at hz5); have hx5 : wr.heap.size < w5.heap.size := (by omega); have HI5 := Lib.hid ((HI1.out.below ((Below.refl _ _).alloc (Nat.le_refl _) _)).below hb5); have HB5 := Lib.hid ((HB1.out.alloc (Nat.le_of_lt hXw) _).trans (hb5.mono (by simp; omega))); clear hb5)
          | (go_at_call 32; (with_reducible refine (HRL.out _ (by rw [hX]; exact HB5.out)).mono ?_); rintro e w6 ⟨rfl, hb6⟩; have HI6 := Lib.hid (HI5.out.below hb6); have HB6 := Lib.hid (HB5.out.trans (hb6.mono (by omega))); clear hb6)
          | (go_at_call 31; (with_reducible refine (bstr_any X X S0 L _ HI6.out hl1 (Nat.le_of_lt (HI6.out).lt.1)).mono ?_); rintro e w7 ⟨rfl, hI, hF⟩; have HI7 := Lib.hid hI; have HB7 := Lib.hid (hF.below HB6.out (Nat.le_refl _) (Nat.le_of_lt (HI6.out).lt.1)); clear hI hF)
          | (go_at_call 33; (with_reducible refine (bbyte_any X X (S0 ++ L.toList) 10 10 K10.out _ HI7.out hl2 (Nat.le_of_lt (HI7.out).lt.1)).mono ?_); rintro e w8 ⟨rfl, hI, hF⟩; have HI8 := Lib.hid hI; have HB8 := Lib.hid (hF.below HB7.out (Nat.le_refl _) (Nat.le_of_lt (HI7.out).lt.1)); clear hI hF))
        go_roundw
        case rel => exact ⟨k + 1, by omega, by go_num, by rw [← Hs2.out]; exact HI8.out, HB8.out⟩
        case measure => simp [intOf]; omega
    · obtain rfl : k = n := by omega
      have HS := Lib.hid (bstring_any X X _ wr HI1.out (Nat.le_of_lt (HI1.out).lt.1))
      have hLs : toB (showL (l.take k)) = R := HE.out
      rw [hLs] at HS
      clear hLs
      go_wp2_with (go_at_call 34; (with_reducible refine (HS.out).mono ?_); rintro e w9 ⟨rfl, hb9⟩; have HB9 := Lib.hid (HB1.out.trans hb9); clear hb9)
      go_ret
      exact ⟨rfl, by rw [hX]; exact HB9.out⟩
end Go.Proofs.YtaehcnoendieaaaDoor
