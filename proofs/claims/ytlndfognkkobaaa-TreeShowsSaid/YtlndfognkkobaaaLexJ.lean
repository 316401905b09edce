/-
  The document's Quote; Show: the program's and the document's.
-/
import Derived.Test.YtlndfognkkobaaaLexI
namespace Go.Proofs.Ytlndfognkkobaaa
open Go.RowKit
set_option linter.unusedVariables false
set_option linter.unusedSimpArgs false

/-- Bytes appended to an own list of bytes: what the walk is told. -/
theorem own_row_cells {w : World} {B n : Nat} {v : Value} {l : List UInt8} (h : w.ownsRow B 5 1 v n (Lib.byteCells l)) (hn : n = l.length) : (convert 46 9 v).run Try.prog w = .ok (.string (toB l)) w := by
  subst hn
  rcases h.2 with ⟨e, h0⟩ | ⟨g, cap, cur, e, _, hg, h1, h2, h3, h4⟩
  · obtain rfl : l = [] := List.eq_nil_of_length_eq_zero h0
    rw [e]
    exact run_convert_bytes_nil w 46 5 Try.underlying46 Try.underlying5 0 0 9 Try.underlying9
  · rw [e]
    refine run_convert_bytes_back w 46 9 5 ⟨g, 0, none⟩ cap l Try.underlying46 Try.underlying5 Try.underlying9 fun j hj => ?_
    rw [Go.WideShapes.add_plain, Nat.zero_add, Lib.cell_of_heap hg]
    have h5 := congrArg (fun x => x[j]?) h4
    rw [List.getElem?_take, if_pos (by omega), Array.getElem?_toList] at h5
    rw [h5]
    unfold Lib.byteCells
    rw [List.getElem?_map, List.getElem?_eq_getElem hj]
    rfl
set_option maxRecDepth 100000 in
set_option maxHeartbeats 2000000 in
theorem refquote_any (s : ByteArray) (hs : s.size ≤ 1000000) (w : World) :
    Calls Try.prog 41 #[.string s] w fun e w' => e = .returned (.string (quoteB s)) ∧ Below w.heap.size w w' := by
  obtain ⟨n, hn⟩ : ∃ n, s.size = n := ⟨_, rfl⟩
  have HN := Lib.hid hn
  rw [hn] at hs
  obtain ⟨i0, hi, hz0, hz1, hz2⟩ := info_parts Try.info5
  have Hi := Lib.hid hi
  have Hz0 := Lib.hid hz0
  have Hz1 := Lib.hid hz1
  have Hz2 := Lib.hid hz2
  clear hi hz0 hz1 hz2
  go_enter Try.func41, Try.ntmps41
  go_wp2
  have HO0 := Lib.hid (show (w.alloc (.cells #[.int .u8 34] 5)).ownsRow w.heap.size 5 1 (.slice (some ⟨w.heap.size, 0, none⟩) 1 1) 1 (Lib.byteCells [34]) from ⟨rfl, .inr ⟨w.heap.size, 1, #[.int .u8 34], rfl, Nat.le_refl _, by show (w.heap.push _)[w.heap.size]? = _; simp, Nat.le_refl _, by unfold maxLen; decide, rfl, rfl⟩⟩)
  go_loopw [3, 4] (fun v u wr => ∃ k : Nat, k ≤ n ∧ u = .int .i64 k ∧ wr.ownsRow w.heap.size 5 1 v (34 :: qL (s.toList.take k)).length (Lib.byteCells (34 :: qL (s.toList.take k))) ∧ Below w.heap.size w wr) (fun _ u _ => n - (intOf u).toNat)
  case atStart => exact ⟨0, Nat.zero_le _, rfl, HO0.out, by (repeat' (first | with_reducible exact Below.refl _ _ | with_reducible assumption | with_reducible refine Below.drew ?_ | with_reducible refine below_drewN' ?_ _ | with_reducible refine Below.alloc ?_ ?_ _ | with_reducible refine Below.setCell ?_ ?_ _ | with_reducible refine below_step (by assumption) ?_ ?_ | omega | (simp; done) | (simp; omega)))⟩
  case round =>
    clear HO0
    obtain ⟨k, hk, rfl, hO, hB⟩ := hrel
    have hbz := hB.size
    have hlen : (34 :: qL (s.toList.take k)).length ≤ 2000100 := by
      have h1 := qL_len (s.toList.take k)
      have h2 : (s.toList.take k).length ≤ k := by rw [List.length_take]; omega
      rw [List.length_cons]
      omega
    obtain ⟨L, hL⟩ : ∃ L, 34 :: qL (s.toList.take k) = L := ⟨_, rfl⟩
    rw [hL] at hO hlen
    have HOw := Lib.hid hO
    have HB := Lib.hid hB
    clear hO
    by_cases hlt : k < n
    · have hx := str_ix s k (by rw [HN.out]; exact hlt)
      obtain ⟨c, hc⟩ : ∃ c, s.get! k = c := ⟨_, rfl⟩
      have hnext : 34 :: qL (s.toList.take (k + 1)) = L ++ escB c := by
        rw [qL_next s k (by rw [HN.out]; exact hlt), ← hL, hc]
        rfl
      have Hnx := Lib.hid hnext
      rw [hc] at hx
      clear hL hc hnext
      by_cases c1 : c = 10
      · subst c1
        have hx : ∀ V : World, (Instr.index 9 (.string s) (.int .i64 (k : Int))).run Try.prog V = .ok (.int .u8 10) V := hx
        go_wp2_with (at_builtin; refine wpList_append_own _ rfl (.tmp 23) (.tmp 24) 46 rfl w.heap.size 5 i0 _ 1 1 Try.underlying46 Hi.out Hz0.out Hz1.out Hz2.out rfl (by decide) _ L.length (Lib.byteCells L) rfl (HOw.out.alloc _) ⟨wr.heap.size, 0, none⟩ 2 2 ([.int .u8 92, .int .u8 110]) rfl rfl (news_at _ _ _) (by simp [Value.oneCell']) (by unfold maxLen; omega) (by omega) (le_alloc hbz _) ?_; intro v1 w1 hown1 hgrow1 _; have HB1 := Lib.hid (own_below (HOw.out.alloc _) (HB.out.alloc hbz _) (le_alloc hbz _) hgrow1); have HO1 := Lib.hid hown1; clear hown1 hgrow1)
        go_roundw
        case rel => exact ⟨k + 1, by omega, by go_num, by rw [Hnx.out, List.length_append, bytes_app]; exact HO1.out, HB1.out⟩
        case measure => simp [intOf]; omega
      by_cases c2 : c = 34
      · subst c2
        have hx : ∀ V : World, (Instr.index 9 (.string s) (.int .i64 (k : Int))).run Try.prog V = .ok (.int .u8 34) V := hx
        go_wp2_with (at_builtin; refine wpList_append_own _ rfl (.tmp 29) (.tmp 33) 46 rfl w.heap.size 5 i0 _ 1 1 Try.underlying46 Hi.out Hz0.out Hz1.out Hz2.out rfl (by decide) _ L.length (Lib.byteCells L) rfl (HOw.out.alloc _) ⟨wr.heap.size, 0, none⟩ 2 2 ([.int .u8 92, .int .u8 34]) rfl rfl (news_at _ _ _) (by simp [Value.oneCell']) (by unfold maxLen; omega) (by omega) (le_alloc hbz _) ?_; intro v1 w1 hown1 hgrow1 _; have HB1 := Lib.hid (own_below (HOw.out.alloc _) (HB.out.alloc hbz _) (le_alloc hbz _) hgrow1); have HO1 := Lib.hid hown1; clear hown1 hgrow1)
        go_roundw
        case rel => exact ⟨k + 1, by omega, by go_num, by rw [Hnx.out, List.length_append, bytes_app]; exact HO1.out, HB1.out⟩
        case measure => simp [intOf]; omega
      by_cases c3 : c = 92
      · subst c3
        have hx : ∀ V : World, (Instr.index 9 (.string s) (.int .i64 (k : Int))).run Try.prog V = .ok (.int .u8 92) V := hx
        go_wp2_with (at_builtin; refine wpList_append_own _ rfl (.tmp 29) (.tmp 33) 46 rfl w.heap.size 5 i0 _ 1 1 Try.underlying46 Hi.out Hz0.out Hz1.out Hz2.out rfl (by decide) _ L.length (Lib.byteCells L) rfl (HOw.out.alloc _) ⟨wr.heap.size, 0, none⟩ 2 2 ([.int .u8 92, .int .u8 92]) rfl rfl (news_at _ _ _) (by simp [Value.oneCell']) (by unfold maxLen; omega) (by omega) (le_alloc hbz _) ?_; intro v1 w1 hown1 hgrow1 _; have HB1 := Lib.hid (own_below (HOw.out.alloc _) (HB.out.alloc hbz _) (le_alloc hbz _) hgrow1); have HO1 := Lib.hid hown1; clear hown1 hgrow1)
        go_roundw
        case rel => exact ⟨k + 1, by omega, by go_num, by rw [Hnx.out, List.length_append, bytes_app]; exact HO1.out, HB1.out⟩
        case measure => simp [intOf]; omega
      have he : escB c = [c] := by unfold escB; rw [if_neg c1, if_neg c2, if_neg c3]
      have ne : ∀ y : UInt8, ¬ c = y → (((c.toNat : Nat) : Int) == ((y.toNat : Nat) : Int)) = false := fun y h => by
        rw [beq_eq_false_iff_ne]
        intro e
        exact h (UInt8.toNat_inj.1 (by omega))
      have n1 := ne 10 c1
      have n2 := ne 34 c2
      have n3 := ne 92 c3
      obtain ⟨q, hq⟩ : ∃ q : Int, ((c.toNat : Nat) : Int) = q := ⟨_, rfl⟩
      have hbc : Lib.byteCells [c] = [.int .u8 q] := by rw [← hq]; rfl
      have Hbc := Lib.hid hbc
      rw [hq] at hx n1 n2 n3
      have n1 : (q == 10) = false := n1
      have n2 : (q == 34) = false := n2
      have n3 : (q == 92) = false := n3
      rw [he] at Hnx
      clear c1 c2 c3 ne he hq hbc
      go_wp2_with (at_builtin; refine wpList_append_own _ rfl (.tmp 15) (.tmp 19) 46 rfl w.heap.size 5 i0 _ 1 1 Try.underlying46 Hi.out Hz0.out Hz1.out Hz2.out rfl (by decide) _ L.length (Lib.byteCells L) rfl (HOw.out.alloc _) ⟨wr.heap.size, 0, none⟩ 1 1 ([.int .u8 q]) rfl rfl (news_at _ _ _) (by simp [Value.oneCell']) (by unfold maxLen; omega) (by omega) (le_alloc hbz _) ?_; intro v1 w1 hown1 hgrow1 _; have HB1 := Lib.hid (own_below (HOw.out.alloc _) (HB.out.alloc hbz _) (le_alloc hbz _) hgrow1); have HO1 := Lib.hid hown1; clear hown1 hgrow1)
      go_roundw
      case rel => exact ⟨k + 1, by omega, by go_num, by rw [Hnx.out, List.length_append, bytes_app, Hbc.out]; exact HO1.out, HB1.out⟩
      case measure => simp [intOf]; omega
    · obtain rfl : k = n := by omega
      have hall : s.toList.take k = s.toList := List.take_of_length_le (by rw [toList_len, HN.out]; exact Nat.le_refl _)
      rw [hall] at hL
      have Hq := Lib.hid (show toB (L ++ [34]) = quoteB s by rw [← hL]; rfl)
      clear hL hall
      go_wp2_with (at_builtin; refine wpList_append_own _ rfl (.tmp 35) (.tmp 36) 46 rfl w.heap.size 5 i0 _ 1 1 Try.underlying46 Hi.out Hz0.out Hz1.out Hz2.out rfl (by decide) _ L.length (Lib.byteCells L) rfl (HOw.out.alloc _) ⟨wr.heap.size, 0, none⟩ 1 1 ([.int .u8 34]) rfl rfl (fun j u hj => by match j, hj with | 0, hj => (simp at hj; subst hj; simp [Addr.add])) (by simp [Value.oneCell']) (by unfold maxLen; omega) (by omega) (le_alloc hbz _) ?_; intro v1 w1 hown1 hgrow1 _; have hcv := own_row_cells (l := L ++ [34]) (by rw [bytes_app]; exact hown1) (by rw [List.length_append]; rfl); rw [Hq.out] at hcv; have HB1 := Lib.hid (own_below (HOw.out.alloc _) (HB.out.alloc hbz _) (le_alloc hbz _) hgrow1); clear hown1 hgrow1)
      refine bodyPost_ret (v := .string (quoteB s)) (by simp [results, Try.results41, go_sem]) rfl ⟨rfl, HB1.out⟩
end Go.Proofs.Ytlndfognkkobaaa
