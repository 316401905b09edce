/-
  The document's Show: the lines of the right events.
-/
import Derived.Test.YtaehcnoendieaaaDoorTc5
namespace Go.Proofs.YtaehcnoendieaaaDoor
open Go.RowKit
set_option linter.unusedVariables false
set_option linter.unusedSimpArgs false

theorem show_take {l : List Ev} {k : Nat} {e : Ev} (h : l[k]? = some e) : showL (l.take (k + 1)) = showL (l.take k) ++ (if rightE e = true then dl (lineE e) ++ [10] else []) := by
  unfold showL
  rw [take_at h, List.flatMap_append]
  simp
theorem show_len (l : List Ev) : (showL l).length ≤ 1001 * l.length := by
  induction l with
  | nil => exact Nat.le_refl _
  | cons e l ih =>
    have hs : showL (e :: l) = (if rightE e = true then dl (lineE e) ++ [10] else []) ++ showL l := by unfold showL; rw [List.flatMap_cons]
    rw [hs, List.length_append, List.length_cons]
    split
    · next h =>
      have := (line_high h).2
      rw [List.length_append, dl_size]
      show _ + 1 + _ ≤ _
      omega
    · show 0 + _ ≤ _
      omega
theorem ls_line (s : List UInt8) (e : Ev) : (lsB s ++ lineE e) ++ (⟨#[10]⟩ : ByteArray) = lsB (s ++ (dl (lineE e) ++ [10])) := dl_inj (by rw [dl_app, dl_app, dl_ls, dl_ls, List.append_assoc]; rfl)
/-- Events whose texts are short. -/
def ShortE (e : Ev) : Prop := e.name.size ≤ 2000 ∧ e.what.size ≤ 2000
set_option maxRecDepth 100000 in
set_option maxHeartbeats 4000000 in
theorem rshow_any (l : List Ev) (a : Option Addr) (c : Nat) (w : World) (hF : EvL w a l) (hl : l.length ≤ 200) (hS : ∀ e ∈ l, ShortE e) :
    Calls Tryd.prog 17 #[.slice a l.length c] w fun r w' => r = .returned (.string (lsB (showL l))) ∧ Below w.heap.size w w' := by
  obtain ⟨n, hn⟩ : ∃ n, l.length = n := ⟨_, rfl⟩
  have HN := Lib.hid hn
  have HS := Lib.hid hS
  have HF := Lib.hid hF
  have HE := Lib.hid (show lsB (showL (l.take n)) = lsB (showL l) by rw [← hn, List.take_length])
  obtain ⟨R, hR⟩ : ∃ R, lsB (showL l) = R := ⟨_, rfl⟩
  rw [hR] at HE ⊢
  rw [hn] at hl ⊢
  clear hn hS hF hR
  go_enter Tryd.func17, Tryd.ntmps17
  go_wp2
  go_loopw [3, 4] (fun vs vi wr => ∃ k : Nat, k ≤ n ∧ vs = .string (lsB (showL (l.take k))) ∧ vi = .int .i64 k ∧ Below w.heap.size w wr) (fun _ vi _ => n - (intOf vi).toNat)
  case atStart => exact ⟨0, Nat.zero_le _, rfl, rfl, Below.refl _ _⟩
  case round =>
    obtain ⟨k, hk, rfl, rfl, hB⟩ := hrel
    have HB := Lib.hid hB
    by_cases hlt : k < n
    · obtain ⟨e, he⟩ := mem_at (l := l) (k := k) (by rw [HN.out]; exact hlt)
      have hse := HS.out e (List.mem_of_getElem? he)
      have hlen := show_len (l.take k)
      have hlk : (l.take k).length ≤ k := List.length_take_le _ _
      have Hst := Lib.hid (show_take he)
      obtain ⟨S0, hS0⟩ : ∃ S, showL (l.take k) = S := ⟨_, rfl⟩
      rw [hS0] at hlen Hst ⊢
      obtain ⟨b, o, rfl, hb, hcc⟩ := (HF.out.mono hB) (by rw [HN.out]; omega)
      obtain ⟨c0, c1, c2, c3⟩ := ev_cells (hcc k e he)
      have HRR := Lib.hid (fun w : World => rright_any e (by have := hse.1; omega) w)
      clear hcc he hB hS0
      cases hr : rightE e
      · rw [hr] at HRR
        have Hs2 := Lib.hid (show lsB S0 = lsB (showL (l.take (k + 1))) by rw [Hst.out, hr, if_neg (by decide), List.append_nil])
        obtain ⟨now, what, name, en⟩ := e
        dsimp only at c0 c1 c2 c3 HRR
        go_wp2_with (go_at_call 15; (with_reducible refine (HRR.out _).mono ?_); rintro e w6 ⟨rfl, hb6⟩; have HB6 := Lib.hid (HB.out.trans (hb6.mono HB.out.size)); clear hb6)
        go_roundw
        case rel => exact ⟨k + 1, by omega, by rw [Hs2.out], by go_num, HB6.out⟩
        case measure => simp [intOf]; omega
      · rw [hr] at HRR
        have HRL := Lib.hid (fun w : World => rline_any e (right_is hr) w)
        have hll := (line_high hr).2
        have hx := ls_line S0 e
        have Hs2 := Lib.hid (show lsB (S0 ++ (dl (lineE e) ++ [10])) = lsB (showL (l.take (k + 1))) by rw [Hst.out, hr, if_pos rfl])
        obtain ⟨L, hL⟩ : ∃ L, lineE e = L := ⟨_, rfl⟩
        rw [hL] at HRL hll hx Hs2
        have z0 : (lsB S0).size ≤ 200300 := by rw [ls_size]; omega
        have g1 : ∀ V : World, (Op.stringOp .add (lsB S0) L).run Tryd.prog V = .ok (.string (lsB S0 ++ L)) V := fun V => cat_run _ _ (by omega) V
        have z1 : (lsB S0 ++ L).size ≤ 201300 := by rw [ByteArray.size_append]; omega
        have g2 : ∀ V : World, (Op.stringOp .add (lsB S0 ++ L) ⟨#[10]⟩).run Tryd.prog V = .ok (.string (lsB S0 ++ L ++ ⟨#[10]⟩)) V := fun V => cat_run _ _ (by have : (⟨#[10]⟩ : ByteArray).size = 1 := rfl; omega) V
        rw [hx] at g2
        obtain ⟨X0, hX0⟩ : ∃ X, lsB S0 = X := ⟨_, rfl⟩
        rw [hX0] at g1 g2 ⊢
        obtain ⟨X1, hX1⟩ : ∃ X, X0 ++ L = X := ⟨_, rfl⟩
        rw [hX1] at g1 g2
        obtain ⟨now, what, name, en⟩ := e
        dsimp only at c0 c1 c2 c3 HRR HRL
        clear hX1 hX0 hx z0 z1 hr hL hlen hll hlk
        go_wp2_with (first
          | (go_at_call 15; (with_reducible refine (HRR.out _).mono ?_); rintro e w6 ⟨rfl, hb6⟩; obtain ⟨hc6, hf6⟩ := bcell hb6; have hz6 := hb6.size; have HB6 := Lib.hid (HB.out.trans (hb6.mono HB.out.size)); clear hb6)
          | (go_at_call 35; (with_reducible refine (HRL.out _).mono ?_); rintro e w7 ⟨rfl, hb7⟩; have HB7 := Lib.hid (HB6.out.trans (hb7.mono HB6.out.size)); clear hb7))
        go_roundw
        case rel => exact ⟨k + 1, by omega, by rw [← Hs2.out], by go_num, HB7.out⟩
        case measure => simp [intOf]; omega
    · obtain rfl : k = n := by omega
      rw [HE.out]
      go_wp2
      go_ret
      exact ⟨rfl, HB.out⟩
end Go.Proofs.YtaehcnoendieaaaDoor
