/-
  The program's Parse: the events of lines.
-/
import Derived.Test.YtaehcnoendieaaaDoorTcA
namespace Go.Proofs.YtaehcnoendieaaaDoor
open Go.RowKit
set_option linter.unusedVariables false
set_option linter.unusedSimpArgs false

theorem Tryd.info37 : (Tryd.prog.info? 37).map (fun i => (i.zero, i.size, i.bytes)) = some (some (.agg #[.int .i64 0, .string ⟨#[]⟩, .string ⟨#[]⟩, .int .i64 0]), 4, 48) := by kernel_rfl
def errB (R : List Ev × Int × Int) (v : Value) : Value := .tuple #[v, .int .i64 R.2.1, .int .i64 R.2.2]
def parseA (s : ByteArray) : List Ev × Int × Int := runL s.size (dl s) [] 1
theorem run_len : ∀ (f : Nat) (s : List UInt8) (acc : List Ev) (k : Int), (runL f s acc k).1.length ≤ acc.length + f
  | 0, s, acc, k => by rw [runL]; exact Nat.le_refl _
  | f + 1, s, acc, k => by
    rw [runL]
    split
    · exact Nat.le_add_right _ _
    · split
      · exact Nat.zero_le _
      · next e _ =>
        have := run_len f (restOf s) (acc ++ [e]) (k + 1)
        refine Nat.le_trans this ?_
        rw [List.length_append]
        show _ + 1 + f ≤ _
        omega
def strZ : Value → Nat | .string s => s.size | _ => 0
theorem size_emp {S : ByteArray} (h : ¬ S = emp) : 0 < S.size := by
  rcases Nat.eq_zero_or_pos S.size with h0 | h0
  · exact absurd (dl_nil (List.eq_nil_of_length_eq_zero (by rw [dl_size]; exact h0))) h
  · exact h0
set_option maxRecDepth 100000 in
set_option maxHeartbeats 8000000 in
theorem parseA_any (s : ByteArray) (hs : s.size ≤ 100000) (w : World) (hT : Tab10 w) (hM : MaxAt w) :
    Calls Tryd.prog 8 #[.string s] w fun r w' => (∃ v, r = .returned (errB (parseA s) v) ∧ OwnL evrow 4 w.heap.size 37 (parseA s).1 v w') ∧ Below w.heap.size w w' := by
  have HT := Lib.hid hT
  have HM := Lib.hid hM
  obtain ⟨i0, hi, hz0, hz1, hz2⟩ := info_parts Tryd.info37
  have Hi := Lib.hid hi
  have Hz0 := Lib.hid hz0
  have Hz1 := Lib.hid hz1
  have Hz2 := Lib.hid hz2
  clear hi hz0 hz1 hz2
  obtain ⟨R, hR⟩ : ∃ R, parseA s = R := ⟨_, rfl⟩
  have HR := Lib.hid (show runL s.size (dl s) [] 1 = R from hR)
  rw [hR]
  obtain ⟨n, hn⟩ : ∃ n, s.size = n := ⟨_, rfl⟩
  have hn2 : s.size ≤ n := Nat.le_of_eq hn
  rw [hn] at HR hs
  clear hR hT hM hn
  go_enter Tryd.func8, Tryd.ntmps8
  go_wp2
  go_loopw [0, 5, 6] (fun vs vl vn wr => ∃ (S : ByteArray) (L : List Ev) (f : Nat), vs = .string S ∧ vn = .int .i64 (L.length + 1 : Nat) ∧ wr.ownsRow w.heap.size 37 4 vl L.length (L.flatMap evrow) ∧ Below w.heap.size w wr ∧ S.size ≤ f ∧ L.length + f = n ∧ runL f (dl S) L ((L.length + 1 : Nat) : Int) = R) (fun vs _ _ _ => strZ vs)
  case atStart => exact ⟨s, [], n, rfl, rfl, World.ownsRow_nil _ _ _ _, Below.refl _ _, hn2, by simp, HR.out⟩
  case round =>
    clear HR
    obtain ⟨S, L, f, rfl, rfl, hown, hB, hSf, hLf, hE⟩ := hrel
    have Hown := Lib.hid hown
    have HB := Lib.hid hB
    have hbz := hB.size
    have HE := Lib.hid hE
    clear hown hE
    by_cases hS : S = emp
    · have p := emp_lits hS
      have h9 := HE.out
      rw [hS, dl_emp] at h9
      have hRR : R = (L, 0, 0) := by
        cases f with
        | zero => rw [runL] at h9; exact h9.symm
        | succ f => rw [runL, if_pos rfl] at h9; exact h9.symm
      subst hRR
      clear hS h9
      go_wp2
      refine bodyPost_ret (v := errB (L, 0, 0) _) (by simp [results, Tryd.results8, go_sem, errB]) rfl ⟨⟨_, rfl, Hown.out⟩, HB.out⟩
    · have p := emp_litn hS
      have hs0 := size_emp hS
      obtain ⟨f, rfl⟩ : ∃ g, f = g + 1 := ⟨f - 1, by omega⟩
      have h9 := HE.out
      rw [runL, if_neg (fun h => hS (dl_nil h))] at h9
      have hrl := rest_less (s := dl S) (fun h => hS (dl_nil h))
      obtain ⟨q1, q2⟩ := cut_line (dl S)
      have hll := (cut_le (dl S) [10]).1
      have hC := fun V hV => cut_any S ⟨#[10]⟩ (by omega) V (HM.out.mono hV)
      rw [show dl (⟨#[10]⟩ : ByteArray) = [10] from rfl] at hC
      rw [q1, dl_size] at hll
      rw [q1, q2] at hC
      obtain ⟨cb, hcb⟩ : ∃ cb, (Lib.cut (dl S) [10]).2.2 = cb := ⟨_, rfl⟩
      rw [hcb] at hC
      have HC := Lib.hid hC
      have hrs : (lsB (restOf (dl S))).size < S.size := by rw [ls_size, ← dl_size S]; exact hrl
      have hlz : (lsB (lineOf (dl S))).size ≤ 100000 := by rw [ls_size]; omega
      have Hdr := Lib.hid (dl_ls (restOf (dl S)))
      obtain ⟨X, hX⟩ : ∃ X, lsB (lineOf (dl S)) = X := ⟨_, rfl⟩
      obtain ⟨Y, hY⟩ : ∃ Y, lsB (restOf (dl S)) = Y := ⟨_, rfl⟩
      rw [hX] at HC hlz h9
      rw [hY] at HC hrs Hdr
      rw [← Hdr.out] at h9
      have hP := fun V hV => parse_any X hlz V (HT.out.mono hV) (HM.out.mono hV)
      clear hC hX hY hS hrl hll q1 q2 hcb HE hs0
      cases hp : parseL X with
      | none =>
        rw [hp] at h9 hP
        have HP := Lib.hid hP
        dsimp only at h9
        subst h9
        have HN := Lib.hid (show World.ownsRow w w.heap.size 37 4 (.slice none 0 0) 0 [] from World.ownsRow_nil _ _ _ _)
        clear hp hP
        go_wp2_with (first
          | (go_at_call 24; (with_reducible refine (HC.out _ (show Below w.heap.size w _ from by (repeat' (first | with_reducible exact Below.refl _ _ | with_reducible assumption | with_reducible refine Below.drew ?_ | with_reducible refine below_drewN' ?_ _ | with_reducible refine Below.alloc ?_ ?_ _ | with_reducible refine Below.setCell ?_ ?_ _ | with_reducible refine below_step (by assumption) ?_ ?_ | omega | (simp; done) | (simp; omega))))).mono ?_); rintro e w1 ⟨rfl, hb1⟩; have hz1 := hb1.size)
          | (go_at_call 25; (with_reducible refine (HP.out _ (show Below w.heap.size w _ from by (repeat' (first | with_reducible exact Below.refl _ _ | with_reducible assumption | with_reducible refine Below.drew ?_ | with_reducible refine below_drewN' ?_ _ | with_reducible refine Below.alloc ?_ ?_ _ | with_reducible refine Below.setCell ?_ ?_ _ | with_reducible refine below_step (by assumption) ?_ ?_ | omega | (simp; done) | (simp; omega))))).mono ?_); rintro e w2 ⟨rfl, hb2⟩; have hz2 := hb2.size; dsimp only [orZ]))
        refine bodyPost_ret (v := errB ([], 12, ((L.length + 1 : Nat) : Int)) (.slice none 0 0)) (by simp [results, Tryd.results8, go_sem, errB]) rfl ⟨⟨_, rfl, World.ownsRow_nil _ _ _ _⟩, by (repeat' (first | with_reducible exact Below.refl _ _ | with_reducible assumption | with_reducible refine Below.drew ?_ | with_reducible refine below_drewN' ?_ _ | with_reducible refine Below.alloc ?_ ?_ _ | with_reducible refine Below.setCell ?_ ?_ _ | with_reducible refine below_step (by assumption) ?_ ?_ | omega | (simp; done) | (simp; omega)))⟩
      | some e =>
        rw [hp] at h9 hP
        have HP := Lib.hid hP
        dsimp only at h9
        have hw9 : IntKind.i64.wrap ((L.length : Int) + 1 + 1) = (L.length : Int) + 1 + 1 := wrap_in (by omega) (by omega)
        have hc3 : L.length + 1 ≤ maxLen := by unfold maxLen; omega
        have hc4 : (L.length + 1) * 48 ≤ 140737488355328 := by omega
        have Hrow := Lib.hid (show L.flatMap evrow ++ evrow e = (L ++ [e]).flatMap evrow by simp)
        have Hlen := Lib.hid (show L.length + 1 = (L ++ [e]).length by simp)
        have H9 := Lib.hid (show runL f (dl Y) (L ++ [e]) (((L ++ [e]).length + 1 : Nat) : Int) = R by rw [← h9, List.length_append]; congr 1)
        have hew := ev_one e
        clear hp hP h9
        obtain ⟨now, what, name, en⟩ := e
        go_wp2_with (first
          | (go_at_call 24; (with_reducible refine (HC.out _ (show Below w.heap.size w _ from by (repeat' (first | with_reducible exact Below.refl _ _ | with_reducible assumption | with_reducible refine Below.drew ?_ | with_reducible refine below_drewN' ?_ _ | with_reducible refine Below.alloc ?_ ?_ _ | with_reducible refine Below.setCell ?_ ?_ _ | with_reducible refine below_step (by assumption) ?_ ?_ | omega | (simp; done) | (simp; omega))))).mono ?_); rintro e w1 ⟨rfl, hb1⟩; have hz1 := hb1.size)
          | (go_at_call 25; (with_reducible refine (HP.out _ (show Below w.heap.size w _ from by (repeat' (first | with_reducible exact Below.refl _ _ | with_reducible assumption | with_reducible refine Below.drew ?_ | with_reducible refine below_drewN' ?_ _ | with_reducible refine Below.alloc ?_ ?_ _ | with_reducible refine Below.setCell ?_ ?_ _ | with_reducible refine below_step (by assumption) ?_ ?_ | omega | (simp; done) | (simp; omega))))).mono ?_); rintro e w2 ⟨rfl, hb2⟩; have hz2 := hb2.size; dsimp only [orZ]; have HOx := Lib.hid ((own_kept (own_kept Hown.out hb1) hb2).alloc (.cells #[.int .i64 now, .string what, .string name, .int .i64 en] 37)); have HBx := Lib.hid (show Below w.heap.size w (w2.alloc (.cells #[.int .i64 now, .string what, .string name, .int .i64 en] 37)) by (repeat' (first | with_reducible exact Below.refl _ _ | with_reducible assumption | with_reducible refine Below.drew ?_ | with_reducible refine below_drewN' ?_ _ | with_reducible refine Below.alloc ?_ ?_ _ | with_reducible refine Below.setCell ?_ ?_ _ | with_reducible refine below_step (by assumption) ?_ ?_ | omega | (simp; done) | (simp; omega)))); have hbx := HBx.out.size)
          | (at_builtin; refine wpList_append_own _ rfl (.tmp 30) (.tmp 32) 23 rfl w.heap.size 37 i0 _ 4 48 Tryd.underlying23 Hi.out Hz0.out Hz1.out Hz2.out rfl (by decide) _ L.length (L.flatMap evrow) rfl (HOx.out.alloc _) ⟨w2.heap.size + 1, 0, none⟩ 1 1 (evrow ⟨now, what, name, en⟩) rfl rfl (news_at2 _ _ _ _) hew hc3 hc4 (le_alloc hbx _) ?_; intro v1 w1 hown1 hgrow1 _; rw [Hrow.out, Hlen.out] at hown1; have hB1 := own_below (HOx.out.alloc _) (HBx.out.alloc hbx _) (le_alloc hbx _) hgrow1; have HO1 := Lib.hid hown1; clear hown1 hgrow1))
        go_roundw
        case rel => exact ⟨Y, L ++ [⟨now, what, name, en⟩], f, rfl, by rw [List.length_append]; go_num, HO1.out, hB1, by omega, by rw [List.length_append]; show _ + 1 + _ = _; omega, H9.out⟩
        case measure => simp [strZ]; omega
end Go.Proofs.YtaehcnoendieaaaDoor
