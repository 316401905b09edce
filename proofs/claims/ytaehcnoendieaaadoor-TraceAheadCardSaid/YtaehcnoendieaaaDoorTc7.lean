/-
  The document's cut: the parts between blanks; its number.
-/
import Derived.Test.YtaehcnoendieaaaDoorTc6
namespace Go.Proofs.YtaehcnoendieaaaDoor
open Go.RowKit
set_option linter.unusedVariables false
set_option linter.unusedSimpArgs false

theorem scs_one (s : ByteArray) : ∀ u ∈ scs s, u.oneCell' = true := by
  intro u hu
  obtain rfl : u = .string s := by simpa [scs] using hu
  rfl
theorem Tryd.info9 : (Tryd.prog.info? 9).map (fun i => (i.zero, i.size, i.bytes)) = some (some (.string ⟨#[]⟩), 1, 16) := by kernel_rfl
theorem ext_dl (s : ByteArray) (i j : Nat) : dl (s.extract i j) = ((dl s).drop i).take (j - i) := by
  unfold dl
  rw [ByteArray.data_extract, Array.toList_extract, List.extract_eq_take_drop]
theorem drop_get {s : ByteArray} {i : Nat} (h : i < s.size) : (dl s).drop i = s.get! i :: (dl s).drop (i + 1) := by
  have hl : i < (dl s).length := by rw [dl_size]; exact h
  rw [List.drop_eq_getElem_cons hl, get_bang s i h]
  rfl
theorem ext_none (s : ByteArray) (i : Nat) : s.extract i i = emp := dl_inj (by rw [ext_dl, Nat.sub_self]; rfl)
theorem ext_snoc {s : ByteArray} {i j : Nat} (hij : i ≤ j) (h : j < s.size) : s.extract i (j + 1) = s.extract i j ++ lsB [s.get! j] := dl_inj (by
  rw [dl_app, ext_dl, ext_dl, dl_ls]
  have hl : j < (dl s).length := by rw [dl_size]; exact h
  have h2 : ((dl s).drop i)[j - i]? = some (s.get! j) := by
    rw [List.getElem?_drop, show i + (j - i) = j by omega, List.getElem?_eq_getElem hl, get_bang s j h]
    rfl
  rw [show j + 1 - i = j - i + 1 by omega, List.take_add_one, h2]
  rfl)
/-- What is read so far, ahead of the parts to come. -/
def joinP (x : ByteArray) : List (List UInt8) → List ByteArray
  | [] => [x]
  | h :: t => (x ++ lsB h) :: t.map lsB
theorem emp_app (x : ByteArray) : emp ++ x = x := dl_inj (by rw [dl_app]; rfl)
theorem app_emp (x : ByteArray) : x ++ lsB [] = x := dl_inj (by rw [dl_app]; exact List.append_nil _)
theorem parts_ne (l : List UInt8) : partsL l ≠ [] := by
  cases l with
  | nil => exact fun h => by cases h
  | cons c l =>
    rw [partsL]
    split
    · exact fun h => by cases h
    · split <;> exact fun h => by cases h
theorem joinP_start (l : List UInt8) : joinP emp (partsL l) = (partsL l).map lsB := by
  cases h : partsL l with
  | nil => exact absurd h (parts_ne l)
  | cons a t =>
    show (emp ++ lsB a) :: t.map lsB = _
    rw [emp_app]
    rfl
theorem joinP_end (x : ByteArray) : joinP x (partsL []) = [x] := by
  show [x ++ lsB []] = [x]
  rw [app_emp]
theorem joinP_blank (x : ByteArray) (r : List UInt8) : joinP x (partsL (32 :: r)) = x :: joinP emp (partsL r) := by
  rw [joinP_start, partsL, if_pos rfl]
  show (x ++ lsB []) :: _ = _
  rw [app_emp]
theorem joinP_char (x : ByteArray) {c : UInt8} (r : List UInt8) (h : ¬ c = 32) : joinP x (partsL (c :: r)) = joinP (x ++ lsB [c]) (partsL r) := by
  rw [partsL, if_neg h]
  cases hp : partsL r with
  | nil => exact absurd hp (parts_ne r)
  | cons a t =>
    show (x ++ lsB (c :: a)) :: _ = (x ++ lsB [c] ++ lsB a) :: _
    rw [app_assoc]
    rfl
theorem sl_mid (s : ByteArray) (i j : Nat) (hij : i ≤ j) (hj : j ≤ s.size) (V : World) : (Instr.slice 9 (.string s) (some (.int .i64 (i : Int))) (some (.int .i64 (j : Int))) none).run Tryd.prog V = .ok (.string (s.extract i j)) V := by
  rw [run_slice_string_if V 9 s .i64 .i64 i j Tryd.underlying9, if_pos ⟨by omega, by omega⟩, if_pos ⟨by omega, by omega⟩]
  simp
theorem c32_yes {c : UInt8} (h : c = 32) : (((c.toNat : Nat) : Int) == 32) = true := by rw [h]; decide
theorem c32_no {c : UInt8} (h : ¬ c = 32) : (((c.toNat : Nat) : Int) == 32) = false := by
  rw [beq_eq_false_iff_ne]
  intro e
  exact h (UInt8.toNat_inj.1 (by have : c.toNat = 32 := by omega
                                 rw [this]; rfl))
set_option maxRecDepth 100000 in
set_option maxHeartbeats 4000000 in
theorem rcut_any (s : ByteArray) (hs : s.size ≤ 100000) (w : World) :
    Calls Tryd.prog 41 #[.string s] w (Gives w (OwnL scs 1 w.heap.size 9 ((partsL (dl s)).map lsB))) := by
  obtain ⟨i0, hi, hz0, hz1, hz2⟩ := info_parts Tryd.info9
  have Hi := Lib.hid hi
  have Hz0 := Lib.hid hz0
  have Hz1 := Lib.hid hz1
  have Hz2 := Lib.hid hz2
  clear hi hz0 hz1 hz2
  obtain ⟨P, hP⟩ : ∃ P, (partsL (dl s)).map lsB = P := ⟨_, rfl⟩
  obtain ⟨n, hn⟩ : ∃ n, s.size = n := ⟨_, rfl⟩
  have HN := Lib.hid hn
  have HP := Lib.hid (show ([] : List ByteArray) ++ joinP (s.extract 0 0) (partsL ((dl s).drop 0)) = P by rw [ext_none, joinP_start, ← hP]; rfl)
  rw [hP]
  clear hP
  rw [hn] at hs
  go_enter Tryd.func41, Tryd.ntmps41
  go_wp2
  have hW0 : w = w := rfl
  go_loopw [3, 4, 5] (fun vo va vi wr => ∃ (i st : Nat) (O : List ByteArray), i ≤ n + 1 ∧ va = .int .i64 st ∧ vi = .int .i64 i ∧ wr.ownsRow w.heap.size 9 1 vo O.length (O.flatMap scs) ∧ Below w.heap.size w wr ∧ O.length ≤ i ∧ ((i ≤ n ∧ st ≤ i ∧ O ++ joinP (s.extract st i) (partsL ((dl s).drop i)) = P) ∨ (i = n + 1 ∧ O = P))) (fun _ _ vi _ => n + 1 - (intOf vi).toNat)
  case atStart => exact ⟨0, 0, [], by omega, rfl, rfl, World.ownsRow_nil _ _ _ _, Below.refl _ _, Nat.zero_le _, .inl ⟨Nat.zero_le _, Nat.le_refl _, HP.out⟩⟩
  case round =>
    clear HP
    obtain ⟨i, st, O, hi, rfl, rfl, hown, hB, hO, hI⟩ := hrel
    have Hown := Lib.hid hown
    have HB := Lib.hid hB
    have hc3 : O.length + 1 ≤ maxLen := by unfold maxLen; omega
    have hc4 : (O.length + 1) * 16 ≤ 140737488355328 := by omega
    clear hown hB
    rcases hI with ⟨h1, h2, h3⟩ | ⟨h1, h3⟩
    · by_cases hlt : i < n
      · have hne : ((i : Int) == (n : Int)) = false := by rw [beq_eq_false_iff_ne]; omega
        have hle : decide ((i : Int) ≤ (n : Int)) = true := decide_eq_true (by omega)
        have hd := drop_get (s := s) (i := i) (by rw [HN.out]; exact hlt)
        have hix := fun V : World => str_ix s i (by rw [HN.out]; exact hlt) V
        rw [hd] at h3
        have hsz := HN.out
        by_cases hc : s.get! i = 32
        · rw [hc, joinP_blank] at h3
          have q := c32_yes hc
          have hsl := fun V : World => sl_mid s st i h2 (by rw [HN.out]; omega) V
          obtain ⟨X, hX⟩ : ∃ X, s.extract st i = X := ⟨_, rfl⟩
          rw [hX] at h3 hsl
          have H3 := Lib.hid (show (O ++ [X]) ++ joinP (s.extract (i + 1) (i + 1)) (partsL ((dl s).drop (i + 1))) = P by rw [ext_none, ← h3]; simp)
          have Hrow := Lib.hid (show O.flatMap scs ++ scs X = (O ++ [X]).flatMap scs by simp)
          have Hlen := Lib.hid (show O.length + 1 = (O ++ [X]).length by simp)
          have HOx := Hown
          have HBx := HB
          have hbx := HB.out.size
          clear h3 hX hd hc
          go_wp2_with (at_builtin; refine wpList_append_own _ rfl (.tmp 22) (.tmp 27) 72 rfl w.heap.size 9 i0 _ 1 16 Tryd.underlying72 Hi.out Hz0.out Hz1.out Hz2.out rfl (by decide) _ O.length (O.flatMap scs) rfl (HOx.out.alloc _) ⟨wr.heap.size, 0, none⟩ 1 1 (scs X) rfl rfl (news_at _ _ _) (scs_one _) hc3 hc4 (le_alloc hbx _) ?_; intro v1 w1 hown1 hgrow1 _; rw [Hrow.out, Hlen.out] at hown1; have hB1 := own_below (HOx.out.alloc _) (HBx.out.alloc hbx _) (le_alloc hbx _) hgrow1; have HO1 := Lib.hid hown1; clear hown1 hgrow1)
          go_roundw
          case rel => exact ⟨i + 1, i + 1, O ++ [X], by omega, by go_num, by go_num, HO1.out, hB1, by rw [List.length_append]; show _ + 1 ≤ _; omega, .inl ⟨by omega, Nat.le_refl _, H3.out⟩⟩
          case measure => simp [intOf]; omega
        · rw [joinP_char _ _ hc, ← ext_snoc h2 (by rw [HN.out]; exact hlt)] at h3
          have q := c32_no hc
          have H3 := Lib.hid h3
          clear h3 hd hc
          go_wp2
          go_roundw
          case rel => exact ⟨i + 1, st, O, by omega, rfl, by go_num, Hown.out, HB.out, by omega, .inl ⟨by omega, by omega, H3.out⟩⟩
          case measure => simp [intOf]; omega
      · obtain rfl : i = n := by omega
        have hsz := HN.out
        have hne : ((i : Int) == (i : Int)) = true := by rw [beq_iff_eq]
        have hle : decide ((i : Int) ≤ (i : Int)) = true := decide_eq_true (by omega)
        rw [List.drop_of_length_le (by rw [dl_size, HN.out]; exact Nat.le_refl _), joinP_end] at h3
        have hsl := fun V : World => sl_mid s st i h2 (by rw [HN.out]; omega) V
        obtain ⟨X, hX⟩ : ∃ X, s.extract st i = X := ⟨_, rfl⟩
        rw [hX] at h3 hsl
        have H3 := Lib.hid h3
        have Hrow := Lib.hid (show O.flatMap scs ++ scs X = (O ++ [X]).flatMap scs by simp)
        have Hlen := Lib.hid (show O.length + 1 = (O ++ [X]).length by simp)
        have HOx := Hown
        have HBx := HB
        have hbx := HB.out.size
        clear h3 hX
        go_wp2_with (at_builtin; refine wpList_append_own _ rfl (.tmp 22) (.tmp 27) 72 rfl w.heap.size 9 i0 _ 1 16 Tryd.underlying72 Hi.out Hz0.out Hz1.out Hz2.out rfl (by decide) _ O.length (O.flatMap scs) rfl (HOx.out.alloc _) ⟨wr.heap.size, 0, none⟩ 1 1 (scs X) rfl rfl (news_at _ _ _) (scs_one _) hc3 hc4 (le_alloc hbx _) ?_; intro v1 w1 hown1 hgrow1 _; rw [Hrow.out, Hlen.out] at hown1; have hB1 := own_below (HOx.out.alloc _) (HBx.out.alloc hbx _) (le_alloc hbx _) hgrow1; have HO1 := Lib.hid hown1; clear hown1 hgrow1)
        go_roundw
        case rel => exact ⟨i + 1, i + 1, O ++ [X], by omega, by go_num, by go_num, HO1.out, hB1, by rw [List.length_append]; show _ + 1 ≤ _; omega, .inr ⟨rfl, H3.out⟩⟩
        case measure => first | (simp [intOf]; done) | (simp [intOf]; omega)
    · subst h1 h3
      have hsz := HN.out
      have hle : decide (((n + 1 : Nat) : Int) ≤ (n : Int)) = false := decide_eq_false (by omega)
      go_wp2
      refine bodyPost_ret (by simp [results, Tryd.results41, go_sem]) rfl ⟨⟨_, rfl, Hown.out⟩, HB.out⟩
end Go.Proofs.YtaehcnoendieaaaDoor
