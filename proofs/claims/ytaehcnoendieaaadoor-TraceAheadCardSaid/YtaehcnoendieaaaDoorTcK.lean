/-
  The document's Parse.
-/
import Derived.Test.YtaehcnoendieaaaDoorTcG
namespace Go.Proofs.YtaehcnoendieaaaDoor
open Go.RowKit
set_option linter.unusedVariables false
set_option linter.unusedSimpArgs false

theorem take_line (l : List UInt8) : l.take (lineOf l).length = lineOf l := (List.prefix_iff_eq_take.1 (List.takeWhile_prefix _)).symm
theorem line_step {l : List UInt8} {c : UInt8} (h : ¬ c = 10) : (lineOf (c :: l)).length = 1 + (lineOf l).length := by
  unfold lineOf
  rw [List.takeWhile_cons, if_pos (show (!decide (c = 10)) = true by rw [decide_eq_false h]; rfl), List.length_cons]
  omega
theorem line_stop (l : List UInt8) : (lineOf (10 :: l)).length = 0 := by
  unfold lineOf
  rw [List.takeWhile_cons, if_neg (by decide)]
  rfl
theorem c10_yes {c : UInt8} (h : c = 10) : (((c.toNat : Nat) : Int) != 10) = false := by rw [h]; decide
theorem c10_no {c : UInt8} (h : ¬ c = 10) : (((c.toNat : Nat) : Int) != 10) = true := by
  rw [bne_iff_ne]
  intro e
  exact h (UInt8.toNat_inj.1 (by have : c.toNat = 10 := by omega
                                 rw [this]; rfl))
theorem Tryd.info39 : (Tryd.prog.info? 39).map (fun i => (i.zero, i.size, i.bytes)) = some (some (.agg #[.int .i64 0, .string ⟨#[]⟩, .string ⟨#[]⟩, .int .i64 0]), 4, 48) := by kernel_rfl
set_option maxRecDepth 100000 in
set_option maxHeartbeats 8000000 in
theorem rparse_any (s : ByteArray) (hs : s.size ≤ 100000) (w : World) :
    Calls Tryd.prog 9 #[.string s] w fun r w' => (∃ v, r = .returned (errB (parseA s) v) ∧ OwnL evrow 4 w.heap.size 39 (parseA s).1 v w') ∧ Below w.heap.size w w' := by
  obtain ⟨i0, hi, hz0, hz1, hz2⟩ := info_parts Tryd.info39
  have Hi := Lib.hid hi
  have Hz0 := Lib.hid hz0
  have Hz1 := Lib.hid hz1
  have Hz2 := Lib.hid hz2
  clear hi hz0 hz1 hz2
  obtain ⟨R, hR⟩ : ∃ R, parseA s = R := ⟨_, rfl⟩
  obtain ⟨n, hn⟩ : ∃ n, s.size = n := ⟨_, rfl⟩
  have HN := Lib.hid hn
  have HR := Lib.hid (show runL n ((dl s).drop 0) [] 1 = R by rw [← hR, ← hn]; rfl)
  rw [hR]
  rw [hn] at hs
  clear hR hn
  go_enter Tryd.func9, Tryd.ntmps9
  go_wp2
  go_loopw [5, 6, 7] (fun vl vn va wr => ∃ (L : List Ev) (f at_ : Nat), vn = .int .i64 L.length ∧ va = .int .i64 at_ ∧ wr.ownsRow w.heap.size 39 4 vl L.length (L.flatMap evrow) ∧ Below w.heap.size w wr ∧ n ≤ at_ + f ∧ at_ ≤ n + 1 ∧ L.length + f = n ∧ runL f ((dl s).drop at_) L ((L.length + 1 : Nat) : Int) = R) (fun _ _ va _ => n + 2 - (intOf va).toNat)
  case atStart => exact ⟨[], n, 0, rfl, rfl, World.ownsRow_nil _ _ _ _, Below.refl _ _, by omega, by omega, by simp, HR.out⟩
  case round =>
    clear HR
    obtain ⟨L, f, p, rfl, rfl, hown, hB, hpf, hp1, hLf, hE⟩ := hrel
    have Hown := Lib.hid hown
    have HB := Lib.hid hB
    have hbz := hB.size
    have HE := Lib.hid hE
    clear hown hE
    have hsz := HN.out
    by_cases hlt : p < n
    · have g1 : decide ((p : Int) < (n : Int)) = true := decide_eq_true (by omega)
      obtain ⟨f, rfl⟩ : ∃ g, f = g + 1 := ⟨f - 1, by omega⟩
      have hne : (dl s).drop p ≠ [] := fun h => by
        have := congrArg List.length h
        rw [List.length_drop, dl_size, HN.out] at this
        simp at this
        omega
      have h9 := HE.out
      rw [runL, if_neg hne] at h9
      obtain ⟨m, hm⟩ : ∃ m, (lineOf ((dl s).drop p)).length = m := ⟨_, rfl⟩
      have hml : p + m ≤ n := by
        have h8 := (List.takeWhile_prefix (fun c : UInt8 => !decide (c = 10)) (l := (dl s).drop p)).length_le
        rw [List.length_drop, dl_size, HN.out] at h8
        have h7 : (List.takeWhile (fun c : UInt8 => !decide (c = 10)) ((dl s).drop p)).length = m := hm
        omega
      have hX : lsB (lineOf ((dl s).drop p)) = s.extract p (p + m) := dl_inj (by rw [ext_dl, dl_ls, Nat.add_sub_cancel_left, ← hm, take_line])
      have hrest : restOf ((dl s).drop p) = (dl s).drop (p + m + 1) := by unfold restOf; rw [hm, List.drop_drop]; rfl
      rw [hX, hrest] at h9
      have H9 := Lib.hid h9
      have HM := Lib.hid hm
      clear h9 HE hne hX hrest hm
      go_wp2
      go_loopw [8] (fun ve wz => ∃ e : Nat, p ≤ e ∧ e ≤ p + m ∧ ve = .int .i64 e ∧ (lineOf ((dl s).drop e)).length + e = p + m ∧ wz = wr) (fun ve _ => n - (intOf ve).toNat)
      case atStart => exact ⟨p, Nat.le_refl _, by omega, rfl, by rw [HM.out]; omega, rfl⟩
      case round =>
        obtain ⟨e, he1, he2, rfl, hline, rfl⟩ := hrel
        by_cases hen : e < n
        · have g2 : decide ((e : Int) < (n : Int)) = true := decide_eq_true (by omega)
          have hx := str_ix s e (by rw [HN.out]; exact hen)
          have hd := drop_get (s := s) (i := e) (by rw [HN.out]; exact hen)
          rw [hd] at hline
          by_cases hc : s.get! e = 10
          · have q := c10_yes hc
            rw [hc, line_stop] at hline
            have hem : p + m = e := by omega
            rw [hem] at H9 he2
            have hsl := fun V : World => sl_mid s p e (by omega) (by rw [HN.out]; omega) V
            obtain ⟨X, hX⟩ : ∃ X, s.extract p e = X := ⟨_, rfl⟩
            have hXs : X.size ≤ 100000 := by rw [← hX, ← dl_size, ext_dl, List.length_take]; omega
            rw [hX] at hsl H9
            have HP := Lib.hid (fun V => read_any X hXs V)
            rw [← read_parse] at H9
            clear hd hline hc hX HM
            cases hp : readL X with
            | none =>
              rw [hp] at H9 HP
              have h9 := H9.out
              dsimp only at h9
              subst h9
              clear hp H9
              go_wp2_with (go_at_call 26; (with_reducible refine (HP.out _).mono ?_); rintro rr w2 ⟨⟨E, rfl, -⟩, hb2⟩; have hz2 := hb2.size; dsimp only [evV, Option.isSome])
              refine bodyPost_ret (v := errB ([], 12, ((L.length + 1 : Nat) : Int)) (.slice none 0 0)) (by simp [results, Tryd.results9, go_sem, errB]) rfl ⟨⟨_, rfl, World.ownsRow_nil _ _ _ _⟩, by (repeat' (first | with_reducible exact Below.refl _ _ | with_reducible assumption | with_reducible refine Below.drew ?_ | with_reducible refine below_drewN' ?_ _ | with_reducible refine Below.alloc ?_ ?_ _ | with_reducible refine Below.setCell ?_ ?_ _ | with_reducible refine below_step (by assumption) ?_ ?_ | omega | (simp; done) | (simp; omega)))⟩
            | some ev =>
              rw [hp] at H9 HP
              have h9 := H9.out
              dsimp only at h9
              have hc3 : L.length + 1 ≤ maxLen := by unfold maxLen; omega
              have hc4 : (L.length + 1) * 48 ≤ 140737488355328 := by omega
              have Hrow := Lib.hid (show L.flatMap evrow ++ evrow ev = (L ++ [ev]).flatMap evrow by simp)
              have Hlen := Lib.hid (show L.length + 1 = (L ++ [ev]).length by simp)
              have H8 := Lib.hid (show runL f ((dl s).drop (e + 1)) (L ++ [ev]) (((L ++ [ev]).length + 1 : Nat) : Int) = R by rw [← h9, List.length_append]; congr 1)
              have hew := ev_one ev
              clear hp h9 H9
              obtain ⟨now, what, name, en⟩ := ev
              go_wp2_with (first
                | (go_at_call 26; (with_reducible refine (HP.out _).mono ?_); rintro rr w2 ⟨⟨E, rfl, hE⟩, hb2⟩; obtain rfl := hE _ rfl; clear hE; have hz2 := hb2.size; dsimp only [evV, Option.isSome]; have HOx := Lib.hid ((own_kept Hown.out hb2).alloc (.cells #[.int .i64 now, .string what, .string name, .int .i64 en] 39)); have HBx := Lib.hid (show Below w.heap.size w (w2.alloc (.cells #[.int .i64 now, .string what, .string name, .int .i64 en] 39)) by (repeat' (first | with_reducible exact Below.refl _ _ | with_reducible assumption | with_reducible refine Below.drew ?_ | with_reducible refine below_drewN' ?_ _ | with_reducible refine Below.alloc ?_ ?_ _ | with_reducible refine Below.setCell ?_ ?_ _ | with_reducible refine below_step (by assumption) ?_ ?_ | omega | (simp; done) | (simp; omega)))); have hbx := HBx.out.size)
                | (at_builtin; refine wpList_append_own _ rfl (.tmp 41) (.tmp 43) 27 rfl w.heap.size 39 i0 _ 4 48 Tryd.underlying27 Hi.out Hz0.out Hz1.out Hz2.out rfl (by decide) _ L.length (L.flatMap evrow) rfl (HOx.out.alloc _) ⟨w2.heap.size + 1, 0, none⟩ 1 1 (evrow ⟨now, what, name, en⟩) rfl rfl (news_at2 _ _ _ _) hew hc3 hc4 (le_alloc hbx _) ?_; intro v1 w1 hown1 hgrow1 _; rw [Hrow.out, Hlen.out] at hown1; have hB1 := own_below (HOx.out.alloc _) (HBx.out.alloc hbx _) (le_alloc hbx _) hgrow1; have HO1 := Lib.hid hown1; clear hown1 hgrow1))
              go_roundw
              case rel => exact ⟨L ++ [⟨now, what, name, en⟩], f, e + 1, by rw [List.length_append]; go_num, by go_num, HO1.out, hB1, by omega, by omega, by rw [List.length_append]; show _ + 1 + _ = _; omega, H8.out⟩
              case measure => simp [intOf]; omega
          · have q := c10_no hc
            rw [line_step hc] at hline
            have Hl := Lib.hid (show (lineOf ((dl s).drop (e + 1))).length + (e + 1) = p + m by omega)
            clear hd hline hc H9 HM
            go_wp2
            go_roundw
            case rel => exact ⟨e + 1, by omega, by have := Hl.out; omega, by go_num, Hl.out, by trivial⟩
            case measure => simp [intOf]; omega
        · obtain rfl : e = n := by omega
          have g2 : decide ((e : Int) < (e : Int)) = false := decide_eq_false (by omega)
          have hd : (dl s).drop e = [] := List.drop_of_length_le (by rw [dl_size, HN.out]; exact Nat.le_refl _)
          have hem : p + m = e := by omega
          rw [hem] at H9 he2
          have hsl := fun V : World => sl_mid s p e (by omega) (by rw [HN.out]; exact Nat.le_refl _) V
          obtain ⟨X, hX⟩ : ∃ X, s.extract p e = X := ⟨_, rfl⟩
          have hXs : X.size ≤ 100000 := by rw [← hX, ← dl_size, ext_dl, List.length_take]; omega
          rw [hX] at hsl H9
          have HP := Lib.hid (fun V => read_any X hXs V)
          rw [← read_parse] at H9
          clear hd hline hX HM
          cases hp : readL X with
          | none =>
            rw [hp] at H9 HP
            have h9 := H9.out
            dsimp only at h9
            subst h9
            clear hp H9
            go_wp2_with (go_at_call 26; (with_reducible refine (HP.out _).mono ?_); rintro rr w2 ⟨⟨E, rfl, -⟩, hb2⟩; have hz2 := hb2.size; dsimp only [evV, Option.isSome])
            refine bodyPost_ret (v := errB ([], 12, ((L.length + 1 : Nat) : Int)) (.slice none 0 0)) (by simp [results, Tryd.results9, go_sem, errB]) rfl ⟨⟨_, rfl, World.ownsRow_nil _ _ _ _⟩, by (repeat' (first | with_reducible exact Below.refl _ _ | with_reducible assumption | with_reducible refine Below.drew ?_ | with_reducible refine below_drewN' ?_ _ | with_reducible refine Below.alloc ?_ ?_ _ | with_reducible refine Below.setCell ?_ ?_ _ | with_reducible refine below_step (by assumption) ?_ ?_ | omega | (simp; done) | (simp; omega)))⟩
          | some ev =>
            rw [hp] at H9 HP
            have h9 := H9.out
            dsimp only at h9
            have hc3 : L.length + 1 ≤ maxLen := by unfold maxLen; omega
            have hc4 : (L.length + 1) * 48 ≤ 140737488355328 := by omega
            have Hrow := Lib.hid (show L.flatMap evrow ++ evrow ev = (L ++ [ev]).flatMap evrow by simp)
            have Hlen := Lib.hid (show L.length + 1 = (L ++ [ev]).length by simp)
            have H8 := Lib.hid (show runL f ((dl s).drop (e + 1)) (L ++ [ev]) (((L ++ [ev]).length + 1 : Nat) : Int) = R by rw [← h9, List.length_append]; congr 1)
            have hew := ev_one ev
            clear hp h9 H9
            obtain ⟨now, what, name, en⟩ := ev
            go_wp2_with (first
              | (go_at_call 26; (with_reducible refine (HP.out _).mono ?_); rintro rr w2 ⟨⟨E, rfl, hE⟩, hb2⟩; obtain rfl := hE _ rfl; clear hE; have hz2 := hb2.size; dsimp only [evV, Option.isSome]; have HOx := Lib.hid ((own_kept Hown.out hb2).alloc (.cells #[.int .i64 now, .string what, .string name, .int .i64 en] 39)); have HBx := Lib.hid (show Below w.heap.size w (w2.alloc (.cells #[.int .i64 now, .string what, .string name, .int .i64 en] 39)) by (repeat' (first | with_reducible exact Below.refl _ _ | with_reducible assumption | with_reducible refine Below.drew ?_ | with_reducible refine below_drewN' ?_ _ | with_reducible refine Below.alloc ?_ ?_ _ | with_reducible refine Below.setCell ?_ ?_ _ | with_reducible refine below_step (by assumption) ?_ ?_ | omega | (simp; done) | (simp; omega)))); have hbx := HBx.out.size)
              | (at_builtin; refine wpList_append_own _ rfl (.tmp 41) (.tmp 43) 27 rfl w.heap.size 39 i0 _ 4 48 Tryd.underlying27 Hi.out Hz0.out Hz1.out Hz2.out rfl (by decide) _ L.length (L.flatMap evrow) rfl (HOx.out.alloc _) ⟨w2.heap.size + 1, 0, none⟩ 1 1 (evrow ⟨now, what, name, en⟩) rfl rfl (news_at2 _ _ _ _) hew hc3 hc4 (le_alloc hbx _) ?_; intro v1 w1 hown1 hgrow1 _; rw [Hrow.out, Hlen.out] at hown1; have hB1 := own_below (HOx.out.alloc _) (HBx.out.alloc hbx _) (le_alloc hbx _) hgrow1; have HO1 := Lib.hid hown1; clear hown1 hgrow1))
            go_roundw
            case rel => exact ⟨L ++ [⟨now, what, name, en⟩], f, e + 1, by rw [List.length_append]; go_num, by go_num, HO1.out, hB1, by omega, by omega, by rw [List.length_append]; show _ + 1 + _ = _; omega, H8.out⟩
            case measure => simp [intOf]; omega
    · have g1 : decide ((p : Int) < (n : Int)) = false := decide_eq_false (by omega)
      have h9 := HE.out
      have hd : (dl s).drop p = [] := List.drop_of_length_le (by rw [dl_size, HN.out]; omega)
      rw [hd] at h9
      have hRR : R = (L, 0, 0) := by
        cases f with
        | zero => rw [runL] at h9; exact h9.symm
        | succ f => rw [runL, if_pos rfl] at h9; exact h9.symm
      subst hRR
      clear h9 hd
      go_wp2
      refine bodyPost_ret (v := errB (L, 0, 0) _) (by simp [results, Tryd.results9, go_sem, errB]) rfl ⟨⟨_, rfl, Hown.out⟩, HB.out⟩
end Go.Proofs.YtaehcnoendieaaaDoor
