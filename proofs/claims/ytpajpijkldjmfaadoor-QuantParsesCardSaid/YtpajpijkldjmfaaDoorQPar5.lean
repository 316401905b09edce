/-
  The contract of triremeref03.amount: the program's amount.
-/
import Derived.Test.YtpajpijkldjmfaaDoorQPar4
import Derived.BigQuiet
namespace Go.Proofs.YtpajpijkldjmfaaDoor
open Go.RowKit
set_option linter.unusedVariables false

set_option maxRecDepth 100000 in
set_option maxHeartbeats 16000000 in
theorem amount_any (s : ByteArray) (hs : s.size ≤ 310) (scale : Int) (hsc : scale = 1 ∨ scale = 1000) (w : World) :
    Calls Tryd.prog 21 #[.string s, .int .i64 (lastOf scale : Int)] w fun e w' => e = .returned (.tuple #[.int .i64 (scV s scale).1, .int .i64 (scV s scale).2]) ∧ Below w.heap.size w w' := by
  obtain ⟨A, r, he, hA, hr⟩ := split_digits s
  have D1 := fun V => RefQ.digits_any s (by omega) V
  rw [he, ls_int A hA r hr, ← he] at D1
  dsimp only at D1
  have hsA : s.size = A.length + r.size := by rw [he, ByteArray.size_append, ls_size]
  have hTn := fun h1 h => tail_sc (s := s) hA (p := numL (b3 [])) (by decide) (by rw [he]; exact nopoint_num hA hr h1 h) scale hsc
  have hk : 3 ≤ lastOf scale ∧ lastOf scale ≤ 6 := by rcases hsc with rfl | rfl <;> decide
  obtain ⟨k, hkk⟩ : ∃ k, lastOf scale = k := ⟨_, rfl⟩
  rw [hkk] at hk hTn ⊢
  have HX := Lib.hid (Below.refl w.heap.size w)
  by_cases h0 : A.length = 0
  · have hsv : scV s scale = (0, 8) := by rw [he, List.eq_nil_of_length_eq_zero h0]; exact nodigit_sc hr scale
    rw [hsv]
    have gn : ((A.length : Int) == 0) = true := by rw [h0]; rfl
    obtain ⟨n, hn⟩ : ∃ n, A.length = n := ⟨_, rfl⟩
    rw [hn] at gn
    simp only [hn] at D1
    have HD1 := Lib.hid D1
    clear D1 hsv hn hTn he hA hr hsA h0
    go_enter Tryd.func21, Tryd.ntmps21
    go_wp2_with (first | (go_at_call 24; first | ((with_reducible refine (HD1.out _).mono ?_); rintro e w1 ⟨rfl, hb1⟩; have HX1 := Lib.hid ((HX).out.trans (Below.mono hb1 (HX).out.size))) | ((with_reducible refine (HD2.out _).mono ?_); rintro e w2 ⟨rfl, hb2⟩; have HX2 := Lib.hid ((HX1).out.trans (Below.mono hb2 (HX1).out.size)))) | (go_at_call 32; first | ((with_reducible refine (HU.out _).mono ?_); rintro e w3 ⟨rfl, hb3⟩; have HX3 := Lib.hid ((HX2).out.trans (Below.mono hb3 (HX2).out.size))) | ((with_reducible refine (HU.out _).mono ?_); rintro e w3 ⟨rfl, hb3⟩; have HX3 := Lib.hid ((HX1).out.trans (Below.mono hb3 (HX1).out.size)))))
    go_ret2
    exact ⟨rfl, by first | exact HX3.out | exact HX2.out | exact HX1.out⟩
  have gn : ((A.length : Int) == 0) = false := by rw [beq_eq_false_iff_ne]; omega
  have hsl1 : ∀ V : World, (Instr.slice 9 (.string s) (some (.int .i64 (A.length : Int))) none none).run Tryd.prog V = .ok (.string r) V := fun V => by
    rw [run_slice_string_from_if V 9 s .i64 A.length Tryd.underlying9, if_pos ⟨by omega, by omega⟩, he]
    exact congrArg (fun b => Result.ok (Value.string b) V) (ls_ext A r)
  have hsl5 : ∀ V : World, (Instr.slice 9 (.string s) none (some (.int .i64 (A.length : Int))) none).run Tryd.prog V = .ok (.string (lsB A)) V := fun V => by
    rw [run_slice_string_to_if V 9 s .i64 A.length Tryd.underlying9, if_pos ⟨by omega, by omega⟩, he]
    exact congrArg (fun b => Result.ok (Value.string b) V) (ls_pre A r)
  have hAl : A.length ≤ 310 := by omega
  by_cases hr0 : r.size = 0
  · have hT := hTn (by omega) (.inl hr0)
    have hsl6 : ∀ V : World, (Instr.slice 9 (.string ⟨#[48, 48, 48]⟩) none (some (.int .i64 3)) none).run Tryd.prog V = .ok (.string (lsB (b3 []))) V := fun V => by
      rw [run_slice_string_to_if V 9 ⟨#[48, 48, 48]⟩ .i64 3 Tryd.underlying9, if_pos ⟨by decide, by decide⟩]
      rfl
    have hk1 : ∀ V : World, (Op.stringOp .add ⟨#[]⟩ ⟨#[48, 48, 48]⟩).run Tryd.prog V = .ok (.string ⟨#[48, 48, 48]⟩) V := fun V => cat_run ⟨#[]⟩ ⟨#[48, 48, 48]⟩ (by decide) V
    obtain ⟨n, hn⟩ : ∃ n, A.length = n := ⟨_, rfl⟩
    rw [hn] at gn
    simp only [hn] at D1 hsl1 hsl5
    have HD1 := Lib.hid D1
    have Hn := Lib.hid hn
    clear D1 hTn he hr hsA
    have HU0 : ∀ V : World, Calls Tryd.prog 32 #[.string r] V fun e w' => e = .returned (.int .i64 (uR r : Int)) ∧ Below V.heap.size V w' := fun V => unit_any r V
    have hUb := uR_bd r
    obtain ⟨U, hU⟩ : ∃ U, uR r = U := ⟨_, rfl⟩
    rw [hU] at hT hUb
    simp only [hU] at HU0
    have HU := Lib.hid HU0
    clear HU0 hU
    by_cases hU0 : U = 0
    · rw [if_pos hU0] at hT
      rw [hT]
      have gU : ((U : Int) == 0) = true := by rw [hU0]; rfl
      clear hT hU0
      go_enter Tryd.func21, Tryd.ntmps21
      go_wp2_with (first | (go_at_call 24; first | ((with_reducible refine (HD1.out _).mono ?_); rintro e w1 ⟨rfl, hb1⟩; have HX1 := Lib.hid ((HX).out.trans (Below.mono hb1 (HX).out.size))) | ((with_reducible refine (HD2.out _).mono ?_); rintro e w2 ⟨rfl, hb2⟩; have HX2 := Lib.hid ((HX1).out.trans (Below.mono hb2 (HX1).out.size)))) | (go_at_call 32; first | ((with_reducible refine (HU.out _).mono ?_); rintro e w3 ⟨rfl, hb3⟩; have HX3 := Lib.hid ((HX2).out.trans (Below.mono hb3 (HX2).out.size))) | ((with_reducible refine (HU.out _).mono ?_); rintro e w3 ⟨rfl, hb3⟩; have HX3 := Lib.hid ((HX1).out.trans (Below.mono hb3 (HX1).out.size)))))
      go_ret2
      exact ⟨rfl, by first | exact HX3.out | exact HX2.out | exact HX1.out⟩
    · rw [if_neg hU0] at hT
      have gU : ((U : Int) == 0) = false := by rw [beq_eq_false_iff_ne]; omega
      have hAB : allIs (A ++ b3 []) := fun c hc => (List.mem_append.1 hc).elim (hA c) ((b3_is (B := []) (fun _ h => by cases h)) c)
      have hPi := prodE_is U (A ++ b3 []).reverse 0 [] (fun _ h => by cases h)
      have hPn := prodE_num0 U (A ++ b3 []).reverse
      have hPl := prodE_le U hUb (A ++ b3 []).reverse 0 [] (by decide) (fun c hc => hAB c (List.mem_reverse.1 hc))
      have hP0 := fun V => product_any (A ++ b3 []) hAB (by rw [List.length_append, (b3_len [])]; omega) U hUb V
      rw [List.length_reverse, List.length_append, (b3_len [])] at hPl
      rw [List.reverse_reverse, numL_append, (b3_len [])] at hPn
      obtain ⟨P, hPP⟩ : ∃ P, prodE U (A ++ b3 []).reverse 0 [] = P := ⟨_, rfl⟩
      rw [hPP] at hPi hPn hPl
      simp only [hPP] at hP0
      have HP := Lib.hid hP0
      clear hP0 hPP
      have hk2 : ∀ V : World, (Op.stringOp .add (lsB A) (lsB (b3 []))).run Tryd.prog V = .ok (.string (lsB (A ++ b3 []))) V := fun V => by
        have h1 := cat_run (lsB A) (lsB (b3 [])) (by rw [ls_size, ls_size, (b3_len [])]; omega) V
        rw [ls_add] at h1
        exact h1
      have hPl2 : P.length ≤ 1000 := by
        have : ([] : List UInt8).length = 0 := rfl
        omega
      have hk3 : ∀ V : World, (Op.stringOp .add ⟨#[48, 48, 48, 48, 48, 48]⟩ (lsB P)).run Tryd.prog V = .ok (.string (lsB (Z6 ++ P))) V := fun V => by
        have h1 := cat_run (lsB Z6) (lsB P) (by rw [ls_size, ls_size]; have : Z6.length = 6 := rfl; omega) V
        rw [ls_add] at h1
        exact h1
      have hLn : numL (Z6 ++ P) = numL P := by
        rw [numL_append]
        have : numL Z6 = 0 := rfl
        rw [this, Nat.zero_mul, Nat.zero_add]
      have hLi : allIs (Z6 ++ P) := fun c hc => by
        rcases List.mem_append.1 hc with hc | hc
        · have : ∀ c ∈ Z6, isD c := by unfold isD; decide
          exact this c hc
        · exact hPi c hc
      have hLl : (Z6 ++ P).length = 6 + P.length := by rw [List.length_append]; rfl
      obtain ⟨L, hL⟩ : ∃ L, Z6 ++ P = L := ⟨_, rfl⟩
      rw [hL] at hk3 hLn hLi hLl
      clear hL
      have hcn := cut_num L k (by omega) hLi
      obtain ⟨c, hc⟩ : ∃ c, L.length - k = c := ⟨_, rfl⟩
      rw [hc] at hcn
      have hLs := ls_size L
      have hcut : lsB L = lsB (L.take c) ++ lsB (L.drop c) := by rw [ls_add, List.take_append_drop]
      have htl : (L.take c).length = c := by rw [List.length_take]; omega
      have e7 := ls_ext (L.take c) (lsB (L.drop c))
      have e8 := ls_pre (L.take c) (lsB (L.drop c))
      rw [← hcut, htl] at e7 e8
      have hZ0 := fun V => zeros_any (L.drop c) (by rw [List.length_drop]; omega) V
      have hV0 := fun V => value_ls (L.take c) (by omega) (fun x hx => hLi x (List.mem_of_mem_take hx)) V
      rw [zB_iff (fun x hx => hLi x (List.mem_of_mem_drop hx)), hcn.2, hLn, hPn] at hZ0
      rw [hcn.1, hLn, hPn] at hV0
      have hsl7 : ∀ V : World, (Instr.slice 9 (.string (lsB L)) (some (.int .i64 (c : Int))) none none).run Tryd.prog V = .ok (.string (lsB (L.drop c))) V := fun V => by
        rw [run_slice_string_from_if V 9 (lsB L) .i64 c Tryd.underlying9, if_pos ⟨by omega, by omega⟩]
        exact congrArg (fun b => Result.ok (Value.string b) V) e7
      have hsl8 : ∀ V : World, (Instr.slice 9 (.string (lsB L)) none (some (.int .i64 (c : Int))) none).run Tryd.prog V = .ok (.string (lsB (L.take c))) V := fun V => by
        rw [run_slice_string_to_if V 9 (lsB L) .i64 c Tryd.underlying9, if_pos ⟨by omega, by omega⟩]
        exact congrArg (fun b => Result.ok (Value.string b) V) e8
      have wc : IntKind.i64.wrap (((lsB L).size : Int) - (k : Int)) = (c : Int) := by rw [show ((lsB L).size : Int) - (k : Int) = (c : Int) by omega]; exact wrap_in (by omega) (by omega)
      unfold amE at hT
      obtain ⟨M, hM⟩ : ∃ M, (numL A * 10 ^ 3 + numL (b3 [])) * U = M := ⟨_, rfl⟩
      have hM2 : (numL A * 1000 + numL (b3 [])) * U = M := hM
      rw [hM] at hZ0 hV0
      rw [hM2] at hT
      obtain ⟨l1, hl1⟩ : ∃ l, L.drop c = l := ⟨_, rfl⟩
      obtain ⟨l2, hl2⟩ : ∃ l, L.take c = l := ⟨_, rfl⟩
      rw [hl1] at hsl7 hZ0
      rw [hl2] at hsl8 hV0
      obtain ⟨l3, hl3⟩ : ∃ l, lsB (A ++ b3 []) = l := ⟨_, rfl⟩
      rw [hl3] at hk2 HP
      obtain ⟨l4, hl4⟩ : ∃ l, lsB (b3 []) = l := ⟨_, rfl⟩
      rw [hl4] at hk2 hsl6
      obtain ⟨l5, hl5⟩ : ∃ l, lsB L = l := ⟨_, rfl⟩
      rw [hl5] at hk3 hsl7 hsl8 wc
      obtain ⟨l6, hl6⟩ : ∃ l, lsB P = l := ⟨_, rfl⟩
      rw [hl6] at hk3 HP
      obtain ⟨l7, hl7⟩ : ∃ l, lsB l1 = l := ⟨_, rfl⟩
      rw [hl7] at hsl7 hZ0
      obtain ⟨l8, hl8⟩ : ∃ l, lsB l2 = l := ⟨_, rfl⟩
      rw [hl8] at hsl8 hV0
      clear hl1 hl2 hl3 hl4 hl5 hl6 hl7 hl8 hM hM2 hcut htl e7 e8 hLs hcn hLl hLi hLn hPl2 hPl hPn hPi hAB hU0 hc
      by_cases hz : M % 10 ^ k = 0
      · rw [if_neg (fun h => h hz)] at hT
        rw [decide_eq_true hz] at hZ0
        have HZ := Lib.hid hZ0
        clear hZ0 hz
        by_cases hbig : 1125899906842624 < M / 10 ^ k
        · rw [if_pos hbig] at hT hV0
          have HV := Lib.hid hV0
          rw [hT]
          clear hT hV0 hbig
          go_enter Tryd.func21, Tryd.ntmps21
          go_wp2_with (first | (go_at_call 24; first | ((with_reducible refine (HD1.out _).mono ?_); rintro e w1 ⟨rfl, hb1⟩; have HX1 := Lib.hid ((HX).out.trans (Below.mono hb1 (HX).out.size))) | ((with_reducible refine (HD2.out _).mono ?_); rintro e w2 ⟨rfl, hb2⟩; have HX2 := Lib.hid ((HX1).out.trans (Below.mono hb2 (HX1).out.size)))) | (go_at_call 32; first | ((with_reducible refine (HU.out _).mono ?_); rintro e w3 ⟨rfl, hb3⟩; have HX3 := Lib.hid ((HX2).out.trans (Below.mono hb3 (HX2).out.size))) | ((with_reducible refine (HU.out _).mono ?_); rintro e w3 ⟨rfl, hb3⟩; have HX3 := Lib.hid ((HX1).out.trans (Below.mono hb3 (HX1).out.size)))))
          have hcH := held_cell
          refine region_below (by kernel_rfl) (by kernel_rfl) ?_
          repeat
            ((with_reducible refine wpQuiet_step (fun K hK => ?_))
             go_simp
             first
               | ((with_reducible refine hK _ ?_); clear hK K)
               | (apply Exists.intro
                  (with_reducible refine ⟨fun n => ?_, hK _ ?_⟩)
                  ((go_at_call 33; exact held_calls (HP.out _)))
                  clear hK K))
          with_reducible refine wpQuiet_nil ?_
          intro w4 hw2
          clear hcH
          obtain ⟨⟨_, hb4⟩, rfl⟩ := hw2
          (try dsimp only)
          obtain ⟨hc4, hf4⟩ := bcell hb4
          have hz4 := hb4.size
          (try simp at hz4)
          have HX4 := Lib.hid (HX3.out.trans (Below.mono hb4 HX3.out.size))
          go_wp2_with (first | (go_at_call 34; ((with_reducible refine (HZ.out _).mono ?_); rintro e w5 ⟨rfl, hb5⟩; have HX5 := Lib.hid ((HX4).out.trans (Below.mono hb5 (HX4).out.size)))) | (go_at_call 25; ((with_reducible refine (HV.out _).mono ?_); rintro e w6 ⟨rfl, hb6⟩; have HX6 := Lib.hid ((HX5).out.trans (Below.mono hb6 (HX5).out.size)))))
          go_ret2
          exact ⟨rfl, by first | exact HX6.out | exact HX5.out⟩
        · rw [if_neg hbig] at hT hV0
          obtain ⟨R, hR⟩ : ∃ R, M / 10 ^ k = R := ⟨_, rfl⟩
          rw [hR] at hT hV0 hbig
          have HV := Lib.hid hV0
          rw [hT]
          have hRi : ¬ (1125899906842624 : Int) < (R : Int) := by omega
          clear hT hV0 hbig hR
          go_enter Tryd.func21, Tryd.ntmps21
          go_wp2_with (first | (go_at_call 24; first | ((with_reducible refine (HD1.out _).mono ?_); rintro e w1 ⟨rfl, hb1⟩; have HX1 := Lib.hid ((HX).out.trans (Below.mono hb1 (HX).out.size))) | ((with_reducible refine (HD2.out _).mono ?_); rintro e w2 ⟨rfl, hb2⟩; have HX2 := Lib.hid ((HX1).out.trans (Below.mono hb2 (HX1).out.size)))) | (go_at_call 32; first | ((with_reducible refine (HU.out _).mono ?_); rintro e w3 ⟨rfl, hb3⟩; have HX3 := Lib.hid ((HX2).out.trans (Below.mono hb3 (HX2).out.size))) | ((with_reducible refine (HU.out _).mono ?_); rintro e w3 ⟨rfl, hb3⟩; have HX3 := Lib.hid ((HX1).out.trans (Below.mono hb3 (HX1).out.size)))))
          have hcH := held_cell
          refine region_below (by kernel_rfl) (by kernel_rfl) ?_
          repeat
            ((with_reducible refine wpQuiet_step (fun K hK => ?_))
             go_simp
             first
               | ((with_reducible refine hK _ ?_); clear hK K)
               | (apply Exists.intro
                  (with_reducible refine ⟨fun n => ?_, hK _ ?_⟩)
                  ((go_at_call 33; exact held_calls (HP.out _)))
                  clear hK K))
          with_reducible refine wpQuiet_nil ?_
          intro w4 hw2
          clear hcH
          obtain ⟨⟨_, hb4⟩, rfl⟩ := hw2
          (try dsimp only)
          obtain ⟨hc4, hf4⟩ := bcell hb4
          have hz4 := hb4.size
          (try simp at hz4)
          have HX4 := Lib.hid (HX3.out.trans (Below.mono hb4 HX3.out.size))
          go_wp2_with (first | (go_at_call 34; ((with_reducible refine (HZ.out _).mono ?_); rintro e w5 ⟨rfl, hb5⟩; have HX5 := Lib.hid ((HX4).out.trans (Below.mono hb5 (HX4).out.size)))) | (go_at_call 25; ((with_reducible refine (HV.out _).mono ?_); rintro e w6 ⟨rfl, hb6⟩; have HX6 := Lib.hid ((HX5).out.trans (Below.mono hb6 (HX5).out.size)))))
          go_ret2
          exact ⟨rfl, by first | exact HX6.out | exact HX5.out⟩
      · rw [if_pos hz] at hT
        rw [decide_eq_false hz] at hZ0
        have HZ := Lib.hid hZ0
        have HV := Lib.hid hV0
        rw [hT]
        clear hZ0 hV0 hz hT
        go_enter Tryd.func21, Tryd.ntmps21
        go_wp2_with (first | (go_at_call 24; first | ((with_reducible refine (HD1.out _).mono ?_); rintro e w1 ⟨rfl, hb1⟩; have HX1 := Lib.hid ((HX).out.trans (Below.mono hb1 (HX).out.size))) | ((with_reducible refine (HD2.out _).mono ?_); rintro e w2 ⟨rfl, hb2⟩; have HX2 := Lib.hid ((HX1).out.trans (Below.mono hb2 (HX1).out.size)))) | (go_at_call 32; first | ((with_reducible refine (HU.out _).mono ?_); rintro e w3 ⟨rfl, hb3⟩; have HX3 := Lib.hid ((HX2).out.trans (Below.mono hb3 (HX2).out.size))) | ((with_reducible refine (HU.out _).mono ?_); rintro e w3 ⟨rfl, hb3⟩; have HX3 := Lib.hid ((HX1).out.trans (Below.mono hb3 (HX1).out.size)))))
        have hcH := held_cell
        refine region_below (by kernel_rfl) (by kernel_rfl) ?_
        repeat
          ((with_reducible refine wpQuiet_step (fun K hK => ?_))
           go_simp
           first
             | ((with_reducible refine hK _ ?_); clear hK K)
             | (apply Exists.intro
                (with_reducible refine ⟨fun n => ?_, hK _ ?_⟩)
                ((go_at_call 33; exact held_calls (HP.out _)))
                clear hK K))
        with_reducible refine wpQuiet_nil ?_
        intro w4 hw2
        clear hcH
        obtain ⟨⟨_, hb4⟩, rfl⟩ := hw2
        (try dsimp only)
        obtain ⟨hc4, hf4⟩ := bcell hb4
        have hz4 := hb4.size
        (try simp at hz4)
        have HX4 := Lib.hid (HX3.out.trans (Below.mono hb4 HX3.out.size))
        go_wp2_with (first | (go_at_call 34; ((with_reducible refine (HZ.out _).mono ?_); rintro e w5 ⟨rfl, hb5⟩; have HX5 := Lib.hid ((HX4).out.trans (Below.mono hb5 (HX4).out.size)))) | (go_at_call 25; ((with_reducible refine (HV.out _).mono ?_); rintro e w6 ⟨rfl, hb6⟩; have HX6 := Lib.hid ((HX5).out.trans (Below.mono hb6 (HX5).out.size)))))
        go_ret2
        exact ⟨rfl, by first | exact HX6.out | exact HX5.out⟩
  have hrp : 0 < r.size := by omega
  have hrpi : (0 : Int) < (r.size : Int) := by omega
  have hx0 := str_ix r 0 hrp
  obtain ⟨p, hp⟩ : ∃ p, (r.get! 0).toNat = p := ⟨_, rfl⟩
  rw [hp] at hx0
  have hx : ∀ w : World, (Instr.index 9 (.string r) (.int .i64 0)).run Tryd.prog w = .ok (.int .u8 (p : Int)) w := hx0
  clear hx0
  by_cases hp46 : p = 46
  · subst hp46
    have hpt := ls_point hrp (UInt8.toNat_inj.1 (by show (r.get! 0).toNat = 46; exact hp))
    obtain ⟨a, ha⟩ : ∃ a, r.extract 1 r.size = a := ⟨_, rfl⟩
    have hsl2 : ∀ V : World, (Instr.slice 9 (.string r) (some (.int .i64 1)) none none).run Tryd.prog V = .ok (.string a) V := fun V => by
      rw [run_slice_string_from_if V 9 r .i64 1 Tryd.underlying9, if_pos ⟨by decide, by omega⟩]
      exact congrArg (fun b => Result.ok (Value.string b) V) ha
    rw [ha] at hpt
    obtain ⟨B, q, heb, hB, hq⟩ := split_digits a
    have hra : r.size = 1 + a.size := by rw [hpt, ByteArray.size_append, ls_size]; rfl
    have D2 := fun V => RefQ.digits_any a (by omega) V
    rw [heb, ls_int B hB q hq, ← heb] at D2
    dsimp only at D2
    have hsa : a.size = B.length + q.size := by rw [heb, ByteArray.size_append, ls_size]
    by_cases hb : 1 ≤ B.length ∧ B.length ≤ 3
    · have hT := tail_sc (s := s) hA (p := numL (b3 B)) (by have := numL_lt (b3_is hB); rw [b3_len] at this; exact this) (by rw [he, hpt, heb]; exact haspoint_num hA hB hq (by omega) hb.1 hb.2) scale hsc
      rw [hkk] at hT
      have hr3 : r = lsB ([46] ++ B) ++ q := by rw [hpt, heb, ← ByteArray.append_assoc, ls_add]
      have hl4 : ([46] ++ B : List UInt8).length = 1 + B.length := by rw [List.length_append]; rfl
      have e4 := ls_ext ([46] ++ B) q
      rw [← hr3, hl4] at e4
      have e3 := ls_mid [46] B q
      rw [← heb, ← hpt] at e3
      have hsl3 : ∀ V : World, (Instr.slice 9 (.string r) (some (.int .i64 1)) (some (.int .i64 (1 + (B.length : Int)))) none).run Tryd.prog V = .ok (.string (lsB B)) V := fun V => by
        rw [run_slice_string_if V 9 r .i64 .i64 1 (1 + (B.length : Int)) Tryd.underlying9, if_pos ⟨by omega, by omega⟩, if_pos ⟨by omega, by omega⟩]
        rw [show (1 + (B.length : Int)).toNat = 1 + B.length by omega]
        exact congrArg (fun b => Result.ok (Value.string b) V) e3
      have hsl4 : ∀ V : World, (Instr.slice 9 (.string r) (some (.int .i64 (1 + (B.length : Int)))) none none).run Tryd.prog V = .ok (.string q) V := fun V => by
        rw [run_slice_string_from_if V 9 r .i64 (1 + (B.length : Int)) Tryd.underlying9, if_pos ⟨by omega, by omega⟩]
        rw [show (1 + (B.length : Int)).toNat = 1 + B.length by omega]
        exact congrArg (fun b => Result.ok (Value.string b) V) e4
      have hk1 : ∀ V : World, (Op.stringOp .add (lsB B) ⟨#[48, 48, 48]⟩).run Tryd.prog V = .ok (.string (lsB (B ++ [48, 48, 48]))) V := fun V => by
        have h1 := cat_run (lsB B) (lsB [48, 48, 48]) (by rw [ls_size, ls_size]; have : [(48 : UInt8), 48, 48].length = 3 := rfl; omega) V
        rw [ls_add] at h1
        exact h1
      have hsl6 : ∀ V : World, (Instr.slice 9 (.string (lsB (B ++ [48, 48, 48]))) none (some (.int .i64 3)) none).run Tryd.prog V = .ok (.string (lsB (b3 B))) V := fun V => by
        have hl : (B ++ [(48 : UInt8), 48, 48]).length = B.length + 3 := by rw [List.length_append]; rfl
        have h1 := ls_pre ((B ++ [(48 : UInt8), 48, 48]).take 3) (lsB ((B ++ [(48 : UInt8), 48, 48]).drop 3))
        rw [ls_add, List.take_append_drop, show ((B ++ [(48 : UInt8), 48, 48]).take 3).length = 3 by rw [List.length_take]; omega] at h1
        rw [run_slice_string_to_if V 9 (lsB (B ++ [48, 48, 48])) .i64 3 Tryd.underlying9, if_pos ⟨by decide, by rw [ls_size, hl]; omega⟩]
        exact congrArg (fun b => Result.ok (Value.string b) V) h1
      obtain ⟨b, hbl⟩ : ∃ b, B.length = b := ⟨_, rfl⟩
      simp only [hbl] at D2 hsl3 hsl4
      rw [hbl] at hb
      have wb : IntKind.i64.wrap (1 + (b : Int)) = 1 + (b : Int) := wrap_in (by omega) (by omega)
      obtain ⟨hb1, hb3⟩ := hb
      have hb1i : ¬ (b : Int) < 1 := by omega
      have hb3i : ¬ (3 : Int) < (b : Int) := by omega
      obtain ⟨z1, hz1⟩ : ∃ z, lsB (B ++ [48, 48, 48]) = z := ⟨_, rfl⟩
      rw [hz1] at hk1 hsl6
      obtain ⟨z2, hz2⟩ : ∃ z, lsB B = z := ⟨_, rfl⟩
      rw [hz2] at hk1 hsl3
      obtain ⟨n, hn⟩ : ∃ n, A.length = n := ⟨_, rfl⟩
      rw [hn] at gn
      simp only [hn] at D1 hsl1 hsl5
      have HD1 := Lib.hid D1
      have HD2 := Lib.hid D2
      have Hn := Lib.hid hn
      have Hbl := Lib.hid hbl
      clear D1 D2 hTn he hr hsA hpt ha heb hq hra hsa hr3 hl4 e4 e3 hz1 hz2 hp hr0
      have HU0 : ∀ V : World, Calls Tryd.prog 32 #[.string q] V fun e w' => e = .returned (.int .i64 (uR q : Int)) ∧ Below V.heap.size V w' := fun V => unit_any q V
      have hUb := uR_bd q
      obtain ⟨U, hU⟩ : ∃ U, uR q = U := ⟨_, rfl⟩
      rw [hU] at hT hUb
      simp only [hU] at HU0
      have HU := Lib.hid HU0
      clear HU0 hU
      by_cases hU0 : U = 0
      · rw [if_pos hU0] at hT
        rw [hT]
        have gU : ((U : Int) == 0) = true := by rw [hU0]; rfl
        clear hT hU0
        go_enter Tryd.func21, Tryd.ntmps21
        go_wp2_with (first | (go_at_call 24; first | ((with_reducible refine (HD1.out _).mono ?_); rintro e w1 ⟨rfl, hb1⟩; have HX1 := Lib.hid ((HX).out.trans (Below.mono hb1 (HX).out.size))) | ((with_reducible refine (HD2.out _).mono ?_); rintro e w2 ⟨rfl, hb2⟩; have HX2 := Lib.hid ((HX1).out.trans (Below.mono hb2 (HX1).out.size)))) | (go_at_call 32; first | ((with_reducible refine (HU.out _).mono ?_); rintro e w3 ⟨rfl, hb3⟩; have HX3 := Lib.hid ((HX2).out.trans (Below.mono hb3 (HX2).out.size))) | ((with_reducible refine (HU.out _).mono ?_); rintro e w3 ⟨rfl, hb3⟩; have HX3 := Lib.hid ((HX1).out.trans (Below.mono hb3 (HX1).out.size)))))
        go_ret2
        exact ⟨rfl, by first | exact HX3.out | exact HX2.out | exact HX1.out⟩
      · rw [if_neg hU0] at hT
        have gU : ((U : Int) == 0) = false := by rw [beq_eq_false_iff_ne]; omega
        have hAB : allIs (A ++ b3 B) := fun c hc => (List.mem_append.1 hc).elim (hA c) ((b3_is hB) c)
        have hPi := prodE_is U (A ++ b3 B).reverse 0 [] (fun _ h => by cases h)
        have hPn := prodE_num0 U (A ++ b3 B).reverse
        have hPl := prodE_le U hUb (A ++ b3 B).reverse 0 [] (by decide) (fun c hc => hAB c (List.mem_reverse.1 hc))
        have hP0 := fun V => product_any (A ++ b3 B) hAB (by rw [List.length_append, (b3_len B)]; omega) U hUb V
        rw [List.length_reverse, List.length_append, (b3_len B)] at hPl
        rw [List.reverse_reverse, numL_append, (b3_len B)] at hPn
        obtain ⟨P, hPP⟩ : ∃ P, prodE U (A ++ b3 B).reverse 0 [] = P := ⟨_, rfl⟩
        rw [hPP] at hPi hPn hPl
        simp only [hPP] at hP0
        have HP := Lib.hid hP0
        clear hP0 hPP
        have hk2 : ∀ V : World, (Op.stringOp .add (lsB A) (lsB (b3 B))).run Tryd.prog V = .ok (.string (lsB (A ++ b3 B))) V := fun V => by
          have h1 := cat_run (lsB A) (lsB (b3 B)) (by rw [ls_size, ls_size, (b3_len B)]; omega) V
          rw [ls_add] at h1
          exact h1
        have hPl2 : P.length ≤ 1000 := by
          have : ([] : List UInt8).length = 0 := rfl
          omega
        have hk3 : ∀ V : World, (Op.stringOp .add ⟨#[48, 48, 48, 48, 48, 48]⟩ (lsB P)).run Tryd.prog V = .ok (.string (lsB (Z6 ++ P))) V := fun V => by
          have h1 := cat_run (lsB Z6) (lsB P) (by rw [ls_size, ls_size]; have : Z6.length = 6 := rfl; omega) V
          rw [ls_add] at h1
          exact h1
        have hLn : numL (Z6 ++ P) = numL P := by
          rw [numL_append]
          have : numL Z6 = 0 := rfl
          rw [this, Nat.zero_mul, Nat.zero_add]
        have hLi : allIs (Z6 ++ P) := fun c hc => by
          rcases List.mem_append.1 hc with hc | hc
          · have : ∀ c ∈ Z6, isD c := by unfold isD; decide
            exact this c hc
          · exact hPi c hc
        have hLl : (Z6 ++ P).length = 6 + P.length := by rw [List.length_append]; rfl
        obtain ⟨L, hL⟩ : ∃ L, Z6 ++ P = L := ⟨_, rfl⟩
        rw [hL] at hk3 hLn hLi hLl
        clear hL
        have hcn := cut_num L k (by omega) hLi
        obtain ⟨c, hc⟩ : ∃ c, L.length - k = c := ⟨_, rfl⟩
        rw [hc] at hcn
        have hLs := ls_size L
        have hcut : lsB L = lsB (L.take c) ++ lsB (L.drop c) := by rw [ls_add, List.take_append_drop]
        have htl : (L.take c).length = c := by rw [List.length_take]; omega
        have e7 := ls_ext (L.take c) (lsB (L.drop c))
        have e8 := ls_pre (L.take c) (lsB (L.drop c))
        rw [← hcut, htl] at e7 e8
        have hZ0 := fun V => zeros_any (L.drop c) (by rw [List.length_drop]; omega) V
        have hV0 := fun V => value_ls (L.take c) (by omega) (fun x hx => hLi x (List.mem_of_mem_take hx)) V
        rw [zB_iff (fun x hx => hLi x (List.mem_of_mem_drop hx)), hcn.2, hLn, hPn] at hZ0
        rw [hcn.1, hLn, hPn] at hV0
        have hsl7 : ∀ V : World, (Instr.slice 9 (.string (lsB L)) (some (.int .i64 (c : Int))) none none).run Tryd.prog V = .ok (.string (lsB (L.drop c))) V := fun V => by
          rw [run_slice_string_from_if V 9 (lsB L) .i64 c Tryd.underlying9, if_pos ⟨by omega, by omega⟩]
          exact congrArg (fun b => Result.ok (Value.string b) V) e7
        have hsl8 : ∀ V : World, (Instr.slice 9 (.string (lsB L)) none (some (.int .i64 (c : Int))) none).run Tryd.prog V = .ok (.string (lsB (L.take c))) V := fun V => by
          rw [run_slice_string_to_if V 9 (lsB L) .i64 c Tryd.underlying9, if_pos ⟨by omega, by omega⟩]
          exact congrArg (fun b => Result.ok (Value.string b) V) e8
        have wc : IntKind.i64.wrap (((lsB L).size : Int) - (k : Int)) = (c : Int) := by rw [show ((lsB L).size : Int) - (k : Int) = (c : Int) by omega]; exact wrap_in (by omega) (by omega)
        unfold amE at hT
        obtain ⟨M, hM⟩ : ∃ M, (numL A * 10 ^ 3 + numL (b3 B)) * U = M := ⟨_, rfl⟩
        have hM2 : (numL A * 1000 + numL (b3 B)) * U = M := hM
        rw [hM] at hZ0 hV0
        rw [hM2] at hT
        obtain ⟨l1, hl1⟩ : ∃ l, L.drop c = l := ⟨_, rfl⟩
        obtain ⟨l2, hl2⟩ : ∃ l, L.take c = l := ⟨_, rfl⟩
        rw [hl1] at hsl7 hZ0
        rw [hl2] at hsl8 hV0
        obtain ⟨l3, hl3⟩ : ∃ l, lsB (A ++ b3 B) = l := ⟨_, rfl⟩
        rw [hl3] at hk2 HP
        obtain ⟨l4, hl4⟩ : ∃ l, lsB (b3 B) = l := ⟨_, rfl⟩
        rw [hl4] at hk2 hsl6
        obtain ⟨l5, hl5⟩ : ∃ l, lsB L = l := ⟨_, rfl⟩
        rw [hl5] at hk3 hsl7 hsl8 wc
        obtain ⟨l6, hl6⟩ : ∃ l, lsB P = l := ⟨_, rfl⟩
        rw [hl6] at hk3 HP
        obtain ⟨l7, hl7⟩ : ∃ l, lsB l1 = l := ⟨_, rfl⟩
        rw [hl7] at hsl7 hZ0
        obtain ⟨l8, hl8⟩ : ∃ l, lsB l2 = l := ⟨_, rfl⟩
        rw [hl8] at hsl8 hV0
        clear hl1 hl2 hl3 hl4 hl5 hl6 hl7 hl8 hM hM2 hcut htl e7 e8 hLs hcn hLl hLi hLn hPl2 hPl hPn hPi hAB hU0 hc
        by_cases hz : M % 10 ^ k = 0
        · rw [if_neg (fun h => h hz)] at hT
          rw [decide_eq_true hz] at hZ0
          have HZ := Lib.hid hZ0
          clear hZ0 hz
          by_cases hbig : 1125899906842624 < M / 10 ^ k
          · rw [if_pos hbig] at hT hV0
            have HV := Lib.hid hV0
            rw [hT]
            clear hT hV0 hbig
            go_enter Tryd.func21, Tryd.ntmps21
            go_wp2_with (first | (go_at_call 24; first | ((with_reducible refine (HD1.out _).mono ?_); rintro e w1 ⟨rfl, hb1⟩; have HX1 := Lib.hid ((HX).out.trans (Below.mono hb1 (HX).out.size))) | ((with_reducible refine (HD2.out _).mono ?_); rintro e w2 ⟨rfl, hb2⟩; have HX2 := Lib.hid ((HX1).out.trans (Below.mono hb2 (HX1).out.size)))) | (go_at_call 32; first | ((with_reducible refine (HU.out _).mono ?_); rintro e w3 ⟨rfl, hb3⟩; have HX3 := Lib.hid ((HX2).out.trans (Below.mono hb3 (HX2).out.size))) | ((with_reducible refine (HU.out _).mono ?_); rintro e w3 ⟨rfl, hb3⟩; have HX3 := Lib.hid ((HX1).out.trans (Below.mono hb3 (HX1).out.size)))))
            have hcH := held_cell
            refine region_below (by kernel_rfl) (by kernel_rfl) ?_
            repeat
              ((with_reducible refine wpQuiet_step (fun K hK => ?_))
               go_simp
               first
                 | ((with_reducible refine hK _ ?_); clear hK K)
                 | (apply Exists.intro
                    (with_reducible refine ⟨fun n => ?_, hK _ ?_⟩)
                    ((go_at_call 33; exact held_calls (HP.out _)))
                    clear hK K))
            with_reducible refine wpQuiet_nil ?_
            intro w4 hw2
            clear hcH
            obtain ⟨⟨_, hb4⟩, rfl⟩ := hw2
            (try dsimp only)
            obtain ⟨hc4, hf4⟩ := bcell hb4
            have hz4 := hb4.size
            (try simp at hz4)
            have HX4 := Lib.hid (HX3.out.trans (Below.mono hb4 HX3.out.size))
            go_wp2_with (first | (go_at_call 34; ((with_reducible refine (HZ.out _).mono ?_); rintro e w5 ⟨rfl, hb5⟩; have HX5 := Lib.hid ((HX4).out.trans (Below.mono hb5 (HX4).out.size)))) | (go_at_call 25; ((with_reducible refine (HV.out _).mono ?_); rintro e w6 ⟨rfl, hb6⟩; have HX6 := Lib.hid ((HX5).out.trans (Below.mono hb6 (HX5).out.size)))))
            go_ret2
            exact ⟨rfl, by first | exact HX6.out | exact HX5.out⟩
          · rw [if_neg hbig] at hT hV0
            obtain ⟨R, hR⟩ : ∃ R, M / 10 ^ k = R := ⟨_, rfl⟩
            rw [hR] at hT hV0 hbig
            have HV := Lib.hid hV0
            rw [hT]
            have hRi : ¬ (1125899906842624 : Int) < (R : Int) := by omega
            clear hT hV0 hbig hR
            go_enter Tryd.func21, Tryd.ntmps21
            go_wp2_with (first | (go_at_call 24; first | ((with_reducible refine (HD1.out _).mono ?_); rintro e w1 ⟨rfl, hb1⟩; have HX1 := Lib.hid ((HX).out.trans (Below.mono hb1 (HX).out.size))) | ((with_reducible refine (HD2.out _).mono ?_); rintro e w2 ⟨rfl, hb2⟩; have HX2 := Lib.hid ((HX1).out.trans (Below.mono hb2 (HX1).out.size)))) | (go_at_call 32; first | ((with_reducible refine (HU.out _).mono ?_); rintro e w3 ⟨rfl, hb3⟩; have HX3 := Lib.hid ((HX2).out.trans (Below.mono hb3 (HX2).out.size))) | ((with_reducible refine (HU.out _).mono ?_); rintro e w3 ⟨rfl, hb3⟩; have HX3 := Lib.hid ((HX1).out.trans (Below.mono hb3 (HX1).out.size)))))
            have hcH := held_cell
            refine region_below (by kernel_rfl) (by kernel_rfl) ?_
            repeat
              ((with_reducible refine wpQuiet_step (fun K hK => ?_))
               go_simp
               first
                 | ((with_reducible refine hK _ ?_); clear hK K)
                 | (apply Exists.intro
                    (with_reducible refine ⟨fun n => ?_, hK _ ?_⟩)
                    ((go_at_call 33; exact held_calls (HP.out _)))
                    clear hK K))
            with_reducible refine wpQuiet_nil ?_
            intro w4 hw2
            clear hcH
            obtain ⟨⟨_, hb4⟩, rfl⟩ := hw2
            (try dsimp only)
            obtain ⟨hc4, hf4⟩ := bcell hb4
            have hz4 := hb4.size
            (try simp at hz4)
            have HX4 := Lib.hid (HX3.out.trans (Below.mono hb4 HX3.out.size))
            go_wp2_with (first | (go_at_call 34; ((with_reducible refine (HZ.out _).mono ?_); rintro e w5 ⟨rfl, hb5⟩; have HX5 := Lib.hid ((HX4).out.trans (Below.mono hb5 (HX4).out.size)))) | (go_at_call 25; ((with_reducible refine (HV.out _).mono ?_); rintro e w6 ⟨rfl, hb6⟩; have HX6 := Lib.hid ((HX5).out.trans (Below.mono hb6 (HX5).out.size)))))
            go_ret2
            exact ⟨rfl, by first | exact HX6.out | exact HX5.out⟩
        · rw [if_pos hz] at hT
          rw [decide_eq_false hz] at hZ0
          have HZ := Lib.hid hZ0
          have HV := Lib.hid hV0
          rw [hT]
          clear hZ0 hV0 hz hT
          go_enter Tryd.func21, Tryd.ntmps21
          go_wp2_with (first | (go_at_call 24; first | ((with_reducible refine (HD1.out _).mono ?_); rintro e w1 ⟨rfl, hb1⟩; have HX1 := Lib.hid ((HX).out.trans (Below.mono hb1 (HX).out.size))) | ((with_reducible refine (HD2.out _).mono ?_); rintro e w2 ⟨rfl, hb2⟩; have HX2 := Lib.hid ((HX1).out.trans (Below.mono hb2 (HX1).out.size)))) | (go_at_call 32; first | ((with_reducible refine (HU.out _).mono ?_); rintro e w3 ⟨rfl, hb3⟩; have HX3 := Lib.hid ((HX2).out.trans (Below.mono hb3 (HX2).out.size))) | ((with_reducible refine (HU.out _).mono ?_); rintro e w3 ⟨rfl, hb3⟩; have HX3 := Lib.hid ((HX1).out.trans (Below.mono hb3 (HX1).out.size)))))
          have hcH := held_cell
          refine region_below (by kernel_rfl) (by kernel_rfl) ?_
          repeat
            ((with_reducible refine wpQuiet_step (fun K hK => ?_))
             go_simp
             first
               | ((with_reducible refine hK _ ?_); clear hK K)
               | (apply Exists.intro
                  (with_reducible refine ⟨fun n => ?_, hK _ ?_⟩)
                  ((go_at_call 33; exact held_calls (HP.out _)))
                  clear hK K))
          with_reducible refine wpQuiet_nil ?_
          intro w4 hw2
          clear hcH
          obtain ⟨⟨_, hb4⟩, rfl⟩ := hw2
          (try dsimp only)
          obtain ⟨hc4, hf4⟩ := bcell hb4
          have hz4 := hb4.size
          (try simp at hz4)
          have HX4 := Lib.hid (HX3.out.trans (Below.mono hb4 HX3.out.size))
          go_wp2_with (first | (go_at_call 34; ((with_reducible refine (HZ.out _).mono ?_); rintro e w5 ⟨rfl, hb5⟩; have HX5 := Lib.hid ((HX4).out.trans (Below.mono hb5 (HX4).out.size)))) | (go_at_call 25; ((with_reducible refine (HV.out _).mono ?_); rintro e w6 ⟨rfl, hb6⟩; have HX6 := Lib.hid ((HX5).out.trans (Below.mono hb6 (HX5).out.size)))))
          go_ret2
          exact ⟨rfl, by first | exact HX6.out | exact HX5.out⟩
    · have hsv : scV s scale = (0, 8) := by rw [he, hpt, heb]; exact badpoint_sc hA hB hq hb scale
      rw [hsv]
      obtain ⟨b, hbl⟩ : ∃ b, B.length = b := ⟨_, rfl⟩
      simp only [hbl] at D2
      rw [hbl] at hb
      obtain ⟨n, hn⟩ : ∃ n, A.length = n := ⟨_, rfl⟩
      rw [hn] at gn
      simp only [hn] at D1 hsl1
      have HD1 := Lib.hid D1
      have HD2 := Lib.hid D2
      clear D1 D2 hTn he hr hsA hpt ha heb hq hra hsa hp hr0 hsv hsl5 hbl hn
      by_cases hb1 : (b : Int) < 1
      · clear hb
        go_enter Tryd.func21, Tryd.ntmps21
        go_wp2_with (first | (go_at_call 24; first | ((with_reducible refine (HD1.out _).mono ?_); rintro e w1 ⟨rfl, hb1⟩; have HX1 := Lib.hid ((HX).out.trans (Below.mono hb1 (HX).out.size))) | ((with_reducible refine (HD2.out _).mono ?_); rintro e w2 ⟨rfl, hb2⟩; have HX2 := Lib.hid ((HX1).out.trans (Below.mono hb2 (HX1).out.size)))) | (go_at_call 32; first | ((with_reducible refine (HU.out _).mono ?_); rintro e w3 ⟨rfl, hb3⟩; have HX3 := Lib.hid ((HX2).out.trans (Below.mono hb3 (HX2).out.size))) | ((with_reducible refine (HU.out _).mono ?_); rintro e w3 ⟨rfl, hb3⟩; have HX3 := Lib.hid ((HX1).out.trans (Below.mono hb3 (HX1).out.size)))))
        go_ret2
        exact ⟨rfl, by first | exact HX3.out | exact HX2.out | exact HX1.out⟩
      · have hb3 : (3 : Int) < (b : Int) := by omega
        clear hb
        go_enter Tryd.func21, Tryd.ntmps21
        go_wp2_with (first | (go_at_call 24; first | ((with_reducible refine (HD1.out _).mono ?_); rintro e w1 ⟨rfl, hb1⟩; have HX1 := Lib.hid ((HX).out.trans (Below.mono hb1 (HX).out.size))) | ((with_reducible refine (HD2.out _).mono ?_); rintro e w2 ⟨rfl, hb2⟩; have HX2 := Lib.hid ((HX1).out.trans (Below.mono hb2 (HX1).out.size)))) | (go_at_call 32; first | ((with_reducible refine (HU.out _).mono ?_); rintro e w3 ⟨rfl, hb3⟩; have HX3 := Lib.hid ((HX2).out.trans (Below.mono hb3 (HX2).out.size))) | ((with_reducible refine (HU.out _).mono ?_); rintro e w3 ⟨rfl, hb3⟩; have HX3 := Lib.hid ((HX1).out.trans (Below.mono hb3 (HX1).out.size)))))
        go_ret2
        exact ⟨rfl, by first | exact HX3.out | exact HX2.out | exact HX1.out⟩
  · have hT := hTn (by omega) (.inr (by rw [hp]; exact hp46))
    have hsl6 : ∀ V : World, (Instr.slice 9 (.string ⟨#[48, 48, 48]⟩) none (some (.int .i64 3)) none).run Tryd.prog V = .ok (.string (lsB (b3 []))) V := fun V => by
      rw [run_slice_string_to_if V 9 ⟨#[48, 48, 48]⟩ .i64 3 Tryd.underlying9, if_pos ⟨by decide, by decide⟩]
      rfl
    have hk1 : ∀ V : World, (Op.stringOp .add ⟨#[]⟩ ⟨#[48, 48, 48]⟩).run Tryd.prog V = .ok (.string ⟨#[48, 48, 48]⟩) V := fun V => cat_run ⟨#[]⟩ ⟨#[48, 48, 48]⟩ (by decide) V
    have gp : ((p : Int) == 46) = false := by rw [beq_eq_false_iff_ne]; omega
    obtain ⟨n, hn⟩ : ∃ n, A.length = n := ⟨_, rfl⟩
    rw [hn] at gn
    simp only [hn] at D1 hsl1 hsl5
    have HD1 := Lib.hid D1
    have Hn := Lib.hid hn
    clear D1 hTn he hr hsA hp hp46 hr0
    have HU0 : ∀ V : World, Calls Tryd.prog 32 #[.string r] V fun e w' => e = .returned (.int .i64 (uR r : Int)) ∧ Below V.heap.size V w' := fun V => unit_any r V
    have hUb := uR_bd r
    obtain ⟨U, hU⟩ : ∃ U, uR r = U := ⟨_, rfl⟩
    rw [hU] at hT hUb
    simp only [hU] at HU0
    have HU := Lib.hid HU0
    clear HU0 hU
    by_cases hU0 : U = 0
    · rw [if_pos hU0] at hT
      rw [hT]
      have gU : ((U : Int) == 0) = true := by rw [hU0]; rfl
      clear hT hU0
      go_enter Tryd.func21, Tryd.ntmps21
      go_wp2_with (first | (go_at_call 24; first | ((with_reducible refine (HD1.out _).mono ?_); rintro e w1 ⟨rfl, hb1⟩; have HX1 := Lib.hid ((HX).out.trans (Below.mono hb1 (HX).out.size))) | ((with_reducible refine (HD2.out _).mono ?_); rintro e w2 ⟨rfl, hb2⟩; have HX2 := Lib.hid ((HX1).out.trans (Below.mono hb2 (HX1).out.size)))) | (go_at_call 32; first | ((with_reducible refine (HU.out _).mono ?_); rintro e w3 ⟨rfl, hb3⟩; have HX3 := Lib.hid ((HX2).out.trans (Below.mono hb3 (HX2).out.size))) | ((with_reducible refine (HU.out _).mono ?_); rintro e w3 ⟨rfl, hb3⟩; have HX3 := Lib.hid ((HX1).out.trans (Below.mono hb3 (HX1).out.size)))))
      go_ret2
      exact ⟨rfl, by first | exact HX3.out | exact HX2.out | exact HX1.out⟩
    · rw [if_neg hU0] at hT
      have gU : ((U : Int) == 0) = false := by rw [beq_eq_false_iff_ne]; omega
      have hAB : allIs (A ++ b3 []) := fun c hc => (List.mem_append.1 hc).elim (hA c) ((b3_is (B := []) (fun _ h => by cases h)) c)
      have hPi := prodE_is U (A ++ b3 []).reverse 0 [] (fun _ h => by cases h)
      have hPn := prodE_num0 U (A ++ b3 []).reverse
      have hPl := prodE_le U hUb (A ++ b3 []).reverse 0 [] (by decide) (fun c hc => hAB c (List.mem_reverse.1 hc))
      have hP0 := fun V => product_any (A ++ b3 []) hAB (by rw [List.length_append, (b3_len [])]; omega) U hUb V
      rw [List.length_reverse, List.length_append, (b3_len [])] at hPl
      rw [List.reverse_reverse, numL_append, (b3_len [])] at hPn
      obtain ⟨P, hPP⟩ : ∃ P, prodE U (A ++ b3 []).reverse 0 [] = P := ⟨_, rfl⟩
      rw [hPP] at hPi hPn hPl
      simp only [hPP] at hP0
      have HP := Lib.hid hP0
      clear hP0 hPP
      have hk2 : ∀ V : World, (Op.stringOp .add (lsB A) (lsB (b3 []))).run Tryd.prog V = .ok (.string (lsB (A ++ b3 []))) V := fun V => by
        have h1 := cat_run (lsB A) (lsB (b3 [])) (by rw [ls_size, ls_size, (b3_len [])]; omega) V
        rw [ls_add] at h1
        exact h1
      have hPl2 : P.length ≤ 1000 := by
        have : ([] : List UInt8).length = 0 := rfl
        omega
      have hk3 : ∀ V : World, (Op.stringOp .add ⟨#[48, 48, 48, 48, 48, 48]⟩ (lsB P)).run Tryd.prog V = .ok (.string (lsB (Z6 ++ P))) V := fun V => by
        have h1 := cat_run (lsB Z6) (lsB P) (by rw [ls_size, ls_size]; have : Z6.length = 6 := rfl; omega) V
        rw [ls_add] at h1
        exact h1
      have hLn : numL (Z6 ++ P) = numL P := by
        rw [numL_append]
        have : numL Z6 = 0 := rfl
        rw [this, Nat.zero_mul, Nat.zero_add]
      have hLi : allIs (Z6 ++ P) := fun c hc => by
        rcases List.mem_append.1 hc with hc | hc
        · have : ∀ c ∈ Z6, isD c := by unfold isD; decide
          exact this c hc
        · exact hPi c hc
      have hLl : (Z6 ++ P).length = 6 + P.length := by rw [List.length_append]; rfl
      obtain ⟨L, hL⟩ : ∃ L, Z6 ++ P = L := ⟨_, rfl⟩
      rw [hL] at hk3 hLn hLi hLl
      clear hL
      have hcn := cut_num L k (by omega) hLi
      obtain ⟨c, hc⟩ : ∃ c, L.length - k = c := ⟨_, rfl⟩
      rw [hc] at hcn
      have hLs := ls_size L
      have hcut : lsB L = lsB (L.take c) ++ lsB (L.drop c) := by rw [ls_add, List.take_append_drop]
      have htl : (L.take c).length = c := by rw [List.length_take]; omega
      have e7 := ls_ext (L.take c) (lsB (L.drop c))
      have e8 := ls_pre (L.take c) (lsB (L.drop c))
      rw [← hcut, htl] at e7 e8
      have hZ0 := fun V => zeros_any (L.drop c) (by rw [List.length_drop]; omega) V
      have hV0 := fun V => value_ls (L.take c) (by omega) (fun x hx => hLi x (List.mem_of_mem_take hx)) V
      rw [zB_iff (fun x hx => hLi x (List.mem_of_mem_drop hx)), hcn.2, hLn, hPn] at hZ0
      rw [hcn.1, hLn, hPn] at hV0
      have hsl7 : ∀ V : World, (Instr.slice 9 (.string (lsB L)) (some (.int .i64 (c : Int))) none none).run Tryd.prog V = .ok (.string (lsB (L.drop c))) V := fun V => by
        rw [run_slice_string_from_if V 9 (lsB L) .i64 c Tryd.underlying9, if_pos ⟨by omega, by omega⟩]
        exact congrArg (fun b => Result.ok (Value.string b) V) e7
      have hsl8 : ∀ V : World, (Instr.slice 9 (.string (lsB L)) none (some (.int .i64 (c : Int))) none).run Tryd.prog V = .ok (.string (lsB (L.take c))) V := fun V => by
        rw [run_slice_string_to_if V 9 (lsB L) .i64 c Tryd.underlying9, if_pos ⟨by omega, by omega⟩]
        exact congrArg (fun b => Result.ok (Value.string b) V) e8
      have wc : IntKind.i64.wrap (((lsB L).size : Int) - (k : Int)) = (c : Int) := by rw [show ((lsB L).size : Int) - (k : Int) = (c : Int) by omega]; exact wrap_in (by omega) (by omega)
      unfold amE at hT
      obtain ⟨M, hM⟩ : ∃ M, (numL A * 10 ^ 3 + numL (b3 [])) * U = M := ⟨_, rfl⟩
      have hM2 : (numL A * 1000 + numL (b3 [])) * U = M := hM
      rw [hM] at hZ0 hV0
      rw [hM2] at hT
      obtain ⟨l1, hl1⟩ : ∃ l, L.drop c = l := ⟨_, rfl⟩
      obtain ⟨l2, hl2⟩ : ∃ l, L.take c = l := ⟨_, rfl⟩
      rw [hl1] at hsl7 hZ0
      rw [hl2] at hsl8 hV0
      obtain ⟨l3, hl3⟩ : ∃ l, lsB (A ++ b3 []) = l := ⟨_, rfl⟩
      rw [hl3] at hk2 HP
      obtain ⟨l4, hl4⟩ : ∃ l, lsB (b3 []) = l := ⟨_, rfl⟩
      rw [hl4] at hk2 hsl6
      obtain ⟨l5, hl5⟩ : ∃ l, lsB L = l := ⟨_, rfl⟩
      rw [hl5] at hk3 hsl7 hsl8 wc
      obtain ⟨l6, hl6⟩ : ∃ l, lsB P = l := ⟨_, rfl⟩
      rw [hl6] at hk3 HP
      obtain ⟨l7, hl7⟩ : ∃ l, lsB l1 = l := ⟨_, rfl⟩
      rw [hl7] at hsl7 hZ0
      obtain ⟨l8, hl8⟩ : ∃ l, lsB l2 = l := ⟨_, rfl⟩
      rw [hl8] at hsl8 hV0
      clear hl1 hl2 hl3 hl4 hl5 hl6 hl7 hl8 hM hM2 hcut htl e7 e8 hLs hcn hLl hLi hLn hPl2 hPl hPn hPi hAB hU0 hc
      by_cases hz : M % 10 ^ k = 0
      · rw [if_neg (fun h => h hz)] at hT
        rw [decide_eq_true hz] at hZ0
        have HZ := Lib.hid hZ0
        clear hZ0 hz
        by_cases hbig : 1125899906842624 < M / 10 ^ k
        · rw [if_pos hbig] at hT hV0
          have HV := Lib.hid hV0
          rw [hT]
          clear hT hV0 hbig
          go_enter Tryd.func21, Tryd.ntmps21
          go_wp2_with (first | (go_at_call 24; first | ((with_reducible refine (HD1.out _).mono ?_); rintro e w1 ⟨rfl, hb1⟩; have HX1 := Lib.hid ((HX).out.trans (Below.mono hb1 (HX).out.size))) | ((with_reducible refine (HD2.out _).mono ?_); rintro e w2 ⟨rfl, hb2⟩; have HX2 := Lib.hid ((HX1).out.trans (Below.mono hb2 (HX1).out.size)))) | (go_at_call 32; first | ((with_reducible refine (HU.out _).mono ?_); rintro e w3 ⟨rfl, hb3⟩; have HX3 := Lib.hid ((HX2).out.trans (Below.mono hb3 (HX2).out.size))) | ((with_reducible refine (HU.out _).mono ?_); rintro e w3 ⟨rfl, hb3⟩; have HX3 := Lib.hid ((HX1).out.trans (Below.mono hb3 (HX1).out.size)))))
          have hcH := held_cell
          refine region_below (by kernel_rfl) (by kernel_rfl) ?_
          repeat
            ((with_reducible refine wpQuiet_step (fun K hK => ?_))
             go_simp
             first
               | ((with_reducible refine hK _ ?_); clear hK K)
               | (apply Exists.intro
                  (with_reducible refine ⟨fun n => ?_, hK _ ?_⟩)
                  ((go_at_call 33; exact held_calls (HP.out _)))
                  clear hK K))
          with_reducible refine wpQuiet_nil ?_
          intro w4 hw2
          clear hcH
          obtain ⟨⟨_, hb4⟩, rfl⟩ := hw2
          (try dsimp only)
          obtain ⟨hc4, hf4⟩ := bcell hb4
          have hz4 := hb4.size
          (try simp at hz4)
          have HX4 := Lib.hid (HX3.out.trans (Below.mono hb4 HX3.out.size))
          go_wp2_with (first | (go_at_call 34; ((with_reducible refine (HZ.out _).mono ?_); rintro e w5 ⟨rfl, hb5⟩; have HX5 := Lib.hid ((HX4).out.trans (Below.mono hb5 (HX4).out.size)))) | (go_at_call 25; ((with_reducible refine (HV.out _).mono ?_); rintro e w6 ⟨rfl, hb6⟩; have HX6 := Lib.hid ((HX5).out.trans (Below.mono hb6 (HX5).out.size)))))
          go_ret2
          exact ⟨rfl, by first | exact HX6.out | exact HX5.out⟩
        · rw [if_neg hbig] at hT hV0
          obtain ⟨R, hR⟩ : ∃ R, M / 10 ^ k = R := ⟨_, rfl⟩
          rw [hR] at hT hV0 hbig
          have HV := Lib.hid hV0
          rw [hT]
          have hRi : ¬ (1125899906842624 : Int) < (R : Int) := by omega
          clear hT hV0 hbig hR
          go_enter Tryd.func21, Tryd.ntmps21
          go_wp2_with (first | (go_at_call 24; first | ((with_reducible refine (HD1.out _).mono ?_); rintro e w1 ⟨rfl, hb1⟩; have HX1 := Lib.hid ((HX).out.trans (Below.mono hb1 (HX).out.size))) | ((with_reducible refine (HD2.out _).mono ?_); rintro e w2 ⟨rfl, hb2⟩; have HX2 := Lib.hid ((HX1).out.trans (Below.mono hb2 (HX1).out.size)))) | (go_at_call 32; first | ((with_reducible refine (HU.out _).mono ?_); rintro e w3 ⟨rfl, hb3⟩; have HX3 := Lib.hid ((HX2).out.trans (Below.mono hb3 (HX2).out.size))) | ((with_reducible refine (HU.out _).mono ?_); rintro e w3 ⟨rfl, hb3⟩; have HX3 := Lib.hid ((HX1).out.trans (Below.mono hb3 (HX1).out.size)))))
          have hcH := held_cell
          refine region_below (by kernel_rfl) (by kernel_rfl) ?_
          repeat
            ((with_reducible refine wpQuiet_step (fun K hK => ?_))
             go_simp
             first
               | ((with_reducible refine hK _ ?_); clear hK K)
               | (apply Exists.intro
                  (with_reducible refine ⟨fun n => ?_, hK _ ?_⟩)
                  ((go_at_call 33; exact held_calls (HP.out _)))
                  clear hK K))
          with_reducible refine wpQuiet_nil ?_
          intro w4 hw2
          clear hcH
          obtain ⟨⟨_, hb4⟩, rfl⟩ := hw2
          (try dsimp only)
          obtain ⟨hc4, hf4⟩ := bcell hb4
          have hz4 := hb4.size
          (try simp at hz4)
          have HX4 := Lib.hid (HX3.out.trans (Below.mono hb4 HX3.out.size))
          go_wp2_with (first | (go_at_call 34; ((with_reducible refine (HZ.out _).mono ?_); rintro e w5 ⟨rfl, hb5⟩; have HX5 := Lib.hid ((HX4).out.trans (Below.mono hb5 (HX4).out.size)))) | (go_at_call 25; ((with_reducible refine (HV.out _).mono ?_); rintro e w6 ⟨rfl, hb6⟩; have HX6 := Lib.hid ((HX5).out.trans (Below.mono hb6 (HX5).out.size)))))
          go_ret2
          exact ⟨rfl, by first | exact HX6.out | exact HX5.out⟩
      · rw [if_pos hz] at hT
        rw [decide_eq_false hz] at hZ0
        have HZ := Lib.hid hZ0
        have HV := Lib.hid hV0
        rw [hT]
        clear hZ0 hV0 hz hT
        go_enter Tryd.func21, Tryd.ntmps21
        go_wp2_with (first | (go_at_call 24; first | ((with_reducible refine (HD1.out _).mono ?_); rintro e w1 ⟨rfl, hb1⟩; have HX1 := Lib.hid ((HX).out.trans (Below.mono hb1 (HX).out.size))) | ((with_reducible refine (HD2.out _).mono ?_); rintro e w2 ⟨rfl, hb2⟩; have HX2 := Lib.hid ((HX1).out.trans (Below.mono hb2 (HX1).out.size)))) | (go_at_call 32; first | ((with_reducible refine (HU.out _).mono ?_); rintro e w3 ⟨rfl, hb3⟩; have HX3 := Lib.hid ((HX2).out.trans (Below.mono hb3 (HX2).out.size))) | ((with_reducible refine (HU.out _).mono ?_); rintro e w3 ⟨rfl, hb3⟩; have HX3 := Lib.hid ((HX1).out.trans (Below.mono hb3 (HX1).out.size)))))
        have hcH := held_cell
        refine region_below (by kernel_rfl) (by kernel_rfl) ?_
        repeat
          ((with_reducible refine wpQuiet_step (fun K hK => ?_))
           go_simp
           first
             | ((with_reducible refine hK _ ?_); clear hK K)
             | (apply Exists.intro
                (with_reducible refine ⟨fun n => ?_, hK _ ?_⟩)
                ((go_at_call 33; exact held_calls (HP.out _)))
                clear hK K))
        with_reducible refine wpQuiet_nil ?_
        intro w4 hw2
        clear hcH
        obtain ⟨⟨_, hb4⟩, rfl⟩ := hw2
        (try dsimp only)
        obtain ⟨hc4, hf4⟩ := bcell hb4
        have hz4 := hb4.size
        (try simp at hz4)
        have HX4 := Lib.hid (HX3.out.trans (Below.mono hb4 HX3.out.size))
        go_wp2_with (first | (go_at_call 34; ((with_reducible refine (HZ.out _).mono ?_); rintro e w5 ⟨rfl, hb5⟩; have HX5 := Lib.hid ((HX4).out.trans (Below.mono hb5 (HX4).out.size)))) | (go_at_call 25; ((with_reducible refine (HV.out _).mono ?_); rintro e w6 ⟨rfl, hb6⟩; have HX6 := Lib.hid ((HX5).out.trans (Below.mono hb6 (HX5).out.size)))))
        go_ret2
        exact ⟨rfl, by first | exact HX6.out | exact HX5.out⟩
end Go.Proofs.YtpajpijkldjmfaaDoor
