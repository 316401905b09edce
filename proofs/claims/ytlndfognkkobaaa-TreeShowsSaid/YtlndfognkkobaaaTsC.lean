/-
  A tree as text: the document's way.
-/
import Derived.Test.YtlndfognkkobaaaTsB
import Derived.Test.YtlndfognkkobaaaLexJ
import Derived.Test.YtlndfognkkobaaaTrT
namespace Go.Proofs.Ytlndfognkkobaaa
open Go.RowKit
set_option linter.unusedVariables false
set_option linter.unusedSimpArgs false

theorem toB_app (a b : List UInt8) : toB (a ++ b) = toB a ++ toB b := by
  refine bytes_inj ?_
  rw [toB_list, ByteArray.toList_eq, ByteArray.data_append, Array.toList_append]
  rfl
theorem toB_size (l : List UInt8) : (toB l).size = l.length := by rw [← toList_len, toB_list]
theorem str_add (a b : List UInt8) (h : a.length + b.length ≤ 1000000000) (V : World) : (Op.stringOp .add (toB a) (toB b)).run Try.prog V = .ok (.string (toB (a ++ b))) V := by
  rw [toB_app]
  exact run_string_add_sum V _ _ (by rw [toB_size, toB_size]; omega)
def RsAt (n : Nat) : Prop := ∀ (a : Option Addr) (ka : Nat) (l P : List Nd) (x : Nd) (k : Fo) (rest : List Nd) (w : World), k.flat.length < n → NdL w a l → l.length ≤ 1000 → (∀ y ∈ l, y.tx.size ≤ 300) → l = P ++ ((Fo.cons x k .nil).flat ++ rest) → (Fo.cons x k .nil).Wf → (Fo.cons x k .nil).Good →
  Calls Try.prog 31 #[.slice a l.length ka, .int .i64 (P.length : Int)] w fun e w' => e = .returned (.string (toB (showT x (showL false k)))) ∧ Below w.heap.size w w'
set_option maxRecDepth 100000 in
set_option maxHeartbeats 4000000 in
theorem rshow_any : ∀ n : Nat, RsAt n := by
  intro n
  induction n with
  | zero => intro a ka l P x k rest w h; exact absurd h (Nat.not_lt_zero _)
  | succ n ih =>
    intro a ka l P x k rest w hk hF hl htx h hw hg
    obtain ⟨h2, hP1, hx, hlen⟩ := kids_in h
    have hxt := htx x (List.mem_of_getElem? hx)
    have HIH := Lib.hid (fun (Q : List Nd) (y : Nd) (c : Fo) (r' : List Nd) (V : World) (hc : c.flat.length < n) (hV : NdL V a l) (he : l = Q ++ ((Fo.cons y c .nil).flat ++ r')) (hy : (Fo.cons y c .nil).Wf) (hg : (Fo.cons y c .nil).Good) => ih a ka l Q y c r' V hc hV hl htx he hy hg)
    have HK := Lib.hid (fun V hV => rkids_yes a ka l P x k rest V hV hl h hw)
    have hkl := flat_len k
    have hkx : ∀ y ∈ k.flat, y.tx.size ≤ 300 := fun y hy => htx y (by rw [h2]; exact List.mem_append_right _ (List.mem_append_left _ hy))
    have hsz : (showL false k).length ≤ 1000000 := by
      have := (shown_any 300 k false hkx).1
      have h9 : k.flat.length * (2 * 300 + 5) ≤ 1000 * (2 * 300 + 5) := Nat.mul_le_mul_right _ (by omega)
      omega
    rcases hg.1 with ⟨g1, g2⟩ | ⟨⟨g1, g2⟩ | ⟨g1, g2⟩, rfl⟩
    · have hR : showT x (showL false k) = 40 :: (showL false k ++ [41]) := by unfold showT; rw [if_neg (by omega), if_neg (by omega), if_pos g1]
      rw [hR]
      obtain ⟨S, hS⟩ : ∃ S, showL false k = S := ⟨_, rfl⟩
      rw [hS] at hsz ⊢
      have HS := Lib.hid (show ∃ (g : Fo) (Q : List Nd) (D : List UInt8), (0 : Nat) + g.len = k.len ∧ D = [] ∧ D ++ showL (decide (0 < 0)) g = S ∧ l = Q ++ (g.flat ++ rest) ∧ g.Wf ∧ g.Good ∧ g.flat.length ≤ k.flat.length ∧ (placesF (P.length + 1) k).drop 0 = placesF Q.length g from ⟨k, P ++ [x], [], Nat.zero_add _, rfl, hS, h2, hw.2.1, hg.2.1, Nat.le_refl _, by rw [hP1]; rfl⟩)
      have hLl := places_len k (P.length + 1)
      obtain ⟨L, hLe⟩ : ∃ L, placesF (P.length + 1) k = L := ⟨_, rfl⟩
      rw [hLe] at HK HS hLl
      obtain ⟨p, hp⟩ : ∃ p, P.length = p := ⟨_, rfl⟩
      rw [hp] at HK hlen hx ⊢
      obtain ⟨b, o, rfl, hb, hc⟩ := hF (by omega)
      have HF := Lib.hid hF
      obtain ⟨c0, _, _, _⟩ := nd_cells (hc p x hx)
      rw [g1] at c0
      obtain ⟨m, hm⟩ : ∃ m, k.len = m := ⟨_, rfl⟩
      obtain ⟨kf, hkf⟩ : ∃ kf, k.flat.length = kf := ⟨_, rfl⟩
      rw [hm] at HS hLl hkl
      rw [hkf] at HS hkl hk hlen
      have hpl : p < l.length := by omega
      have hm9 : m ≤ 1000 := by omega
      have HLl := Lib.hid hLl
      have HKf := Lib.hid hk
      have cEnd := fun V => str_add (40 :: S) [41] (by rw [List.length_cons]; show S.length + 1 + 1 ≤ _; omega) V
      have HEnd := Lib.hid cEnd
      clear h h2 hP1 hx hlen hF hw hkl hLl hLe hp hc hm hkf ih hR hk hg g1 g2 hS htx hxt hkx cEnd
      go_enter Try.func31, Try.ntmps31
      go_wp2_with (go_at_call 17; (with_reducible refine (HK.out _ HF.out).mono ?_); rintro e w1 ⟨⟨v, rfl, ho⟩, hb1⟩; obtain ⟨a1, k1, rfl, _, hI⟩ := own_ints ho; rw [HLl.out]; have HI := Lib.hid hI; have HB1 := Lib.hid hb1; have HF1 := Lib.hid (HF.out.mono hb1); have hz1 := hb1.size; clear ho hb1 hI)
      go_loopw [5, 7] (fun vs vj wr => ∃ (g : Fo) (Q : List Nd) (D : List UInt8) (j : Nat), vj = .int .i64 (j : Int) ∧ vs = .string (toB (40 :: D)) ∧ j + g.len = m ∧ D ++ showL (decide (0 < j)) g = S ∧ l = Q ++ (g.flat ++ rest) ∧ g.Wf ∧ g.Good ∧ g.flat.length ≤ kf ∧ L.drop j = placesF Q.length g ∧ Below w1.heap.size w1 wr) (fun _ vj _ => m - (intOf vj).toNat)
      case atStart =>
        obtain ⟨g, Q, D, s1, rfl, s2, s3, s4, s7, s5, s6⟩ := HS.out
        exact ⟨g, Q, [], 0, rfl, rfl, s1, s2, s3, s4, s7, s5, s6, Below.refl _ _⟩
      case round =>
        clear HS
        obtain ⟨g, Q, D, j, rfl, rfl, s1, s2, s3, s4, s7, s5, s6, hB⟩ := hrel
        have HB := Lib.hid hB
        have hbz := hB.size
        have HB9 := Lib.hid (HB1.out.trans (hB.mono hz1))
        cases g with
        | nil =>
          have hjm : j = m := s1
          have s2 : D ++ [] = S := s2
          rw [List.append_nil] at s2
          subst hjm
          subst s2
          have cE := HEnd.out
          obtain ⟨z, hz⟩ : ∃ z, toB (40 :: D) = z := ⟨_, rfl⟩
          obtain ⟨z2, hz2⟩ : ∃ z2, toB (40 :: D ++ [41]) = z2 := ⟨_, rfl⟩
          rw [hz, hz2] at cE
          have cE : ∀ V : World, (Op.stringOp .add z ⟨#[41]⟩).run Try.prog V = .ok (.string z2) V := cE
          have HZ2 := Lib.hid (show z2 = toB (40 :: (D ++ [41])) from hz2.symm)
          rw [hz]
          clear s1 s3 s4 s5 s6 s7 hB hz hz2 HEnd
          go_wp2
          refine bodyPost_ret (v := .string z2) (by simp [results, Try.results31, go_sem]) rfl ⟨by rw [HZ2.out], HB9.out⟩
        | cons y c r =>
          have t1 : j + (r.len + 1) = m := s1
          rw [flat_cons] at s5
          obtain ⟨p1, p2, p3⟩ := places_step s6
          obtain ⟨q1, q2⟩ := tree_step s3
          have Hq1 := Lib.hid q1
          have HR := Lib.hid s4.2.2
          have HG := Lib.hid s7.2.2
          have HP2 := Lib.hid p2
          have hkn := HKf.out
          have HC := Lib.hid (fun V hV => HIH.out Q y c _ V (by omega) hV q2 ⟨s4.1, s4.2.1, trivial⟩ ⟨s7.1, s7.2.1, trivial⟩)
          obtain ⟨b1, o1, rfl, hb2, hc2⟩ := HI.out (by omega)
          have c1 := hc2 j _ p1 0 (by decide)
          rw [← hB.cell (p := ⟨b1, o1 + j * 1 + 0, none⟩) hb2] at c1
          dsimp only [intE, List.getElem?_cons_zero] at c1
          rw [Nat.mul_one, Nat.add_zero] at c1
          have hbw : b1 < wr.heap.size := by omega
          have hjm : j < m := by omega
          obtain ⟨T, ht⟩ : ∃ T, showT y (showL false c) = T := ⟨_, rfl⟩
          have t2 : D ++ ((if decide (0 < j) = true then [32] else []) ++ (showT y (showL false c) ++ showL true r)) = S := s2
          rw [ht] at HC t2
          obtain ⟨q, hq⟩ : ∃ q, Q.length = q := ⟨_, rfl⟩
          rw [hq] at c1 HC
          have hlen2 := congrArg List.length t2
          rw [List.length_append, List.length_append, List.length_append] at hlen2
          have HT1 := Lib.hid t1
          have HT2 := Lib.hid t2
          have HS5 := Lib.hid s5
          have hDl : D.length ≤ 1000000 := by omega
          have hTl : T.length ≤ 1000000 := by omega
          clear s1 s2 s3 s4 s6 s7 hB p1 p2 p3 q1 q2 hc2 ht hq t1 t2 s5 hkn hlen2 HEnd
          by_cases hj : 0 < j
          · have e1 := fun V => str_add (40 :: D) [32] (by rw [List.length_cons]; show D.length + 1 + 1 ≤ _; omega) V
            have e2 := fun V => str_add (40 :: D ++ [32]) T (by rw [List.length_append, List.length_cons]; show D.length + 1 + 1 + _ ≤ _; omega) V
            have Hnx := Lib.hid (show (D ++ [32] ++ T) ++ showL (decide (0 < j + 1)) r = S by
              rw [← HT2.out, if_pos (decide_eq_true hj), decide_eq_true (show 0 < j + 1 by omega)]
              simp only [List.append_assoc])
            obtain ⟨z, hz⟩ : ∃ z, toB (40 :: D) = z := ⟨_, rfl⟩
            obtain ⟨z2, hz2⟩ : ∃ z2, toB (40 :: D ++ [32]) = z2 := ⟨_, rfl⟩
            obtain ⟨z3, hz3⟩ : ∃ z3, toB (40 :: D ++ [32] ++ T) = z3 := ⟨_, rfl⟩
            obtain ⟨zt, hzt⟩ : ∃ zt, toB T = zt := ⟨_, rfl⟩
            rw [hz, hz2] at e1
            rw [hz2, hz3, hzt] at e2
            have e1 : ∀ V : World, (Op.stringOp .add z ⟨#[32]⟩).run Try.prog V = .ok (.string z2) V := e1
            have HZ3 := Lib.hid (show z3 = toB (40 :: (D ++ [32] ++ T)) from hz3.symm)
            rw [hzt] at HC
            rw [hz]
            clear hz hz2 hz3 hzt
            go_wp2_with (go_at_call 31; (with_reducible refine (HC.out _ (HF1.out.mono HB.out)).mono ?_); rintro e w2 ⟨rfl, hb3⟩; have HB2 := Lib.hid (HB.out.trans (hb3.mono hbz)); clear hb3)
            go_roundw
            case rel => exact ⟨r, Q ++ (y :: c.flat), D ++ [32] ++ T, j + 1, by go_num, by rw [HZ3.out], by have := HT1.out; omega, Hnx.out, Hq1.out, HR.out, HG.out, by have := HS5.out; omega, HP2.out, HB2.out⟩
            case measure => simp [intOf]; omega
          · obtain rfl : j = 0 := by omega
            rw [Nat.add_zero] at c1
            have e2 := fun V => str_add (40 :: D) T (by rw [List.length_cons]; omega) V
            have Hnx := Lib.hid (show (D ++ T) ++ showL (decide (0 < 0 + 1)) r = S by
              rw [← HT2.out]
              show _ = D ++ ([] ++ (T ++ showL true r))
              rw [List.nil_append, List.append_assoc]
              rfl)
            obtain ⟨z, hz⟩ : ∃ z, toB (40 :: D) = z := ⟨_, rfl⟩
            obtain ⟨z3, hz3⟩ : ∃ z3, toB (40 :: D ++ T) = z3 := ⟨_, rfl⟩
            obtain ⟨zt, hzt⟩ : ∃ zt, toB T = zt := ⟨_, rfl⟩
            rw [hz, hz3, hzt] at e2
            have HZ3 := Lib.hid (show z3 = toB (40 :: (D ++ T)) from hz3.symm)
            rw [hzt] at HC
            rw [hz]
            clear hz hz3 hzt hj
            go_wp2_with (go_at_call 31; (with_reducible refine (HC.out _ (HF1.out.mono HB.out)).mono ?_); rintro e w2 ⟨rfl, hb3⟩; have HB2 := Lib.hid (HB.out.trans (hb3.mono hbz)); clear hb3)
            go_roundw
            case rel => exact ⟨r, Q ++ (y :: c.flat), D ++ T, 0 + 1, by go_num, by rw [HZ3.out], by have := HT1.out; omega, Hnx.out, Hq1.out, HR.out, HG.out, by have := HS5.out; omega, HP2.out, HB2.out⟩
            case measure => simp [intOf]; omega
    · have hR : showT x (showL false .nil) = x.tx.toList := if_pos g1
      rw [hR, toB_of]
      obtain ⟨p, hp⟩ : ∃ p, P.length = p := ⟨_, rfl⟩
      rw [hp] at hlen hx ⊢
      obtain ⟨b, o, rfl, hb, hc⟩ := hF (by omega)
      obtain ⟨c0, c1, _, _⟩ := nd_cells (hc p x hx)
      rw [g1] at c0
      obtain ⟨tx, ht⟩ : ∃ tx, x.tx = tx := ⟨_, rfl⟩
      rw [ht] at c1 ⊢
      have hpl : p < l.length := by omega
      clear HIH HK h h2 hP1 hx hlen hF hw hkl hp hc ih hR hk g1 g2 hg ht htx hxt hkx hsz
      go_enter Try.func31, Try.ntmps31
      go_wp2
      refine bodyPost_ret (v := .string tx) (by simp [results, Try.results31, go_sem]) rfl ⟨rfl, Below.refl _ _⟩
    · have hR : showT x (showL false .nil) = (quoteB x.tx).toList := by unfold showT; rw [if_neg (by omega), if_pos g1]
      rw [hR, toB_of]
      obtain ⟨p, hp⟩ : ∃ p, P.length = p := ⟨_, rfl⟩
      rw [hp] at hlen hx ⊢
      obtain ⟨b, o, rfl, hb, hc⟩ := hF (by omega)
      obtain ⟨c0, c1, _, _⟩ := nd_cells (hc p x hx)
      rw [g1] at c0
      obtain ⟨tx, ht⟩ : ∃ tx, x.tx = tx := ⟨_, rfl⟩
      rw [ht] at c1 hxt ⊢
      have HQ := Lib.hid (fun V => refquote_any tx (by omega) V)
      have hpl : p < l.length := by omega
      clear HIH HK h h2 hP1 hx hlen hF hw hkl hp hc ih hR hk g1 g2 hg ht htx hxt hkx hsz
      go_enter Try.func31, Try.ntmps31
      go_wp2_with (go_at_call 41; (with_reducible refine (HQ.out _).mono ?_); rintro e w1 ⟨rfl, hb1⟩; have HB1 := Lib.hid hb1; clear hb1)
      refine bodyPost_ret (v := .string (quoteB tx)) (by simp [results, Try.results31, go_sem]) rfl ⟨rfl, HB1.out⟩
end Go.Proofs.Ytlndfognkkobaaa
