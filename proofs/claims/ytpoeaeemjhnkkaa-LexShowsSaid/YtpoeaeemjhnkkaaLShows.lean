/-
  LexShows: any tokens are shown as the document says.
-/
import Derived.Test.YtpoeaeemjhnkkaaLexM
import Derived.Test.YtpoeaeemjhnkkaaMA
namespace Go.Proofs.Ytpoeaeemjhnkkaa
open Go.ChangeShapes Go.WideShapes Go.ChangeAt Go.RowKit
set_option linter.unusedVariables false
set_option linter.unusedSimpArgs false
namespace lexShows
theorem toB_app (a b : List UInt8) : toB (a ++ b) = toB a ++ toB b := by
  refine bytes_inj ?_
  rw [toB_list, ByteArray.toList_eq, ByteArray.data_append, Array.toList_append]
  rfl
set_option maxRecDepth 100000 in
set_option maxHeartbeats 4000000 in
theorem refshow_any (a : Option Addr) (ka : Nat) (l : List Tk) (w : World) (hF : TkL w a l) (hl : l.length ≤ 200) (ht : ∀ t ∈ l, t.tx.size ≤ 200) :
    Calls Try.prog 17 #[.slice a l.length ka] w fun e w' => e = .returned (.string (toB (shF none l))) ∧ Below w.heap.size w w' := by
  have HF := Lib.hid hF
  obtain ⟨n, hn⟩ : ∃ n, l.length = n := ⟨_, rfl⟩
  have HN := Lib.hid hn
  rw [hn] at hl ⊢
  have hbd : ∀ k, k ≤ n → (shF none (l.take k)).length ≤ 100000 := fun k hk => by
    have h1 := shF_len 200 (l.take k) none fun t hx => ht t (List.mem_of_mem_take hx)
    rw [List.length_take, HN.out] at h1
    have h2 : min k n * (2 * 200 + 3) ≤ 200 * (2 * 200 + 3) := Nat.mul_le_mul_right _ (by omega)
    omega
  have HBd := Lib.hid hbd
  have HTx := Lib.hid ht
  clear hF hn hbd ht
  go_enter Try.func17, Try.ntmps17
  go_wp2
  go_loopw [3, 4] (fun v u wr => ∃ k : Nat, k ≤ n ∧ v = .string (toB (shF none (l.take k))) ∧ u = .int .i64 k ∧ Below w.heap.size w wr) (fun _ u _ => n - (intOf u).toNat)
  case atStart => exact ⟨0, Nat.zero_le _, rfl, rfl, by (repeat' (first | with_reducible exact Below.refl _ _ | with_reducible assumption | with_reducible refine Below.drew ?_ | with_reducible refine below_drewN' ?_ _ | with_reducible refine Below.alloc ?_ ?_ _ | with_reducible refine Below.setCell ?_ ?_ _ | with_reducible refine below_step (by assumption) ?_ ?_ | omega | (simp; done) | (simp; omega)))⟩
  case round =>
    obtain ⟨k, hk, rfl, rfl, hB⟩ := hrel
    have HB := Lib.hid hB
    obtain ⟨L, hL⟩ : ∃ L, shF none (l.take k) = L := ⟨_, rfl⟩
    have hlen : L.length ≤ 100000 := by rw [← hL]; exact HBd.out k hk
    rw [hL]
    have hLs : (toB L).size ≤ 100000 := by rw [← toList_len, toB_list]; exact hlen
    obtain ⟨o, ho⟩ : ∃ o, toB L = o := ⟨_, rfl⟩
    rw [ho] at hLs ⊢
    by_cases hlt : k < n
    · obtain ⟨t, ht9⟩ := mem_at (l := l) (k := k) (by rw [HN.out]; exact hlt)
      obtain ⟨tb, to, rfl, htb, htc⟩ := HF.out (by rw [HN.out]; omega)
      obtain ⟨d0, d1, _, _, _⟩ := tk_cells (w := wr) (b := tb) (o := to + k * 5) (t := t) (fun r hr => by rw [HB.out.cell (p := ⟨tb, to + k * 5 + r, none⟩) htb]; exact htc k t ht9 r hr)
      have hts := HTx.out t (List.mem_of_getElem? ht9)
      have hTs : (tokB t).size ≤ 402 := by have := tokB_size t; omega
      obtain ⟨T, hT⟩ : ∃ T, tokB t = T := ⟨_, rfl⟩
      rw [hT] at hTs
      have hnx : shF none (l.take (k + 1)) = L ++ (sepL (lastK none (l.take k)) t ++ T.toList) := by rw [take_snoc ht9, shF_snoc, hL, hT]
      obtain ⟨k0, hk0⟩ : ∃ k0, k0 = k := ⟨_, rfl⟩
      have hkn : k0 < n := by omega
      have Hprev := Lib.hid (fun j (hj : k = j + 1) => show ∃ p : Tk, l[j]? = some p ∧ wr.cell? ⟨tb, to + j * 5, none⟩ = some (.int .i64 p.kd) from by
        obtain ⟨p, hp⟩ := mem_at (l := l) (k := j) (by rw [HN.out]; omega)
        refine ⟨p, hp, ?_⟩
        rw [HB.out.cell (p := ⟨tb, to + j * 5, none⟩) htb]
        exact htc j p hp 0 (by decide))
      have Hnx := Lib.hid hnx
      have htx : t.tx.size ≤ 1000000 := by omega
      obtain ⟨kd, tx, po, ln, cl⟩ := t
      dsimp only at d0 d1 htx
      clear hL hnx htc ht9 hts hB
      cases k with
      | zero =>
        have hnx := (show shF none (l.take (k0 + 1)) = L ++ T.toList by rw [hk0]; exact Hnx.out)
        rw [Nat.zero_mul, Nat.add_zero] at d0 d1
        obtain ⟨o2, ho2⟩ : ∃ o2, o ++ T = o2 := ⟨_, rfl⟩
        have HC := Lib.hid (fun (Y : ByteArray) (hY : Y = T) (V : World) => show (Op.stringOp .add o Y).run Try.prog V = .ok (.string o2) V by rw [hY, ← ho2]; exact run_string_add_sum V _ _ (by rw [← hT] at hTs ⊢; omega))
        have Hfin := Lib.hid (show toB (shF none (l.take (k0 + 1))) = o2 by rw [hnx, ← ho2]; first | rfl | (rw [toB_app, toB_of]; first | rfl | (rw [ho]; done) | (rw [toB_app, ho]; done)))
        by_cases q1 : kd = 1
        · skip
          subst q1
          have hc := HC.out ⟨#[40]⟩ hT
          go_wp2
          go_roundw
          case rel => exact ⟨k0 + 1, by omega, by rw [Hfin.out], by go_num, HB.out⟩
          case measure => simp [intOf]; omega
        · have m1 : (kd == 1) = false := by simpa using q1
          by_cases q2 : kd = 2
          · skip
            subst q2
            have hc := HC.out ⟨#[41]⟩ hT
            go_wp2
            go_roundw
            case rel => exact ⟨k0 + 1, by omega, by rw [Hfin.out], by go_num, HB.out⟩
            case measure => simp [intOf]; omega
          · have m2 : (kd == 2) = false := by simpa using q2
            by_cases q4 : kd = 4
            · subst q4
              have hc := HC.out T rfl
              have hTq : quoteB tx = T := hT
              have HQ := Lib.hid (fun V => refquote_any tx htx V)
              rw [hTq] at HQ
              go_wp2_with (go_at_call 11; (with_reducible refine (HQ.out _).mono ?_); rintro e w6 ⟨rfl, hb6⟩; have HB6 := Lib.hid (HB.out.trans (hb6.mono HB.out.size)); clear hb6)
              go_roundw
              case rel => exact ⟨k0 + 1, by omega, by rw [Hfin.out], by go_num, HB6.out⟩
              case measure => simp [intOf]; omega
            · have m4 : (kd == 4) = false := by simpa using q4
              have hTx : tx = T := by rw [← hT]; unfold tokB; rw [if_neg q1, if_neg q2, if_neg q4]
              have hc := HC.out tx hTx
              clear q1 q2 q4
              go_wp2
              go_roundw
              case rel => exact ⟨k0 + 1, by omega, by rw [Hfin.out], by go_num, HB.out⟩
              case measure => simp [intOf]; omega
      | succ j =>
        obtain ⟨p, hp, p0⟩ := Hprev.out j rfl
        have hls : lastK none (l.take (j + 1)) = some p.kd := by rw [take_snoc hp, lastK_snoc]
        obtain ⟨pk, hpk⟩ : ∃ pk, p.kd = pk := ⟨_, rfl⟩
        rw [hpk] at p0 hls
        have hlsT := Hnx.out
        rw [hls, ← hk0] at hlsT
        have hjn : (j : Int) < (n : Int) := by omega
        have hj0 : (0 : Int) ≤ (j : Int) := by omega
        clear hp hpk hls Hprev Hnx
        by_cases e1 : pk = 1
        · have hnx := (show shF none (l.take (k0 + 1)) = L ++ T.toList by rw [hlsT, sep_one e1]; rfl)
          subst e1
          clear hlsT
          obtain ⟨o2, ho2⟩ : ∃ o2, o ++ T = o2 := ⟨_, rfl⟩
          have HC := Lib.hid (fun (Y : ByteArray) (hY : Y = T) (V : World) => show (Op.stringOp .add o Y).run Try.prog V = .ok (.string o2) V by rw [hY, ← ho2]; exact run_string_add_sum V _ _ (by rw [← hT] at hTs ⊢; omega))
          have Hfin := Lib.hid (show toB (shF none (l.take (k0 + 1))) = o2 by rw [hnx, ← ho2]; first | rfl | (rw [toB_app, toB_of]; first | rfl | (rw [ho]; done) | (rw [toB_app, ho]; done)))
          by_cases q1 : kd = 1
          · skip
            subst q1
            have hc := HC.out ⟨#[40]⟩ hT
            go_wp2
            go_roundw
            case rel => exact ⟨k0 + 1, by omega, by rw [Hfin.out], by go_num, HB.out⟩
            case measure => simp [intOf]; omega
          · have m1 : (kd == 1) = false := by simpa using q1
            by_cases q2 : kd = 2
            · skip
              subst q2
              have hc := HC.out ⟨#[41]⟩ hT
              go_wp2
              go_roundw
              case rel => exact ⟨k0 + 1, by omega, by rw [Hfin.out], by go_num, HB.out⟩
              case measure => simp [intOf]; omega
            · have m2 : (kd == 2) = false := by simpa using q2
              by_cases q4 : kd = 4
              · subst q4
                have hc := HC.out T rfl
                have hTq : quoteB tx = T := hT
                have HQ := Lib.hid (fun V => refquote_any tx htx V)
                rw [hTq] at HQ
                go_wp2_with (go_at_call 11; (with_reducible refine (HQ.out _).mono ?_); rintro e w6 ⟨rfl, hb6⟩; have HB6 := Lib.hid (HB.out.trans (hb6.mono HB.out.size)); clear hb6)
                go_roundw
                case rel => exact ⟨k0 + 1, by omega, by rw [Hfin.out], by go_num, HB6.out⟩
                case measure => simp [intOf]; omega
              · have m4 : (kd == 4) = false := by simpa using q4
                have hTx : tx = T := by rw [← hT]; unfold tokB; rw [if_neg q1, if_neg q2, if_neg q4]
                have hc := HC.out tx hTx
                clear q1 q2 q4
                go_wp2
                go_roundw
                case rel => exact ⟨k0 + 1, by omega, by rw [Hfin.out], by go_num, HB.out⟩
                case measure => simp [intOf]; omega
        · have n1 : (pk != 1) = true := by simpa using e1
          by_cases e2 : kd = 2
          · have hnx := (show shF none (l.take (k0 + 1)) = L ++ T.toList by rw [hlsT, sep_two e2]; rfl)
            clear hlsT
            obtain ⟨o2, ho2⟩ : ∃ o2, o ++ T = o2 := ⟨_, rfl⟩
            have HC := Lib.hid (fun (Y : ByteArray) (hY : Y = T) (V : World) => show (Op.stringOp .add o Y).run Try.prog V = .ok (.string o2) V by rw [hY, ← ho2]; exact run_string_add_sum V _ _ (by rw [← hT] at hTs ⊢; omega))
            have Hfin := Lib.hid (show toB (shF none (l.take (k0 + 1))) = o2 by rw [hnx, ← ho2]; first | rfl | (rw [toB_app, toB_of]; first | rfl | (rw [ho]; done) | (rw [toB_app, ho]; done)))
            have q2 := e2
            subst q2
            have hc := HC.out ⟨#[41]⟩ hT
            go_wp2
            go_roundw
            case rel => exact ⟨k0 + 1, by omega, by rw [Hfin.out], by go_num, HB.out⟩
            case measure => simp [intOf]; omega
          · have n2 : (kd != 2) = true := by simpa using e2
            have hnx := (show shF none (l.take (k0 + 1)) = (L ++ [32]) ++ T.toList by rw [hlsT, sep_yes e1 e2, List.append_assoc])
            clear hlsT
            have hL1 : toB (L ++ [32]) = o ++ ⟨#[32]⟩ := by rw [toB_app, ho]; rfl
            have hs1 : (o ++ (⟨#[32]⟩ : ByteArray)).size ≤ 100001 := by rw [ByteArray.size_append]; show o.size + 1 ≤ _; omega
            have hc1 : ∀ V : World, (Op.stringOp .add o ⟨#[32]⟩).run Try.prog V = .ok (.string (o ++ ⟨#[32]⟩)) V := fun V => run_string_add_sum V _ _ (by show o.size + 1 ≤ _; omega)
            obtain ⟨o1, ho1⟩ : ∃ o1, o ++ (⟨#[32]⟩ : ByteArray) = o1 := ⟨_, rfl⟩
            rw [ho1] at hL1 hs1 hc1
            clear ho ho1
            have ho := hL1
            clear hL1
            obtain ⟨o2, ho2⟩ : ∃ o2, o1 ++ T = o2 := ⟨_, rfl⟩
            have HC := Lib.hid (fun (Y : ByteArray) (hY : Y = T) (V : World) => show (Op.stringOp .add o1 Y).run Try.prog V = .ok (.string o2) V by rw [hY, ← ho2]; exact run_string_add_sum V _ _ (by rw [← hT] at hTs ⊢; omega))
            have Hfin := Lib.hid (show toB (shF none (l.take (k0 + 1))) = o2 by rw [hnx, ← ho2]; first | rfl | (rw [toB_app, toB_of]; first | rfl | (rw [ho]; done) | (rw [toB_app, ho]; done)))
            have q2 := e2
            have m2 : (kd == 2) = false := by simpa using q2
            by_cases q1 : kd = 1
            · skip
              subst q1
              have hc := HC.out ⟨#[40]⟩ hT
              go_wp2
              go_roundw
              case rel => exact ⟨k0 + 1, by omega, by rw [Hfin.out], by go_num, HB.out⟩
              case measure => simp [intOf]; omega
            · have m1 : (kd == 1) = false := by simpa using q1
              by_cases q4 : kd = 4
              · subst q4
                have hc := HC.out T rfl
                have hTq : quoteB tx = T := hT
                have HQ := Lib.hid (fun V => refquote_any tx htx V)
                rw [hTq] at HQ
                go_wp2_with (go_at_call 11; (with_reducible refine (HQ.out _).mono ?_); rintro e w6 ⟨rfl, hb6⟩; have HB6 := Lib.hid (HB.out.trans (hb6.mono HB.out.size)); clear hb6)
                go_roundw
                case rel => exact ⟨k0 + 1, by omega, by rw [Hfin.out], by go_num, HB6.out⟩
                case measure => simp [intOf]; omega
              · have m4 : (kd == 4) = false := by simpa using q4
                have hTx : tx = T := by rw [← hT]; unfold tokB; rw [if_neg q1, if_neg q2, if_neg q4]
                have hc := HC.out tx hTx
                clear q1 q2 q4
                go_wp2
                go_roundw
                case rel => exact ⟨k0 + 1, by omega, by rw [Hfin.out], by go_num, HB.out⟩
                case measure => simp [intOf]; omega
    · obtain rfl : k = n := by omega
      have hall : l.take k = l := List.take_of_length_le (by rw [HN.out]; exact Nat.le_refl _)
      rw [hall] at hL
      have HLq := Lib.hid (show o = toB (shF none l) by rw [← ho, ← hL])
      clear hL hall hB ho
      go_wp2
      refine bodyPost_ret (v := .string o) (by simp [results, Try.results17, go_sem]) rfl ⟨by rw [HLq.out], HB.out⟩
theorem Try.cells28 : Try.prog.cellsOf 28 = 5 := by kernel_rfl
theorem Try.cells9 : Try.prog.cellsOf 9 = 1 := by kernel_rfl
theorem cells_int : Try.prog.cellsOf 3 = 1 := by kernel_rfl
set_option maxRecDepth 100000 in
theorem tk_open {H : Type} {enc : TypeId × Value → H} {W : World} {fuel : Nat} {cs : List Value} {y : DataW H × List MemPlace} (hl : cs.length = 5)
    (h : DataW.trod enc Try.prog W 0 (fun _ => true) true fuel 28 cs = some y) : ∃ x : Tk, cs = tkrow x := by
  obtain ⟨xs, n, _, hx, _, hlen, hg⟩ := DataW.trod_struct Try.underlying28 h
  match cs, hl with
  | [c0, c1, c2, c3, c4], _ =>
    match xs, hlen with
    | [y0, y1, y2, y3, y4], _ =>
      have g0 := hg 0 _ rfl
      have g1 := hg 1 _ rfl
      have g2 := hg 2 _ rfl
      have g3 := hg 3 _ rfl
      have g4 := hg 4 _ rfl
      obtain ⟨n0, q0, _⟩ := DataW.trod_int Try.underlying3 g0
      obtain ⟨s1, q1, _⟩ := DataW.trod_string Try.underlying9 g1
      obtain ⟨n2, q2, _⟩ := DataW.trod_int Try.underlying3 g2
      obtain ⟨n3, q3, _⟩ := DataW.trod_int Try.underlying3 g3
      obtain ⟨n4, q4, _⟩ := DataW.trod_int Try.underlying3 g4
      simp [cells_int, Try.cells9] at q0 q1 q2 q3 q4
      exact ⟨⟨n0, s1, n2, n3, n4⟩, by rw [q0, q1, q2, q3, q4]; rfl⟩
set_option maxRecDepth 100000 in
theorem open_tks {H : Type} {enc : TypeId × Value → H} {W : World} {base : Nat} {v : Value} {d : DataW H} {p : List MemPlace}
    (hv : Value.okWide Try.prog W .any base 26 v) (h : DataW.Trod enc Try.prog W 0 (fun _ => true) true 26 v d p) :
    ∃ (a : Option Addr) (l : List Tk) (k : Nat), v = .slice a l.length k ∧ NilOk a l.length k ∧ TkL W a l ∧ l.length ≤ maxLen ∧ l.length ≤ k :=
  open_list Try.underlying26 Try.cells28 (by decide) (fun cs fuel y hl hy => tk_open hl hy) hv h
set_option maxRecDepth 100000 in
set_option maxHeartbeats 4000000 in
theorem walk (a : Option Addr) (ka : Nat) (l : List Tk) (w : World) (hF : TkL w a l) (hm : l.length ≤ maxLen) :
    Calls Try.prog 4 #[.slice a l.length ka] w fun e w' => e = .returned (.bool true) ∧ Below w.heap.size w w' := by
  have HF := Lib.hid hF
  obtain ⟨n, hn⟩ : ∃ n, l.length = n := ⟨_, rfl⟩
  have HN := Lib.hid hn
  rw [hn] at hm ⊢
  unfold maxLen at hm
  clear hF hn
  by_cases h : 200 < n
  · have k1 : decide ((200 : Int) < (n : Int)) = true := decide_eq_true (by omega)
    clear h
    go_enter Try.func4, Try.ntmps4
    go_wp2_with (go_at_call 9; (with_reducible refine (known_any _).mono ?_); rintro e w1 ⟨rfl, hb1⟩; have HB1 := Lib.hid hb1; clear hb1)
    go_ret
    exact ⟨rfl, HB1.out⟩
  · have k1 : decide ((200 : Int) < (n : Int)) = false := decide_eq_false (by omega)
    go_enter Try.func4, Try.ntmps4
    go_wp2
    go_loopw [3] (fun u wr => ∃ k : Nat, k ≤ n ∧ u = .int .i64 k ∧ wr = w ∧ ∀ j t, j < k → l[j]? = some t → t.tx.size ≤ 200) (fun u _ => n - (intOf u).toNat)
    case atStart => exact ⟨0, Nat.zero_le _, rfl, rfl, fun j t hj _ => absurd hj (Nat.not_lt_zero j)⟩
    case round =>
      obtain ⟨k, hk, rfl, rfl, hA⟩ := hrel
      have HA := Lib.hid hA
      clear hA
      by_cases hlt : k < n
      · obtain ⟨t, ht9⟩ := mem_at (l := l) (k := k) (by rw [HN.out]; exact hlt)
        obtain ⟨tb, to, rfl, htb, htc⟩ := HF.out (by rw [HN.out]; omega)
        have d1 : wr.cell? ⟨tb, to + k * 5 + 1, none⟩ = some (.string t.tx) := htc k t ht9 1 (by decide)
        have HT9 := Lib.hid ht9
        clear htc ht9
        by_cases hs : 200 < t.tx.size
        · have k2 : decide ((200 : Int) < (t.tx.size : Int)) = true := decide_eq_true (by omega)
          clear hs
          go_wp2_with (go_at_call 9; (with_reducible refine (known_any _).mono ?_); rintro e w1 ⟨rfl, hb1⟩; have HB1 := Lib.hid hb1; clear hb1)
          go_ret
          exact ⟨rfl, HB1.out⟩
        · have k2 : decide ((200 : Int) < (t.tx.size : Int)) = false := decide_eq_false (by omega)
          have HA2 := Lib.hid (show ∀ j x, j < k + 1 → l[j]? = some x → x.tx.size ≤ 200 from fun j x hj hx => by
            by_cases e : j = k
            · subst e
              have := HT9.out
              rw [hx] at this
              obtain rfl := Option.some.inj this
              omega
            · exact HA.out j x (by omega) hx)
          clear hs
          go_wp2
          go_roundw
          case rel => exact ⟨k + 1, by omega, by go_num, trivial, HA2.out⟩
          case measure => simp [intOf]; omega
      · obtain rfl : k = n := by omega
        have hall : ∀ t ∈ l, t.tx.size ≤ 200 := fun t ht => by
          obtain ⟨j, hj⟩ := List.mem_iff_getElem?.1 ht
          exact HA.out j t (by have := (List.getElem?_eq_some_iff.1 hj).1; rw [HN.out] at this; exact this) hj
        have HS := Lib.hid (fun V (hV : Below wr.heap.size wr V) => show_any a ka l V (HF.out.mono hV) (by rw [HN.out]; omega) (fun t ht => by have := hall t ht; omega))
        have HR := Lib.hid (fun V (hV : Below wr.heap.size wr V) => refshow_any a ka l V (HF.out.mono hV) (by rw [HN.out]; omega) hall)
        obtain ⟨o, ho⟩ : ∃ o, toB (shF none l) = o := ⟨_, rfl⟩
        rw [HN.out, ho] at HS HR
        have e1 : (o.toList == o.toList) = true := by simp
        clear hall ho
        go_wp2_with (first
          | (go_at_call 16; (with_reducible refine (HS.out _ (Below.refl _ _)).mono ?_); rintro e w1 ⟨rfl, hb1⟩; have HB1 := Lib.hid hb1; clear hb1)
          | (go_at_call 17; (with_reducible refine (HR.out _ HB1.out).mono ?_); rintro e w2 ⟨rfl, hb2⟩; have HB2 := Lib.hid (HB1.out.trans (hb2.mono HB1.out.size)); clear hb2)
          | (go_at_call 9; (with_reducible refine (known_any _).mono ?_); rintro e w3 ⟨rfl, hb3⟩; have HB3 := Lib.hid (HB2.out.trans (hb3.mono HB2.out.size)); clear hb3))
        go_ret
        exact ⟨rfl, HB3.out⟩

set_option maxRecDepth 100000 in
theorem lifted (os : Os) (started : os.Started) (H : Type) (enc : TypeId × Value → H) :
    ReturnsInHanded {} Try.checked os 4 .any (Rows.lexShowsSpec.pre6 enc Try.prog Try.f4 Rows.lexShowsRow.domain false) (Rows.lexShowsSpec.post enc Try.prog Try.f4 false true false false) := by
  refine returnsInHanded_of_change (C := Try.checked) Try.own started (by kernel_rfl) Try.func4
    (ChangeSpec.witness6 (enc := enc) (C := Try.checked) false ⟨#[], #[.slice none 0 0], []⟩ 8 (by kernel_rfl) (by kernel_rfl) (by kernel_rfl) (by kernel_rfl)) ?_
  intro W base args ds gs before hval hW _ _
  have hW' := hW
  obtain ⟨p, q, hA, hV, rfl, hfz, hnd⟩ := hW
  rw [Try.params4] at hA hval
  obtain ⟨v0, d0, rfl, rfl, h0⟩ := trodAll_one hA
  obtain ⟨a, l, k, rfl, _, hF, hl, _⟩ := open_tks (hval 0 26 v0 rfl rfl) h0
  refine (walk a k l W hF hl).mono fun e W' ⟨he, hb⟩ => ?_
  exact ⟨_, he, law_post Try.laidOut hW' rfl (by kernel_rfl) (by kernel_rfl) Try.underlying4 rfl rfl rfl hb⟩

theorem over : Rows.lexShowsRow.holds Try.pinned (OpenSpec.ofChange Rows.lexShowsSpec) :=
  OpenClaim.holds_of_wide 4 Try.f4 rfl rfl rfl rfl rfl rfl rfl ⟨rfl, rfl, rfl, rfl, rfl⟩ rfl rfl rfl rfl rfl (by kernel_rfl) Try.func4 (by kernel_rfl)
    (of_decide_eq_true (by kernel_rfl)) (by unfold Func.isWrapper; first | (rw [if_pos (by decide +kernel)]; kernel_rfl) | (rw [if_neg (by decide +kernel)]; exact ⟨rfl, rfl⟩))
    (fun os started H enc _ => lifted os started H enc)

/-- The statement. -/
theorem proved : Rows.LexShowsSaid := over
end lexShows
end Go.Proofs.Ytpoeaeemjhnkkaa
