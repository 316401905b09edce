/-
  LexQuotes: a text that has no bytes but right runes that may stand there is, in quotes, one Text token, that is it.
-/
import Derived.Test.YtpoeaeemjhnkkaaLexM
import Derived.Test.YtpoeaeemjhnkkaaLexO
import Derived.Test.YtpoeaeemjhnkkaaMA
namespace Go.Proofs.Ytpoeaeemjhnkkaa
open Go.ChangeShapes Go.WideShapes Go.ChangeAt Go.RowKit
set_option linter.unusedVariables false
set_option linter.unusedSimpArgs false
namespace lexQuotes
theorem own_len {w : World} {B n k : Nat} {v : Value} {e : TypeId} {xs : List Value} (h : w.ownsRow B e k v n xs) : ∃ a c, v = .slice a n c := by
  rcases h.2 with ⟨e, h0⟩ | ⟨g, cap, cur, e, _⟩
  · exact ⟨none, 0, by rw [e, h0]⟩
  · exact ⟨_, _, e⟩
set_option maxRecDepth 100000 in
set_option maxHeartbeats 4000000 in
theorem walk (s : ByteArray) (w : World) :
    Calls Try.prog 6 #[.string s] w fun e w' => e = .returned (.bool true) ∧ Below w.heap.size w w' := by
  by_cases h : 3000 < s.size
  · have k1 : decide ((3000 : Int) < (s.size : Int)) = true := decide_eq_true (by omega)
    clear h
    go_enter Try.func6, Try.ntmps6
    go_wp2_with (go_at_call 9; (with_reducible refine (known_any _).mono ?_); rintro e w1 ⟨rfl, hb1⟩; have HB1 := Lib.hid hb1; clear hb1)
    go_ret
    exact ⟨rfl, HB1.out⟩
  · have k1 : decide ((3000 : Int) < (s.size : Int)) = false := decide_eq_false (by omega)
    have hqs := quote_size s
    have HQ := Lib.hid (fun V => quote_any s (by omega) V)
    have HS := Lib.hid (fun V => scan_any (quoteB s) V)
    have HR := Lib.hid (fun V => runes_any s (by omega) V)
    have ht := text_cases s
    obtain ⟨b0, hb0⟩ : ∃ b0, decide (runesB s < 0) = b0 := ⟨_, rfl⟩
    have ho : ∀ o, oddT s = o → (b0 || s.toList.any oddY) = o := fun o h => by rw [← hb0]; exact h
    obtain ⟨rn, hrn⟩ : ∃ rn, runesB s = rn := ⟨_, rfl⟩
    rw [hrn] at HR hb0
    obtain ⟨n, hn⟩ : ∃ n, s.size = n := ⟨_, rfl⟩
    have HN := Lib.hid hn
    have hsz : n ≤ 3000 := by omega
    rw [hn] at k1
    rcases ht with ⟨hodd, hok⟩ | ⟨hodd, hbad⟩
    · have HO := Lib.hid (ho _ hodd)
      have hsc := scan_quote hok (by omega)
      obtain ⟨qs, hqe⟩ : ∃ qs, quoteB s = qs := ⟨_, rfl⟩
      rw [hqe] at HQ HS hsc
      rw [hsc] at HS
      have e4 : (s.toList == s.toList) = true := by simp
      clear h hqs ho hrn hodd hok hsc hqe
      go_enter Try.func6, Try.ntmps6
      go_wp2_with (first
        | (go_at_call 10; (with_reducible refine (HQ.out _).mono ?_); rintro e8 w0 ⟨rfl, hb0⟩; have HB0 := Lib.hid hb0; clear hb0)
        | (go_at_call 18; (with_reducible refine (HS.out _).mono ?_); rintro e9 w1 ⟨⟨v, rfl, ho⟩, hb1⟩; have HB1 := Lib.hid (HB0.out.trans (hb1.mono HB0.out.size)); have HB1s := Lib.hid hb1; dsimp only at ho; ((obtain ⟨g, kk, rfl, _, hg, hT⟩ := own_tks (n := 0) ho (by show 0 < 1; decide); have HT := Lib.hid hT; have HG := Lib.hid hg; clear ho hT hg)); clear hb1)
        | (go_at_call 14; (with_reducible refine (HR.out _).mono ?_); rintro e9 w2 ⟨rfl, hb2⟩; have HB2 := Lib.hid (HB1.out.trans (hb2.mono HB1.out.size)); have HB2s := Lib.hid hb2; clear hb2))
      go_loop [6, 7] (fun vo vi => ∃ k : Nat, k ≤ n ∧ vi = .int .i64 k ∧ vo = .bool (b0 || (s.toList.take k).any oddY)) (fun _ vi => n - (intOf vi).toNat)
      case atStart => exact ⟨0, Nat.zero_le _, rfl, by rw [List.take_zero]; simp⟩
      case round =>
        obtain ⟨k, hk, rfl, rfl⟩ := hrel
        by_cases hlt : k < n
        · have hx := str_ix s k (by rw [HN.out]; exact hlt)
          have hbt := byte_take s k (by rw [HN.out]; exact hlt)
          obtain ⟨c, hc⟩ : ∃ c, s.get! k = c := ⟨_, rfl⟩
          obtain ⟨o, hoo⟩ : ∃ o, (b0 || (s.toList.take k).any oddY) = o := ⟨_, rfl⟩
          have hnx : (b0 || (s.toList.take (k + 1)).any oddY) = (o || oddR ((c.toNat : Nat) : Int)) := by
            rw [hbt, List.any_append, ← Bool.or_assoc, hoo, hc]
            simp [oddY]
          rw [hc] at hx
          rw [hoo]
          obtain ⟨q, hq⟩ : ∃ q : Int, ((c.toNat : Nat) : Int) = q := ⟨_, rfl⟩
          rw [hq] at hx hnx
          clear hc hbt hoo hq
          cases o with
          | true =>
            have Hnx := Lib.hid (show (b0 || (s.toList.take (k + 1)).any oddY) = true by rw [hnx]; rfl)
            clear hnx
            go_wp2
            go_round
            case rel => exact ⟨k + 1, by omega, by go_num, by rw [Hnx.out]⟩
            case measure => simp [intOf]; omega
          | false =>
            rcases oddR_cases q with ⟨k1, k2, k3, k4⟩ | ⟨k1, k2, k3, k4⟩ | ⟨k1, k2, k3, k5, k4⟩ | ⟨k1, k2, k4⟩ | ⟨k1, k2, k4⟩
            · have Hnx := Lib.hid (show (b0 || (s.toList.take (k + 1)).any oddY) = true by rw [hnx, k4]; rfl)
              clear hnx k4
              go_wp2
              go_round
              case rel => exact ⟨k + 1, by omega, by go_num, by rw [Hnx.out]⟩
              case measure => simp [intOf]; omega
            · have Hnx := Lib.hid (show (b0 || (s.toList.take (k + 1)).any oddY) = false by rw [hnx, k4]; rfl)
              clear hnx k4
              go_wp2
              go_round
              case rel => exact ⟨k + 1, by omega, by go_num, by rw [Hnx.out]⟩
              case measure => simp [intOf]; omega
            · have Hnx := Lib.hid (show (b0 || (s.toList.take (k + 1)).any oddY) = false by rw [hnx, k4]; rfl)
              clear hnx k4
              go_wp2
              go_round
              case rel => exact ⟨k + 1, by omega, by go_num, by rw [Hnx.out]⟩
              case measure => simp [intOf]; omega
            · have Hnx := Lib.hid (show (b0 || (s.toList.take (k + 1)).any oddY) = true by rw [hnx, k4]; rfl)
              clear hnx k4
              go_wp2
              go_round
              case rel => exact ⟨k + 1, by omega, by go_num, by rw [Hnx.out]⟩
              case measure => simp [intOf]; omega
            · have Hnx := Lib.hid (show (b0 || (s.toList.take (k + 1)).any oddY) = false by rw [hnx, k4]; rfl)
              clear hnx k4
              go_wp2
              go_round
              case rel => exact ⟨k + 1, by omega, by go_num, by rw [Hnx.out]⟩
              case measure => simp [intOf]; omega
        · obtain rfl : k = n := by omega
          have hall : s.toList.take k = s.toList := List.take_of_length_le (by rw [toList_len, HN.out]; exact Nat.le_refl _)
          rw [hall, HO.out]
          clear hall
          (have hT := HT.out.mono HB2s.out; have hg := Nat.lt_of_lt_of_le HG.out HB2s.out.size; have a0 := tk_at hT (i := 0) rfl 0 (by decide); have a1 := tk_at hT (i := 0) rfl 1 (by decide); (dsimp only [tkrow, List.getElem?_cons_zero, List.getElem?_cons_succ] at a0 a1); clear hT)
          go_wp2_with (go_at_call 9; (with_reducible refine (known_any _).mono ?_); rintro e9 w3 ⟨rfl, hb3⟩; have HB3 := Lib.hid (HB2.out.trans (hb3.mono HB2.out.size)); clear hb3)
          go_ret
          exact ⟨rfl, HB3.out⟩
    · have HO := Lib.hid (ho _ hodd)
      obtain ⟨p, hsc⟩ := scan_odd hbad (by omega)
      obtain ⟨qs, hqe⟩ : ∃ qs, quoteB s = qs := ⟨_, rfl⟩
      rw [hqe] at HQ HS hsc
      rw [hsc] at HS
      clear h hqs ho hrn hodd hbad hsc hqe
      go_enter Try.func6, Try.ntmps6
      go_wp2_with (first
        | (go_at_call 10; (with_reducible refine (HQ.out _).mono ?_); rintro e8 w0 ⟨rfl, hb0⟩; have HB0 := Lib.hid hb0; clear hb0)
        | (go_at_call 18; (with_reducible refine (HS.out _).mono ?_); rintro e9 w1 ⟨⟨v, rfl, ho⟩, hb1⟩; have HB1 := Lib.hid (HB0.out.trans (hb1.mono HB0.out.size)); have HB1s := Lib.hid hb1; dsimp only at ho; ((obtain ⟨a1, c1, rfl⟩ := own_len ho; clear ho)); clear hb1)
        | (go_at_call 14; (with_reducible refine (HR.out _).mono ?_); rintro e9 w2 ⟨rfl, hb2⟩; have HB2 := Lib.hid (HB1.out.trans (hb2.mono HB1.out.size)); have HB2s := Lib.hid hb2; clear hb2))
      go_loop [6, 7] (fun vo vi => ∃ k : Nat, k ≤ n ∧ vi = .int .i64 k ∧ vo = .bool (b0 || (s.toList.take k).any oddY)) (fun _ vi => n - (intOf vi).toNat)
      case atStart => exact ⟨0, Nat.zero_le _, rfl, by rw [List.take_zero]; simp⟩
      case round =>
        obtain ⟨k, hk, rfl, rfl⟩ := hrel
        by_cases hlt : k < n
        · have hx := str_ix s k (by rw [HN.out]; exact hlt)
          have hbt := byte_take s k (by rw [HN.out]; exact hlt)
          obtain ⟨c, hc⟩ : ∃ c, s.get! k = c := ⟨_, rfl⟩
          obtain ⟨o, hoo⟩ : ∃ o, (b0 || (s.toList.take k).any oddY) = o := ⟨_, rfl⟩
          have hnx : (b0 || (s.toList.take (k + 1)).any oddY) = (o || oddR ((c.toNat : Nat) : Int)) := by
            rw [hbt, List.any_append, ← Bool.or_assoc, hoo, hc]
            simp [oddY]
          rw [hc] at hx
          rw [hoo]
          obtain ⟨q, hq⟩ : ∃ q : Int, ((c.toNat : Nat) : Int) = q := ⟨_, rfl⟩
          rw [hq] at hx hnx
          clear hc hbt hoo hq
          cases o with
          | true =>
            have Hnx := Lib.hid (show (b0 || (s.toList.take (k + 1)).any oddY) = true by rw [hnx]; rfl)
            clear hnx
            go_wp2
            go_round
            case rel => exact ⟨k + 1, by omega, by go_num, by rw [Hnx.out]⟩
            case measure => simp [intOf]; omega
          | false =>
            rcases oddR_cases q with ⟨k1, k2, k3, k4⟩ | ⟨k1, k2, k3, k4⟩ | ⟨k1, k2, k3, k5, k4⟩ | ⟨k1, k2, k4⟩ | ⟨k1, k2, k4⟩
            · have Hnx := Lib.hid (show (b0 || (s.toList.take (k + 1)).any oddY) = true by rw [hnx, k4]; rfl)
              clear hnx k4
              go_wp2
              go_round
              case rel => exact ⟨k + 1, by omega, by go_num, by rw [Hnx.out]⟩
              case measure => simp [intOf]; omega
            · have Hnx := Lib.hid (show (b0 || (s.toList.take (k + 1)).any oddY) = false by rw [hnx, k4]; rfl)
              clear hnx k4
              go_wp2
              go_round
              case rel => exact ⟨k + 1, by omega, by go_num, by rw [Hnx.out]⟩
              case measure => simp [intOf]; omega
            · have Hnx := Lib.hid (show (b0 || (s.toList.take (k + 1)).any oddY) = false by rw [hnx, k4]; rfl)
              clear hnx k4
              go_wp2
              go_round
              case rel => exact ⟨k + 1, by omega, by go_num, by rw [Hnx.out]⟩
              case measure => simp [intOf]; omega
            · have Hnx := Lib.hid (show (b0 || (s.toList.take (k + 1)).any oddY) = true by rw [hnx, k4]; rfl)
              clear hnx k4
              go_wp2
              go_round
              case rel => exact ⟨k + 1, by omega, by go_num, by rw [Hnx.out]⟩
              case measure => simp [intOf]; omega
            · have Hnx := Lib.hid (show (b0 || (s.toList.take (k + 1)).any oddY) = false by rw [hnx, k4]; rfl)
              clear hnx k4
              go_wp2
              go_round
              case rel => exact ⟨k + 1, by omega, by go_num, by rw [Hnx.out]⟩
              case measure => simp [intOf]; omega
        · obtain rfl : k = n := by omega
          have hall : s.toList.take k = s.toList := List.take_of_length_le (by rw [toList_len, HN.out]; exact Nat.le_refl _)
          rw [hall, HO.out]
          clear hall
          skip
          go_wp2_with (go_at_call 9; (with_reducible refine (known_any _).mono ?_); rintro e9 w3 ⟨rfl, hb3⟩; have HB3 := Lib.hid (HB2.out.trans (hb3.mono HB2.out.size)); clear hb3)
          go_ret
          exact ⟨rfl, HB3.out⟩

set_option maxRecDepth 100000 in
theorem lifted (os : Os) (started : os.Started) (H : Type) (enc : TypeId × Value → H) :
    ReturnsInHanded {} Try.checked os 6 .any (Rows.lexQuotesSpec.pre6 enc Try.prog Try.f6 Rows.lexQuotesRow.domain false) (Rows.lexQuotesSpec.post enc Try.prog Try.f6 false true false false) := by
  refine returnsInHanded_of_change (C := Try.checked) Try.own started (by kernel_rfl) Try.func6
    (ChangeSpec.witness6 (enc := enc) (C := Try.checked) false ⟨#[], #[.string ⟨#[]⟩], []⟩ 8 (by kernel_rfl) (by kernel_rfl) (by kernel_rfl) (by kernel_rfl)) ?_
  intro W base args ds gs before hval hW _ _
  have hW' := hW
  obtain ⟨p, q, hA, hV, rfl, hfz, hnd⟩ := hW
  rw [Try.params6] at hA hval
  obtain ⟨v0, d0, rfl, rfl, h0⟩ := trodAll_one hA
  obtain ⟨s, rfl, _, _, _⟩ := Go.ChangeMaps.open_string Try.underlying9 (hval 0 9 v0 rfl rfl) h0
  refine (walk s W).mono fun e W' ⟨he, hb⟩ => ?_
  exact ⟨_, he, law_post Try.laidOut hW' rfl (by kernel_rfl) (by kernel_rfl) Try.underlying4 rfl rfl rfl hb⟩

theorem over : Rows.lexQuotesRow.holds Try.pinned (OpenSpec.ofChange Rows.lexQuotesSpec) :=
  OpenClaim.holds_of_wide 6 Try.f6 rfl rfl rfl rfl rfl rfl rfl ⟨rfl, rfl, rfl, rfl, rfl⟩ rfl rfl rfl rfl rfl (by kernel_rfl) Try.func6 (by kernel_rfl)
    (of_decide_eq_true (by kernel_rfl)) (by unfold Func.isWrapper; first | (rw [if_pos (by decide +kernel)]; kernel_rfl) | (rw [if_neg (by decide +kernel)]; exact ⟨rfl, rfl⟩))
    (fun os started H enc _ => lifted os started H enc)

/-- The statement. -/
theorem proved : Rows.LexQuotesSaid := over
end lexQuotes
end Go.Proofs.Ytpoeaeemjhnkkaa
