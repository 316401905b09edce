/-
  What the document's answers read off their table: May, Until, Length; New.
-/
import Derived.Test.YtedombidblhmeaaBkRef
namespace Go.Proofs.Ytedombidblhmeaa
open Go.RowKit
set_option linter.unusedVariables false
set_option linter.unusedSimpArgs false

/-- What a table says of a group: the first entry of that name. -/
def Look (M : List Nt) (g : ByteArray) (o : Option En) : Prop := (∃ (k : Nat) (x : Nt), M[k]? = some x ∧ x.1 = g ∧ (∀ (j : Nat) (y : Nt), j < k → M[j]? = some y → y.1 ≠ g) ∧ o = some x.2) ∨ ((∀ x ∈ M, x.1 ≠ g) ∧ o = none)
theorem look_total : ∀ (M : List Nt) (g : ByteArray), ∃ o, Look M g o
  | [], g => ⟨none, .inr ⟨fun x hx => by simp at hx, rfl⟩⟩
  | z :: M, g => by
    by_cases hz : z.1 = g
    · exact ⟨some z.2, .inl ⟨0, z, rfl, hz, fun j y hj => by omega, rfl⟩⟩
    · obtain ⟨o, ⟨k, x, h1, h2, h3, h4⟩ | ⟨h1, h2⟩⟩ := look_total M g
      · refine ⟨o, .inl ⟨k + 1, x, by simpa using h1, h2, fun j y hj hy => ?_, h4⟩⟩
        cases j with
        | zero => obtain rfl : z = y := by simpa using hy
                  exact hz
        | succ j => exact h3 j y (by omega) (by simpa using hy)
      · refine ⟨o, .inr ⟨fun x hx => ?_, h2⟩⟩
        rcases List.mem_cons.1 hx with rfl | hx
        · exact hz
        · exact h1 x hx

theorem rtime_any (n : Int) (w : World) : Calls Try.prog 25 #[.int .i64 n] w fun e w' => e = .returned (.bool (timeB n)) ∧ w' = w := by
  by_cases h : 0 ≤ n
  · go_enter Try.func25, Try.ntmps25
    go_wp2
    go_ret
    exact ⟨by simp [timeB, h], rfl⟩
  · have h1 : decide (0 ≤ n) = false := decide_eq_false h
    have h2 : timeB n = false := decide_eq_false (fun e => h e.1)
    rw [h2]
    clear h2 h
    go_enter Try.func25, Try.ntmps25
    go_wp2
    go_ret
    exact ⟨rfl, rfl⟩

set_option maxRecDepth 100000 in
set_option maxHeartbeats 4000000 in
theorem runtil_any (base p : Nat) (fi mo re : Int) (M : List Nt) (v : Value) (g : ByteArray) (o : Option En) (w : World) (h : RT w base p fi mo re M v) (hL : Look M g o) (hM : M.length ≤ 1000000) :
    Calls Try.prog 18 #[.pointer (some ⟨p, 0, none⟩), .string g] w fun e w' => e = .returned (.int .i64 (untilE o)) ∧ w' = w := by
  rcases hL with ⟨k, x, hx, hg, hu, rfl⟩ | ⟨hu, rfl⟩
  · skip
    have HP := Lib.hid (place_hit base p fi mo re M v g k x w h hx hg hu hM)
    obtain ⟨a, kc, rfl, hc⟩ := h.rows
    have c0 := h.row.cell 0
    dsimp only [List.getElem?_cons_zero] at c0
    have hkl := lt_at hx
    obtain ⟨b, rfl, hb0, hb1, hc⟩ := hc (by omega)
    obtain ⟨d0, d1, d2⟩ := hc k x hx
    obtain ⟨n, hn⟩ : ∃ n, M.length = n := ⟨_, rfl⟩
    rw [hn] at c0 hkl hM
    clear h hc hx hu hn
    go_enter Try.func18, Try.ntmps18
    go_wp2_with (go_at_call 28; (with_reducible refine HP.out.mono ?_); rintro e w1 ⟨rfl, rfl⟩)
    go_ret
    exact ⟨rfl, rfl⟩
  · have HP := Lib.hid (place_miss base p fi mo re M v g w h hu hM)
    clear h hu
    go_enter Try.func18, Try.ntmps18
    go_wp2_with (go_at_call 28; (with_reducible refine HP.out.mono ?_); rintro e w1 ⟨rfl, rfl⟩)
    go_ret
    exact ⟨rfl, rfl⟩
set_option maxRecDepth 100000 in
    set_option maxHeartbeats 4000000 in
    theorem rlength_any (base p : Nat) (fi mo re : Int) (M : List Nt) (v : Value) (g : ByteArray) (o : Option En) (w : World) (h : RT w base p fi mo re M v) (hL : Look M g o) (hM : M.length ≤ 1000000) :
        Calls Try.prog 20 #[.pointer (some ⟨p, 0, none⟩), .string g] w fun e w' => e = .returned (.int .i64 (lengthE o)) ∧ w' = w := by
      rcases hL with ⟨k, x, hx, hg, hu, rfl⟩ | ⟨hu, rfl⟩
      · skip
        have HP := Lib.hid (place_hit base p fi mo re M v g k x w h hx hg hu hM)
        obtain ⟨a, kc, rfl, hc⟩ := h.rows
        have c0 := h.row.cell 0
        dsimp only [List.getElem?_cons_zero] at c0
        have hkl := lt_at hx
        obtain ⟨b, rfl, hb0, hb1, hc⟩ := hc (by omega)
        obtain ⟨d0, d1, d2⟩ := hc k x hx
        obtain ⟨n, hn⟩ : ∃ n, M.length = n := ⟨_, rfl⟩
        rw [hn] at c0 hkl hM
        clear h hc hx hu hn
        go_enter Try.func20, Try.ntmps20
        go_wp2_with (go_at_call 28; (with_reducible refine HP.out.mono ?_); rintro e w1 ⟨rfl, rfl⟩)
        go_ret
        exact ⟨rfl, rfl⟩
      · have HP := Lib.hid (place_miss base p fi mo re M v g w h hu hM)
        clear h hu
        go_enter Try.func20, Try.ntmps20
        go_wp2_with (go_at_call 28; (with_reducible refine HP.out.mono ?_); rintro e w1 ⟨rfl, rfl⟩)
        go_ret
        exact ⟨rfl, rfl⟩
set_option maxRecDepth 100000 in
set_option maxHeartbeats 4000000 in
theorem rmay_any (base p : Nat) (fi mo re : Int) (M : List Nt) (v : Value) (g : ByteArray) (now : Int) (o : Option En) (w : World) (h : RT w base p fi mo re M v) (hL : Look M g o) (hM : M.length ≤ 1000000) :
    Calls Try.prog 16 #[.pointer (some ⟨p, 0, none⟩), .string g, .int .i64 now] w fun e w' => e = .returned (.bool (mayE o now)) ∧ w' = w := by
  rcases hL with ⟨k, x, hx, hg, hu, rfl⟩ | ⟨hu, rfl⟩
  · skip
    have HP := Lib.hid (place_hit base p fi mo re M v g k x w h hx hg hu hM)
    obtain ⟨a, kc, rfl, hc⟩ := h.rows
    have c0 := h.row.cell 0
    dsimp only [List.getElem?_cons_zero] at c0
    have hkl := lt_at hx
    obtain ⟨b, rfl, hb0, hb1, hc⟩ := hc (by omega)
    obtain ⟨d0, d1, d2⟩ := hc k x hx
    obtain ⟨n, hn⟩ : ∃ n, M.length = n := ⟨_, rfl⟩
    rw [hn] at c0 hkl hM
    clear h hc hx hu hn
    cases ht : timeB now
    · have HT := Lib.hid ht
      clear ht
      go_enter Try.func16, Try.ntmps16
      go_wp2_with (first
        | (go_at_call 28; (with_reducible refine HP.out.mono ?_); rintro e w1 ⟨rfl, rfl⟩)
        | (go_at_call 25; (with_reducible refine (rtime_any now _).mono ?_); rw [HT.out]; rintro e w2 ⟨rfl, rfl⟩))
      go_ret
      exact ⟨by unfold mayE; rw [HT.out]; rfl, rfl⟩
    · have HT := Lib.hid ht
      clear ht
      go_enter Try.func16, Try.ntmps16
      go_wp2_with (first
        | (go_at_call 28; (with_reducible refine HP.out.mono ?_); rintro e w1 ⟨rfl, rfl⟩)
        | (go_at_call 25; (with_reducible refine (rtime_any now _).mono ?_); rw [HT.out]; rintro e w2 ⟨rfl, rfl⟩))
      go_ret
      exact ⟨by unfold mayE; rw [HT.out]; rfl, rfl⟩
  · have HP := Lib.hid (place_miss base p fi mo re M v g w h hu hM)
    clear h hu
    cases ht : timeB now
    · have HT := Lib.hid ht
      clear ht
      go_enter Try.func16, Try.ntmps16
      go_wp2_with (first
        | (go_at_call 28; (with_reducible refine HP.out.mono ?_); rintro e w1 ⟨rfl, rfl⟩)
        | (go_at_call 25; (with_reducible refine (rtime_any now _).mono ?_); rw [HT.out]; rintro e w2 ⟨rfl, rfl⟩))
      go_ret
      exact ⟨by unfold mayE; rw [HT.out]; rfl, rfl⟩
    · have HT := Lib.hid ht
      have h0 : decide (untilE none ≤ now) = true := by
        have := of_decide_eq_true ht
        exact decide_eq_true this.1
      clear ht
      go_enter Try.func16, Try.ntmps16
      go_wp2_with (first
        | (go_at_call 28; (with_reducible refine HP.out.mono ?_); rintro e w1 ⟨rfl, rfl⟩)
        | (go_at_call 25; (with_reducible refine (rtime_any now _).mono ?_); rw [HT.out]; rintro e w2 ⟨rfl, rfl⟩))
      go_ret
      exact ⟨by unfold mayE; rw [HT.out, h0]; rfl, rfl⟩
end Go.Proofs.Ytedombidblhmeaa
