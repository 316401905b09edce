/-
  The document's provider: what New refuses.
-/
import Derived.Test.YtcfdejlbchdciaaGreatDoorClRw
namespace Go.Proofs.YtcfdejlbchdciaaGreatDoor
open Go.RowKit
set_option linter.unusedVariables false
set_option linter.unusedSimpArgs false

set_option maxRecDepth 100000 in
set_option maxHeartbeats 4000000 in
theorem rnew_no (a : Option Addr) (l : List Gp) (ka : Nat) (d : Int) (w : World) (hF : GpL w a l) (hI : ∀ g ∈ l, MacIn w g.like) (hL : lightGs l = true) (hr : rightGs l = false) :
    Calls Tryz.prog 7 #[.slice a l.length ka, .int .i64 d] w fun e w' => (∃ X, e = .returned (.tuple #[.pointer (some ⟨X, 0, none⟩), .int .i64 12])) ∧ Below w.heap.size w w' := by
  have HR := Lib.hid (refrightgs_any a l ka w hF hI hL)
  rw [hr] at HR
  obtain ⟨N, hN⟩ : ∃ N, l.length = N := ⟨_, rfl⟩
  rw [hN] at HR ⊢
  clear hF hI hL hr hN
  go_enter Tryz.func7, Tryz.ntmps7
  go_wp2_with (go_at_call 23; (with_reducible refine HR.out.mono ?_); rintro e w1 ⟨rfl, hb1⟩)
  go_ret2
  exact ⟨⟨_, rfl⟩, hb1.trans (((Below.refl _ _).alloc (Nat.le_refl _) _).mono hb1.size)⟩
set_option maxRecDepth 100000 in
set_option maxHeartbeats 4000000 in
theorem rnew_bad (a : Option Addr) (l : List Gp) (ka : Nat) (d : Int) (w : World) (hF : GpL w a l) (hI : ∀ g ∈ l, MacIn w g.like) (hL : lightGs l = true) (hr : rightGs l = true) (hd : ¬ (1 ≤ d ∧ d ≤ 1000)) :
    Calls Tryz.prog 7 #[.slice a l.length ka, .int .i64 d] w fun e w' => (∃ X, e = .returned (.tuple #[.pointer (some ⟨X, 0, none⟩), .int .i64 1])) ∧ Below w.heap.size w w' := by
  have HR := Lib.hid (refrightgs_any a l ka w hF hI hL)
  rw [hr] at HR
  obtain ⟨N, hN⟩ : ∃ N, l.length = N := ⟨_, rfl⟩
  rw [hN] at HR ⊢
  clear hF hI hL hr hN
  by_cases h1 : d < 1
  · have k1 : decide (d < 1) = true := decide_eq_true h1
    clear hd
    go_enter Tryz.func7, Tryz.ntmps7
    go_wp2_with (go_at_call 23; (with_reducible refine HR.out.mono ?_); rintro e w1 ⟨rfl, hb1⟩)
    go_ret2
    exact ⟨⟨_, rfl⟩, hb1.trans (((Below.refl _ _).alloc (Nat.le_refl _) _).mono hb1.size)⟩
  · have k1 : decide (d < 1) = false := decide_eq_false h1
    have k2 : decide (1000 < d) = true := decide_eq_true (by omega)
    clear hd
    go_enter Tryz.func7, Tryz.ntmps7
    go_wp2_with (go_at_call 23; (with_reducible refine HR.out.mono ?_); rintro e w1 ⟨rfl, hb1⟩)
    go_ret2
    exact ⟨⟨_, rfl⟩, hb1.trans (((Below.refl _ _).alloc (Nat.le_refl _) _).mono hb1.size)⟩
end Go.Proofs.YtcfdejlbchdciaaGreatDoor
