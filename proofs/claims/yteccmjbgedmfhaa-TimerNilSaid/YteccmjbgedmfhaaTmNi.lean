/-
  TimerNil: what a table that is none does.
-/
import Derived.Test.YteccmjbgedmfhaaTmNil
import Derived.Test.YteccmjbgedmfhaaTmKn
import Derived.Test.YteccmjbgedmfhaaTmOp
namespace Go.Proofs.Yteccmjbgedmfhaa
namespace timerNil
open Go.ChangeShapes Go.WideShapes Go.ChangeAt Go.RowKit
set_option linter.unusedVariables false
set_option linter.unusedSimpArgs false

set_option maxRecDepth 100000 in
set_option maxHeartbeats 8000000 in
theorem walk (a : Option Addr) (n k : Nat) (now : Int) (w : World) :
    Calls Try.prog 5 #[.slice a n k, .int .i64 now] w fun e w' => e = .returned (.bool true) ∧ Below w.heap.size w w' := by
  by_cases h3 : n ≤ 20
  · have k3 : decide ((20 : Int) < (n : Int)) = false := decide_eq_false (by omega)
    have hN := fun V => made_nil V
    have hZ := fun V (hb : Below (w.alloc (.cells #[.pointer none, .map none] 46)).heap.size (w.alloc (.cells #[.pointer none, .map none] 46)) V) => made_zero w.heap.size V (by rw [hb.cell (p := ⟨w.heap.size, 0, none⟩) (by simp)]; exact World.cell?_alloc_at _ _ _ _ rfl)
    have HN := Lib.hid hN
    have HZ := Lib.hid hZ
    clear hN hZ
    have HB := Lib.hid (Below.refl (w.alloc (.cells #[.pointer none, .map none] 46)).heap.size (w.alloc (.cells #[.pointer none, .map none] 46)))
    go_enter Try.func5, Try.ntmps5
    go_wp2_with (first
      | (go_at_call 9; (with_reducible refine (none_note none (.slice a n k) now _ (fun V _ => HN.out V)).mono ?_); rintro e wk ⟨rfl, hb⟩; have HB' := Lib.hid (HB.out.trans (hb.mono HB.out.size)); clear HB hb; have HB := HB'; clear HB')
      | (go_at_call 9; (with_reducible refine (none_note (some ⟨w.heap.size, 0, none⟩) (.slice a n k) now _ (fun V hb => HZ.out V (HB.out.trans (hb.mono HB.out.size)))).mono ?_); rintro e wk ⟨rfl, hb⟩; have HB' := Lib.hid (HB.out.trans (hb.mono HB.out.size)); clear HB hb; have HB := HB'; clear HB')
      | (go_at_call 11; (with_reducible refine (none_drop none sa _ (fun V _ => HN.out V)).mono ?_); rintro e wk ⟨rfl, hb⟩; have HB' := Lib.hid (HB.out.trans (hb.mono HB.out.size)); clear HB hb; have HB := HB'; clear HB')
      | (go_at_call 11; (with_reducible refine (none_drop (some ⟨w.heap.size, 0, none⟩) sa _ (fun V hb => HZ.out V (HB.out.trans (hb.mono HB.out.size)))).mono ?_); rintro e wk ⟨rfl, hb⟩; have HB' := Lib.hid (HB.out.trans (hb.mono HB.out.size)); clear HB hb; have HB := HB'; clear HB')
      | (go_at_call 14; (with_reducible refine (none_since none sa _ (fun V _ => HN.out V)).mono ?_); rintro e wk ⟨rfl, hb⟩; have HB' := Lib.hid (HB.out.trans (hb.mono HB.out.size)); clear HB hb; have HB := HB'; clear HB')
      | (go_at_call 14; (with_reducible refine (none_since (some ⟨w.heap.size, 0, none⟩) sa _ (fun V hb => HZ.out V (HB.out.trans (hb.mono HB.out.size)))).mono ?_); rintro e wk ⟨rfl, hb⟩; have HB' := Lib.hid (HB.out.trans (hb.mono HB.out.size)); clear HB hb; have HB := HB'; clear HB')
      | (go_at_call 19; (with_reducible refine (none_ripe none now 0 _ (fun V _ => HN.out V)).mono ?_); rintro e wk ⟨rfl, hb⟩; have HB' := Lib.hid (HB.out.trans (hb.mono HB.out.size)); clear HB hb; have HB := HB'; clear HB')
      | (go_at_call 19; (with_reducible refine (none_ripe (some ⟨w.heap.size, 0, none⟩) now 0 _ (fun V hb => HZ.out V (HB.out.trans (hb.mono HB.out.size)))).mono ?_); rintro e wk ⟨rfl, hb⟩; have HB' := Lib.hid (HB.out.trans (hb.mono HB.out.size)); clear HB hb; have HB := HB'; clear HB')
      | (go_at_call 17; (with_reducible refine (none_names none _ (fun V _ => HN.out V)).mono ?_); rintro e wk ⟨rfl, hb⟩; have HB' := Lib.hid (HB.out.trans (hb.mono HB.out.size)); clear HB hb; have HB := HB'; clear HB')
      | (go_at_call 17; (with_reducible refine (none_names (some ⟨w.heap.size, 0, none⟩) _ (fun V hb => HZ.out V (HB.out.trans (hb.mono HB.out.size)))).mono ?_); rintro e wk ⟨rfl, hb⟩; have HB' := Lib.hid (HB.out.trans (hb.mono HB.out.size)); clear HB hb; have HB := HB'; clear HB')
      | (go_at_call 13; (with_reducible refine (none_copy none _ (fun V _ => HN.out V)).mono ?_); rintro e wk ⟨rfl, hb⟩; have HB' := Lib.hid (HB.out.trans (hb.mono HB.out.size)); clear HB hb; have HB := HB'; clear HB')
      | (go_at_call 13; (with_reducible refine (none_copy (some ⟨w.heap.size, 0, none⟩) _ (fun V hb => HZ.out V (HB.out.trans (hb.mono HB.out.size)))).mono ?_); rintro e wk ⟨rfl, hb⟩; have HB' := Lib.hid (HB.out.trans (hb.mono HB.out.size)); clear HB hb; have HB := HB'; clear HB')
      | (go_at_call 21; (with_reducible refine (known_any _).mono ?_); rintro e w4 ⟨rfl, hb4⟩; have HB4 := Lib.hid (HB.out.trans (hb4.mono HB.out.size))))
    go_ret
    exact ⟨rfl, ((Below.refl _ w).alloc (Nat.le_refl _) _).trans (HB4.out.mono (by simp))⟩
  · have k3 : decide ((20 : Int) < (n : Int)) = true := decide_eq_true (by omega)
    have HB := Lib.hid (Below.refl w.heap.size w)
    go_enter Try.func5, Try.ntmps5
    go_wp2_with (go_at_call 21; (with_reducible refine (known_any _).mono ?_); rintro e w4 ⟨rfl, hb4⟩)
    go_ret
    exact ⟨rfl, hb4⟩

set_option maxRecDepth 100000 in
theorem lifted (os : Os) (started : os.Started) (H : Type) (enc : TypeId × Value → H) :
    ReturnsInHanded {} Try.checked os 5 .any (Rows.timerNilSpec.pre6 enc Try.prog Try.f5 Rows.timerNilRow.domain false) (Rows.timerNilSpec.post enc Try.prog Try.f5 false true false false) := by
  refine returnsInHanded_of_change (C := Try.checked) Try.own started (by kernel_rfl) Try.func5
    (ChangeSpec.witness6 (enc := enc) (C := Try.checked) false ⟨#[], #[.slice none 0 0, .int .i64 0], []⟩ 8 (by kernel_rfl) (by kernel_rfl) (by kernel_rfl) (by kernel_rfl)) ?_
  intro W base args ds gs before hval hW _ _
  have hW' := hW
  obtain ⟨p, q, hA, hV, rfl, hfz, hnd⟩ := hW
  rw [Try.params5] at hA hval
  obtain ⟨v0, v1, d0, d1, p0, p1, rfl, rfl, rfl, h0, h1⟩ := trodAll_two hA
  obtain ⟨a, l, k, rfl, _, _, _, _⟩ := open_strs (hval 0 29 v0 rfl rfl) h0
  obtain ⟨now, rfl, _, _, wx⟩ := open_int Try.underlying3 (hval 1 3 v1 rfl rfl) h1
  refine (walk a l.length k now W).mono fun e W' ⟨he, hb⟩ => ?_
  exact ⟨_, he, law_post Try.laidOut hW' rfl (by kernel_rfl) (by kernel_rfl) Try.underlying4 rfl rfl rfl hb⟩

theorem over : Rows.timerNilRow.holds Try.pinned (OpenSpec.ofChange Rows.timerNilSpec) :=
  OpenClaim.holds_of_wide 5 Try.f5 rfl rfl rfl rfl rfl rfl rfl ⟨rfl, rfl, rfl, rfl, rfl⟩ rfl rfl rfl rfl rfl (by kernel_rfl) Try.func5 (by kernel_rfl)
    (of_decide_eq_true (by kernel_rfl)) (by unfold Func.isWrapper; first | (rw [if_pos (by decide +kernel)]; kernel_rfl) | (rw [if_neg (by decide +kernel)]; exact ⟨rfl, rfl⟩))
    (fun os started H enc _ => lifted os started H enc)

/-- The statement. -/
theorem proved : Rows.TimerNilSaid := over
end timerNil
end Go.Proofs.Yteccmjbgedmfhaa
