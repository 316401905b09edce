/-
  BackoffNil: what a table that is none does.
-/
import Derived.Test.YtedombidblhmeaaBkNil
import Derived.Test.YtedombidblhmeaaBkKn
import Derived.Test.YtedombidblhmeaaFrame
import Derived.Test.YtedombidblhmeaaOpen
namespace Go.Proofs.Ytedombidblhmeaa
namespace backoffNil
open Go.ChangeShapes Go.WideShapes Go.ChangeAt Go.RowKit
set_option linter.unusedVariables false

set_option maxRecDepth 100000 in
set_option maxHeartbeats 8000000 in
theorem walk (g : ByteArray) (now : Int) (w : World) :
    Calls Try.prog 6 #[.string g, .int .i64 now] w fun e w' => e = .returned (.bool true) ∧ Below w.heap.size w w' := by
  by_cases h3 : g.size ≤ 300
  · have k3 : decide ((300 : Int) < (g.size : Int)) = false := decide_eq_false (by omega)
    have hN := fun V => made_nil V
    have hZ := fun V (hb : Below (w.alloc (.cells #[.pointer none, .int .i64 0, .int .i64 0, .int .i64 0, .map none, .int .i64 0] 51)).heap.size (w.alloc (.cells #[.pointer none, .int .i64 0, .int .i64 0, .int .i64 0, .map none, .int .i64 0] 51)) V) => made_zero w.heap.size V (by rw [hb.cell (p := ⟨w.heap.size, 0, none⟩) (by simp)]; exact World.cell?_alloc_at _ _ _ _ rfl)
    have HN := Lib.hid hN
    have HZ := Lib.hid hZ
    clear hN hZ
    have HB := Lib.hid (Below.refl (w.alloc (.cells #[.pointer none, .int .i64 0, .int .i64 0, .int .i64 0, .map none, .int .i64 0] 51)).heap.size (w.alloc (.cells #[.pointer none, .int .i64 0, .int .i64 0, .int .i64 0, .map none, .int .i64 0] 51)))
    go_enter Try.func6, Try.ntmps6
    go_wp2_with (first
      | (go_at_call 11; (with_reducible refine (none_fine none g _ (fun V _ => HN.out V)).mono ?_); rintro e wk ⟨rfl, hb⟩; have HB' := Lib.hid (HB.out.trans (hb.mono HB.out.size)); clear HB hb; have HB := HB'; clear HB')
      | (go_at_call 11; (with_reducible refine (none_fine (some ⟨w.heap.size, 0, none⟩) g _ (fun V hb => HZ.out V (HB.out.trans (hb.mono HB.out.size)))).mono ?_); rintro e wk ⟨rfl, hb⟩; have HB' := Lib.hid (HB.out.trans (hb.mono HB.out.size)); clear HB hb; have HB := HB'; clear HB')
      | (go_at_call 13; (with_reducible refine (none_clear none _ (fun V _ => HN.out V)).mono ?_); rintro e wk ⟨rfl, hb⟩; have HB' := Lib.hid (HB.out.trans (hb.mono HB.out.size)); clear HB hb; have HB := HB'; clear HB')
      | (go_at_call 13; (with_reducible refine (none_clear (some ⟨w.heap.size, 0, none⟩) _ (fun V hb => HZ.out V (HB.out.trans (hb.mono HB.out.size)))).mono ?_); rintro e wk ⟨rfl, hb⟩; have HB' := Lib.hid (HB.out.trans (hb.mono HB.out.size)); clear HB hb; have HB := HB'; clear HB')
      | (go_at_call 9; (with_reducible refine (none_fail none g now _ (fun V _ => HN.out V)).mono ?_); rintro e wk ⟨rfl, hb⟩; have HB' := Lib.hid (HB.out.trans (hb.mono HB.out.size)); clear HB hb; have HB := HB'; clear HB')
      | (go_at_call 9; (with_reducible refine (none_fail (some ⟨w.heap.size, 0, none⟩) g now _ (fun V hb => HZ.out V (HB.out.trans (hb.mono HB.out.size)))).mono ?_); rintro e wk ⟨rfl, hb⟩; have HB' := Lib.hid (HB.out.trans (hb.mono HB.out.size)); clear HB hb; have HB := HB'; clear HB')
      | (go_at_call 15; (with_reducible refine (none_may none g now _ (fun V _ => HN.out V)).mono ?_); rintro e wk ⟨rfl, hb⟩; have HB' := Lib.hid (HB.out.trans (hb.mono HB.out.size)); clear HB hb; have HB := HB'; clear HB')
      | (go_at_call 15; (with_reducible refine (none_may (some ⟨w.heap.size, 0, none⟩) g now _ (fun V hb => HZ.out V (HB.out.trans (hb.mono HB.out.size)))).mono ?_); rintro e wk ⟨rfl, hb⟩; have HB' := Lib.hid (HB.out.trans (hb.mono HB.out.size)); clear HB hb; have HB := HB'; clear HB')
      | (go_at_call 17; (with_reducible refine (none_until none g _ (fun V _ => HN.out V)).mono ?_); rintro e wk ⟨rfl, hb⟩; have HB' := Lib.hid (HB.out.trans (hb.mono HB.out.size)); clear HB hb; have HB := HB'; clear HB')
      | (go_at_call 17; (with_reducible refine (none_until (some ⟨w.heap.size, 0, none⟩) g _ (fun V hb => HZ.out V (HB.out.trans (hb.mono HB.out.size)))).mono ?_); rintro e wk ⟨rfl, hb⟩; have HB' := Lib.hid (HB.out.trans (hb.mono HB.out.size)); clear HB hb; have HB := HB'; clear HB')
      | (go_at_call 19; (with_reducible refine (none_length none g _ (fun V _ => HN.out V)).mono ?_); rintro e wk ⟨rfl, hb⟩; have HB' := Lib.hid (HB.out.trans (hb.mono HB.out.size)); clear HB hb; have HB := HB'; clear HB')
      | (go_at_call 19; (with_reducible refine (none_length (some ⟨w.heap.size, 0, none⟩) g _ (fun V hb => HZ.out V (HB.out.trans (hb.mono HB.out.size)))).mono ?_); rintro e wk ⟨rfl, hb⟩; have HB' := Lib.hid (HB.out.trans (hb.mono HB.out.size)); clear HB hb; have HB := HB'; clear HB')
      | (go_at_call 22; (with_reducible refine (none_groups none _ (fun V _ => HN.out V)).mono ?_); rintro e wk ⟨rfl, hb⟩; have HB' := Lib.hid (HB.out.trans (hb.mono HB.out.size)); clear HB hb; have HB := HB'; clear HB')
      | (go_at_call 22; (with_reducible refine (none_groups (some ⟨w.heap.size, 0, none⟩) _ (fun V hb => HZ.out V (HB.out.trans (hb.mono HB.out.size)))).mono ?_); rintro e wk ⟨rfl, hb⟩; have HB' := Lib.hid (HB.out.trans (hb.mono HB.out.size)); clear HB hb; have HB := HB'; clear HB')
      | (go_at_call 14; (with_reducible refine (none_copy none _ (fun V _ => HN.out V)).mono ?_); rintro e wk ⟨rfl, hb⟩; have HB' := Lib.hid (HB.out.trans (hb.mono HB.out.size)); clear HB hb; have HB := HB'; clear HB')
      | (go_at_call 14; (with_reducible refine (none_copy (some ⟨w.heap.size, 0, none⟩) _ (fun V hb => HZ.out V (HB.out.trans (hb.mono HB.out.size)))).mono ?_); rintro e wk ⟨rfl, hb⟩; have HB' := Lib.hid (HB.out.trans (hb.mono HB.out.size)); clear HB hb; have HB := HB'; clear HB')
      | (go_at_call 24; (with_reducible refine (known_any _).mono ?_); rintro e w4 ⟨rfl, hb4⟩; have HB4 := Lib.hid (HB.out.trans (hb4.mono HB.out.size))))
    go_ret
    exact ⟨rfl, ((Below.refl _ w).alloc (Nat.le_refl _) _).trans (HB4.out.mono (by simp))⟩
  · have k3 : decide ((300 : Int) < (g.size : Int)) = true := decide_eq_true (by omega)
    have HB := Lib.hid (Below.refl w.heap.size w)
    go_enter Try.func6, Try.ntmps6
    go_wp2_with (go_at_call 24; (with_reducible refine (known_any _).mono ?_); rintro e w4 ⟨rfl, hb4⟩)
    go_ret
    exact ⟨rfl, hb4⟩

set_option maxRecDepth 100000 in
theorem lifted (os : Os) (started : os.Started) (H : Type) (enc : TypeId × Value → H) :
    ReturnsInHanded {} Try.checked os 6 .any (Rows.backoffNilSpec.pre6 enc Try.prog Try.f6 Rows.backoffNilRow.domain false) (Rows.backoffNilSpec.post enc Try.prog Try.f6 false true false false) := by
  refine returnsInHanded_of_change (C := Try.checked) Try.own started (by kernel_rfl) Try.func6
    (ChangeSpec.witness6 (enc := enc) (C := Try.checked) false ⟨#[], #[.string ⟨#[]⟩, .int .i64 0], []⟩ 8 (by kernel_rfl) (by kernel_rfl) (by kernel_rfl) (by kernel_rfl)) ?_
  intro W base args ds gs before hval hW _ _
  have hW' := hW
  obtain ⟨p, q, hA, hV, rfl, hfz, hnd⟩ := hW
  rw [Try.params6] at hA hval
  obtain ⟨v0, v1, d0, d1, p0, p1, rfl, rfl, rfl, h0, h1⟩ := trodAll_two hA
  obtain ⟨g, rfl, _, _, _⟩ := Go.ChangeMaps.open_string Try.underlying9 (hval 0 9 v0 rfl rfl) h0
  obtain ⟨now, rfl, _, _, wx⟩ := open_int Try.underlying3 (hval 1 3 v1 rfl rfl) h1
  refine (walk g now W).mono fun e W' ⟨he, hb⟩ => ?_
  exact ⟨_, he, law_post Try.laidOut hW' rfl (by kernel_rfl) (by kernel_rfl) Try.underlying4 rfl rfl rfl hb⟩

theorem over : Rows.backoffNilRow.holds Try.pinned (OpenSpec.ofChange Rows.backoffNilSpec) :=
  OpenClaim.holds_of_wide 6 Try.f6 rfl rfl rfl rfl rfl rfl rfl ⟨rfl, rfl, rfl, rfl, rfl⟩ rfl rfl rfl rfl rfl (by kernel_rfl) Try.func6 (by kernel_rfl)
    (of_decide_eq_true (by kernel_rfl)) (by unfold Func.isWrapper; first | (rw [if_pos (by decide +kernel)]; kernel_rfl) | (rw [if_neg (by decide +kernel)]; exact ⟨rfl, rfl⟩))
    (fun os started H enc _ => lifted os started H enc)

/-- The statement. -/
theorem proved : Rows.BackoffNilSaid := over
end backoffNil
end Go.Proofs.Ytedombidblhmeaa
