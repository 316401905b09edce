/-
  LedgerNil: what a table that is none does.
-/
import Derived.Test.YtaipiflbigpniaaLd8
import Derived.Test.YtaipiflbigpniaaFrame
import Derived.Test.YtaipiflbigpniaaOpen
namespace Go.Proofs.Ytaipiflbigpniaa
namespace ledgerNil
open Go.ChangeShapes Go.WideShapes Go.ChangeAt Go.RowKit
set_option linter.unusedVariables false
set_option linter.unusedSimpArgs false

set_option maxRecDepth 100000 in
set_option maxHeartbeats 8000000 in
theorem walk (g : ByteArray) (w : World) :
    Calls Try.prog 5 #[.string g] w fun e w' => e = .returned (.bool true) ∧ Below w.heap.size w w' := by
  by_cases h3 : g.size ≤ 300
  · have k3 : decide ((300 : Int) < (g.size : Int)) = false := decide_eq_false (by omega)
    have hN := fun V => made_nil V
    have hZ := fun V (hb : Below (w.alloc (.cells #[.pointer none, .slice none 0 0, .int .i64 0] 53)).heap.size (w.alloc (.cells #[.pointer none, .slice none 0 0, .int .i64 0] 53)) V) => made_zero w.heap.size V (by rw [hb.cell (p := ⟨w.heap.size, 0, none⟩) (by simp)]; exact World.cell?_alloc_at _ _ _ _ rfl)
    have HN := Lib.hid hN
    have HZ := Lib.hid hZ
    clear hN hZ
    have HB := Lib.hid (Below.refl (w.alloc (.cells #[.pointer none, .slice none 0 0, .int .i64 0] 53)).heap.size (w.alloc (.cells #[.pointer none, .slice none 0 0, .int .i64 0] 53)))
    go_enter Try.func5, Try.ntmps5
    go_wp2_with (first
      | (go_at_call 12; (with_reducible refine (add_none none none 0 0 _ (fun V _ => HN.out V)).mono ?_); rintro e wk ⟨rfl, hb⟩; have HB' := Lib.hid (HB.out.trans (hb.mono HB.out.size)); clear HB hb; have HB := HB'; clear HB')
      | (go_at_call 12; (with_reducible refine (add_none (some ⟨w.heap.size, 0, none⟩) none 0 0 _ (fun V hb => HZ.out V (HB.out.trans (hb.mono HB.out.size)))).mono ?_); rintro e wk ⟨rfl, hb⟩; have HB' := Lib.hid (HB.out.trans (hb.mono HB.out.size)); clear HB hb; have HB := HB'; clear HB')
      | (go_at_call 15; (with_reducible refine (none_sum none g _ (fun V _ => HN.out V)).mono ?_); rintro e wk ⟨rfl, hb⟩; have HB' := Lib.hid (HB.out.trans (hb.mono HB.out.size)); clear HB hb; have HB := HB'; clear HB')
      | (go_at_call 15; (with_reducible refine (none_sum (some ⟨w.heap.size, 0, none⟩) g _ (fun V hb => HZ.out V (HB.out.trans (hb.mono HB.out.size)))).mono ?_); rintro e wk ⟨rfl, hb⟩; have HB' := Lib.hid (HB.out.trans (hb.mono HB.out.size)); clear HB hb; have HB := HB'; clear HB')
      | (go_at_call 17; (with_reducible refine (none_peak none g _ (fun V _ => HN.out V)).mono ?_); rintro e wk ⟨rfl, hb⟩; have HB' := Lib.hid (HB.out.trans (hb.mono HB.out.size)); clear HB hb; have HB := HB'; clear HB')
      | (go_at_call 17; (with_reducible refine (none_peak (some ⟨w.heap.size, 0, none⟩) g _ (fun V hb => HZ.out V (HB.out.trans (hb.mono HB.out.size)))).mono ?_); rintro e wk ⟨rfl, hb⟩; have HB' := Lib.hid (HB.out.trans (hb.mono HB.out.size)); clear HB hb; have HB := HB'; clear HB')
      | (go_at_call 21; (with_reducible refine (none_total none _ (fun V _ => HN.out V)).mono ?_); rintro e wk ⟨rfl, hb⟩; have HB' := Lib.hid (HB.out.trans (hb.mono HB.out.size)); clear HB hb; have HB := HB'; clear HB')
      | (go_at_call 21; (with_reducible refine (none_total (some ⟨w.heap.size, 0, none⟩) _ (fun V hb => HZ.out V (HB.out.trans (hb.mono HB.out.size)))).mono ?_); rintro e wk ⟨rfl, hb⟩; have HB' := Lib.hid (HB.out.trans (hb.mono HB.out.size)); clear HB hb; have HB := HB'; clear HB')
      | (go_at_call 23; (with_reducible refine (none_ticks none _ (fun V _ => HN.out V)).mono ?_); rintro e wk ⟨rfl, hb⟩; have HB' := Lib.hid (HB.out.trans (hb.mono HB.out.size)); clear HB hb; have HB := HB'; clear HB')
      | (go_at_call 23; (with_reducible refine (none_ticks (some ⟨w.heap.size, 0, none⟩) _ (fun V hb => HZ.out V (HB.out.trans (hb.mono HB.out.size)))).mono ?_); rintro e wk ⟨rfl, hb⟩; have HB' := Lib.hid (HB.out.trans (hb.mono HB.out.size)); clear HB hb; have HB := HB'; clear HB')
      | (go_at_call 19; (with_reducible refine (none_mean none g _ (fun V _ => HN.out V)).mono ?_); rintro e wk ⟨rfl, hb⟩; have HB' := Lib.hid (HB.out.trans (hb.mono HB.out.size)); clear HB hb; have HB := HB'; clear HB')
      | (go_at_call 19; (with_reducible refine (none_mean (some ⟨w.heap.size, 0, none⟩) g _ (fun V hb => HZ.out V (HB.out.trans (hb.mono HB.out.size)))).mono ?_); rintro e wk ⟨rfl, hb⟩; have HB' := Lib.hid (HB.out.trans (hb.mono HB.out.size)); clear HB hb; have HB := HB'; clear HB')
      | (go_at_call 14; (with_reducible refine (none_copy none _ (fun V _ => HN.out V)).mono ?_); rintro e wk ⟨rfl, hb⟩; have HB' := Lib.hid (HB.out.trans (hb.mono HB.out.size)); clear HB hb; have HB := HB'; clear HB')
      | (go_at_call 14; (with_reducible refine (none_copy (some ⟨w.heap.size, 0, none⟩) _ (fun V hb => HZ.out V (HB.out.trans (hb.mono HB.out.size)))).mono ?_); rintro e wk ⟨rfl, hb⟩; have HB' := Lib.hid (HB.out.trans (hb.mono HB.out.size)); clear HB hb; have HB := HB'; clear HB')
      | (go_at_call 9; (with_reducible refine (known_any _).mono ?_); rintro e w4 ⟨rfl, hb4⟩; have HB4 := Lib.hid (HB.out.trans (hb4.mono HB.out.size))))
    go_ret
    exact ⟨rfl, ((Below.refl _ w).alloc (Nat.le_refl _) _).trans (HB4.out.mono (by simp))⟩
  · have k3 : decide ((300 : Int) < (g.size : Int)) = true := decide_eq_true (by omega)
    go_enter Try.func5, Try.ntmps5
    go_wp2_with (go_at_call 9; (with_reducible refine (known_any _).mono ?_); rintro e w4 ⟨rfl, hb4⟩)
    go_ret
    exact ⟨rfl, hb4⟩

set_option maxRecDepth 100000 in
theorem lifted (os : Os) (started : os.Started) (H : Type) (enc : TypeId × Value → H) :
    ReturnsInHanded {} Try.checked os 5 .any (Rows.ledgerNilSpec.pre6 enc Try.prog Try.f5 Rows.ledgerNilRow.domain false) (Rows.ledgerNilSpec.post enc Try.prog Try.f5 false true false false) := by
  refine returnsInHanded_of_change (C := Try.checked) Try.own started (by kernel_rfl) Try.func5
    (ChangeSpec.witness6 (enc := enc) (C := Try.checked) false ⟨#[], #[.string ⟨#[]⟩], []⟩ 8 (by kernel_rfl) (by kernel_rfl) (by kernel_rfl) (by kernel_rfl)) ?_
  intro W base args ds gs before hval hW _ _
  have hW' := hW
  obtain ⟨p, q, hA, hV, rfl, hfz, hnd⟩ := hW
  rw [Try.params5] at hA hval
  obtain ⟨v0, d0, rfl, rfl, h0⟩ := trodAll_one hA
  obtain ⟨g, rfl, _, _, _⟩ := Go.ChangeMaps.open_string Try.underlying9 (hval 0 9 v0 rfl rfl) h0
  refine (walk g W).mono fun e W' ⟨he, hb⟩ => ?_
  exact ⟨_, he, law_post Try.laidOut hW' rfl (by kernel_rfl) (by kernel_rfl) Try.underlying4 rfl rfl rfl hb⟩

theorem over : Rows.ledgerNilRow.holds Try.pinned (OpenSpec.ofChange Rows.ledgerNilSpec) :=
  OpenClaim.holds_of_wide 5 Try.f5 rfl rfl rfl rfl rfl rfl rfl ⟨rfl, rfl, rfl, rfl, rfl⟩ rfl rfl rfl rfl rfl (by kernel_rfl) Try.func5 (by kernel_rfl)
    (of_decide_eq_true (by kernel_rfl)) (by unfold Func.isWrapper; first | (rw [if_pos (by decide +kernel)]; kernel_rfl) | (rw [if_neg (by decide +kernel)]; exact ⟨rfl, rfl⟩))
    (fun os started H enc _ => lifted os started H enc)

/-- The statement. -/
theorem proved : Rows.LedgerNilSaid := over
end ledgerNil
end Go.Proofs.Ytaipiflbigpniaa
