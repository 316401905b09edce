/-
  CloudNil: a provider that is not there makes nothing.
-/
import Derived.Test.YtcfdejlbchdciaaDoorClKn
import Derived.Test.YtcfdejlbchdciaaDoorGLaid
import Derived.Test.YtcfdejlbchdciaaDoorMA
namespace Go.Proofs.YtcfdejlbchdciaaDoor
open Go.ChangeShapes Go.WideShapes Go.ChangeAt Go.RowKit
set_option linter.unusedVariables false
namespace cloudNil
abbrev zeroC : Obj := .cells #[.pointer none, .slice none 0 0, .slice none 0 0, .slice none 0 0, .int .i64 0, .int .i64 0, .int .i64 0] 50

set_option maxRecDepth 100000 in
set_option maxHeartbeats 8000000 in
theorem walk (g : ByteArray) (n : Int) (w : World) (hT : Tab10 w) :
    Calls Tryd.prog 5 #[.string g, .int .i64 n] w fun e w' => e = .returned (.bool true) ∧ Below w.heap.size w w' := by
  have HK := Lib.hid (fun V (hV : Below w.heap.size w V) => known_any V (hT.mono hV))
  clear hT
  by_cases h3 : g.size ≤ 300
  · have k3 : decide ((300 : Int) < (g.size : Int)) = false := decide_eq_false (by omega)
    have hN := fun V => made_nil V
    have hZ := fun V (hb : Below (w.alloc zeroC).heap.size (w.alloc zeroC) V) => made_zero w.heap.size V (by rw [hb.cell (p := ⟨w.heap.size, 0, none⟩) (by simp)]; exact World.cell?_alloc_at _ _ _ _ rfl)
    have HN := Lib.hid hN
    have HZ := Lib.hid hZ
    clear hN hZ
    have HB := Lib.hid (Below.refl (w.alloc zeroC).heap.size (w.alloc zeroC))
    go_enter Tryd.func5, Tryd.ntmps5
    go_wp2_with (first
      | (go_at_call 13; (with_reducible refine (none_tick none _ (fun V _ => HN.out V)).mono ?_); rintro e wk ⟨rfl, hb⟩; have HB' := Lib.hid (HB.out.trans (hb.mono HB.out.size)); clear HB hb; have HB := HB'; clear HB')
      | (go_at_call 13; (with_reducible refine (none_tick (some ⟨w.heap.size, 0, none⟩) _ (fun V hb => HZ.out V (HB.out.trans (hb.mono HB.out.size)))).mono ?_); rintro e wk ⟨rfl, hb⟩; have HB' := Lib.hid (HB.out.trans (hb.mono HB.out.size)); clear HB hb; have HB := HB'; clear HB'))
    (try dsimp only [List.append])
    go_wp2_with (first
      | (go_at_call 16; (with_reducible refine (none_incr none g n _ (fun V _ => HN.out V)).mono ?_); rintro e wk ⟨rfl, hb⟩; have HB' := Lib.hid (HB.out.trans (hb.mono HB.out.size)); clear HB hb; have HB := HB'; clear HB')
      | (go_at_call 16; (with_reducible refine (none_incr (some ⟨w.heap.size, 0, none⟩) g n _ (fun V hb => HZ.out V (HB.out.trans (hb.mono HB.out.size)))).mono ?_); rintro e wk ⟨rfl, hb⟩; have HB' := Lib.hid (HB.out.trans (hb.mono HB.out.size)); clear HB hb; have HB := HB'; clear HB')
      | (go_at_call 17; (with_reducible refine (none_del none g _ (fun V _ => HN.out V)).mono ?_); rintro e wk ⟨rfl, hb⟩; have HB' := Lib.hid (HB.out.trans (hb.mono HB.out.size)); clear HB hb; have HB := HB'; clear HB')
      | (go_at_call 18; (with_reducible refine (none_decr (some ⟨w.heap.size, 0, none⟩) g n _ (fun V hb => HZ.out V (HB.out.trans (hb.mono HB.out.size)))).mono ?_); rintro e wk ⟨rfl, hb⟩; have HB' := Lib.hid (HB.out.trans (hb.mono HB.out.size)); clear HB hb; have HB := HB'; clear HB')
      | (go_at_call 19; (with_reducible refine (none_brk none g true _ (fun V _ => HN.out V)).mono ?_); rintro e wk ⟨rfl, hb⟩; have HB' := Lib.hid (HB.out.trans (hb.mono HB.out.size)); clear HB hb; have HB := HB'; clear HB')
      | (go_at_call 20; (with_reducible refine (none_fail none g _ (fun V _ => HN.out V)).mono ?_); rintro e wk ⟨rfl, hb⟩; have HB' := Lib.hid (HB.out.trans (hb.mono HB.out.size)); clear HB hb; have HB := HB'; clear HB')
      | (go_at_call 11; (with_reducible refine (none_now none _ (fun V _ => HN.out V)).mono ?_); rintro e wk ⟨rfl, hb⟩; have HB' := Lib.hid (HB.out.trans (hb.mono HB.out.size)); clear HB hb; have HB := HB'; clear HB')
      | (go_at_call 11; (with_reducible refine (none_now (some ⟨w.heap.size, 0, none⟩) _ (fun V hb => HZ.out V (HB.out.trans (hb.mono HB.out.size)))).mono ?_); rintro e wk ⟨rfl, hb⟩; have HB' := Lib.hid (HB.out.trans (hb.mono HB.out.size)); clear HB hb; have HB := HB'; clear HB')
      | (go_at_call 12; (with_reducible refine (none_tgt none g _ (fun V _ => HN.out V)).mono ?_); rintro e wk ⟨rfl, hb⟩; have HB' := Lib.hid (HB.out.trans (hb.mono HB.out.size)); clear HB hb; have HB := HB'; clear HB')
      | (go_at_call 9; (with_reducible refine (none_insts none _ (fun V _ => HN.out V)).mono ?_); rintro e wk ⟨rfl, hb⟩; have HB' := Lib.hid (HB.out.trans (hb.mono HB.out.size)); clear HB hb; have HB := HB'; clear HB')
      | (go_at_call 9; (with_reducible refine (none_insts (some ⟨w.heap.size, 0, none⟩) _ (fun V hb => HZ.out V (HB.out.trans (hb.mono HB.out.size)))).mono ?_); rintro e wk ⟨rfl, hb⟩; have HB' := Lib.hid (HB.out.trans (hb.mono HB.out.size)); clear HB hb; have HB := HB'; clear HB')
      | (go_at_call 14; (with_reducible refine (none_calls none _ (fun V _ => HN.out V)).mono ?_); rintro e wk ⟨rfl, hb⟩; have HB' := Lib.hid (HB.out.trans (hb.mono HB.out.size)); clear HB hb; have HB := HB'; clear HB')
      | (go_at_call 21; (with_reducible refine (none_copy none _ (fun V _ => HN.out V)).mono ?_); rintro e wk ⟨rfl, hb⟩; have HB' := Lib.hid (HB.out.trans (hb.mono HB.out.size)); clear HB hb; have HB := HB'; clear HB')
      | (go_at_call 21; (with_reducible refine (none_copy (some ⟨w.heap.size, 0, none⟩) _ (fun V hb => HZ.out V (HB.out.trans (hb.mono HB.out.size)))).mono ?_); rintro e wk ⟨rfl, hb⟩; have HB' := Lib.hid (HB.out.trans (hb.mono HB.out.size)); clear HB hb; have HB := HB'; clear HB')
      | (go_at_call 7; (with_reducible refine (HK.out _ (((Below.refl _ w).alloc (Nat.le_refl _) _).trans (HB.out.mono (by simp)))).mono ?_); rintro e w4 ⟨rfl, hb4⟩; have HB4 := Lib.hid (HB.out.trans (hb4.mono HB.out.size))))
    go_ret
    exact ⟨rfl, ((Below.refl _ w).alloc (Nat.le_refl _) _).trans (HB4.out.mono (by simp))⟩
  · have k3 : decide ((300 : Int) < (g.size : Int)) = true := decide_eq_true (by omega)
    go_enter Tryd.func5, Tryd.ntmps5
    go_wp2_with (go_at_call 7; (with_reducible refine (HK.out _ (Below.refl _ _)).mono ?_); rintro e w4 ⟨rfl, hb4⟩)
    go_ret
    exact ⟨rfl, hb4⟩

set_option maxRecDepth 100000 in
theorem lifted (os : Os) (started : os.Started) (H : Type) (enc : TypeId × Value → H) :
    ReturnsInHanded {} Tryd.checked os 5 .any (fun w args => (Rows.cloudNilSpec.pre enc Tryd.prog Tryd.f5 Rows.cloudNilRow.domain false w args ∧ laidMetH Tryd.prog Rows.cloudNilRow.laid w) ∧ sizedMet enc Tryd.prog Tryd.f5 (OpenSpec.ofChange Rows.cloudNilSpec) false w args)
      (Rows.cloudNilSpec.post enc Tryd.prog Tryd.f5 false true false false) := by
  refine returnsInHanded_of_change_and (C := Tryd.checked) (X := fun w _ => laidMetH Tryd.prog Rows.cloudNilRow.laid w) (fun _ _ _ hh h => h.of_heap hh) Tryd.own started (by kernel_rfl) Tryd.func5
    (ChangeSpec.witness_at (enc := enc) (C := Tryd.checked) (os := os) (X := fun w _ => laidMetH Tryd.prog Rows.cloudNilRow.laid w) false (laidWorld os) #[.string ⟨#[]⟩, .int .i64 0] 8 rfl (by kernel_rfl) (by kernel_rfl) (by kernel_rfl) (by kernel_rfl) (by kernel_rfl) (laidWorld_met os _)) ?_
  intro W base args ds gs before hval hW _ _ hL _
  have hW' := hW
  obtain ⟨p, q, hA, hV, rfl, hfz, hnd⟩ := hW
  rw [Tryd.params5] at hA hval
  obtain ⟨v0, v1, d0, d1, p0, p1, rfl, rfl, rfl, h0, h1⟩ := trodAll_two hA
  obtain ⟨g, rfl, _, _, _⟩ := Go.ChangeMaps.open_string Tryd.underlying9 (hval 0 9 v0 rfl rfl) h0
  obtain ⟨n, rfl, _, _, wx⟩ := open_int Tryd.underlying3 (hval 1 3 v1 rfl rfl) h1
  refine (walk g n W (tab_of hL)).mono fun e W' ⟨he, hb⟩ => ?_
  exact ⟨_, he, law_post Tryd.laidOut hW' rfl (by kernel_rfl) (by kernel_rfl) Tryd.underlying4 rfl rfl rfl hb⟩

theorem over : Rows.CloudNilSaid :=
  OpenClaim.holds_of_wide 5 Tryd.f5 rfl rfl rfl rfl rfl rfl rfl ⟨rfl, rfl, rfl, rfl, rfl⟩ rfl rfl rfl rfl rfl (by kernel_rfl) Tryd.func5 (by kernel_rfl)
    (of_decide_eq_true (by kernel_rfl)) (by unfold Func.isWrapper; first | (rw [if_pos (by decide +kernel)]; kernel_rfl) | (rw [if_neg (by decide +kernel)]; exact ⟨rfl, rfl⟩))
    (fun os started H enc _ => lifted os started H enc)

/-- The statement: the card. -/
theorem proved : Rows.CloudNilCardSaid :=
  Claim7.holds_tied_plain_at .later [] [.data, .data, .data] true Rows.cloudNilCard.stood.harness Rows.cloudNilCard.stood.looks
    over (fun _ h => by cases h) (by kernel_rfl) (fun _ h => by cases h) cloudNil_row_tie rfl ⟨rfl, rfl⟩ (by kernel_rfl) rfl
    (fun f fn hf hfn => by
      obtain rfl : f = 5 := Option.some.inj ((show Tryd.prog.funcNamed Rows.cloudNilRow.func = some 5 by kernel_rfl).symm.trans hf) |>.symm
      obtain rfl : fn = Tryd.f5 := (Option.some.inj (Tryd.func5.symm.trans hfn)).symm
      exact ⟨by kernel_rfl, fun j t ht => by
        rw [Tryd.params5] at ht
        rcases j with _ | _ | j
        · obtain rfl : t = 9 := by simpa using ht.symm
          exact (show Tryd.prog.wantsStandIn 9 = false by kernel_rfl)
        · obtain rfl : t = 3 := by simpa using ht.symm
          exact (show Tryd.prog.wantsStandIn 3 = false by kernel_rfl)
        · simp at ht⟩)
    (by kernel_rfl)
end cloudNil
end Go.Proofs.YtcfdejlbchdciaaDoor
