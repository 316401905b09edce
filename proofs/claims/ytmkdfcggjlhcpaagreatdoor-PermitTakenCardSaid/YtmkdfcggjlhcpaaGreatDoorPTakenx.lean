/-
  PermitTaken: what is permitted in the state of a provider that is not broken the provider takes.
  Conditions: none.
-/
import Derived.Test.YtmkdfcggjlhcpaaGreatDoorPW0x
import Derived.Test.YtmkdfcggjlhcpaaGreatDoorPW1x
import Derived.Test.YtmkdfcggjlhcpaaGreatDoorPW2x
import Derived.Test.YtmkdfcggjlhcpaaGreatDoorPW3x
import Derived.Test.YtmkdfcggjlhcpaaGreatDoorPW4x
import Derived.Test.YtmkdfcggjlhcpaaGreatDoorClRx
namespace Go.Proofs.YtmkdfcggjlhcpaaGreatDoor
open Go.ChangeShapes Go.WideShapes Go.ChangeAt Go.RowKit
set_option linter.unusedVariables false
set_option linter.unusedSimpArgs false
namespace permitTaken
set_option maxRecDepth 100000 in
theorem walk {H : Type} {enc : TypeId × Value → H} {W : World} {base : Nat} {v : Value} {d : DataW H} {q : List MemPlace} (hT : Tab10 W)
    (hv : Value.okWide Tryz.prog W .any base 27 v) (h : DataW.Trod enc Tryz.prog W 0 (fun _ => true) true 27 v d q) :
    Calls Tryz.prog 3 #[v] W fun e W' => e = .returned (.bool true) ∧ Below W.heap.size W W' := by
  obtain ⟨x, rfl, hI⟩ := open_wd hv h
  by_cases hE : lightGs x.l = true ∧ rightGs x.l = true ∧ x.l.length ≤ 4 ∧ x.c.nm.size ≤ 300
  · by_cases hw : x.c.what = sUp ∨ x.c.what = sRaise ∨ x.c.what = sFix
    · by_cases hM : x.xs.length ≤ 30
      · exact walkA x W hT hI hE hM hw
      · exact walkB x W hT hI hE (by omega) hw
    · by_cases hM : x.xs.length ≤ 30
      · exact walkC x W hT hI hE hM hw
      · exact walkD x W hT hI hE (by omega) hw
  · exact walk0 x W hT hI hE
set_option maxRecDepth 100000 in
theorem lifted (os : Os) (started : os.Started) (H : Type) (enc : TypeId × Value → H) :
    ReturnsInHanded {} Tryz.checked os 3 .any (fun w args => (Rows.permitTakenSpec.pre enc Tryz.prog Tryz.f3 Rows.permitTakenRow.domain false w args ∧ laidMetH Tryz.prog Rows.permitTakenRow.laid w) ∧ sizedMet enc Tryz.prog Tryz.f3 (OpenSpec.ofChange Rows.permitTakenSpec) false w args)
      (Rows.permitTakenSpec.post enc Tryz.prog Tryz.f3 false true false false) := by
  refine returnsInHanded_of_change_and (C := Tryz.checked) (X := fun w _ => laidMetH Tryz.prog Rows.permitTakenRow.laid w) (fun _ _ _ hh h => h.of_heap hh) Tryz.own started (by kernel_rfl) Tryz.func3
    (ChangeSpec.witness_at (enc := enc) (C := Tryz.checked) (os := os) (X := fun w _ => laidMetH Tryz.prog Rows.permitTakenRow.laid w) false (laidWorld os) #[.agg #[.slice none 0 0, .int .i64 0, .slice none 0 0, .string ⟨#[]⟩, .string ⟨#[]⟩, .int .i64 0]] 8 rfl (by kernel_rfl) (by kernel_rfl) (by kernel_rfl) (by kernel_rfl) (by kernel_rfl) (laidWorld_met os _)) ?_
  intro W base args ds gs before hval hW _ _ hL _
  have hW' := hW
  obtain ⟨p, q, hA, hV, rfl, hfz, hnd⟩ := hW
  rw [Tryz.params3] at hA hval
  obtain ⟨v0, d0, rfl, rfl, h0⟩ := trodAll_one hA
  refine (walk (tab_of hL) (hval 0 27 v0 rfl rfl) h0).mono fun e W' ⟨he, hb⟩ => ?_
  exact ⟨_, he, law_post Tryz.laidOut hW' rfl (by kernel_rfl) (by kernel_rfl) Tryz.underlying4 rfl rfl rfl hb⟩
theorem over : Rows.PermitTakenSaid :=
  OpenClaim.holds_of_wide 3 Tryz.f3 rfl rfl rfl rfl rfl rfl rfl ⟨rfl, rfl, rfl, rfl, rfl⟩ rfl rfl rfl rfl rfl (by kernel_rfl) Tryz.func3 (by kernel_rfl)
    (of_decide_eq_true (by kernel_rfl)) (by unfold Func.isWrapper; first | (rw [if_pos (by decide +kernel)]; kernel_rfl) | (rw [if_neg (by decide +kernel)]; exact ⟨rfl, rfl⟩))
    (fun os started H enc _ => lifted os started H enc)
theorem proved : Rows.PermitTakenCardSaid :=
  Claim7.holds_tied_plain_at .later [] [.data, .data, .data] true Rows.permitTakenCard.stood.harness Rows.permitTakenCard.stood.looks
    over (fun _ h => by cases h) (by kernel_rfl) (fun _ h => by cases h) permitTaken_row_tie rfl ⟨rfl, rfl⟩ (by kernel_rfl) rfl
    (fun f fn hf hfn => by
      obtain rfl : f = 3 := Option.some.inj ((show Tryz.prog.funcNamed Rows.permitTakenRow.func = some 3 by kernel_rfl).symm.trans hf) |>.symm
      obtain rfl : fn = Tryz.f3 := (Option.some.inj (Tryz.func3.symm.trans hfn)).symm
      exact ⟨by kernel_rfl, fun j t ht => by
        rw [Tryz.params3] at ht
        have h3 : t = 27 := by
          rcases j with _ | j
          · simpa using ht.symm
          · simp at ht
        subst h3
        exact (show Tryz.prog.wantsStandIn 27 = false by kernel_rfl)⟩)
    (by kernel_rfl)
end permitTaken
end Go.Proofs.YtmkdfcggjlhcpaaGreatDoor
