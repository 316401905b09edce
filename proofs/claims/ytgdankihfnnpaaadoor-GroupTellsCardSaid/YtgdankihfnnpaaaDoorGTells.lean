/-
  GroupTells: whether any groups are right, where a name stands, their names, and which machines are of a group, is as the document says.
-/
import Derived.Test.YtgdankihfnnpaaaDoorGLaw0
namespace Go.Proofs.YtgdankihfnnpaaaDoor
open Go.ChangeShapes Go.WideShapes Go.ChangeAt Go.RowKit
set_option linter.unusedVariables false
namespace groupTells
set_option maxRecDepth 100000 in
set_option maxHeartbeats 8000000 in
theorem walk (a c : Option Addr) (ka kc : Nat) (l : List Gp) (ms : List Mac) (name : ByteArray) (w : World) (hT : Tab10 w)
    (hF : GpL w a l) (hl : l.length ≤ maxLen) (hI : ∀ g ∈ l, MacIn w g.like) (hG : MacL w c ms) (hm : ms.length ≤ maxLen) (hJ : ∀ m ∈ ms, MacIn w m) :
    Calls Tryd.prog 3 #[.slice a l.length ka, .slice c ms.length kc, .string name] w fun e w' => e = .returned (.bool true) ∧ Below w.heap.size w w' := by
  have HX := Lib.hid (Below.refl w.heap.size w)
  have K := fun V (hV : Below w.heap.size w V) => known_any V (hT.mono hV)
  have A1 := fun V (hV : Below w.heap.size w V) => lightgs_any a l ka V (hF.mono hV) hl (fun g hg => (hI g hg).mono hV)
  have A2 := fun V (hV : Below w.heap.size w V) => lighty_any c ms kc V (hG.mono hV) hm (fun g hg => (hJ g hg).mono hV)
  have HK := Lib.hid K
  cases h1 : lightGs l
  · rw [h1] at A1
    have HA1 := Lib.hid A1
    clear A1 A2 K h1 hT hF hI hG hJ
    go_enter Tryd.func3, Tryd.ntmps3
    go_wp2_with (first
      | (go_at_call 7; ((with_reducible refine (HA1.out _ HX.out).mono ?_); rintro e w1 ⟨rfl, hb1⟩; have HX1 := Lib.hid ((HX).out.trans (Below.mono hb1 (HX).out.size))))
      | (go_at_call 9; ((with_reducible refine (HK.out _ HX1.out).mono ?_); rintro e w2 ⟨rfl, hb2⟩; have HX2 := Lib.hid ((HX1).out.trans (Below.mono hb2 (HX1).out.size)))))
    go_ret
    exact ⟨rfl, HX2.out⟩
  · rw [h1] at A1
    have HA1 := Lib.hid A1
    cases h2 : lightY ms
    · rw [h2] at A2
      have HA2 := Lib.hid A2
      clear A1 A2 K h1 h2 hT hF hI hG hJ
      go_enter Tryd.func3, Tryd.ntmps3
      go_wp2_with (first
        | (go_at_call 7; ((with_reducible refine (HA1.out _ HX.out).mono ?_); rintro e w1 ⟨rfl, hb1⟩; have HX1 := Lib.hid ((HX).out.trans (Below.mono hb1 (HX).out.size))))
        | (go_at_call 8; ((with_reducible refine (HA2.out _ HX1.out).mono ?_); rintro e w2 ⟨rfl, hb2⟩; have HX2 := Lib.hid ((HX1).out.trans (Below.mono hb2 (HX1).out.size))))
        | (go_at_call 9; ((with_reducible refine (HK.out _ HX2.out).mono ?_); rintro e w3 ⟨rfl, hb3⟩; have HX3 := Lib.hid ((HX2).out.trans (Below.mono hb3 (HX2).out.size)))))
      go_ret
      exact ⟨rfl, HX3.out⟩
    · rw [h2] at A2
      have HA2 := Lib.hid A2
      by_cases h3 : name.size ≤ 300
      · have k3 : decide ((300 : Int) < (name.size : Int)) = false := decide_eq_false (by omega)
        have hl20 := ((lightGs_iff l).1 h1).1
        have hm20 := ((lightY_iff ms).1 h2).1
        have B1 := fun V (hV : Below w.heap.size w V) => rightgs_any a l ka V (hF.mono hV) (fun g hg => (hI g hg).mono hV) h1
        have B2 := fun V (hV : Below w.heap.size w V) => refrightgs_any a l ka V (hF.mono hV) (fun g hg => (hI g hg).mono hV) h1
        have B3 := fun V (hV : Below w.heap.size w V) => find_any a l ka name V (hF.mono hV) hl
        have B4 := fun V (hV : Below w.heap.size w V) => reffind_any a l ka name V (hF.mono hV) hl
        have B5 := fun V (hV : Below w.heap.size w V) => nm_is a ka l V (hF.mono hV) (by omega)
        have B6 := fun V (hV : Below w.heap.size w V) => refnm_is a ka l V (hF.mono hV) (by omega)
        obtain ⟨q, hq⟩ : ∃ q, (ms.filter (ofG name)).length = q := ⟨_, rfl⟩
        have hq20 : q ≤ 20 := by
          have := List.length_filter_le (ofG name) ms
          omega
        have B7 := fun V (hV : Below w.heap.size w V) => of_is c kc q ms name V (hG.mono hV) (by omega) hq
        have B8 := fun V (hV : Below w.heap.size w V) => refof_is c kc q ms name V (hG.mono hV) (by omega) hq
        obtain ⟨r, hr⟩ : ∃ r, rightGs l = r := ⟨_, rfl⟩
        obtain ⟨f, hf⟩ : ∃ f, findA l name 0 = f := ⟨_, rfl⟩
        rw [hr] at B1 B2
        rw [hf] at B3 B4
        obtain ⟨n, hn⟩ : ∃ n, l.length = n := ⟨_, rfl⟩
        obtain ⟨n2, hn2⟩ : ∃ n, ms.length = n := ⟨_, rfl⟩
        obtain ⟨L, hL⟩ : ∃ L, l.map (·.nm) = L := ⟨_, rfl⟩
        obtain ⟨M, hM⟩ : ∃ M, (ms.filter (ofG name)).map (·.nm) = M := ⟨_, rfl⟩
        have HLn := Lib.hid (show L.length = n by rw [← hL, List.length_map, hn])
        have HMq := Lib.hid (show M.length = q by rw [← hM, List.length_map, hq])
        simp only [hL, hn] at B5 B6
        simp only [hM, hn2] at B7 B8
        rw [hn] at B1 B2 B3 B4 HA1 hl20 ⊢
        rw [hn2] at HA2 hm20 ⊢
        have HB1 := Lib.hid B1
        have HB2 := Lib.hid B2
        have HB3 := Lib.hid B3
        have HB4 := Lib.hid B4
        have HB5 := Lib.hid B5
        have HB6 := Lib.hid B6
        have HB7 := Lib.hid B7
        have HB8 := Lib.hid B8
        clear A1 A2 B1 B2 B3 B4 B5 B6 B7 B8 K h1 h2 hT hF hI hG hJ hr hf hn hn2 hL hM hq hl hm h3
        go_enter Tryd.func3, Tryd.ntmps3
        go_wp2_with (first
          | (go_at_call 7; ((with_reducible refine (HA1.out _ HX.out).mono ?_); rintro e w1 ⟨rfl, hb1⟩; have HX1 := Lib.hid ((HX).out.trans (Below.mono hb1 (HX).out.size))))
          | (go_at_call 8; ((with_reducible refine (HA2.out _ HX1.out).mono ?_); rintro e w2 ⟨rfl, hb2⟩; have HX2 := Lib.hid ((HX1).out.trans (Below.mono hb2 (HX1).out.size))))
          | (go_at_call 10; ((with_reducible refine (HB1.out _ HX2.out).mono ?_); rintro e w3 ⟨rfl, hb3⟩; have HX3 := Lib.hid ((HX2).out.trans (Below.mono hb3 (HX2).out.size))))
          | (go_at_call 11; ((with_reducible refine (HB2.out _ HX3.out).mono ?_); rintro e w4 ⟨rfl, hb4⟩; have HX4 := Lib.hid ((HX3).out.trans (Below.mono hb4 (HX3).out.size))))
          | (go_at_call 12; ((with_reducible refine (HB3.out _ HX4.out).mono ?_); rintro e w5 ⟨rfl, hb5⟩; have HX5 := Lib.hid ((HX4).out.trans (Below.mono hb5 (HX4).out.size))))
          | (go_at_call 13; ((with_reducible refine (HB4.out _ HX5.out).mono ?_); rintro e w6 ⟨rfl, hb6⟩; have HX6 := Lib.hid ((HX5).out.trans (Below.mono hb6 (HX5).out.size))))
          | (go_at_call 15; (with_reducible refine (HB5.out _ HX6.out).mono ?_); rintro e w7 ⟨⟨v, rfl, a7, k7, rfl, hr7⟩, hb7⟩; have HR7 := Lib.hid hr7; have HX7 := Lib.hid (HX6.out.trans (Below.mono hb7 HX6.out.size)); clear hr7)
          | (go_at_call 16; (with_reducible refine (HB6.out _ HX7.out).mono ?_); rintro e w8 ⟨⟨v, rfl, a8, k8, rfl, hr8⟩, hb8⟩; have HR8 := Lib.hid hr8; have HX8 := Lib.hid (HX7.out.trans (Below.mono hb8 HX7.out.size)); clear hr8)
          | (go_at_call 14; (with_reducible refine (texts_same a7 a8 k7 k8 n L _ (HR7.out.mono hb8) HR8.out HLn.out (by omega)).mono ?_); rintro e w9 ⟨rfl, hb9⟩; have HX9 := Lib.hid (HX8.out.trans (Below.mono hb9 HX8.out.size)))
          | (go_at_call 17; (with_reducible refine (HB7.out _ HX9.out).mono ?_); rintro e w10 ⟨⟨v, rfl, a10, k10, rfl, hr10⟩, hb10⟩; have HR10 := Lib.hid hr10; have HX10 := Lib.hid (HX9.out.trans (Below.mono hb10 HX9.out.size)); clear hr10)
          | (go_at_call 18; (with_reducible refine (HB8.out _ HX10.out).mono ?_); rintro e w11 ⟨⟨v, rfl, a11, k11, rfl, hr11⟩, hb11⟩; have HR11 := Lib.hid hr11; have HX11 := Lib.hid (HX10.out.trans (Below.mono hb11 HX10.out.size)); clear hr11)
          | (go_at_call 14; (with_reducible refine (texts_same a10 a11 k10 k11 q M _ (HR10.out.mono hb11) HR11.out HMq.out (by omega)).mono ?_); rintro e w12 ⟨rfl, hb12⟩; have HX12 := Lib.hid (HX11.out.trans (Below.mono hb12 HX11.out.size)))
          | (go_at_call 9; ((with_reducible refine (HK.out _ HX12.out).mono ?_); rintro e w13 ⟨rfl, hb13⟩; have HX13 := Lib.hid ((HX12).out.trans (Below.mono hb13 (HX12).out.size)))))
        go_ret
        exact ⟨rfl, HX13.out⟩
      · have k3 : decide ((300 : Int) < (name.size : Int)) = true := decide_eq_true (by omega)
        clear A1 A2 K h1 h2 hT hF hI hG hJ h3
        go_enter Tryd.func3, Tryd.ntmps3
        go_wp2_with (first
          | (go_at_call 7; ((with_reducible refine (HA1.out _ HX.out).mono ?_); rintro e w1 ⟨rfl, hb1⟩; have HX1 := Lib.hid ((HX).out.trans (Below.mono hb1 (HX).out.size))))
          | (go_at_call 8; ((with_reducible refine (HA2.out _ HX1.out).mono ?_); rintro e w2 ⟨rfl, hb2⟩; have HX2 := Lib.hid ((HX1).out.trans (Below.mono hb2 (HX1).out.size))))
          | (go_at_call 9; ((with_reducible refine (HK.out _ HX2.out).mono ?_); rintro e w3 ⟨rfl, hb3⟩; have HX3 := Lib.hid ((HX2).out.trans (Below.mono hb3 (HX2).out.size)))))
        go_ret
        exact ⟨rfl, HX3.out⟩

set_option maxRecDepth 100000 in
theorem lifted (os : Os) (started : os.Started) (H : Type) (enc : TypeId × Value → H) :
    ReturnsInHanded {} Tryd.checked os 3 .any (fun w args => (Rows.groupTellsSpec.pre enc Tryd.prog Tryd.f3 Rows.groupTellsRow.domain false w args ∧ laidMetH Tryd.prog Rows.groupTellsRow.laid w) ∧ sizedMet enc Tryd.prog Tryd.f3 (OpenSpec.ofChange Rows.groupTellsSpec) false w args)
      (Rows.groupTellsSpec.post enc Tryd.prog Tryd.f3 false true false false) := by
  refine returnsInHanded_of_change_and (C := Tryd.checked) (X := fun w _ => laidMetH Tryd.prog Rows.groupTellsRow.laid w) (fun _ _ _ hh h => h.of_heap hh) Tryd.own started (by kernel_rfl) Tryd.func3
    (ChangeSpec.witness_at (enc := enc) (C := Tryd.checked) (os := os) (X := fun w _ => laidMetH Tryd.prog Rows.groupTellsRow.laid w) false (laidWorld os) #[.slice none 0 0, .slice none 0 0, .string ⟨#[]⟩] 8 rfl (by kernel_rfl) (by kernel_rfl) (by kernel_rfl) (by kernel_rfl) (by kernel_rfl) (laidWorld_met os _)) ?_
  intro W base args ds gs before hval hW _ _ hL _
  have hW' := hW
  obtain ⟨p, q, hA, hV, rfl, hfz, hnd⟩ := hW
  rw [Tryd.params3] at hA hval
  obtain ⟨v0, v1, v2, d0, d1, d2, p0, p1, p2, rfl, rfl, rfl, h0, h1, h2⟩ := trodAll_three hA
  obtain ⟨a, l, ka, rfl, _, hF, hl, _, hI⟩ := open_grps (hval 0 22 v0 rfl rfl) h0
  obtain ⟨c, ms, kc, rfl, _, hG, hm, _, hJ⟩ := open_macs (hval 1 23 v1 rfl rfl) h1
  obtain ⟨s, rfl, _, _, _⟩ := Go.ChangeMaps.open_string Tryd.underlying9 (hval 2 9 v2 rfl rfl) h2
  refine (walk a c ka kc l ms s W (tab_of hL) hF hl hI hG hm hJ).mono fun e W' ⟨he, hb⟩ => ?_
  exact ⟨_, he, law_post Tryd.laidOut hW' rfl (by kernel_rfl) (by kernel_rfl) Tryd.underlying4 rfl rfl rfl hb⟩

theorem over : Rows.GroupTellsSaid :=
  OpenClaim.holds_of_wide 3 Tryd.f3 rfl rfl rfl rfl rfl rfl rfl ⟨rfl, rfl, rfl, rfl, rfl⟩ rfl rfl rfl rfl rfl (by kernel_rfl) Tryd.func3 (by kernel_rfl)
    (of_decide_eq_true (by kernel_rfl)) (by unfold Func.isWrapper; first | (rw [if_pos (by decide +kernel)]; kernel_rfl) | (rw [if_neg (by decide +kernel)]; exact ⟨rfl, rfl⟩))
    (fun os started H enc _ => lifted os started H enc)

/-- The statement: the card. -/
theorem proved : Rows.GroupTellsCardSaid :=
  Claim7.holds_tied_plain_at .later [] [.data, .data, .data] true Rows.groupTellsCard.stood.harness Rows.groupTellsCard.stood.looks
    over (fun _ h => by cases h) (by kernel_rfl) (fun _ h => by cases h) groupTells_row_tie rfl ⟨rfl, rfl⟩ (by kernel_rfl) rfl
    (fun f fn hf hfn => by
      obtain rfl : f = 3 := Option.some.inj ((show Tryd.prog.funcNamed Rows.groupTellsRow.func = some 3 by kernel_rfl).symm.trans hf) |>.symm
      obtain rfl : fn = Tryd.f3 := (Option.some.inj (Tryd.func3.symm.trans hfn)).symm
      exact ⟨by kernel_rfl, fun j t ht => by
        rw [Tryd.params3] at ht
        rcases j with _ | _ | _ | j
        · obtain rfl : t = 22 := by simpa using ht.symm
          exact (show Tryd.prog.wantsStandIn 22 = false by kernel_rfl)
        · obtain rfl : t = 23 := by simpa using ht.symm
          exact (show Tryd.prog.wantsStandIn 23 = false by kernel_rfl)
        · obtain rfl : t = 9 := by simpa using ht.symm
          exact (show Tryd.prog.wantsStandIn 9 = false by kernel_rfl)
        · simp at ht⟩)
    (by kernel_rfl)
end groupTells
end Go.Proofs.YtgdankihfnnpaaaDoor
