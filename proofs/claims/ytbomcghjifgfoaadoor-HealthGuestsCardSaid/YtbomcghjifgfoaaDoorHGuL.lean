/-
  HealthGuests: the machines that any instances of any right groups will be are as the document says.
-/
import Derived.Test.YtbomcghjifgfoaaDoorHKn
import Derived.Test.YtbomcghjifgfoaaDoorHGst3
import Derived.Test.YtbomcghjifgfoaaDoorHOpn
import Derived.Test.YtbomcghjifgfoaaDoorGLaid
namespace Go.Proofs.YtbomcghjifgfoaaDoor
open Go.ChangeShapes Go.WideShapes Go.ChangeAt Go.RowKit
set_option linter.unusedVariables false
namespace healthGuests
/-- A machine of a list of machines that are alike. -/
theorem same_at {w : World} {ms ns : List Mac} {k : Nat} (h1 : ∀ m ∈ ms, MacAt w m) (h2 : ∀ m ∈ ns, MacAt w m) (h : AlikeL ms ns) (hk : k < ms.length) :
    ∃ x y : Mac, ms[k]? = some x ∧ ns[k]? = some y ∧ MacAt w x ∧ MacAt w y ∧ Alike x y := by
  obtain ⟨x, hx⟩ := mem_at (l := ms) (k := k) hk
  obtain ⟨y, hy⟩ := mem_at (l := ns) (k := k) (by rw [← h.1]; exact hk)
  exact ⟨x, y, hx, hy, h1 x (List.mem_of_getElem? hx), h2 y (List.mem_of_getElem? hy), h.2 k x y hx hy⟩
theorem alike_back {x y z : Mac} (h1 : Alike x y) (h2 : Alike z y) : Alike x z :=
  ⟨h1.nm.trans h2.nm.symm, h1.gp.trans h2.gp.symm, h1.r0.trans h2.r0.symm, h1.r1.trans h2.r1.symm, h1.r2.trans h2.r2.symm, h1.r3.trans h2.r3.symm, h1.r4.trans h2.r4.symm, h1.labs.trans h2.labs.symm, h1.tnts.trans h2.tnts.symm, h1.rd.trans h2.rd.symm⟩
theorem alikes_back {a b c : List Mac} (h1 : AlikeL a b) (h2 : AlikeL c b) : AlikeL a c :=
  ⟨h1.1.trans h2.1.symm, fun i x y hx hy => by
    obtain ⟨z, hz⟩ := mem_at (l := b) (k := i) (by rw [← h1.1]; exact lt_at hx)
    exact alike_back (h1.2 i x z hx hz) (h2.2 i y z hy hz)⟩

set_option maxRecDepth 100000 in
set_option maxHeartbeats 8000000 in
theorem walk (a c : Option Addr) (ka kc : Nat) (l : List Gp) (xs : List Ins) (w : World) (hT : Tab10 w)
    (hF : GpL w a l) (hl : l.length ≤ maxLen) (hI : ∀ g ∈ l, MacIn w g.like) (hG : InsL w c xs) (hm : xs.length ≤ maxLen) :
    Calls Tryd.prog 4 #[.slice a l.length ka, .slice c xs.length kc] w fun e w' => e = .returned (.bool true) ∧ Below w.heap.size w w' := by
  have HX := Lib.hid (Below.refl w.heap.size w)
  have K := fun V (hV : Below w.heap.size w V) => known_any V (hT.mono hV)
  have A1 := fun V (hV : Below w.heap.size w V) => lightgs_any a l ka V (hF.mono hV) hl (fun g hg => (hI g hg).mono hV)
  have A3 := fun V (hV : Below w.heap.size w V) => light29_any c kc xs V (hG.mono hV) hm
  have HK := Lib.hid K
  cases h1 : lightGs l
  · rw [h1] at A1
    have HA1 := Lib.hid A1
    clear A1 A3 K h1 hT hF hI hG
    go_enter Tryd.func4, Tryd.ntmps4
    go_wp2_with (first
      | (go_at_call 18; ((with_reducible refine (HA1.out _ HX.out).mono ?_); rintro e w1 ⟨rfl, hb1⟩; have HX1 := Lib.hid ((HX).out.trans (Below.mono hb1 (HX).out.size))))
      | (go_at_call 8; ((with_reducible refine (HK.out _ HX1.out).mono ?_); rintro e w2 ⟨rfl, hb2⟩; have HX2 := Lib.hid ((HX1).out.trans (Below.mono hb2 (HX1).out.size)))))
    go_ret
    exact ⟨rfl, HX2.out⟩
  · rw [h1] at A1
    have HA1 := Lib.hid A1
    have A2 := fun V (hV : Below w.heap.size w V) => refrightgs_any a l ka V (hF.mono hV) (fun g hg => (hI g hg).mono hV) h1
    cases h2 : rightGs l
    · rw [h2] at A2
      have HA2 := Lib.hid A2
      clear A1 A2 A3 K h1 h2 hT hF hI hG
      go_enter Tryd.func4, Tryd.ntmps4
      go_wp2_with (first
        | (go_at_call 18; ((with_reducible refine (HA1.out _ HX.out).mono ?_); rintro e w1 ⟨rfl, hb1⟩; have HX1 := Lib.hid ((HX).out.trans (Below.mono hb1 (HX).out.size))))
        | (go_at_call 19; ((with_reducible refine (HA2.out _ HX1.out).mono ?_); rintro e w2 ⟨rfl, hb2⟩; have HX2 := Lib.hid ((HX1).out.trans (Below.mono hb2 (HX1).out.size))))
        | (go_at_call 8; ((with_reducible refine (HK.out _ HX2.out).mono ?_); rintro e w3 ⟨rfl, hb3⟩; have HX3 := Lib.hid ((HX2).out.trans (Below.mono hb3 (HX2).out.size)))))
      go_ret
      exact ⟨rfl, HX3.out⟩
    · rw [h2] at A2
      have HA2 := Lib.hid A2
      cases h3 : lightI xs
      · rw [h3] at A3
        have HA3 := Lib.hid A3
        clear A1 A2 A3 K h1 h2 h3 hT hF hI hG
        go_enter Tryd.func4, Tryd.ntmps4
        go_wp2_with (first
          | (go_at_call 18; ((with_reducible refine (HA1.out _ HX.out).mono ?_); rintro e w1 ⟨rfl, hb1⟩; have HX1 := Lib.hid ((HX).out.trans (Below.mono hb1 (HX).out.size))))
          | (go_at_call 19; ((with_reducible refine (HA2.out _ HX1.out).mono ?_); rintro e w2 ⟨rfl, hb2⟩; have HX2 := Lib.hid ((HX1).out.trans (Below.mono hb2 (HX1).out.size))))
          | (go_at_call 7; ((with_reducible refine (HA3.out _ HX2.out).mono ?_); rintro e w3 ⟨rfl, hb3⟩; have HX3 := Lib.hid ((HX2).out.trans (Below.mono hb3 (HX2).out.size))))
          | (go_at_call 8; ((with_reducible refine (HK.out _ HX3.out).mono ?_); rintro e w4 ⟨rfl, hb4⟩; have HX4 := Lib.hid ((HX3).out.trans (Below.mono hb4 (HX3).out.size)))))
        go_ret
        exact ⟨rfl, HX4.out⟩
      · rw [h3] at A3
        have HA3 := Lib.hid A3
        have hli := (lightI_iff xs).1 h3
        have hx60 := hli.1
        have G1 := fun V (hV : Below w.heap.size w V) => guests_any a c ka kc l xs V (hT.mono hV) (hF.mono hV) (fun g hg => (hI g hg).mono hV) h1 (hG.mono hV) (by omega) (fun x hx => by have := hli.2 x hx; omega)
        have G2 := fun V (hV : Below w.heap.size w V) => refguests_any a c ka kc l xs V (hF.mono hV) (fun g hg => (hI g hg).mono hV) h1 (hG.mono hV) (by omega) (fun x hx => by have := hli.2 x hx; omega)
        obtain ⟨Z, hZ⟩ : ∃ Z, guestsV l xs = Z := ⟨_, rfl⟩
        have hZl : Z.length ≤ 60 := by
          rw [← hZ]
          have := guests_len l xs
          omega
        rw [hZ] at G1 G2
        obtain ⟨n, hn⟩ : ∃ n, l.length = n := ⟨_, rfl⟩
        obtain ⟨n2, hn2⟩ : ∃ n, xs.length = n := ⟨_, rfl⟩
        rw [hn] at A1 A2 G1 G2 HA1 HA2 ⊢
        rw [hn2] at A3 G1 G2 HA3 ⊢
        have HG1 := Lib.hid G1
        have HG2 := Lib.hid G2
        clear A1 A2 A3 K h1 h2 h3 hT hF hI hG G1 G2 hZ hn hn2 hli hx60 hl hm
        go_enter Tryd.func4, Tryd.ntmps4
        go_wp2_with (first
          | (go_at_call 18; ((with_reducible refine (HA1.out _ HX.out).mono ?_); rintro e w1 ⟨rfl, hb1⟩; have HX1 := Lib.hid ((HX).out.trans (Below.mono hb1 (HX).out.size))))
          | (go_at_call 19; ((with_reducible refine (HA2.out _ HX1.out).mono ?_); rintro e w2 ⟨rfl, hb2⟩; have HX2 := Lib.hid ((HX1).out.trans (Below.mono hb2 (HX1).out.size))))
          | (go_at_call 7; ((with_reducible refine (HA3.out _ HX2.out).mono ?_); rintro e w3 ⟨rfl, hb3⟩; have HX3 := Lib.hid ((HX2).out.trans (Below.mono hb3 (HX2).out.size))))
          | (go_at_call 20; (with_reducible refine (HG1.out _ HX3.out).mono ?_); rintro e w4 ⟨⟨v, rfl, ms, ad, k4, rfl, hal4, hml4, hma4⟩, hb4⟩; have HAL4 := Lib.hid hal4; have HML4 := Lib.hid hml4; have HMA4 := Lib.hid hma4; have hq4 := hal4.1; have HX4 := Lib.hid (HX3.out.trans (Below.mono hb4 HX3.out.size)); clear hal4 hml4 hma4)
          | (go_at_call 21; (with_reducible refine (HG2.out _ HX4.out).mono ?_); rintro e w5 ⟨⟨v, rfl, ns, ad5, k5, rfl, hal5, hml5, hma5⟩, hb5⟩; have hq5 := hal5.1; have HAL := Lib.hid (alikes_back HAL4.out hal5); have HML := Lib.hid (HML4.out.mono hb5); have HMA := Lib.hid (show ∀ m ∈ ms, MacAt w5 m from fun m h => (HMA4.out m h).mono hb5); have HNL := Lib.hid hml5; have HNA := Lib.hid hma5; have HX5 := Lib.hid (HX4.out.trans (Below.mono hb5 HX4.out.size)); clear hal5 hml5 hma5))
        obtain ⟨z, hz⟩ : ∃ z, Z.length = z := ⟨_, rfl⟩
        have Hz := Lib.hid (show ms.length = z ∧ ns.length = z from ⟨hq4.trans hz, hq5.trans hz⟩)
        rw [hz] at hZl
        clear hq4 hq5 hb4 hb5
        (try rw [hz])
        clear hz
        go_loopw [7] (fun i wr => ∃ k : Nat, k ≤ z ∧ i = .int .i64 k ∧ Below w5.heap.size w5 wr) (fun i _ => z - (intOf i).toNat)
        case atStart => exact ⟨0, Nat.zero_le _, rfl, by (repeat' (first | with_reducible exact Below.refl _ _ | with_reducible assumption | with_reducible refine Below.drew ?_ | with_reducible refine below_drewN' ?_ _ | with_reducible refine Below.alloc ?_ ?_ _ | with_reducible refine Below.setCell ?_ ?_ _ | with_reducible refine below_step (by assumption) ?_ ?_ | omega | (simp; done) | (simp; omega)))⟩
        case round =>
          obtain ⟨k, hk, rfl, hB⟩ := hrel
          have HB := Lib.hid hB
          by_cases hlt : k < z
          · obtain ⟨x, y, hx, hy, ax, ay, axy⟩ := same_at HMA.out HNA.out HAL.out (k := k) (by rw [Hz.out.1]; exact hlt)
            obtain ⟨b1, o1, e1, hb1, hc1⟩ := (HML.out.mono hB) (by rw [Hz.out.1]; omega)
            obtain ⟨b2, o2, e2, hb2, hc2⟩ := (HNL.out.mono hB) (by rw [Hz.out.2]; omega)
            subst e1
            subst e2
            obtain ⟨c0, c1, c2, c3, c4, c5, c6, c7, c8, c9⟩ := mrow10 (hc1 k x hx)
            obtain ⟨d0, d1, d2, d3, d4, d5, d6, d7, d8, d9⟩ := mrow10 (hc2 k y hy)
            have HS := Lib.hid (fun V (hV : Below wr.heap.size wr V) => samem_any x y V ((ax.mono hB).mono hV) ((ay.mono hB).mono hV) axy)
            clear hc1 hc2 hx hy ax ay axy
            go_wp2
            have hcH := held_cell
            refine region_rel (by kernel_rfl) (by kernel_rfl) ?_
            repeat
              ((with_reducible refine relStep (fun K hK => ?_))
               (have HK := Lib.hid hK)
               clear hK
               (first
                 | (apply relInl
                    · intro r n hf
                      have Hf := Lib.hid hf
                      clear hf
                      unfold relAt
                      go_simp
                      (first | (refine relUpon_val ?_ (Below.refl _ _); exact rfl) | exact rfl | (refine relUpon_enter ?_; ((go_at_call 22; (with_reducible refine (HS.out _ (by (have hnb := n.below); (repeat' (first | with_reducible exact Below.refl _ _ | with_reducible assumption | with_reducible refine Below.drew ?_ | with_reducible refine below_drewN' ?_ _ | with_reducible refine Below.alloc ?_ ?_ _ | with_reducible refine Below.setCell ?_ ?_ _ | with_reducible refine below_step (by assumption) ?_ ?_ | omega | (simp; done) | (simp; omega))))).mono ?_); rintro e w6 ⟨rfl, hb⟩; exact ⟨⟨_, rfl, rfl⟩, hb⟩))))
                    (simp only [Act.put, List.setIfInBounds_toArray, List.set_cons_zero, List.set_cons_succ])
                    (with_reducible refine HK.out _ _ ?_)
                    clear HK K)
                 | (fail)))
            refine relNil ?_
            intro r6 n6 hx6
            clear hcH
            (try simp only [List.nil_append, List.cons_append, List.mem_cons, List.not_mem_nil, or_false, forall_eq_or_imp, forall_eq, false_implies, implies_true] at hx6)
            obtain ⟨w6, hb6⟩ := n6
            (try dsimp only)
            obtain ⟨hc6, hf6⟩ := bcell hb6
            have hz6 := hb6.size
            (try simp at hz6)
            have HB6 := Lib.hid (HB.out.trans (hb6.mono HB.out.size))
            go_wp2
            go_roundw
            case rel => exact ⟨k + 1, by omega, by go_num, HB6.out⟩
            case measure => simp [intOf]; omega
          · obtain rfl : k = z := by omega
            have HX6 := Lib.hid (HX5.out.trans (HB.out.mono HX5.out.size))
            go_wp2_with (go_at_call 8; ((with_reducible refine (HK.out _ HX6.out).mono ?_); rintro e w7 ⟨rfl, hb7⟩; have HX7 := Lib.hid ((HX6).out.trans (Below.mono hb7 (HX6).out.size))))
            go_ret
            exact ⟨rfl, HX7.out⟩

set_option maxRecDepth 100000 in
theorem lifted (os : Os) (started : os.Started) (H : Type) (enc : TypeId × Value → H) :
    ReturnsInHanded {} Tryd.checked os 4 .any (fun w args => (Rows.healthGuestsSpec.pre enc Tryd.prog Tryd.f4 Rows.healthGuestsRow.domain false w args ∧ laidMetH Tryd.prog Rows.healthGuestsRow.laid w) ∧ sizedMet enc Tryd.prog Tryd.f4 (OpenSpec.ofChange Rows.healthGuestsSpec) false w args)
      (Rows.healthGuestsSpec.post enc Tryd.prog Tryd.f4 false true false false) := by
  refine returnsInHanded_of_change_and (C := Tryd.checked) (X := fun w _ => laidMetH Tryd.prog Rows.healthGuestsRow.laid w) (fun _ _ _ hh h => h.of_heap hh) Tryd.own started (by kernel_rfl) Tryd.func4
    (ChangeSpec.witness_at (enc := enc) (C := Tryd.checked) (os := os) (X := fun w _ => laidMetH Tryd.prog Rows.healthGuestsRow.laid w) false (laidWorld os) #[.slice none 0 0, .slice none 0 0] 8 rfl (by kernel_rfl) (by kernel_rfl) (by kernel_rfl) (by kernel_rfl) (by kernel_rfl) (laidWorld_met os _)) ?_
  intro W base args ds gs before hval hW _ _ hL _
  have hW' := hW
  obtain ⟨p, q, hA, hV, rfl, hfz, hnd⟩ := hW
  rw [Tryd.params4] at hA hval
  obtain ⟨v0, v1, d0, d1, p0, p1, rfl, rfl, rfl, h0, h1⟩ := trodAll_two hA
  obtain ⟨a, l, ka, rfl, _, hF, hl, _, hI⟩ := open_grps (hval 0 35 v0 rfl rfl) h0
  obtain ⟨c, xs, kc, rfl, _, hG, hm, _⟩ := open_ins (hval 1 23 v1 rfl rfl) h1
  refine (walk a c ka kc l xs W (tab_of hL) hF hl hI hG hm).mono fun e W' ⟨he, hb⟩ => ?_
  exact ⟨_, he, law_post Tryd.laidOut hW' rfl (by kernel_rfl) (by kernel_rfl) Tryd.underlying4 rfl rfl rfl hb⟩

theorem over : Rows.HealthGuestsSaid :=
  OpenClaim.holds_of_wide 4 Tryd.f4 rfl rfl rfl rfl rfl rfl rfl ⟨rfl, rfl, rfl, rfl, rfl⟩ rfl rfl rfl rfl rfl (by kernel_rfl) Tryd.func4 (by kernel_rfl)
    (of_decide_eq_true (by kernel_rfl)) (by unfold Func.isWrapper; first | (rw [if_pos (by decide +kernel)]; kernel_rfl) | (rw [if_neg (by decide +kernel)]; exact ⟨rfl, rfl⟩))
    (fun os started H enc _ => lifted os started H enc)

/-- The statement: the card. -/
theorem proved : Rows.HealthGuestsCardSaid :=
  Claim7.holds_tied_plain_at .later [] [.data, .data, .data] true Rows.healthGuestsCard.stood.harness Rows.healthGuestsCard.stood.looks
    over (fun _ h => by cases h) (by kernel_rfl) (fun _ h => by cases h) healthGuests_row_tie rfl ⟨rfl, rfl⟩ (by kernel_rfl) rfl
    (fun f fn hf hfn => by
      obtain rfl : f = 4 := Option.some.inj ((show Tryd.prog.funcNamed Rows.healthGuestsRow.func = some 4 by kernel_rfl).symm.trans hf) |>.symm
      obtain rfl : fn = Tryd.f4 := (Option.some.inj (Tryd.func4.symm.trans hfn)).symm
      exact ⟨by kernel_rfl, fun j t ht => by
        rw [Tryd.params4] at ht
        rcases j with _ | _ | j
        · obtain rfl : t = 35 := by simpa using ht.symm
          exact (show Tryd.prog.wantsStandIn 35 = false by kernel_rfl)
        · obtain rfl : t = 23 := by simpa using ht.symm
          exact (show Tryd.prog.wantsStandIn 23 = false by kernel_rfl)
        · simp at ht⟩)
    (by kernel_rfl)
end healthGuests
end Go.Proofs.YtbomcghjifgfoaaDoor
