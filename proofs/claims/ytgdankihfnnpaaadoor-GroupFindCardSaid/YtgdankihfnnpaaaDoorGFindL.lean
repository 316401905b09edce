/-
  GroupFind: each right group is found by its name, at its place; none by another one.
-/
import Derived.Test.YtgdankihfnnpaaaDoorGLaw0
namespace Go.Proofs.YtgdankihfnnpaaaDoor
open Go.ChangeShapes Go.WideShapes Go.ChangeAt Go.RowKit
set_option linter.unusedVariables false
namespace groupFind
theorem find_of_right {l : List Gp} (h : rightGs l = true) {k : Nat} {g : Gp} (hg : l[k]? = some g) : findA l g.nm 0 = (k : Int) := by
  unfold rightGs at h
  rw [Bool.and_eq_true, List.all_eq_true] at h
  have := h.2 k (List.mem_range.2 (lt_at hg))
  rw [okG_at hg, Bool.and_eq_true, decide_eq_true_eq] at this
  exact this.2
theorem findA_neg : ∀ (l : List Gp) (key : ByteArray) (i : Int), 0 ≤ i → ((0 ≤ findA l key i) ↔ ∃ g ∈ l, g.nm = key)
  | [], key, i, hi => by simp [findA]
  | g :: l, key, i, hi => by
    rw [findA]
    by_cases h : g.nm = key
    · rw [if_pos h]
      exact ⟨fun _ => ⟨g, List.mem_cons_self, h⟩, fun _ => hi⟩
    · rw [if_neg h, findA_neg l key (i + 1) (by omega)]
      constructor
      · rintro ⟨x, hx, e⟩
        exact ⟨x, List.mem_cons_of_mem _ hx, e⟩
      · rintro ⟨x, hx, e⟩
        rcases List.mem_cons.1 hx with rfl | hx
        · exact absurd e h
        · exact ⟨x, hx, e⟩
def metB (l : List Gp) (name : ByteArray) (k : Nat) : Bool := (l.take k).any fun g => strB g.nm name
theorem met_succ {l : List Gp} {name : ByteArray} {k : Nat} {g : Gp} (hg : l[k]? = some g) : metB l name (k + 1) = (metB l name k || strB g.nm name) := by
  unfold metB
  rw [take_at hg, List.any_append]
  simp
theorem met_end {l : List Gp} {name : ByteArray} {n : Nat} (hn : l.length = n) : metB l name n = decide (0 ≤ findA l name 0) := by
  unfold metB
  rw [← hn, List.take_length]
  rw [Bool.eq_iff_iff, List.any_eq_true, decide_eq_true_eq, findA_neg l name 0 (by omega)]
  constructor
  · rintro ⟨g, hg, h⟩
    exact ⟨g, hg, of_decide_eq_true h⟩
  · rintro ⟨g, hg, h⟩
    exact ⟨g, hg, decide_eq_true h⟩

set_option maxRecDepth 100000 in
set_option maxHeartbeats 8000000 in
theorem walk (a : Option Addr) (ka : Nat) (l : List Gp) (name : ByteArray) (w : World) (hT : Tab10 w) (hF : GpL w a l) (hl : l.length ≤ maxLen) (hI : ∀ g ∈ l, MacIn w g.like) :
    Calls Tryd.prog 6 #[.slice a l.length ka, .string name] w fun e w' => e = .returned (.bool true) ∧ Below w.heap.size w w' := by
  have HX := Lib.hid (Below.refl w.heap.size w)
  have K := fun V (hV : Below w.heap.size w V) => known_any V (hT.mono hV)
  have A1 := fun V (hV : Below w.heap.size w V) => lightgs_any a l ka V (hF.mono hV) hl (fun g hg => (hI g hg).mono hV)
  have HK := Lib.hid K
  cases h1 : lightGs l
  · rw [h1] at A1
    have HA1 := Lib.hid A1
    clear A1 K h1 hT hF hI
    go_enter Tryd.func6, Tryd.ntmps6
    go_wp2_with (first
      | (go_at_call 7; ((with_reducible refine (HA1.out _ HX.out).mono ?_); rintro e w1 ⟨rfl, hb1⟩; have HX1 := Lib.hid ((HX).out.trans (Below.mono hb1 (HX).out.size))))
      | (go_at_call 9; ((with_reducible refine (HK.out _ HX1.out).mono ?_); rintro e w2 ⟨rfl, hb2⟩; have HX2 := Lib.hid ((HX1).out.trans (Below.mono hb2 (HX1).out.size)))))
    go_ret
    exact ⟨rfl, HX2.out⟩
  · rw [h1] at A1
    have HA1 := Lib.hid A1
    by_cases h3 : name.size ≤ 300
    · have k3 : decide ((300 : Int) < (name.size : Int)) = false := decide_eq_false (by omega)
      have B1 := fun V (hV : Below w.heap.size w V) => rightgs_any a l ka V (hF.mono hV) (fun g hg => (hI g hg).mono hV) h1
      cases h2 : rightGs l
      · rw [h2] at B1
        have HB1 := Lib.hid B1
        clear A1 B1 K h1 h2 hT hF hI h3
        go_enter Tryd.func6, Tryd.ntmps6
        go_wp2_with (first
          | (go_at_call 7; ((with_reducible refine (HA1.out _ HX.out).mono ?_); rintro e w1 ⟨rfl, hb1⟩; have HX1 := Lib.hid ((HX).out.trans (Below.mono hb1 (HX).out.size))))
          | (go_at_call 10; ((with_reducible refine (HB1.out _ HX1.out).mono ?_); rintro e w2 ⟨rfl, hb2⟩; have HX2 := Lib.hid ((HX1).out.trans (Below.mono hb2 (HX1).out.size))))
          | (go_at_call 9; ((with_reducible refine (HK.out _ HX2.out).mono ?_); rintro e w3 ⟨rfl, hb3⟩; have HX3 := Lib.hid ((HX2).out.trans (Below.mono hb3 (HX2).out.size)))))
        go_ret
        exact ⟨rfl, HX3.out⟩
      · rw [h2] at B1
        have HB1 := Lib.hid B1
        have hl20 := ((lightGs_iff l).1 h1).1
        have HFR := Lib.hid (fun k g (hg : l[k]? = some g) => find_of_right h2 hg)
        have B3 := fun (key : ByteArray) V (hV : Below w.heap.size w V) => find_any a l ka key V (hF.mono hV) hl
        have B5 := fun V (hV : Below w.heap.size w V) => nm_is a ka l V (hF.mono hV) (by omega)
        have HF := Lib.hid hF
        obtain ⟨n, hn⟩ : ∃ n, l.length = n := ⟨_, rfl⟩
        have Hn := Lib.hid hn
        have HME := Lib.hid (met_end (name := name) hn)
        rw [hn] at HA1 hl20 ⊢
        simp only [hn] at B1 B3 B5
        have HB1 := Lib.hid B1
        have HB3 := Lib.hid B3
        have HB5 := Lib.hid B5
        have HT := Lib.hid hT
        clear A1 B1 B3 B5 K h1 h2 hT hF hI hn hl h3
        have kq1 : ((n : Int) != n) = false := by simp
        go_enter Tryd.func6, Tryd.ntmps6
        go_wp2_with (first
          | (go_at_call 7; ((with_reducible refine (HA1.out _ HX.out).mono ?_); rintro e w1 ⟨rfl, hb1⟩; have HX1 := Lib.hid ((HX).out.trans (Below.mono hb1 (HX).out.size))))
          | (go_at_call 10; ((with_reducible refine (HB1.out _ HX1.out).mono ?_); rintro e w2 ⟨rfl, hb2⟩; have HX2 := Lib.hid ((HX1).out.trans (Below.mono hb2 (HX1).out.size))))
          | (go_at_call 15; (with_reducible refine (HB5.out _ HX2.out).mono ?_); rintro e w3 ⟨⟨v, rfl, a3, k3', rfl, hr3⟩, hb3⟩; have HR3 := Lib.hid hr3; have HX3 := Lib.hid (HX2.out.trans (Below.mono hb3 HX2.out.size)); clear hr3))
        go_loopw [6, 7] (fun m i wr => ∃ k : Nat, k ≤ n ∧ i = .int .i64 k ∧ m = .bool (metB l name k) ∧ Below w3.heap.size w3 wr) (fun _ i _ => n - (intOf i).toNat)
        case atStart => exact ⟨0, by omega, rfl, rfl, by (repeat' (first | with_reducible exact Below.refl _ _ | with_reducible assumption | with_reducible refine Below.drew ?_ | with_reducible refine below_drewN' ?_ _ | with_reducible refine Below.alloc ?_ ?_ _ | with_reducible refine Below.setCell ?_ ?_ _ | with_reducible refine below_step (by assumption) ?_ ?_ | omega | (simp; done) | (simp; omega)))⟩
        case round =>
          obtain ⟨k, hk, rfl, rfl, hB⟩ := hrel
          have HB := Lib.hid hB
          obtain ⟨hcB, hfB⟩ := bcell hB
          have hbz := hB.size
          have HXr := Lib.hid (HX3.out.trans (hB.mono HX3.out.size))
          by_cases hlt : k < n
          · obtain ⟨g, hg⟩ := mem_at (l := l) (k := k) (by rw [Hn.out]; exact hlt)
            obtain ⟨b1, o1, rfl, hb1, hc1⟩ := (HF.out.mono HX3.out) (by rw [Hn.out]; omega)
            obtain ⟨b2, o2, e2, hb2, hc2⟩ := HR3.out (by rw [List.length_map, Hn.out]; omega)
            subst e2
            obtain ⟨c0, -⟩ := grow_cells (hc1 k g hg)
            have d0 := txt_cell (hc2 k g.nm (by rw [List.getElem?_map, hg]; rfl))
            rw [Nat.mul_one] at d0
            have hbw1 : b1 < wr.heap.size := by omega
            have hbw2 : b2 < wr.heap.size := by omega
            have hms := met_succ (name := name) hg
            have B := HB3.out g.nm
            rw [HFR.out k g hg] at B
            have HBk := Lib.hid B
            have kk := strB_list g.nm name
            obtain ⟨s1, hs1⟩ : ∃ s, g.nm = s := ⟨_, rfl⟩
            rw [hs1] at c0 d0 HBk hms kk
            obtain ⟨y, hy⟩ : ∃ y, metB l name k = y := ⟨_, rfl⟩
            rw [hy] at hms ⊢
            have Hms := Lib.hid hms
            have k8 : ((k : Int) != k) = false := by simp
            clear hc1 hc2 B hg hs1 hms hy
            cases y
            all_goals
              go_wp2
              have hcH := held_cell
              refine region_below (by kernel_rfl) (by kernel_rfl) ?_
              repeat
                ((with_reducible refine wpQuiet_step (fun K hK => ?_))
                 go_simp
                 first
                   | ((with_reducible refine hK _ ?_); clear hK K)
                   | (apply Exists.intro
                      (with_reducible refine ⟨fun n => ?_, hK _ ?_⟩)
                      ((go_at_call 12; exact held_calls (HBk.out _ (HXr.out.trans (Below.mono (by (have hnb := n.below); (repeat' (first | with_reducible exact Below.refl _ _ | with_reducible assumption | with_reducible refine Below.drew ?_ | with_reducible refine below_drewN' ?_ _ | with_reducible refine Below.alloc ?_ ?_ _ | with_reducible refine Below.setCell ?_ ?_ _ | with_reducible refine below_step (by assumption) ?_ ?_ | omega | (simp; done) | (simp; omega)))) HXr.out.size)))))
                      clear hK K))
              with_reducible refine wpQuiet_nil ?_
              intro w5 hw2
              clear hcH
              obtain ⟨⟨_, hb5⟩, rfl⟩ := hw2
              (try dsimp only)
              obtain ⟨hc5, hf5⟩ := bcell hb5
              have hz5 := hb5.size
              (try simp at hz5)
              have z5_0 : b1 < w5.heap.size := (by omega); have y5_0 : b1 ≤ w5.heap.size := (by omega); have z5_1 : b2 < w5.heap.size := (by omega); have y5_1 : b2 ≤ w5.heap.size := (by omega)
              go_wp2
              go_roundw
              case rel => exact ⟨k + 1, by omega, by go_num, by rw [Hms.out]; first | rfl | simp, by (repeat' (first | with_reducible exact Below.refl _ _ | with_reducible assumption | with_reducible refine Below.drew ?_ | with_reducible refine below_drewN' ?_ _ | with_reducible refine Below.alloc ?_ ?_ _ | with_reducible refine Below.setCell ?_ ?_ _ | with_reducible refine below_step (by assumption) ?_ ?_ | omega | (simp; done) | (simp; omega)))⟩
              case measure => simp [intOf]; omega
          · obtain rfl : k = n := by omega
            have hme := HME.out
            have B := HB3.out name
            obtain ⟨f, hf⟩ : ∃ f, findA l name 0 = f := ⟨_, rfl⟩
            rw [hf] at hme B
            rw [hme]
            have HBk := Lib.hid B
            clear B hf hme
            have HKT := Lib.hid (fun V (hV : Below w.heap.size w V) => HK.out V hV)
            go_wp2_with (first
              | (go_at_call 12; ((with_reducible refine (HBk.out _ HXr.out).mono ?_); rintro e w5 ⟨rfl, hb5⟩; have HX5 := Lib.hid ((HXr).out.trans (Below.mono hb5 (HXr).out.size))))
              | (go_at_call 9; ((with_reducible refine (HK.out _ HX5.out).mono ?_); rintro e w6 ⟨rfl, hb6⟩; have HX6 := Lib.hid ((HX5).out.trans (Below.mono hb6 (HX5).out.size)))))
            go_ret
            exact ⟨rfl, HX6.out⟩
    · have k3 : decide ((300 : Int) < (name.size : Int)) = true := decide_eq_true (by omega)
      clear A1 K h1 hT hF hI h3
      go_enter Tryd.func6, Tryd.ntmps6
      go_wp2_with (first
        | (go_at_call 7; ((with_reducible refine (HA1.out _ HX.out).mono ?_); rintro e w1 ⟨rfl, hb1⟩; have HX1 := Lib.hid ((HX).out.trans (Below.mono hb1 (HX).out.size))))
        | (go_at_call 9; ((with_reducible refine (HK.out _ HX1.out).mono ?_); rintro e w2 ⟨rfl, hb2⟩; have HX2 := Lib.hid ((HX1).out.trans (Below.mono hb2 (HX1).out.size)))))
      go_ret
      exact ⟨rfl, HX2.out⟩
set_option maxRecDepth 100000 in
      theorem lifted (os : Os) (started : os.Started) (H : Type) (enc : TypeId × Value → H) :
          ReturnsInHanded {} Tryd.checked os 6 .any (fun w args => (Rows.groupFindSpec.pre enc Tryd.prog Tryd.f6 Rows.groupFindRow.domain false w args ∧ laidMetH Tryd.prog Rows.groupFindRow.laid w) ∧ sizedMet enc Tryd.prog Tryd.f6 (OpenSpec.ofChange Rows.groupFindSpec) false w args)
            (Rows.groupFindSpec.post enc Tryd.prog Tryd.f6 false true false false) := by
        refine returnsInHanded_of_change_and (C := Tryd.checked) (X := fun w _ => laidMetH Tryd.prog Rows.groupFindRow.laid w) (fun _ _ _ hh h => h.of_heap hh) Tryd.own started (by kernel_rfl) Tryd.func6
          (ChangeSpec.witness_at (enc := enc) (C := Tryd.checked) (os := os) (X := fun w _ => laidMetH Tryd.prog Rows.groupFindRow.laid w) false (laidWorld os) #[.slice none 0 0, .string ⟨#[]⟩] 8 rfl (by kernel_rfl) (by kernel_rfl) (by kernel_rfl) (by kernel_rfl) (by kernel_rfl) (laidWorld_met os _)) ?_
        intro W base args ds gs before hval hW _ _ hL _
        have hW' := hW
        obtain ⟨p, q, hA, hV, rfl, hfz, hnd⟩ := hW
        rw [Tryd.params6] at hA hval
        obtain ⟨v0, v1, d0, d1, p0, p1, rfl, rfl, rfl, h0, h1⟩ := trodAll_two hA
        obtain ⟨a, l, ka, rfl, _, hF, hl, _, hI⟩ := open_grps (hval 0 22 v0 rfl rfl) h0
        obtain ⟨s, rfl, _, _, _⟩ := Go.ChangeMaps.open_string Tryd.underlying9 (hval 1 9 v1 rfl rfl) h1
        refine (walk a ka l s W (tab_of hL) hF hl hI).mono fun e W' ⟨he, hb⟩ => ?_
        exact ⟨_, he, law_post Tryd.laidOut hW' rfl (by kernel_rfl) (by kernel_rfl) Tryd.underlying4 rfl rfl rfl hb⟩
      
      theorem over : Rows.GroupFindSaid :=
        OpenClaim.holds_of_wide 6 Tryd.f6 rfl rfl rfl rfl rfl rfl rfl ⟨rfl, rfl, rfl, rfl, rfl⟩ rfl rfl rfl rfl rfl (by kernel_rfl) Tryd.func6 (by kernel_rfl)
          (of_decide_eq_true (by kernel_rfl)) (by unfold Func.isWrapper; first | (rw [if_pos (by decide +kernel)]; kernel_rfl) | (rw [if_neg (by decide +kernel)]; exact ⟨rfl, rfl⟩))
          (fun os started H enc _ => lifted os started H enc)
      
      /-- The statement: the card. -/
      theorem proved : Rows.GroupFindCardSaid :=
        Claim7.holds_tied_plain_at .later [] [.data, .data, .data] true Rows.groupFindCard.stood.harness Rows.groupFindCard.stood.looks
          over (fun _ h => by cases h) (by kernel_rfl) (fun _ h => by cases h) groupFind_row_tie rfl ⟨rfl, rfl⟩ (by kernel_rfl) rfl
          (fun f fn hf hfn => by
            obtain rfl : f = 6 := Option.some.inj ((show Tryd.prog.funcNamed Rows.groupFindRow.func = some 6 by kernel_rfl).symm.trans hf) |>.symm
            obtain rfl : fn = Tryd.f6 := (Option.some.inj (Tryd.func6.symm.trans hfn)).symm
            exact ⟨by kernel_rfl, fun j t ht => by
              rw [Tryd.params6] at ht
              rcases j with _ | _ | j
              · obtain rfl : t = 22 := by simpa using ht.symm
                exact (show Tryd.prog.wantsStandIn 22 = false by kernel_rfl)
              · obtain rfl : t = 9 := by simpa using ht.symm
                exact (show Tryd.prog.wantsStandIn 9 = false by kernel_rfl)
              · simp at ht⟩)
          (by kernel_rfl)
end groupFind
end Go.Proofs.YtgdankihfnnpaaaDoor
