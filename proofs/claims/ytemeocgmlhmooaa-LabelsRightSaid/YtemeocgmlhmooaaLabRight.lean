/-
  LabelsRight: whether any labels, and any term, are right, is as the document says. For any labels and any term; no condition.
-/
import Derived.Test.YtemeocgmlhmooaaLabP
import Derived.Test.YtemeocgmlhmooaaRefR
namespace Go.Proofs.Ytemeocgmlhmooaa
open Go.ChangeShapes Go.WideShapes Go.ChangeAt Go.RowKit
set_option linter.unusedVariables false
namespace labelsRight

set_option maxRecDepth 100000 in
set_option maxHeartbeats 4000000 in
theorem walk1 (c : Option Addr) (kc : Nat) (l : List Lab) (t : Trm) (w : World) (hF : LabL w c l) (hm : l.length ≤ maxLen) (hT : TrmAt w t) :
    Calls Try.prog 3 #[.slice c l.length kc, .agg #[.string t.key, .int .i64 t.op, .slice t.va t.vals.length t.vk]] w fun e w' => e = .returned (.bool true) ∧ Below w.heap.size w w' := by
  have HF := Lib.hid hF
  have HT := Lib.hid hT
  clear hF hT
  have A := fun V (h : LabL V c l) => lightl_any c kc l V h hm
  have B := fun V (h : TrmAt V t) => lightterm_any t V h
  cases h1 : lightL l
  · rw [h1] at A
    have HA := Lib.hid A
    clear h1 A B
    go_enter Try.func3, Try.ntmps3
    go_wp2_with (first | (go_at_call 6; (with_reducible refine (HA.out _ (HF.out.mono (by (repeat' (first | with_reducible exact Below.refl _ _ | with_reducible assumption | with_reducible refine Below.drew ?_ | with_reducible refine below_drewN' ?_ _ | with_reducible refine Below.alloc ?_ ?_ _ | with_reducible refine Below.setCell ?_ ?_ _ | with_reducible refine below_step (by assumption) ?_ ?_ | omega | (simp; done) | (simp; omega)))))).mono ?_); rintro e w1 ⟨rfl, hb1⟩; have hz1 := hb1.size; (try simp at hz1)) | (go_at_call 8; (with_reducible refine (known_any _).mono ?_); rintro e w2 ⟨rfl, hb2⟩; have hz2 := hb2.size))
    go_ret
    exact ⟨rfl, by (repeat' (first | with_reducible exact Below.refl _ _ | with_reducible assumption | with_reducible refine Below.drew ?_ | with_reducible refine below_drewN' ?_ _ | with_reducible refine Below.alloc ?_ ?_ _ | with_reducible refine Below.setCell ?_ ?_ _ | with_reducible refine below_step (by assumption) ?_ ?_ | omega | (simp; done) | (simp; omega)))⟩
  cases h2 : lightTm t
  · rw [h1] at A
    rw [h2] at B
    have HA := Lib.hid A
    have HB := Lib.hid B
    clear h1 h2 A B
    go_enter Try.func3, Try.ntmps3
    go_wp2_with (first | (go_at_call 6; (with_reducible refine (HA.out _ (HF.out.mono (by (repeat' (first | with_reducible exact Below.refl _ _ | with_reducible assumption | with_reducible refine Below.drew ?_ | with_reducible refine below_drewN' ?_ _ | with_reducible refine Below.alloc ?_ ?_ _ | with_reducible refine Below.setCell ?_ ?_ _ | with_reducible refine below_step (by assumption) ?_ ?_ | omega | (simp; done) | (simp; omega)))))).mono ?_); rintro e w1 ⟨rfl, hb1⟩; obtain ⟨hc1, hf1⟩ := bcell hb1; have hz1 := hb1.size; (try simp at hz1); have z1_0 : w.heap.size < w1.heap.size := (by omega); have y1_0 : w.heap.size ≤ w1.heap.size := (by omega); have HB1 := Lib.hid (show Below w.heap.size w w1 by (repeat' (first | with_reducible exact Below.refl _ _ | with_reducible assumption | with_reducible refine Below.drew ?_ | with_reducible refine below_drewN' ?_ _ | with_reducible refine Below.alloc ?_ ?_ _ | with_reducible refine Below.setCell ?_ ?_ _ | with_reducible refine below_step (by assumption) ?_ ?_ | omega | (simp; done) | (simp; omega))))) | (go_at_call 7; (with_reducible refine (HB.out _ (HT.out.mono HB1.out)).mono ?_); rintro e w2 ⟨rfl, hb2⟩; have hz2 := hb2.size) | (go_at_call 8; (with_reducible refine (known_any _).mono ?_); rintro e w3 ⟨rfl, hb3⟩; have hz3 := hb3.size))
    go_ret
    exact ⟨rfl, by (repeat' (first | with_reducible exact Below.refl _ _ | with_reducible assumption | with_reducible refine Below.drew ?_ | with_reducible refine below_drewN' ?_ _ | with_reducible refine Below.alloc ?_ ?_ _ | with_reducible refine Below.setCell ?_ ?_ _ | with_reducible refine below_step (by assumption) ?_ ?_ | omega | (simp; done) | (simp; omega)))⟩
  · obtain ⟨q1, q2⟩ := (lightL_iff l).1 h1
    obtain ⟨q3, q4, q5⟩ := lightTm_ok h2
    have C1 := fun V (h : LabL V c l) => right_any c kc l V h hm (fun x hx => by have := q2 x hx; omega)
    have C2 := fun V (h : LabL V c l) => refright_l c kc l V h (fun x hx => by have := q2 x hx; omega) hm
    have C3 := fun V (h : TrmAt V t) => rightterm_any t V h (by omega) (fun x hx => by have := q5 x hx; omega)
    have C4 := fun V (h : TrmAt V t) => refrightterm_any t V h (by omega) (by omega) (fun x hx => by have := q5 x hx; omega)
    obtain ⟨r1, hr1⟩ : ∃ r, labsB l = r := ⟨_, rfl⟩
    obtain ⟨r2, hr2⟩ : ∃ r, rtrm t = r := ⟨_, rfl⟩
    rw [h1] at A
    rw [h2] at B
    simp only [hr1] at C1 C2
    simp only [hr2] at C3 C4
    have HA := Lib.hid A
    have HB := Lib.hid B
    have HC1 := Lib.hid C1
    have HC2 := Lib.hid C2
    have HC3 := Lib.hid C3
    have HC4 := Lib.hid C4
    clear h1 h2 A B C1 C2 C3 C4 hr1 hr2 q1 q2 q3 q4 q5
    cases r1
    all_goals
      cases r2
      all_goals
        go_enter Try.func3, Try.ntmps3
        go_wp2_with (first | (go_at_call 6; (with_reducible refine (HA.out _ (HF.out.mono (by (repeat' (first | with_reducible exact Below.refl _ _ | with_reducible assumption | with_reducible refine Below.drew ?_ | with_reducible refine below_drewN' ?_ _ | with_reducible refine Below.alloc ?_ ?_ _ | with_reducible refine Below.setCell ?_ ?_ _ | with_reducible refine below_step (by assumption) ?_ ?_ | omega | (simp; done) | (simp; omega)))))).mono ?_); rintro e w1 ⟨rfl, hb1⟩; obtain ⟨hc1, hf1⟩ := bcell hb1; have hz1 := hb1.size; (try simp at hz1); have z1_0 : w.heap.size < w1.heap.size := (by omega); have y1_0 : w.heap.size ≤ w1.heap.size := (by omega); have HB1 := Lib.hid (show Below w.heap.size w w1 by (repeat' (first | with_reducible exact Below.refl _ _ | with_reducible assumption | with_reducible refine Below.drew ?_ | with_reducible refine below_drewN' ?_ _ | with_reducible refine Below.alloc ?_ ?_ _ | with_reducible refine Below.setCell ?_ ?_ _ | with_reducible refine below_step (by assumption) ?_ ?_ | omega | (simp; done) | (simp; omega))))) | (go_at_call 7; (with_reducible refine (HB.out _ (HT.out.mono HB1.out)).mono ?_); rintro e w2 ⟨rfl, hb2⟩; obtain ⟨hc2, hf2⟩ := bcell hb2; have hz2 := hb2.size; have z2_0 : w.heap.size < w2.heap.size := (by omega); have y2_0 : w.heap.size ≤ w2.heap.size := (by omega); have HB2 := Lib.hid (HB1.out.trans (hb2.mono HB1.out.size))))
        have HF2 := Lib.hid (HF.out.mono HB2.out)
        have HT2 := Lib.hid (HT.out.mono HB2.out)
        have hcH := held_cell
        refine region_below (by kernel_rfl) (by kernel_rfl) ?_
        repeat
          ((with_reducible refine wpQuiet_step (fun K hK => ?_))
           go_simp
           first
             | ((with_reducible refine hK _ ?_); clear hK K)
             | (apply Exists.intro
                (with_reducible refine ⟨fun n => ?_, hK _ ?_⟩)
                (first | (go_at_call 9; exact held_calls (HC1.out n.w (HF2.out.mono n.below))) | (go_at_call 10; exact held_calls (HC2.out n.w (HF2.out.mono n.below))) | (go_at_call 11; exact held_calls (HC3.out n.w (HT2.out.mono n.below))) | (go_at_call 12; exact held_calls (HC4.out n.w (HT2.out.mono n.below))) | (go_at_call 8; exact held_calls (known_any _)))
                clear hK K))
        with_reducible refine wpQuiet_nil ?_
        intro w3 hw2
        clear hcH
        obtain ⟨⟨_, hb3⟩, rfl⟩ := hw2
        (try dsimp only)
        obtain ⟨hc3, hf3⟩ := bcell hb3
        have hz3 := hb3.size
        (try simp at hz3)
        go_wp2
        go_ret
        exact ⟨rfl, HB2.out.trans (hb3.mono HB2.out.size)⟩

theorem walk {H : Type} {enc : TypeId × Value → H} {W : World} {base : Nat} {v u : Value} {d f : DataW H} {p q : List MemPlace}
    (hv : Value.okWide Try.prog W .any base 22 v) (h : DataW.Trod enc Try.prog W 0 (fun _ => true) true 22 v d p)
    (hu : Value.okWide Try.prog W .any base 25 u) (k : DataW.Trod enc Try.prog W 0 (fun _ => true) true 25 u f q) :
    Calls Try.prog 3 #[v, u] W fun e W' => e = .returned (.bool true) ∧ Below W.heap.size W W' := by
  obtain ⟨c, l, kc, rfl, hok, hF, hm, _⟩ := open_labs hv h
  obtain ⟨t, rfl, hT⟩ := open_trm hu k
  exact walk1 c kc l t W hF hm hT

set_option maxRecDepth 100000 in
theorem lifted (os : Os) (started : os.Started) (H : Type) (enc : TypeId × Value → H) :
    ReturnsInHanded {} Try.checked os 3 .any (Rows.labelsRightSpec.pre6 enc Try.prog Try.f3 Rows.labelsRightRow.domain false) (Rows.labelsRightSpec.post enc Try.prog Try.f3 false true false false) := by
  refine returnsInHanded_of_change (C := Try.checked) Try.own started (by kernel_rfl) Try.func3
    (ChangeSpec.witness6 (enc := enc) (C := Try.checked) false ⟨#[], #[.slice none 0 0, .agg #[.string ⟨#[]⟩, .int .i64 0, .slice none 0 0]], []⟩ 8 (by kernel_rfl) (by kernel_rfl) (by kernel_rfl) (by kernel_rfl)) ?_
  intro W base args ds gs before hval hW _ _
  have hW' := hW
  obtain ⟨p, q, hA, hV, rfl, hfz, hnd⟩ := hW
  rw [Try.params3] at hA hval
  obtain ⟨v0, v1, d0, d1, p0, p1, rfl, rfl, rfl, h0, h1⟩ := trodAll_two hA
  refine (walk (hval 0 22 v0 rfl rfl) h0 (hval 1 25 v1 rfl rfl) h1).mono fun e W' ⟨he, hb⟩ => ?_
  exact ⟨_, he, law_post Try.laidOut hW' rfl (by kernel_rfl) (by kernel_rfl) Try.underlying4 rfl rfl rfl hb⟩

theorem over : Rows.labelsRightRow.holds Try.pinned (OpenSpec.ofChange Rows.labelsRightSpec) :=
  OpenClaim.holds_of_wide 3 Try.f3 rfl rfl rfl rfl rfl rfl rfl ⟨rfl, rfl, rfl, rfl, rfl⟩ rfl rfl rfl rfl rfl (by kernel_rfl) Try.func3 (by kernel_rfl)
    (of_decide_eq_true (by kernel_rfl)) (by unfold Func.isWrapper; first | (rw [if_pos (by decide +kernel)]; kernel_rfl) | (rw [if_neg (by decide +kernel)]; exact ⟨rfl, rfl⟩))
    (fun os started H enc _ => lifted os started H enc)

/-- The statement. -/
theorem proved : Rows.LabelsRightSaid := over
end labelsRight
end Go.Proofs.Ytemeocgmlhmooaa
