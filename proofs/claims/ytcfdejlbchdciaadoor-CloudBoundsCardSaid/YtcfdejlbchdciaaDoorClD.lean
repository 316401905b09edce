/-
  A provider of right groups, as the laws make one.
-/
import Derived.Test.YtcfdejlbchdciaaDoorClA
namespace Go.Proofs.YtcfdejlbchdciaaDoor
open Go.ChangeShapes Go.WideShapes Go.ChangeAt Go.RowKit
set_option linter.unusedVariables false
set_option linter.unusedSimpArgs false

theorem light_gl {l : List Gp} (h : lightGs l = true) : GL l := fun g hg => by
  have h1 := ((lightGs_iff l).1 h).2 g hg
  have h2 := h1.2
  unfold lightM at h2
  simp only [Bool.and_eq_true] at h2
  have h3 := ((lightL_iff _).1 h2.1.2).1
  have h4 := h2.2
  unfold lightB at h4
  simp only [Bool.and_eq_true, decide_eq_true_eq] at h4
  constructor
  · omega
  · omega

set_option maxRecDepth 100000 in
set_option maxHeartbeats 4000000 in
theorem lmade_no (a : Option Addr) (l : List Gp) (ka : Nat) (q : Int) (w : World) (hF : GpL w a l) (hm : l.length ≤ maxLen) (hI : ∀ g ∈ l, MacIn w g.like) (h : ¬ (lightGs l = true ∧ rightGs l = true)) :
    Calls Tryd.prog 6 #[.slice a l.length ka, .int .u8 q] w fun e w' => e = .returned (.pointer none) ∧ Below w.heap.size w w' := by
  have HL := Lib.hid (lightgs_any a l ka w hF hm hI)
  cases hl : lightGs l
  · rw [hl] at HL
    clear hF hI hl h
    go_enter Tryd.func6, Tryd.ntmps6
    go_wp2_with (go_at_call 22; (with_reducible refine HL.out.mono ?_); rintro e w1 ⟨rfl, hb1⟩; have HB1 := Lib.hid hb1; clear hb1)
    go_ret
    exact ⟨rfl, HB1.out⟩
  · have hr : rightGs l = false := by
      cases hr : rightGs l
      · rfl
      · exact absurd ⟨hl, hr⟩ h
    have HR := Lib.hid (fun V (hV : Below w.heap.size w V) => refrightgs_any a l ka V (hF.mono hV) (fun g hg => (hI g hg).mono hV) hl)
    rw [hr] at HR
    rw [hl] at HL
    clear hF hI hl h hr
    go_enter Tryd.func6, Tryd.ntmps6
    go_wp2_with (first
      | (go_at_call 22; (with_reducible refine HL.out.mono ?_); rintro e w1 ⟨rfl, hb1⟩; have HB1 := Lib.hid hb1; clear hb1)
      | (go_at_call 23; (with_reducible refine (HR.out _ HB1.out).mono ?_); rintro e w2 ⟨rfl, hb2⟩; have HB2 := Lib.hid (HB1.out.trans (hb2.mono HB1.out.size)); clear hb2))
    go_ret
    exact ⟨rfl, HB2.out⟩

/-- What the law's made gives: a provider. -/
def Made (w : World) (l : List Gp) (d : Int) (e : Ending) (w' : World) : Prop := ∃ c V, e = .returned (.pointer (some ⟨c, 0, none⟩)) ∧ Below w.heap.size w V ∧ Prov V c (CS.new (l.map gkOf) d) 1 [] w'
set_option maxRecDepth 100000 in
set_option maxHeartbeats 4000000 in
theorem lmade_yes (a : Option Addr) (l : List Gp) (ka : Nat) (q : Int) (hq0 : 0 ≤ q) (hq1 : q ≤ 255) (w : World) (hF : GpL w a l) (hm : l.length ≤ maxLen) (hI : ∀ g ∈ l, MacIn w g.like) (hl : lightGs l = true) (hr : rightGs l = true) (hT : Tab10 w) :
    Calls Tryd.prog 6 #[.slice a l.length ka, .int .u8 q] w (Made w l (1 + q % 20)) := by
  have HL := Lib.hid (lightgs_any a l ka w hF hm hI)
  have HR := Lib.hid (fun V (hV : Below w.heap.size w V) => refrightgs_any a l ka V (hF.mono hV) (fun g hg => (hI g hg).mono hV) hl)
  have HN := Lib.hid (fun V (hV : Below w.heap.size w V) => cnew_prov a l ka (1 + q % 20) V (hF.mono hV) (fun g hg => (hI g hg).mono hV) hl hr (by omega) (hT.mono hV) (light_gl hl))
  have hw : IntKind.i64.wrap q = q := cwrap_in (by omega) (by omega)
  rw [hl] at HL
  rw [hr] at HR
  clear hF hI hl hr hT
  go_enter Tryd.func6, Tryd.ntmps6
  go_wp2_with (first
    | (go_at_call 22; (with_reducible refine HL.out.mono ?_); rintro e w1 ⟨rfl, hb1⟩; have HB1 := Lib.hid hb1; clear hb1)
    | (go_at_call 23; (with_reducible refine (HR.out _ HB1.out).mono ?_); rintro e w2 ⟨rfl, hb2⟩; have HB2 := Lib.hid (HB1.out.trans (hb2.mono HB1.out.size)); clear hb2)
    | (go_at_call 24; (with_reducible refine (HN.out _ HB2.out).mono ?_); rintro e w3 ⟨c, rfl, hP⟩; have HP := Lib.hid hP; clear hP))
  go_ret
  exact ⟨c, _, rfl, HB2.out, HP.out⟩
end Go.Proofs.YtcfdejlbchdciaaDoor
