/-
  YardChecks.
-/
import Derived.Test.YthbpnfpalcgfeaaYeC
import Derived.Test.YthbpnfpalcgfeaaYdK
namespace Go.Proofs.Ythbpnfpalcgfeaa
open Go.ChangeShapes Go.WideShapes Go.ChangeAt Go.RowKit
set_option linter.unusedVariables false
set_option linter.unusedSimpArgs false
namespace yardChecks

set_option maxRecDepth 100000 in
set_option maxHeartbeats 4000000 in
theorem walk1 (a : Option Addr) (ka : Nat) (ms : List Mac) (c : Option Addr) (kc : Nat) (bs : List Bd) (w : World) (hF : MacL w a ms) (hG : BndL w c bs) (hA : ∀ m ∈ ms, MacIn w m) (hB : ∀ b ∈ bs, BndIn w b) (hl : ms.length ≤ maxLen) (hl2 : bs.length ≤ maxLen) :
    Calls Try.prog 3 #[.slice a ms.length ka, .slice c bs.length kc] w fun e w' => e = .returned (.bool true) ∧ Below w.heap.size w w' := by
  have hLi := lighty_any a ka ms c kc bs w hF hG hA hB hl hl2
  cases hL : lightY ms bs with
  | false =>
    rw [hL] at hLi
    have HLi := Lib.hid hLi
    generalize ms.length = n at HLi ⊢
    generalize bs.length = q at HLi ⊢
    clear hF hG hA hB hl hl2 hL hLi
    go_enter Try.func3, Try.ntmps3
    go_wp2_with (first | (go_at_call 12; (with_reducible refine (HLi.out).mono ?_); rintro e w1 ⟨rfl, hb1⟩; have HB1 := Lib.hid hb1; have hz1 := hb1.size; clear hb1) | (go_at_call 13; (with_reducible refine (yknown_any _).mono ?_); rintro e w2 ⟨rfl, hb2⟩; have HB2 := Lib.hid (HB1.out.trans (hb2.mono hz1)); clear hb2))
    go_ret
    exact ⟨rfl, HB2.out⟩
  | true =>
    rw [hL] at hLi
    have HLi := Lib.hid hLi
    obtain ⟨h20, h40, hLm, hLb⟩ := lightY_iff hL
    have hCk := fun V (hV : Below w.heap.size w V) => check_any a ka ms c kc bs V (hF.mono hV) (hG.mono hV) (fun m hm => (hA m hm).mono hV) (fun m hm => (hB m hm).mono hV) hLm (fun b hb => (hLb b hb).1) (by omega) (by omega)
    have hCr := fun V (hV : Below w.heap.size w V) => rcheck_any a ka ms c kc bs V (hF.mono hV) (hG.mono hV) (fun m hm => (hA m hm).mono hV) (fun m hm => (hB m hm).mono hV) hLm (fun b hb => (hLb b hb).1) (by omega) (by omega)
    obtain ⟨E, hE⟩ : ∃ E, checkY ms bs = E := ⟨_, rfl⟩
    rw [hE] at hCk hCr
    have HCk := Lib.hid hCk
    have HCr := Lib.hid hCr
    generalize ms.length = n at HLi HCk HCr ⊢
    generalize bs.length = q at HLi HCk HCr ⊢
    clear hF hG hA hB hl hl2 hL hLi hE h20 h40 hLm hLb hCk hCr
    go_enter Try.func3, Try.ntmps3
    go_wp2_with (first
      | (go_at_call 12; (with_reducible refine (HLi.out).mono ?_); rintro e w1 ⟨rfl, hb1⟩; have HB1 := Lib.hid hb1; have hz1 := hb1.size; clear hb1)
      | (go_at_call 14; (with_reducible refine (HCk.out _ HB1.out).mono ?_); rintro e w2 ⟨rfl, hb2⟩; have HB2 := Lib.hid (HB1.out.trans (hb2.mono hz1)); have hz2 := HB2.out.size; clear hb2)
      | (go_at_call 15; (with_reducible refine (HCr.out _ HB2.out).mono ?_); rintro e w3 ⟨rfl, hb3⟩; have HB3 := Lib.hid (HB2.out.trans (hb3.mono hz2)); have hz3 := HB3.out.size; clear hb3)
      | (go_at_call 13; (with_reducible refine (yknown_any _).mono ?_); rintro e w4 ⟨rfl, hb4⟩; have HB4 := Lib.hid (HB3.out.trans (hb4.mono hz3)); clear hb4))
    go_ret
    exact ⟨rfl, HB4.out⟩

set_option maxRecDepth 100000 in
theorem walk {H : Type} {enc : TypeId × Value → H} {W : World} {base : Nat} {v u : Value} {d e : DataW H} {p q : List MemPlace}
    (hv : Value.okWide Try.prog W .any base 22 v) (h : DataW.Trod enc Try.prog W 0 (fun _ => true) true 22 v d p)
    (hu : Value.okWide Try.prog W .any base 23 u) (h2 : DataW.Trod enc Try.prog W 0 (fun _ => true) true 23 u e q) :
    Calls Try.prog 3 #[v, u] W fun e W' => e = .returned (.bool true) ∧ Below W.heap.size W W' := by
  obtain ⟨a, l, k, rfl, -, hF, hm, -, hI⟩ := open_macs hv h
  obtain ⟨c, l2, k2, rfl, -, hG, hm2, -, hI2⟩ := open_bnds hu h2
  exact walk1 a k l c k2 l2 W hF hG hI hI2 hm hm2

set_option maxRecDepth 100000 in
theorem lifted (os : Os) (started : os.Started) (H : Type) (enc : TypeId × Value → H) :
    ReturnsInHanded {} Try.checked os 3 .any (Rows.yardChecksSpec.pre6 enc Try.prog Try.f3 Rows.yardChecksRow.domain false) (Rows.yardChecksSpec.post enc Try.prog Try.f3 false true false false) := by
  refine returnsInHanded_of_change (C := Try.checked) Try.own started (by kernel_rfl) Try.func3
    (ChangeSpec.witness6 (enc := enc) (C := Try.checked) false ⟨#[], #[.slice none 0 0, .slice none 0 0], []⟩ 8 (by kernel_rfl) (by kernel_rfl) (by kernel_rfl) (by kernel_rfl)) ?_
  intro W base args ds gs before hval hW _ _
  have hW' := hW
  obtain ⟨p, q, hA, hV, rfl, hfz, hnd⟩ := hW
  rw [Try.params3] at hA hval
  obtain ⟨v0, v1, d0, d1, p0, p1, rfl, rfl, rfl, h0, h1⟩ := trodAll_two hA
  refine (walk (hval 0 22 v0 rfl rfl) h0 (hval 1 23 v1 rfl rfl) h1).mono fun e W' ⟨he, hb⟩ => ?_
  exact ⟨_, he, law_post Try.laidOut hW' rfl (by kernel_rfl) (by kernel_rfl) Try.underlying4 rfl rfl rfl hb⟩

theorem over : Rows.yardChecksRow.holds Try.pinned (OpenSpec.ofChange Rows.yardChecksSpec) :=
  OpenClaim.holds_of_wide 3 Try.f3 rfl rfl rfl rfl rfl rfl rfl ⟨rfl, rfl, rfl, rfl, rfl⟩ rfl rfl rfl rfl rfl (by kernel_rfl) Try.func3 (by kernel_rfl)
    (of_decide_eq_true (by kernel_rfl)) (by unfold Func.isWrapper; first | (rw [if_pos (by decide +kernel)]; kernel_rfl) | (rw [if_neg (by decide +kernel)]; exact ⟨rfl, rfl⟩))
    (fun os started H enc _ => lifted os started H enc)

/-- The statement. -/
theorem proved : Rows.YardChecksSaid := over
end yardChecks
end Go.Proofs.Ythbpnfpalcgfeaa
