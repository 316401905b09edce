/-
  TreeShows: whether any nodes are right, what is shown of them, and where trees and kids stand, is as the document says.
-/
import Derived.Test.YtlndfognkkobaaaTsE
import Derived.Test.YtlndfognkkobaaaTrS
import Derived.Test.YtlndfognkkobaaaTrO
import Derived.Test.YtlndfognkkobaaaMA
namespace Go.Proofs.Ytlndfognkkobaaa
open Go.ChangeShapes Go.WideShapes Go.ChangeAt Go.RowKit
set_option linter.unusedVariables false
set_option linter.unusedSimpArgs false
namespace treeShows
theorem kids_both (a : Option Addr) (ka : Nat) (l : List Nd) (i : Int) (hl : l.length ≤ 300) : ∃ L : List Nat, L.length ≤ 1000000 ∧ (∀ V : World, NdL V a l → Calls Try.prog 16 #[.slice a l.length ka, .int .i64 i] V (GivesI V L)) ∧ (∀ V : World, NdL V a l → Calls Try.prog 17 #[.slice a l.length ka, .int .i64 i] V (GivesI V L)) := by
  by_cases he : endB l i = -1
  · exact ⟨[], Nat.zero_le _, fun V hV => kids_no a ka l i V hV (by omega) he, fun V hV => rkids_no a ka l i V hV (by omega) he⟩
  · obtain ⟨P, x, k, rest, rfl, h, hw⟩ := end_yes he
    refine ⟨placesF (P.length + 1) k, ?_, fun V hV => kids_yes a ka l P x k rest V hV (by omega) h hw, fun V hV => rkids_yes a ka l P x k rest V hV (by omega) h hw⟩
    have h1 := flat_len k
    obtain ⟨_, _, _, h2⟩ := kids_in h
    rw [places_len]
    omega
set_option maxRecDepth 100000 in
set_option maxHeartbeats 4000000 in
theorem walk (a : Option Addr) (ka : Nat) (l : List Nd) (i : Int) (w : World) (hF : NdL w a l) (hm : l.length ≤ maxLen) :
    Calls Try.prog 3 #[.slice a l.length ka, .int .i64 i] w fun e w' => e = .returned (.bool true) ∧ Below w.heap.size w w' := by
  have HF := Lib.hid hF
  have HLi := Lib.hid (light_any a ka l w hF hm)
  cases hli : lightB l with
  | false =>
    rw [hli] at HLi
    clear hF hm hli
    go_enter Try.func3, Try.ntmps3
    go_wp2_with (first
      | (go_at_call 7; (with_reducible refine HLi.out.mono ?_); rintro e9 w1 ⟨rfl, hb⟩; have HB1 := Lib.hid hb; clear hb)
      | (go_at_call 8; (with_reducible refine (known_any _).mono ?_); rintro e9 w2 ⟨rfl, hb⟩; have HB2 := Lib.hid (HB1.out.trans (hb.mono HB1.out.size)); clear hb))
    go_ret
    exact ⟨rfl, HB2.out⟩
  | true =>
    obtain ⟨hl, ht⟩ := light_yes hli
    rw [hli] at HLi
    obtain ⟨f, rest, hw, hfl, hr⟩ := all_forest l.length l (Nat.le_refl _)
    have htx : ∀ y ∈ l, y.tx.size ≤ 30000 := fun y hy => by have := ht y hy; omega
    have hflen : f.flat.length ≤ 300 := by have := congrArg List.length hfl; rw [List.length_append] at this; omega
    have hsz := (shown_any 300 f true fun y hy => ht y (by rw [hfl]; exact List.mem_append_left _ hy)).2
    have hsz9 : (topsL f).length ≤ 300000 := Nat.le_trans hsz (Nat.le_trans (Nat.mul_le_mul_right _ hflen) (by decide))
    have HSh := Lib.hid (fun V hV => Show_any a ka l f rest V hV (by omega) htx hfl hw hr (by omega))
    have HRs := Lib.hid (fun V hV => rShow_any a ka l f rest V hV (by omega) ht hfl hw hr)
    have HCk := Lib.hid (fun V hV => check_any a ka l f rest V hV (by omega) htx hfl hw hr)
    have HRc := Lib.hid (fun V hV => rcheck_any a ka l f rest V hV (by omega) ht hfl hw hr)
    have HE := Lib.hid (fun V hV => end_any a ka l i V hV (by omega))
    have HRe := Lib.hid (fun V hV => rend_any a ka l i V hV (by omega))
    have HT := Lib.hid (fun V hV => tops_any a ka l f rest V hV (by omega) hfl hw hr)
    have HRt := Lib.hid (fun V hV => rtops_any a ka l f rest V hV (by omega) hfl hw hr)
    obtain ⟨K, hK0, hK1, hK2⟩ := kids_both a ka l i hl
    have HK := Lib.hid hK1
    have HRk := Lib.hid hK2
    have HKl := Lib.hid hK0
    obtain ⟨sh, hsh⟩ : ∃ sh, (if checkI l f rest = 0 then toB (topsL f) else emp) = sh := ⟨_, rfl⟩
    obtain ⟨ck, hck⟩ : ∃ ck, checkI l f rest = ck := ⟨_, rfl⟩
    obtain ⟨en, hen⟩ : ∃ en, endB l i = en := ⟨_, rfl⟩
    obtain ⟨T, hT⟩ : ∃ T, (if rest = [] then placesF 0 f else []) = T := ⟨_, rfl⟩
    have HTl := Lib.hid (show T.length ≤ 1000000 by
      rw [← hT]
      split
      · rw [places_len]; have := flat_len f; omega
      · exact Nat.zero_le _)
    rw [hsh] at HSh HRs
    rw [hck] at HCk HRc
    rw [hen] at HE HRe
    rw [hT] at HT HRt
    have q1 : (ck == ck) = true := by simp
    have q2 : (sh.toList == sh.toList) = true := by simp
    have q3 : (en == en) = true := by simp
    clear hF hm hli hl ht hw hfl hr htx hflen hsz hsz9 hK0 hK1 hK2 hsh hck hen hT
    go_enter Try.func3, Try.ntmps3
    go_upto_region 3 with (go_at_call 7; (with_reducible refine HLi.out.mono ?_); rintro e9 w1 ⟨rfl, hb⟩; have HB1 := Lib.hid hb; have HT1 := Lib.hid (HF.out.mono hb); clear hb)
    go_step
    (try dsimp only [List.append])
    go_wp2_with (first
      | (go_at_call 9; (with_reducible refine (HCk.out _ HT1.out).mono ?_); rintro e9 w2 ⟨rfl, hb⟩; have HB2 := Lib.hid (HB1.out.trans (hb.mono HB1.out.size)); have HT2 := Lib.hid (HT1.out.mono hb); clear hb)
      | (go_at_call 10; (with_reducible refine (HRc.out _ HT2.out).mono ?_); rintro e9 w3 ⟨rfl, hb⟩; have HB3 := Lib.hid (HB2.out.trans (hb.mono HB2.out.size)); have HT3 := Lib.hid (HT2.out.mono hb); clear hb)
      | (go_at_call 11; (with_reducible refine (HSh.out _ HT3.out).mono ?_); rintro e9 w4 ⟨rfl, hb⟩; have HB4 := Lib.hid (HB3.out.trans (hb.mono HB3.out.size)); have HT4 := Lib.hid (HT3.out.mono hb); clear hb)
      | (go_at_call 12; (with_reducible refine (HRs.out _ HT4.out).mono ?_); rintro e9 w5 ⟨rfl, hb⟩; have HB5 := Lib.hid (HB4.out.trans (hb.mono HB4.out.size)); have HT5 := Lib.hid (HT4.out.mono hb); clear hb)
      | (go_at_call 13; (with_reducible refine (HE.out _ HT5.out).mono ?_); rintro e9 w6 ⟨rfl, hb⟩; have HB6 := Lib.hid (HB5.out.trans (hb.mono HB5.out.size)); have HT6 := Lib.hid (HT5.out.mono hb); clear hb)
      | (go_at_call 14; (with_reducible refine (HRe.out _ HT6.out).mono ?_); rintro e9 w7 ⟨rfl, hb⟩; have HB7 := Lib.hid (HB6.out.trans (hb.mono HB6.out.size)); have HT7 := Lib.hid (HT6.out.mono hb); clear hb)
      | (go_at_call 16; (with_reducible refine (HK.out _ HT7.out).mono ?_); rintro e9 w8 ⟨⟨v, rfl, ho⟩, hb⟩; obtain ⟨a8, k8, rfl, _, hI8⟩ := own_ints ho; have HI8 := Lib.hid hI8; have HB8 := Lib.hid (HB7.out.trans (hb.mono HB7.out.size)); have HT8 := Lib.hid (HT7.out.mono hb); clear hb ho hI8)
      | (go_at_call 17; (with_reducible refine (HRk.out _ HT8.out).mono ?_); rintro e9 w9 ⟨⟨v, rfl, ho⟩, hb⟩; obtain ⟨a9, k9, rfl, _, hI9⟩ := own_ints ho; have HI9 := Lib.hid hI9; have HI89 := Lib.hid (HI8.out.mono hb); have HB9 := Lib.hid (HB8.out.trans (hb.mono HB8.out.size)); have HT9 := Lib.hid (HT8.out.mono hb); clear hb ho hI9)
      | (go_at_call 15; (with_reducible refine (ints_any a8 k8 K a9 k9 _ HI89.out HI9.out HKl.out).mono ?_); rintro e9 w10 ⟨rfl, hb⟩; have HB10 := Lib.hid (HB9.out.trans (hb.mono HB9.out.size)); have HT10 := Lib.hid (HT9.out.mono hb); clear hb)
      | (go_at_call 18; (with_reducible refine (HT.out _ HT10.out).mono ?_); rintro e9 w11 ⟨⟨v, rfl, ho⟩, hb⟩; obtain ⟨a11, k11, rfl, _, hI11⟩ := own_ints ho; have HI11 := Lib.hid hI11; have HB11 := Lib.hid (HB10.out.trans (hb.mono HB10.out.size)); have HT11 := Lib.hid (HT10.out.mono hb); clear hb ho hI11)
      | (go_at_call 19; (with_reducible refine (HRt.out _ HT11.out).mono ?_); rintro e9 w12 ⟨⟨v, rfl, ho⟩, hb⟩; obtain ⟨a12, k12, rfl, _, hI12⟩ := own_ints ho; have HI12 := Lib.hid hI12; have HI112 := Lib.hid (HI11.out.mono hb); have HB12 := Lib.hid (HB11.out.trans (hb.mono HB11.out.size)); clear hb ho hI12)
      | (go_at_call 15; (with_reducible refine (ints_any a11 k11 T a12 k12 _ HI112.out HI12.out HTl.out).mono ?_); rintro e9 w13 ⟨rfl, hb⟩; have HB13 := Lib.hid (HB12.out.trans (hb.mono HB12.out.size)); clear hb)
      | (go_at_call 8; (with_reducible refine (known_any _).mono ?_); rintro e9 w14 ⟨rfl, hb⟩; have HB14 := Lib.hid (HB13.out.trans (hb.mono HB13.out.size)); clear hb))
    go_ret
    exact ⟨rfl, HB14.out⟩

set_option maxRecDepth 100000 in
theorem lifted (os : Os) (started : os.Started) (H : Type) (enc : TypeId × Value → H) :
    ReturnsInHanded {} Try.checked os 3 .any (Rows.treeShowsSpec.pre6 enc Try.prog Try.f3 Rows.treeShowsRow.domain false) (Rows.treeShowsSpec.post enc Try.prog Try.f3 false true false false) := by
  refine returnsInHanded_of_change (C := Try.checked) Try.own started (by kernel_rfl) Try.func3
    (ChangeSpec.witness6 (enc := enc) (C := Try.checked) false ⟨#[], #[.slice none 0 0, .int .i64 0], []⟩ 8 (by kernel_rfl) (by kernel_rfl) (by kernel_rfl) (by kernel_rfl)) ?_
  intro W base args ds gs before hval hW _ _
  have hW' := hW
  obtain ⟨p, q, hA, hV, rfl, hfz, hnd⟩ := hW
  rw [Try.params3] at hA hval
  obtain ⟨v0, v1, d0, d1, p0, p1, rfl, rfl, rfl, h0, h1⟩ := trodAll_two hA
  obtain ⟨a, l, k, rfl, _, hF, hm, _⟩ := open_nds (hval 0 22 v0 rfl rfl) h0
  obtain ⟨i, rfl, _, _, wf1⟩ := open_int Try.underlying3 (hval 1 3 v1 rfl rfl) h1
  refine (walk a k l i W hF hm).mono fun e W' ⟨he, hb⟩ => ?_
  exact ⟨_, he, law_post Try.laidOut hW' rfl (by kernel_rfl) (by kernel_rfl) Try.underlying4 rfl rfl rfl hb⟩

theorem over : Rows.treeShowsRow.holds Try.pinned (OpenSpec.ofChange Rows.treeShowsSpec) :=
  OpenClaim.holds_of_wide 3 Try.f3 rfl rfl rfl rfl rfl rfl rfl ⟨rfl, rfl, rfl, rfl, rfl⟩ rfl rfl rfl rfl rfl (by kernel_rfl) Try.func3 (by kernel_rfl)
    (of_decide_eq_true (by kernel_rfl)) (by unfold Func.isWrapper; first | (rw [if_pos (by decide +kernel)]; kernel_rfl) | (rw [if_neg (by decide +kernel)]; exact ⟨rfl, rfl⟩))
    (fun os started H enc _ => lifted os started H enc)

/-- The statement. -/
theorem proved : Rows.TreeShowsSaid := over
end treeShows
end Go.Proofs.Ytlndfognkkobaaa
