/-
  TreeBack: what is shown of right nodes is read as these, but for their places.
-/
import Derived.Test.YtlndfognkkobaaaTrS
import Derived.Test.YtlndfognkkobaaaTrT
import Derived.Test.YtlndfognkkobaaaTrO
import Derived.Test.YtlndfognkkobaaaMA
namespace Go.Proofs.Ytlndfognkkobaaa
open Go.ChangeShapes Go.WideShapes Go.ChangeAt Go.RowKit
set_option linter.unusedVariables false
set_option linter.unusedSimpArgs false
namespace treeBack
set_option maxRecDepth 100000 in
set_option maxHeartbeats 4000000 in
theorem walk (a : Option Addr) (ka : Nat) (l : List Nd) (w : World) (hF : NdL w a l) (hm : l.length ≤ maxLen) :
    Calls Try.prog 4 #[.slice a l.length ka] w fun e w' => e = .returned (.bool true) ∧ Below w.heap.size w w' := by
  have HF := Lib.hid hF
  have HLi := Lib.hid (light_any a ka l w hF hm)
  cases hli : lightB l with
  | false =>
    rw [hli] at HLi
    clear hF hm hli
    go_enter Try.func4, Try.ntmps4
    go_wp2_with (first
      | (go_at_call 7; (with_reducible refine HLi.out.mono ?_); rintro e9 w1 ⟨rfl, hb⟩; have HB1 := Lib.hid hb; clear hb)
      | (go_at_call 8; (with_reducible refine (known_any _).mono ?_); rintro e9 w2 ⟨rfl, hb⟩; have HB2 := Lib.hid (HB1.out.trans (hb.mono HB1.out.size)); clear hb))
    go_ret
    exact ⟨rfl, HB2.out⟩
  | true =>
    obtain ⟨hl, ht⟩ := light_yes hli
    rw [hli] at HLi
    obtain ⟨f, rest, hw, hfl, hr⟩ := all_forest l.length l (Nat.le_refl _)
    have htx : ∀ y ∈ l, y.tx.size ≤ 30000 := fun y hy => by have := ht y hy; omega
    have hflen : f.flat.length ≤ 300 := by have := congrArg List.length hfl; rw [List.length_append] at this; omega
    have hsz := (shown_any 300 f true fun y hy => ht y (by rw [hfl]; exact List.mem_append_left _ hy)).2
    have hsz9 : (topsL f).length ≤ 300000 := Nat.le_trans hsz (Nat.le_trans (Nat.mul_le_mul_right _ hflen) (by decide))
    have HSh := Lib.hid (fun V hV => Show_any a ka l f rest V hV (by omega) htx hfl hw hr (by omega))
    have HCk := Lib.hid (fun V hV => check_any a ka l f rest V hV (by omega) htx hfl hw hr)
    by_cases hc : checkI l f rest = 0
    · obtain ⟨_, rfl, hg, hp, hd⟩ := check_good hw hc
      rw [List.append_nil] at hfl
      obtain ⟨sh, hsh⟩ : ∃ sh, toB (topsL f) = sh := ⟨_, rfl⟩
      have hshs : sh.size = (topsL f).length := by rw [← hsh, ← toList_len, toB_list]
      rw [if_pos hc, hsh] at HSh
      rw [hc] at HCk
      have HPb := Lib.hid (fun V => parse_any sh V)
      have hsh9 : sh.size ≤ 300000 := by omega
      by_cases hbig : 65536 < sh.size
      · have k1 : decide ((65536 : Int) < (sh.size : Int)) = true := decide_eq_true (by omega)
        obtain ⟨q, hq⟩ : ∃ q, parseB sh = q := ⟨_, rfl⟩
        obtain ⟨m, e, p⟩ := q
        rw [hq] at HPb
        clear hF hm hli hl ht hw hfl hr htx hflen hsz hsz9 hc hg hp hd hsh hshs hbig hq
        go_enter Try.func4, Try.ntmps4
        go_wp2_with (first
          | (go_at_call 7; (with_reducible refine HLi.out.mono ?_); rintro e9 w1 ⟨rfl, hb⟩; have HB1 := Lib.hid hb; have HT1 := Lib.hid (HF.out.mono hb); clear hb)
          | (go_at_call 11; (with_reducible refine (HSh.out _ HT1.out).mono ?_); rintro e9 w2 ⟨rfl, hb⟩; have HB2 := Lib.hid (HB1.out.trans (hb.mono HB1.out.size)); have HT2 := Lib.hid (HT1.out.mono hb); clear hb)
          | (go_at_call 9; (with_reducible refine (HCk.out _ HT2.out).mono ?_); rintro e9 w3 ⟨rfl, hb⟩; have HB3 := Lib.hid (HB2.out.trans (hb.mono HB2.out.size)); have HT3 := Lib.hid (HT2.out.mono hb); clear hb)
          | (go_at_call 20; (with_reducible refine (HPb.out _).mono ?_); rintro e9 w4 ⟨⟨v, rfl, ho⟩, hb⟩; (dsimp only at ho); (obtain ⟨x4, y4, rfl, hn, hT⟩ := own_nds ho); clear ho; have HB4 := Lib.hid (HB3.out.trans (hb.mono HB3.out.size)); clear hb hn hT)
          | (go_at_call 8; (with_reducible refine (known_any _).mono ?_); rintro e9 w5 ⟨rfl, hb⟩; have HB5 := Lib.hid (HB4.out.trans (hb.mono HB4.out.size)); clear hb))
        go_ret
        exact ⟨rfl, HB5.out⟩
      · have k1 : decide ((65536 : Int) < (sh.size : Int)) = false := decide_eq_false (by omega)
        obtain ⟨m, hm2, hN⟩ := parse_show hg hw hd (by omega) (by omega)
        rw [hsh] at hm2
        rw [hm2] at HPb
        have hmL : m.length = f.flat.length := by have := congrArg List.length hN; rw [List.length_map, List.length_map] at this; exact this
        rw [← hfl] at hN hmL
        have HN := Lib.hid hN
        have HL := Lib.hid (show m.length ≤ 1000000 by omega)
        clear hF hm hli hl ht hw hfl hr htx hflen hsz hsz9 hc hg hp hd hsh hshs hbig hm2 hN hmL
        go_enter Try.func4, Try.ntmps4
        go_wp2_with (first
          | (go_at_call 7; (with_reducible refine HLi.out.mono ?_); rintro e9 w1 ⟨rfl, hb⟩; have HB1 := Lib.hid hb; have HT1 := Lib.hid (HF.out.mono hb); clear hb)
          | (go_at_call 11; (with_reducible refine (HSh.out _ HT1.out).mono ?_); rintro e9 w2 ⟨rfl, hb⟩; have HB2 := Lib.hid (HB1.out.trans (hb.mono HB1.out.size)); have HT2 := Lib.hid (HT1.out.mono hb); clear hb)
          | (go_at_call 9; (with_reducible refine (HCk.out _ HT2.out).mono ?_); rintro e9 w3 ⟨rfl, hb⟩; have HB3 := Lib.hid (HB2.out.trans (hb.mono HB2.out.size)); have HT3 := Lib.hid (HT2.out.mono hb); clear hb)
          | (go_at_call 20; (with_reducible refine (HPb.out _).mono ?_); rintro e9 w4 ⟨⟨v, rfl, ho⟩, hb⟩; (dsimp only at ho); (obtain ⟨x4, y4, rfl, hn, hT⟩ := own_nds ho); clear ho; have HB4 := Lib.hid (HB3.out.trans (hb.mono HB3.out.size)); have HT4 := Lib.hid (HT3.out.mono hb); have HM4 := Lib.hid hT; clear hb hn hT)
          | (go_at_call 21; (with_reducible refine (same_nd x4 y4 m a ka l _ HM4.out HT4.out HL.out HN.out).mono ?_); rintro e9 w5 ⟨rfl, hb⟩; have HB5 := Lib.hid (HB4.out.trans (hb.mono HB4.out.size)); clear hb)
          | (go_at_call 8; (with_reducible refine (known_any _).mono ?_); rintro e9 w6 ⟨rfl, hb⟩; have HB6 := Lib.hid (HB5.out.trans (hb.mono HB5.out.size)); clear hb))
        go_ret
        exact ⟨rfl, HB6.out⟩
    · have hc12 : checkI l f rest = 12 := by
        unfold checkI at hc ⊢
        split at hc
        · exact absurd rfl hc
        · rw [if_neg (by assumption)]
      rw [if_neg hc] at HSh
      unfold emp at HSh
      rw [hc12] at HCk
      clear hF hm hli hl ht hw hfl hr htx hflen hsz hsz9 hc hc12
      go_enter Try.func4, Try.ntmps4
      go_wp2_with (first
        | (go_at_call 7; (with_reducible refine HLi.out.mono ?_); rintro e9 w1 ⟨rfl, hb⟩; have HB1 := Lib.hid hb; have HT1 := Lib.hid (HF.out.mono hb); clear hb)
        | (go_at_call 11; (with_reducible refine (HSh.out _ HT1.out).mono ?_); rintro e9 w2 ⟨rfl, hb⟩; have HB2 := Lib.hid (HB1.out.trans (hb.mono HB1.out.size)); have HT2 := Lib.hid (HT1.out.mono hb); clear hb)
        | (go_at_call 9; (with_reducible refine (HCk.out _ HT2.out).mono ?_); rintro e9 w3 ⟨rfl, hb⟩; have HB3 := Lib.hid (HB2.out.trans (hb.mono HB2.out.size)); have HT3 := Lib.hid (HT2.out.mono hb); clear hb)
        | (go_at_call 8; (with_reducible refine (known_any _).mono ?_); rintro e9 w5 ⟨rfl, hb⟩; have HB5 := Lib.hid (HB3.out.trans (hb.mono HB3.out.size)); clear hb))
      go_ret
      exact ⟨rfl, HB5.out⟩

set_option maxRecDepth 100000 in
theorem lifted (os : Os) (started : os.Started) (H : Type) (enc : TypeId × Value → H) :
    ReturnsInHanded {} Try.checked os 4 .any (Rows.treeBackSpec.pre6 enc Try.prog Try.f4 Rows.treeBackRow.domain false) (Rows.treeBackSpec.post enc Try.prog Try.f4 false true false false) := by
  refine returnsInHanded_of_change (C := Try.checked) Try.own started (by kernel_rfl) Try.func4
    (ChangeSpec.witness6 (enc := enc) (C := Try.checked) false ⟨#[], #[.slice none 0 0], []⟩ 8 (by kernel_rfl) (by kernel_rfl) (by kernel_rfl) (by kernel_rfl)) ?_
  intro W base args ds gs before hval hW _ _
  have hW' := hW
  obtain ⟨p, q, hA, hV, rfl, hfz, hnd⟩ := hW
  rw [Try.params4] at hA hval
  obtain ⟨v0, d0, rfl, rfl, h0⟩ := trodAll_one hA
  obtain ⟨a, l, k, rfl, _, hF, hm, _⟩ := open_nds (hval 0 22 v0 rfl rfl) h0
  refine (walk a k l W hF hm).mono fun e W' ⟨he, hb⟩ => ?_
  exact ⟨_, he, law_post Try.laidOut hW' rfl (by kernel_rfl) (by kernel_rfl) Try.underlying4 rfl rfl rfl hb⟩

theorem over : Rows.treeBackRow.holds Try.pinned (OpenSpec.ofChange Rows.treeBackSpec) :=
  OpenClaim.holds_of_wide 4 Try.f4 rfl rfl rfl rfl rfl rfl rfl ⟨rfl, rfl, rfl, rfl, rfl⟩ rfl rfl rfl rfl rfl (by kernel_rfl) Try.func4 (by kernel_rfl)
    (of_decide_eq_true (by kernel_rfl)) (by unfold Func.isWrapper; first | (rw [if_pos (by decide +kernel)]; kernel_rfl) | (rw [if_neg (by decide +kernel)]; exact ⟨rfl, rfl⟩))
    (fun os started H enc _ => lifted os started H enc)

/-- The statement. -/
theorem proved : Rows.TreeBackSaid := over
end treeBack
end Go.Proofs.Ytlndfognkkobaaa
