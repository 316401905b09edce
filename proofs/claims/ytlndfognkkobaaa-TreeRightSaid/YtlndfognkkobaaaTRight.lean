/-
  TreeRight: what is read is right, and is shown, and read again, as it was.
-/
import Derived.Test.YtlndfognkkobaaaTrS
import Derived.Test.YtlndfognkkobaaaTrT
import Derived.Test.YtlndfognkkobaaaMA
namespace Go.Proofs.Ytlndfognkkobaaa
open Go.ChangeShapes Go.WideShapes Go.ChangeAt Go.RowKit
set_option linter.unusedVariables false
set_option linter.unusedSimpArgs false
namespace treeRight
set_option maxRecDepth 100000 in
set_option maxHeartbeats 4000000 in
theorem walk (s : ByteArray) (w : World) :
    Calls Try.prog 5 #[.string s] w fun e w' => e = .returned (.bool true) ∧ Below w.heap.size w w' := by
  by_cases h : 3000 < s.size
  · have k1 : decide ((3000 : Int) < (s.size : Int)) = true := decide_eq_true (by omega)
    clear h
    go_enter Try.func5, Try.ntmps5
    go_wp2_with (go_at_call 8; (with_reducible refine (known_any _).mono ?_); rintro e w1 ⟨rfl, hb1⟩; have HB1 := Lib.hid hb1; clear hb1)
    go_ret
    exact ⟨rfl, HB1.out⟩
  have k1 : decide ((3000 : Int) < (s.size : Int)) = false := decide_eq_false (by omega)
  have HPa := Lib.hid (fun V => parse_any s V)
  by_cases he : (parseB s).2.1 = 0
  · obtain ⟨f, ts, h1, h2, hg, hw, hp, hd, hl, hK⟩ := parse_ok (s := s) (by omega) he
    have hwt := scanB_wt (by omega) h1
    have hsl := (shown_len f true hg ts hK).2
    obtain ⟨m, hm, hN⟩ := parse_show hg hw hd hl (by omega)
    have hc := check_zero hg hw hp hd hl
    have htx : ∀ y ∈ f.flat, y.tx.size ≤ 30000 := fun y hy => by have := flat_wt hg hK y hy; omega
    have HSh := Lib.hid (fun a ka V hF => Show_any a ka f.flat f [] V hF (by omega) htx (List.append_nil _).symm hw (.inl rfl) (by omega))
    have HCk := Lib.hid (fun a ka V hF => check_any a ka f.flat f [] V hF (by omega) htx (List.append_nil _).symm hw (.inl rfl))
    rw [hc] at HSh HCk
    obtain ⟨sh, hsh⟩ : ∃ sh, toB (topsL f) = sh := ⟨_, rfl⟩
    rw [if_pos rfl, hsh] at HSh
    rw [hsh] at hm
    have HPb := Lib.hid (fun V => parse_any sh V)
    rw [hm] at HPb
    rw [h2] at HPa
    obtain ⟨L, hL⟩ : ∃ L, f.flat = L := ⟨_, rfl⟩
    rw [hL] at HPa HSh HCk hN hl
    have HL := Lib.hid (show L.length ≤ 1000000 by omega)
    have HN := Lib.hid hN.symm
    clear h he h1 h2 hg hw hp hd hl hK hwt hsl hm hN hc htx hsh hL
    go_enter Try.func5, Try.ntmps5
    go_wp2_with (first
      | (go_at_call 20; (with_reducible refine (HPa.out _).mono ?_); rintro e9 w1 ⟨⟨v, rfl, ho⟩, hb⟩; (dsimp only at ho); (obtain ⟨x1, y1, rfl, hn, hT⟩ := own_nds ho); clear ho; have HB1 := Lib.hid hb; have HT1 := Lib.hid hT; clear hb hn hT)
      | (go_at_call 11; (with_reducible refine (HSh.out x1 y1 _ HT1.out).mono ?_); rintro e9 w2 ⟨rfl, hb⟩; have HB2 := Lib.hid (HB1.out.trans (hb.mono HB1.out.size)); have HT2 := Lib.hid (HT1.out.mono hb); clear hb)
      | (go_at_call 20; (with_reducible refine (HPb.out _).mono ?_); rintro e9 w3 ⟨⟨v, rfl, ho⟩, hb⟩; (dsimp only at ho); (obtain ⟨x3, y3, rfl, hn, hT⟩ := own_nds ho); clear ho; have HB3 := Lib.hid (HB2.out.trans (hb.mono HB2.out.size)); have HT3 := Lib.hid (HT2.out.mono hb); have HM3 := Lib.hid hT; clear hb hn hT)
      | (go_at_call 9; (with_reducible refine (HCk.out x1 y1 _ HT3.out).mono ?_); rintro e9 w4 ⟨rfl, hb⟩; have HB4 := Lib.hid (HB3.out.trans (hb.mono HB3.out.size)); have HT4 := Lib.hid (HT3.out.mono hb); have HM4 := Lib.hid (HM3.out.mono hb); clear hb)
      | (go_at_call 21; (with_reducible refine (same_nd x1 y1 L x3 y3 m _ HT4.out HM4.out HL.out HN.out).mono ?_); rintro e9 w5 ⟨rfl, hb⟩; have HB5 := Lib.hid (HB4.out.trans (hb.mono HB4.out.size)); clear hb)
      | (go_at_call 8; (with_reducible refine (known_any _).mono ?_); rintro e9 w6 ⟨rfl, hb6⟩; have HB6 := Lib.hid (HB5.out.trans (hb6.mono HB5.out.size)); clear hb6))
    go_ret
    exact ⟨rfl, HB6.out⟩
  · rcases parse_err (s := s) (by omega) with ⟨h0, _⟩ | ⟨_, hl0, hp0, hp1⟩
    · exact absurd h0 he
    obtain ⟨⟨l, e, p⟩, hq⟩ : ∃ q, parseB s = q := ⟨_, rfl⟩
    rw [hq] at HPa he hl0 hp0 hp1
    have hl0 : l = [] := hl0
    have hp0 : (0 : Int) ≤ p := hp0
    have hp1 : p ≤ (s.size : Int) := hp1
    subst hl0
    have n1 : (e != 0) = true := by simpa using he
    have d1 : decide ((0 : Int) ≤ p) = true := decide_eq_true hp0
    have d2 : decide (p ≤ (s.size : Int)) = true := decide_eq_true hp1
    clear h hq he hp0 hp1
    go_enter Try.func5, Try.ntmps5
    go_wp2_with (first
      | (go_at_call 20; (with_reducible refine (HPa.out _).mono ?_); rintro e9 w1 ⟨⟨v, rfl, ho⟩, hb⟩; (dsimp only at ho); (obtain ⟨x1, y1, rfl, hn, hT⟩ := own_nds ho); clear ho; have HB1 := Lib.hid hb; clear hb hn hT)
      | (go_at_call 8; (with_reducible refine (known_any _).mono ?_); rintro e9 w3 ⟨rfl, hb3⟩; have HB3 := Lib.hid (HB1.out.trans (hb3.mono HB1.out.size)); clear hb3))
    go_ret
    exact ⟨rfl, HB3.out⟩

set_option maxRecDepth 100000 in
theorem lifted (os : Os) (started : os.Started) (H : Type) (enc : TypeId × Value → H) :
    ReturnsInHanded {} Try.checked os 5 .any (Rows.treeRightSpec.pre6 enc Try.prog Try.f5 Rows.treeRightRow.domain false) (Rows.treeRightSpec.post enc Try.prog Try.f5 false true false false) := by
  refine returnsInHanded_of_change (C := Try.checked) Try.own started (by kernel_rfl) Try.func5
    (ChangeSpec.witness6 (enc := enc) (C := Try.checked) false ⟨#[], #[.string ⟨#[]⟩], []⟩ 8 (by kernel_rfl) (by kernel_rfl) (by kernel_rfl) (by kernel_rfl)) ?_
  intro W base args ds gs before hval hW _ _
  have hW' := hW
  obtain ⟨p, q, hA, hV, rfl, hfz, hnd⟩ := hW
  rw [Try.params5] at hA hval
  obtain ⟨v0, d0, rfl, rfl, h0⟩ := trodAll_one hA
  obtain ⟨s, rfl, _, _, _⟩ := Go.ChangeMaps.open_string Try.underlying9 (hval 0 9 v0 rfl rfl) h0
  refine (walk s W).mono fun e W' ⟨he, hb⟩ => ?_
  exact ⟨_, he, law_post Try.laidOut hW' rfl (by kernel_rfl) (by kernel_rfl) Try.underlying4 rfl rfl rfl hb⟩

theorem over : Rows.treeRightRow.holds Try.pinned (OpenSpec.ofChange Rows.treeRightSpec) :=
  OpenClaim.holds_of_wide 5 Try.f5 rfl rfl rfl rfl rfl rfl rfl ⟨rfl, rfl, rfl, rfl, rfl⟩ rfl rfl rfl rfl rfl (by kernel_rfl) Try.func5 (by kernel_rfl)
    (of_decide_eq_true (by kernel_rfl)) (by unfold Func.isWrapper; first | (rw [if_pos (by decide +kernel)]; kernel_rfl) | (rw [if_neg (by decide +kernel)]; exact ⟨rfl, rfl⟩))
    (fun os started H enc _ => lifted os started H enc)

/-- The statement. -/
theorem proved : Rows.TreeRightSaid := over
end treeRight
end Go.Proofs.Ytlndfognkkobaaa
