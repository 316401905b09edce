/-
  LexJoins: two texts that are right, one behind the other's line, have the tokens of both.
-/
import Derived.Test.YtpoeaeemjhnkkaaLexY
import Derived.Test.YtpoeaeemjhnkkaaLexZ
import Derived.Test.YtpoeaeemjhnkkaaMA
namespace Go.Proofs.Ytpoeaeemjhnkkaa
open Go.ChangeShapes Go.WideShapes Go.ChangeAt Go.RowKit
set_option linter.unusedVariables false
set_option linter.unusedSimpArgs false
namespace lexJoins
theorem tk_one (x : Tk) : ∀ u ∈ tkrow x, u.oneCell' = true := by
  intro u hu
  simp only [tkrow, List.mem_cons, List.not_mem_nil, or_false] at hu
  rcases hu with rfl | rfl | rfl | rfl | rfl <;> rfl
set_option maxRecDepth 100000 in
set_option maxHeartbeats 4000000 in
theorem walk (a b : ByteArray) (w : World) :
    Calls Try.prog 8 #[.string a, .string b] w fun e w' => e = .returned (.bool true) ∧ Below w.heap.size w w' := by
  by_cases h : 1500 < a.size
  · have k1 : decide ((1500 : Int) < (a.size : Int)) = true := decide_eq_true (by omega)
    clear h
    go_enter Try.func8, Try.ntmps8
    go_wp2_with (go_at_call 9; (with_reducible refine (known_any _).mono ?_); rintro e w1 ⟨rfl, hb1⟩; have HB1 := Lib.hid hb1; clear hb1)
    go_ret
    exact ⟨rfl, HB1.out⟩
  by_cases h2 : 1500 < b.size
  · have k1 : decide ((1500 : Int) < (a.size : Int)) = false := decide_eq_false (by omega)
    have k2 : decide ((1500 : Int) < (b.size : Int)) = true := decide_eq_true (by omega)
    clear h h2
    go_enter Try.func8, Try.ntmps8
    go_wp2_with (go_at_call 9; (with_reducible refine (known_any _).mono ?_); rintro e w1 ⟨rfl, hb1⟩; have HB1 := Lib.hid hb1; clear hb1)
    go_ret
    exact ⟨rfl, HB1.out⟩
  have k1 : decide ((1500 : Int) < (a.size : Int)) = false := decide_eq_false (by omega)
  have k2 : decide ((1500 : Int) < (b.size : Int)) = false := decide_eq_false (by omega)
  have HSa := Lib.hid (fun V => scan_any a V)
  have HSb := Lib.hid (fun V => scan_any b V)
  obtain ⟨fa1, fa2⟩ := scanB_facts (src := a) (by omega)
  obtain ⟨fb1, fb2⟩ := scanB_facts (src := b) (by omega)
  have hJ := fun (src : ByteArray) (l m : List Tk) (h : src.toList = a.toList ++ (10 :: b.toList)) (hs : src.size ≤ 65536) => scan_joins (l := l) (m := m) h hs
  obtain ⟨⟨l, e, p⟩, hq⟩ : ∃ q, scanB a = q := ⟨_, rfl⟩
  obtain ⟨⟨m, f, q⟩, hr⟩ : ∃ q, scanB b = q := ⟨_, rfl⟩
  rw [hq] at HSa fa1 fa2 hJ
  rw [hr] at HSb fb1 fb2 hJ
  by_cases he : e = 0
  · subst he
    by_cases hf : f = 0
    · subst hf
      obtain rfl : p = 0 := fa2 rfl
      obtain rfl : q = 0 := fb2 rfl
      obtain ⟨s1, hs1⟩ : ∃ s1 : ByteArray, a ++ ⟨#[10]⟩ = s1 := ⟨_, rfl⟩
      obtain ⟨s2, hs2⟩ : ∃ s2 : ByteArray, s1 ++ b = s2 := ⟨_, rfl⟩
      have z1 : s1.size = a.size + 1 := by rw [← hs1, ByteArray.size_append]; rfl
      have z2 : s2.size = s1.size + b.size := by rw [← hs2, ByteArray.size_append]
      have c1 : ∀ V : World, (Op.stringOp .add a ⟨#[10]⟩).run Try.prog V = .ok (.string s1) V := fun V => by rw [← hs1]; exact run_string_add_sum V _ _ (by show a.size + 1 ≤ _; omega)
      have c2 : ∀ V : World, (Op.stringOp .add s1 b).run Try.prog V = .ok (.string s2) V := fun V => by rw [← hs2]; exact run_string_add_sum V _ _ (by omega)
      have hl : s2.toList = a.toList ++ (10 :: b.toList) := by
        rw [← hs2, ← hs1]
        simp [ByteArray.toList_eq]
      obtain ⟨M, hM, hK⟩ := hJ s2 l m hl (by omega) rfl rfl
      have HSj := Lib.hid (fun V => scan_any s2 V)
      have hML := (scanB_facts (src := s2) (by omega)).1
      rw [hM] at HSj hML
      have hML : M.length ≤ 1000000 := Nat.le_trans hML (by omega)
      have hL : l.length ≤ 10000 := by have : l.length ≤ 2 * a.size + 9 := fa1; omega
      have hM9 : m.length ≤ 10000 := by have : m.length ≤ 2 * b.size + 9 := fb1; omega
      have hmax : 100000 ≤ maxLen := by decide
      have Hq1 := Lib.hid (show 0 + l.length ≤ maxLen by omega)
      have Hq2 := Lib.hid (show (0 + l.length) * 48 ≤ 140737488355328 by omega)
      have Hq3 := Lib.hid (show l.length + m.length ≤ maxLen by omega)
      have Hq4 := Lib.hid (show (l.length + m.length) * 48 ≤ 140737488355328 by omega)
      obtain ⟨J, hJe⟩ : ∃ J, l ++ m = J := ⟨_, rfl⟩
      rw [hJe] at hK
      have Hlen := Lib.hid (show l.length + m.length = J.length by rw [← hJe, List.length_append])
      have Hrow := Lib.hid (show l.flatMap tkrow ++ m.flatMap tkrow = J.flatMap tkrow by rw [← hJe, List.flatMap_append])
      have HK := Lib.hid hK
      have HML := Lib.hid hML
      clear h h2 fa1 fa2 fb1 fb2 hJ hq hr hs1 hs2 z1 z2 hl hM hK hML hL hM9 hmax hJe
      obtain ⟨i0, hi, hz0, hz1, hz2⟩ := info_parts Try.info28
      have Hi := Lib.hid hi
      have Hz0 := Lib.hid hz0
      have Hz1 := Lib.hid hz1
      have Hz2 := Lib.hid hz2
      clear hi hz0 hz1 hz2
      go_enter Try.func8, Try.ntmps8
      go_upto_region 9 with (first
        | (go_at_call 18; (with_reducible refine (HSa.out _).mono ?_); rintro e9 w1 ⟨⟨v, rfl, ho⟩, hb⟩; (dsimp only at ho); (obtain ⟨x1, y1, rfl, hn, hT⟩ := own_slice ho); clear ho; have HB1 := Lib.hid hb; have HT1 := Lib.hid hT; have HN1 := Lib.hid hn; clear hb hn hT)
        | (go_at_call 18; (with_reducible refine (HSb.out _).mono ?_); rintro e9 w2 ⟨⟨v, rfl, ho⟩, hb⟩; (dsimp only at ho); (obtain ⟨x2, y2, rfl, hn, hT⟩ := own_slice ho); clear ho; have HB2 := Lib.hid (HB1.out.trans (hb.mono HB1.out.size)); have HT2 := Lib.hid hT; have HN2 := Lib.hid hn; have HT12 := Lib.hid (HT1.out.mono hb); clear hb hn hT)
        | (go_at_call 18; (with_reducible refine (HSj.out _).mono ?_); rintro e9 w3 ⟨⟨v, rfl, ho⟩, hb⟩; (dsimp only at ho); (obtain ⟨x3, y3, rfl, hn, hT⟩ := own_slice ho); clear ho; have HB3 := Lib.hid (HB2.out.trans (hb.mono HB2.out.size)); have HT3 := Lib.hid hT; have HT13 := Lib.hid (HT12.out.mono hb); have HT23 := Lib.hid (HT2.out.mono hb); clear hb hn hT))
      go_wp2_with (first
        | (at_builtin; refine wpList_append_src rfl (.tmp 52) (.tmp 53) 26 rfl w3.heap.size 28 i0 _ 5 48 Try.underlying26 Hi.out Hz0.out Hz1.out Hz2.out rfl (by decide) _ 0 [] rfl (World.ownsRow_nil _ _ _ _) x1 l.length y1 (l.flatMap tkrow) rfl (rows_length tkrow 5 tkrow_len l) (RowsAt.news tkrow_len HT13.out) HN1.out (flat_ones tk_one l) Hq1.out Hq2.out (Nat.le_refl _) ?_; intro v4 w4 hown4 hgrow4; rw [Nat.zero_add, List.nil_append] at hown4; have HB4 := Lib.hid (own_below (World.ownsRow_nil _ _ _ _ : w3.ownsRow w3.heap.size 28 5 (.slice none 0 0) 0 []) (Below.refl _ w3) (Nat.le_refl _) hgrow4); have HO4 := Lib.hid hown4; have hz4 := HB4.out.size; clear hown4 hgrow4)
        | (at_builtin; refine wpList_append_src rfl (.tmp 55) (.tmp 56) 26 rfl w3.heap.size 28 i0 _ 5 48 Try.underlying26 Hi.out Hz0.out Hz1.out Hz2.out rfl (by decide) _ l.length (l.flatMap tkrow) rfl HO4.out x2 m.length y2 (m.flatMap tkrow) rfl (rows_length tkrow 5 tkrow_len m) (RowsAt.news tkrow_len (HT23.out.mono HB4.out)) HN2.out (flat_ones tk_one m) Hq3.out Hq4.out hz4 ?_; intro v5 w5 hown5 hgrow5; rw [Hlen.out, Hrow.out] at hown5; have HB5 := Lib.hid (own_below HO4.out HB4.out hz4 hgrow5); obtain ⟨x5, y5, rfl, hn5, hT5⟩ := own_slice hown5; have HT5 := Lib.hid hT5; have HT35 := Lib.hid (HT3.out.mono HB5.out); have HB35 := Lib.hid (HB3.out.trans (HB5.out.mono HB3.out.size)); clear hown5 hgrow5 hn5 hT5)
        | (go_at_call 19; (with_reducible refine (same_any x3 y3 M x5 y5 J _ HT35.out HT5.out HML.out HK.out).mono ?_); rintro e9 w6 ⟨rfl, hb6⟩; have HB6 := Lib.hid (HB35.out.trans (hb6.mono HB35.out.size)); clear hb6)
        | (go_at_call 9; (with_reducible refine (known_any _).mono ?_); rintro e9 w7 ⟨rfl, hb7⟩; have HB7 := Lib.hid (HB6.out.trans (hb7.mono HB6.out.size)); clear hb7))
      go_ret
      exact ⟨rfl, HB7.out⟩
    · have n2 : (f != 0) = true := by simpa using hf
      clear h h2 fa1 fa2 fb1 fb2 hJ hq hr hf
      go_enter Try.func8, Try.ntmps8
      go_wp2_with (first
        | (go_at_call 18; (with_reducible refine (HSa.out _).mono ?_); rintro e9 w1 ⟨⟨v, rfl, ho⟩, hb⟩; (dsimp only at ho); (obtain ⟨x1, y1, rfl, hn, hT⟩ := own_slice ho); clear ho; have HB1 := Lib.hid hb; clear hb hn hT)
        | (go_at_call 18; (with_reducible refine (HSb.out _).mono ?_); rintro e9 w2 ⟨⟨v, rfl, ho⟩, hb⟩; (dsimp only at ho); (obtain ⟨x2, y2, rfl, hn, hT⟩ := own_slice ho); clear ho; have HB2 := Lib.hid (HB1.out.trans (hb.mono HB1.out.size)); clear hb hn hT)
        | (go_at_call 9; (with_reducible refine (known_any _).mono ?_); rintro e9 w3 ⟨rfl, hb3⟩; have HB3 := Lib.hid (HB2.out.trans (hb3.mono HB2.out.size)); clear hb3))
      go_ret
      exact ⟨rfl, HB3.out⟩
  · have n1 : (e != 0) = true := by simpa using he
    clear h h2 fa1 fa2 fb1 fb2 hJ hq hr he
    go_enter Try.func8, Try.ntmps8
    go_wp2_with (first
      | (go_at_call 18; (with_reducible refine (HSa.out _).mono ?_); rintro e9 w1 ⟨⟨v, rfl, ho⟩, hb⟩; (dsimp only at ho); (obtain ⟨x1, y1, rfl, hn, hT⟩ := own_slice ho); clear ho; have HB1 := Lib.hid hb; clear hb hn hT)
      | (go_at_call 18; (with_reducible refine (HSb.out _).mono ?_); rintro e9 w2 ⟨⟨v, rfl, ho⟩, hb⟩; (dsimp only at ho); (obtain ⟨x2, y2, rfl, hn, hT⟩ := own_slice ho); clear ho; have HB2 := Lib.hid (HB1.out.trans (hb.mono HB1.out.size)); clear hb hn hT)
      | (go_at_call 9; (with_reducible refine (known_any _).mono ?_); rintro e9 w3 ⟨rfl, hb3⟩; have HB3 := Lib.hid (HB2.out.trans (hb3.mono HB2.out.size)); clear hb3))
    go_ret
    exact ⟨rfl, HB3.out⟩

set_option maxRecDepth 100000 in
theorem lifted (os : Os) (started : os.Started) (H : Type) (enc : TypeId × Value → H) :
    ReturnsInHanded {} Try.checked os 8 .any (Rows.lexJoinsSpec.pre6 enc Try.prog Try.f8 Rows.lexJoinsRow.domain false) (Rows.lexJoinsSpec.post enc Try.prog Try.f8 false true false false) := by
  refine returnsInHanded_of_change (C := Try.checked) Try.own started (by kernel_rfl) Try.func8
    (ChangeSpec.witness6 (enc := enc) (C := Try.checked) false ⟨#[], #[.string ⟨#[]⟩, .string ⟨#[]⟩], []⟩ 8 (by kernel_rfl) (by kernel_rfl) (by kernel_rfl) (by kernel_rfl)) ?_
  intro W base args ds gs before hval hW _ _
  have hW' := hW
  obtain ⟨p, q, hA, hV, rfl, hfz, hnd⟩ := hW
  rw [Try.params8] at hA hval
  obtain ⟨v0, v1, d0, d1, p0, p1, rfl, rfl, rfl, h0, h1⟩ := trodAll_two hA
  obtain ⟨s, rfl, _, _, _⟩ := Go.ChangeMaps.open_string Try.underlying9 (hval 0 9 v0 rfl rfl) h0
  obtain ⟨t, rfl, _, _, _⟩ := Go.ChangeMaps.open_string Try.underlying9 (hval 1 9 v1 rfl rfl) h1
  refine (walk s t W).mono fun e W' ⟨he, hb⟩ => ?_
  exact ⟨_, he, law_post Try.laidOut hW' rfl (by kernel_rfl) (by kernel_rfl) Try.underlying4 rfl rfl rfl hb⟩

theorem over : Rows.lexJoinsRow.holds Try.pinned (OpenSpec.ofChange Rows.lexJoinsSpec) :=
  OpenClaim.holds_of_wide 8 Try.f8 rfl rfl rfl rfl rfl rfl rfl ⟨rfl, rfl, rfl, rfl, rfl⟩ rfl rfl rfl rfl rfl (by kernel_rfl) Try.func8 (by kernel_rfl)
    (of_decide_eq_true (by kernel_rfl)) (by unfold Func.isWrapper; first | (rw [if_pos (by decide +kernel)]; kernel_rfl) | (rw [if_neg (by decide +kernel)]; exact ⟨rfl, rfl⟩))
    (fun os started H enc _ => lifted os started H enc)

/-- The statement. -/
theorem proved : Rows.LexJoinsSaid := over
end lexJoins
end Go.Proofs.Ytpoeaeemjhnkkaa
