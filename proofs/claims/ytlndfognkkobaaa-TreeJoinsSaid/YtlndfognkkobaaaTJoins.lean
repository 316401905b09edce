/-
  TreeJoins: two texts that can be read, one behind the other's line, have the trees of both.
-/
import Derived.Test.YtlndfognkkobaaaTrS
import Derived.Test.YtlndfognkkobaaaTrT
import Derived.Test.YtlndfognkkobaaaLexY
import Derived.Test.YtlndfognkkobaaaMA
namespace Go.Proofs.Ytlndfognkkobaaa
open Go.ChangeShapes Go.WideShapes Go.ChangeAt Go.RowKit
set_option linter.unusedVariables false
set_option linter.unusedSimpArgs false
namespace treeJoins
theorem nd_one (x : Nd) : ∀ u ∈ ndrow x, u.oneCell' = true := by
  intro u hu
  simp only [ndrow, List.mem_cons, List.not_mem_nil, or_false] at hu
  rcases hu with rfl | rfl | rfl | rfl <;> rfl
theorem asc_len : ∀ (l : List Tk) (lo hi : Int), l.Pairwise tkAhead → (∀ t ∈ l, lo ≤ t.po ∧ t.po ≤ hi) → lo ≤ hi + 1 → (l.length : Int) ≤ hi - lo + 1
  | [], lo, hi, _, _, h => by show (0 : Int) ≤ _; omega
  | x :: l, lo, hi, hp, hb, h => by
    obtain ⟨h1, h2⟩ := List.pairwise_cons.1 hp
    have hx := hb x (List.mem_cons_self ..)
    have := asc_len l (x.po + 1) hi h2 (fun t ht => ⟨by have := (h1 t ht).1; omega, (hb t (List.mem_cons_of_mem _ ht)).2⟩) (by omega)
    rw [List.length_cons]
    omega
theorem few_tokens {s : ByteArray} {ts : List Tk} (hs : s.size ≤ 65536) (h : scanB s = (ts, 0, 0)) : ts.length ≤ s.size + 1 := by
  have h1 := (scanB_inv hs).2.1
  have h2 := scanB_po (src := s)
  rw [h] at h1 h2
  have := asc_len ts 0 s.size h1 (fun t ht => h2 t ht) (by omega)
  omega
theorem tops_len (a : Option Addr) (ka : Nat) (f : Fo) (hw : f.Wf) (hl : f.flat.length ≤ 100000) (w : World) (hF : NdL w a f.flat) :
    Calls Try.prog 18 #[.slice a f.flat.length ka] w fun e w' => (∃ x k, e = .returned (.slice x f.len k)) ∧ Below w.heap.size w w' := by
  refine (tops_any a ka f.flat f [] w hF hl (List.append_nil _).symm hw (.inl rfl)).mono ?_
  rintro e w' ⟨⟨v, he, ho⟩, hb⟩
  rw [if_pos rfl] at ho
  obtain ⟨x, k, e1⟩ := own_sl ho
  rw [places_len] at e1
  exact ⟨⟨x, k, by rw [he, e1]⟩, hb⟩
set_option maxRecDepth 100000 in
set_option maxHeartbeats 4000000 in
theorem walk (a b : ByteArray) (w : World) :
    Calls Try.prog 6 #[.string a, .string b] w fun e w' => e = .returned (.bool true) ∧ Below w.heap.size w w' := by
  by_cases h : 1500 < a.size
  · have k1 : decide ((1500 : Int) < (a.size : Int)) = true := decide_eq_true (by omega)
    clear h
    go_enter Try.func6, Try.ntmps6
    go_wp2_with (go_at_call 8; (with_reducible refine (known_any _).mono ?_); rintro e w1 ⟨rfl, hb1⟩; have HB1 := Lib.hid hb1; clear hb1)
    go_ret
    exact ⟨rfl, HB1.out⟩
  by_cases h2 : 1500 < b.size
  · have k1 : decide ((1500 : Int) < (a.size : Int)) = false := decide_eq_false (by omega)
    have k2 : decide ((1500 : Int) < (b.size : Int)) = true := decide_eq_true (by omega)
    clear h h2
    go_enter Try.func6, Try.ntmps6
    go_wp2_with (go_at_call 8; (with_reducible refine (known_any _).mono ?_); rintro e w1 ⟨rfl, hb1⟩; have HB1 := Lib.hid hb1; clear hb1)
    go_ret
    exact ⟨rfl, HB1.out⟩
  have k1 : decide ((1500 : Int) < (a.size : Int)) = false := decide_eq_false (by omega)
  have k2 : decide ((1500 : Int) < (b.size : Int)) = false := decide_eq_false (by omega)
  have HPa := Lib.hid (fun V => parse_any a V)
  have HPb := Lib.hid (fun V => parse_any b V)
  by_cases he : (parseB a).2.1 = 0
  · by_cases hf : (parseB b).2.1 = 0
    · obtain ⟨f, ts, a1, a2, ag, aw, ap, ad, al, aK⟩ := parse_ok (s := a) (by omega) he
      obtain ⟨g, us, b1, b2, bg, bw, bp, bd, bl, bK⟩ := parse_ok (s := b) (by omega) hf
      obtain ⟨s1, hs1⟩ : ∃ s1 : ByteArray, a ++ ⟨#[10]⟩ = s1 := ⟨_, rfl⟩
      obtain ⟨s2, hs2⟩ : ∃ s2 : ByteArray, s1 ++ b = s2 := ⟨_, rfl⟩
      have z1 : s1.size = a.size + 1 := by rw [← hs1, ByteArray.size_append]; rfl
      have z2 : s2.size = s1.size + b.size := by rw [← hs2, ByteArray.size_append]
      have c1 : ∀ V : World, (Op.stringOp .add a ⟨#[10]⟩).run Try.prog V = .ok (.string s1) V := fun V => by rw [← hs1]; exact run_string_add_sum V _ _ (by show a.size + 1 ≤ _; omega)
      have c2 : ∀ V : World, (Op.stringOp .add s1 b).run Try.prog V = .ok (.string s2) V := fun V => by rw [← hs2]; exact run_string_add_sum V _ _ (by omega)
      have hl : s2.toList = a.toList ++ (10 :: b.toList) := by
        rw [← hs2, ← hs1]
        simp [ByteArray.toList_eq]
      obtain ⟨M, hM, hK⟩ := scan_joins (l := ts) (m := us) hl (by omega) a1 b1
      have hKK : M.map kt = toksF (f.app g) := by rw [hK, List.map_append, aK, bK, toks_app]
      have tl1 := few_tokens (by omega) a1
      have tl2 := few_tokens (by omega) b1
      have fl1 := flat_toks f ag
      have fl2 := flat_toks g bg
      rw [← aK, List.length_map] at fl1
      rw [← bK, List.length_map] at fl2
      have fl : (f.app g).flat.length ≤ 4000 := by rw [Fo.app_flat, List.length_append]; omega
      obtain ⟨m, hm, hN⟩ := parse_of hM hKK (good_app ag bg) (Fo.app_wf aw bw) (by rw [deep_app]; omega) fl
      have hmo : (parseB s2).2.1 = 0 := by rw [hm]
      obtain ⟨F, _, _, m2, _, mw, _, _, ml, _⟩ := parse_ok (s := s2) (by omega) hmo
      obtain rfl : m = F.flat := by rw [hm] at m2; exact congrArg Prod.fst m2
      have hlen : F.len = f.len + g.len := by rw [len_one mw (Fo.app_wf aw bw) hN, Fo.app_len]
      have HTf := Lib.hid (fun x k => tops_len x k f aw (by omega))
      have HTg := Lib.hid (fun x k => tops_len x k g bw (by omega))
      have HTF := Lib.hid (fun x k => tops_len x k F mw (by omega))
      have HPj := Lib.hid (fun V => parse_any s2 V)
      rw [hm] at HPj
      rw [a2] at HPa
      rw [b2] at HPb
      have hff := flat_len f
      have hgg := flat_len g
      obtain ⟨nf, hnf⟩ : ∃ nf, f.len = nf := ⟨_, rfl⟩
      obtain ⟨ng, hng⟩ : ∃ ng, g.len = ng := ⟨_, rfl⟩
      rw [hnf] at HTf hlen hff
      rw [hng] at HTg hlen hgg
      rw [hlen] at HTF
      rw [Fo.app_flat] at hN fl
      obtain ⟨L, hL⟩ : ∃ L, f.flat = L := ⟨_, rfl⟩
      obtain ⟨G, hG⟩ : ∃ G, g.flat = G := ⟨_, rfl⟩
      obtain ⟨A, hA⟩ : ∃ A, F.flat = A := ⟨_, rfl⟩
      rw [hL] at HPa HTf hN fl hff al
      rw [hG] at HPb HTg hN fl hgg bl
      rw [hA] at HPj HTF hN ml
      have hmax : 100000 ≤ maxLen := by decide
      have Hq1 := Lib.hid (show 0 + L.length ≤ maxLen by omega)
      have Hq2 := Lib.hid (show (0 + L.length) * 40 ≤ 140737488355328 by omega)
      have Hq3 := Lib.hid (show L.length + G.length ≤ maxLen by omega)
      have Hq4 := Lib.hid (show (L.length + G.length) * 40 ≤ 140737488355328 by omega)
      obtain ⟨J, hJe⟩ : ∃ J, L ++ G = J := ⟨_, rfl⟩
      rw [hJe] at hN
      have Hlen := Lib.hid (show L.length + G.length = J.length by rw [← hJe, List.length_append])
      have Hrow := Lib.hid (show L.flatMap ndrow ++ G.flatMap ndrow = J.flatMap ndrow by rw [← hJe, List.flatMap_append])
      have HN := Lib.hid hN
      have HAL := Lib.hid (show A.length ≤ 1000000 by omega)
      have hnf2 : nf ≤ 4000 := by omega
      have hng2 : ng ≤ 4000 := by omega
      have hsum : ((((nf + ng : Nat) : Int)) == (nf : Int) + ng) = true := by simp
      clear h h2 he hf a1 a2 ag aw ap ad al aK b1 b2 bg bw bp bd bl bK hs1 hs2 z1 z2 hl hM hK hKK tl1 tl2 fl1 fl2 fl hm hN hmo m2 mw ml hlen hff hgg hnf hng hL hG hA hmax hJe
      obtain ⟨i0, hi, hz0, hz1, hz2⟩ := info_parts Try.info40
      have Hi := Lib.hid hi
      have Hz0 := Lib.hid hz0
      have Hz1 := Lib.hid hz1
      have Hz2 := Lib.hid hz2
      clear hi hz0 hz1 hz2
      go_enter Try.func6, Try.ntmps6
      go_upto_region 9 with (first
        | (go_at_call 20; (with_reducible refine (HPa.out _).mono ?_); rintro e9 w1 ⟨⟨v, rfl, ho⟩, hb⟩; (dsimp only at ho); (obtain ⟨x1, y1, rfl, hn, hT⟩ := own_nds ho); clear ho; have HB1 := Lib.hid hb; have HT1 := Lib.hid hT; have HN1 := Lib.hid hn; clear hb hn hT)
        | (go_at_call 20; (with_reducible refine (HPb.out _).mono ?_); rintro e9 w2 ⟨⟨v, rfl, ho⟩, hb⟩; (dsimp only at ho); (obtain ⟨x2, y2, rfl, hn, hT⟩ := own_nds ho); clear ho; have HB2 := Lib.hid (HB1.out.trans (hb.mono HB1.out.size)); have HT2 := Lib.hid hT; have HN2 := Lib.hid hn; have HT12 := Lib.hid (HT1.out.mono hb); clear hb hn hT)
        | (go_at_call 20; (with_reducible refine (HPj.out _).mono ?_); rintro e9 w3 ⟨⟨v, rfl, ho⟩, hb⟩; (dsimp only at ho); (obtain ⟨x3, y3, rfl, hn, hT⟩ := own_nds ho); clear ho; have HB3 := Lib.hid (HB2.out.trans (hb.mono HB2.out.size)); have HT3 := Lib.hid hT; have HT13 := Lib.hid (HT12.out.mono hb); have HT23 := Lib.hid (HT2.out.mono hb); clear hb hn hT))
      go_wp2_with (first
        | (at_builtin; refine wpList_append_src rfl (.tmp 52) (.tmp 53) 22 rfl w3.heap.size 40 i0 _ 4 40 Try.underlying22 Hi.out Hz0.out Hz1.out Hz2.out rfl (by decide) _ 0 [] rfl (World.ownsRow_nil _ _ _ _) x1 L.length y1 (L.flatMap ndrow) rfl (rows_length ndrow 4 ndrow_len L) (RowsAt.news ndrow_len HT13.out) HN1.out (flat_ones nd_one L) Hq1.out Hq2.out (Nat.le_refl _) ?_; intro v4 w4 hown4 hgrow4; rw [Nat.zero_add, List.nil_append] at hown4; have HB4 := Lib.hid (own_below (World.ownsRow_nil _ _ _ _ : w3.ownsRow w3.heap.size 40 4 (.slice none 0 0) 0 []) (Below.refl _ w3) (Nat.le_refl _) hgrow4); have HO4 := Lib.hid hown4; have hz4 := HB4.out.size; clear hown4 hgrow4)
        | (at_builtin; refine wpList_append_src rfl (.tmp 55) (.tmp 56) 22 rfl w3.heap.size 40 i0 _ 4 40 Try.underlying22 Hi.out Hz0.out Hz1.out Hz2.out rfl (by decide) _ L.length (L.flatMap ndrow) rfl HO4.out x2 G.length y2 (G.flatMap ndrow) rfl (rows_length ndrow 4 ndrow_len G) (RowsAt.news ndrow_len (HT23.out.mono HB4.out)) HN2.out (flat_ones nd_one G) Hq3.out Hq4.out hz4 ?_; intro v5 w5 hown5 hgrow5; rw [Hlen.out, Hrow.out] at hown5; have HB5 := Lib.hid (own_below HO4.out HB4.out hz4 hgrow5); obtain ⟨x5, y5, rfl, hn5, hT5⟩ := own_nds hown5; have HT5 := Lib.hid hT5; have HT35 := Lib.hid (HT3.out.mono HB5.out); have HT15 := Lib.hid (HT13.out.mono HB5.out); have HT25 := Lib.hid (HT23.out.mono HB5.out); have HB35 := Lib.hid (HB3.out.trans (HB5.out.mono HB3.out.size)); clear hown5 hgrow5 hn5 hT5)
        | (go_at_call 21; (with_reducible refine (same_nd x3 y3 A x5 y5 J _ HT35.out HT5.out HAL.out HN.out).mono ?_); rintro e9 w6 ⟨rfl, hb⟩; have HB6 := Lib.hid (HB35.out.trans (hb.mono HB35.out.size)); have HT16 := Lib.hid (HT15.out.mono hb); have HT26 := Lib.hid (HT25.out.mono hb); have HT36 := Lib.hid (HT35.out.mono hb); clear hb)
        | (go_at_call 18; (with_reducible refine (HTF.out x3 y3 _ HT36.out).mono ?_); rintro e9 w7 ⟨⟨z7, k7, rfl⟩, hb⟩; have HB7 := Lib.hid (HB6.out.trans (hb.mono HB6.out.size)); have HT17 := Lib.hid (HT16.out.mono hb); have HT27 := Lib.hid (HT26.out.mono hb); clear hb)
        | (go_at_call 18; (with_reducible refine (HTf.out x1 y1 _ HT17.out).mono ?_); rintro e9 w8 ⟨⟨z8, k8, rfl⟩, hb⟩; have HB8 := Lib.hid (HB7.out.trans (hb.mono HB7.out.size)); have HT28 := Lib.hid (HT27.out.mono hb); clear hb)
        | (go_at_call 18; (with_reducible refine (HTg.out x2 y2 _ HT28.out).mono ?_); rintro e9 w9 ⟨⟨z9, k9, rfl⟩, hb⟩; have HB9 := Lib.hid (HB8.out.trans (hb.mono HB8.out.size)); clear hb)
        | (go_at_call 8; (with_reducible refine (known_any _).mono ?_); rintro e9 w10 ⟨rfl, hb⟩; have HB10 := Lib.hid (HB9.out.trans (hb.mono HB9.out.size)); clear hb))
      go_ret
      exact ⟨rfl, HB10.out⟩
    · obtain ⟨⟨l, e, p⟩, hq⟩ : ∃ q, parseB a = q := ⟨_, rfl⟩
      obtain ⟨⟨m, f, q⟩, hr⟩ : ∃ q, parseB b = q := ⟨_, rfl⟩
      rw [hq] at HPa he
      rw [hr] at HPb hf
      obtain rfl : e = 0 := he
      have n2 : (f != 0) = true := by simpa using hf
      clear h h2 hf hq hr
      go_enter Try.func6, Try.ntmps6
      go_wp2_with (first
        | (go_at_call 20; (with_reducible refine (HPa.out _).mono ?_); rintro e9 w1 ⟨⟨v, rfl, ho⟩, hb⟩; (dsimp only at ho); (obtain ⟨x1, y1, rfl, hn, hT⟩ := own_nds ho); clear ho; have HB1 := Lib.hid hb; clear hb hn hT)
        | (go_at_call 20; (with_reducible refine (HPb.out _).mono ?_); rintro e9 w2 ⟨⟨v, rfl, ho⟩, hb⟩; (dsimp only at ho); (obtain ⟨x2, y2, rfl, hn, hT⟩ := own_nds ho); clear ho; have HB2 := Lib.hid (HB1.out.trans (hb.mono HB1.out.size)); clear hb hn hT)
        | (go_at_call 8; (with_reducible refine (known_any _).mono ?_); rintro e9 w3 ⟨rfl, hb3⟩; have HB3 := Lib.hid (HB2.out.trans (hb3.mono HB2.out.size)); clear hb3))
      go_ret
      exact ⟨rfl, HB3.out⟩
  · obtain ⟨⟨l, e, p⟩, hq⟩ : ∃ q, parseB a = q := ⟨_, rfl⟩
    obtain ⟨⟨m, f, q⟩, hr⟩ : ∃ q, parseB b = q := ⟨_, rfl⟩
    rw [hq] at HPa he
    rw [hr] at HPb
    have n1 : (e != 0) = true := by simpa using he
    clear h h2 he hq hr
    go_enter Try.func6, Try.ntmps6
    go_wp2_with (first
      | (go_at_call 20; (with_reducible refine (HPa.out _).mono ?_); rintro e9 w1 ⟨⟨v, rfl, ho⟩, hb⟩; (dsimp only at ho); (obtain ⟨x1, y1, rfl, hn, hT⟩ := own_nds ho); clear ho; have HB1 := Lib.hid hb; clear hb hn hT)
      | (go_at_call 20; (with_reducible refine (HPb.out _).mono ?_); rintro e9 w2 ⟨⟨v, rfl, ho⟩, hb⟩; (dsimp only at ho); (obtain ⟨x2, y2, rfl, hn, hT⟩ := own_nds ho); clear ho; have HB2 := Lib.hid (HB1.out.trans (hb.mono HB1.out.size)); clear hb hn hT)
      | (go_at_call 8; (with_reducible refine (known_any _).mono ?_); rintro e9 w3 ⟨rfl, hb3⟩; have HB3 := Lib.hid (HB2.out.trans (hb3.mono HB2.out.size)); clear hb3))
    go_ret
    exact ⟨rfl, HB3.out⟩

set_option maxRecDepth 100000 in
theorem lifted (os : Os) (started : os.Started) (H : Type) (enc : TypeId × Value → H) :
    ReturnsInHanded {} Try.checked os 6 .any (Rows.treeJoinsSpec.pre6 enc Try.prog Try.f6 Rows.treeJoinsRow.domain false) (Rows.treeJoinsSpec.post enc Try.prog Try.f6 false true false false) := by
  refine returnsInHanded_of_change (C := Try.checked) Try.own started (by kernel_rfl) Try.func6
    (ChangeSpec.witness6 (enc := enc) (C := Try.checked) false ⟨#[], #[.string ⟨#[]⟩, .string ⟨#[]⟩], []⟩ 8 (by kernel_rfl) (by kernel_rfl) (by kernel_rfl) (by kernel_rfl)) ?_
  intro W base args ds gs before hval hW _ _
  have hW' := hW
  obtain ⟨p, q, hA, hV, rfl, hfz, hnd⟩ := hW
  rw [Try.params6] at hA hval
  obtain ⟨v0, v1, d0, d1, p0, p1, rfl, rfl, rfl, h0, h1⟩ := trodAll_two hA
  obtain ⟨s, rfl, _, _, _⟩ := Go.ChangeMaps.open_string Try.underlying9 (hval 0 9 v0 rfl rfl) h0
  obtain ⟨t, rfl, _, _, _⟩ := Go.ChangeMaps.open_string Try.underlying9 (hval 1 9 v1 rfl rfl) h1
  refine (walk s t W).mono fun e W' ⟨he, hb⟩ => ?_
  exact ⟨_, he, law_post Try.laidOut hW' rfl (by kernel_rfl) (by kernel_rfl) Try.underlying4 rfl rfl rfl hb⟩

theorem over : Rows.treeJoinsRow.holds Try.pinned (OpenSpec.ofChange Rows.treeJoinsSpec) :=
  OpenClaim.holds_of_wide 6 Try.f6 rfl rfl rfl rfl rfl rfl rfl ⟨rfl, rfl, rfl, rfl, rfl⟩ rfl rfl rfl rfl rfl (by kernel_rfl) Try.func6 (by kernel_rfl)
    (of_decide_eq_true (by kernel_rfl)) (by unfold Func.isWrapper; first | (rw [if_pos (by decide +kernel)]; kernel_rfl) | (rw [if_neg (by decide +kernel)]; exact ⟨rfl, rfl⟩))
    (fun os started H enc _ => lifted os started H enc)

/-- The statement. -/
theorem proved : Rows.TreeJoinsSaid := over
end treeJoins
end Go.Proofs.Ytlndfognkkobaaa
