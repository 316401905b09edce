/-
  BlockLess: with fewer budgets nothing more is blocked; without pods nothing is.
-/
import Derived.Test.YtkmhicoimgpdlaaBk9
namespace Go.Proofs.Ytkmhicoimgpdlaa
open Go.ChangeShapes Go.WideShapes Go.ChangeAt Go.RowKit
set_option linter.unusedVariables false
set_option linter.unusedSimpArgs false
namespace blockLess

set_option maxRecDepth 100000 in
set_option maxHeartbeats 16000000 in
theorem walk1 (a : Option Addr) (ka : Nat) (ms : List Mac) (c : Option Addr) (kc : Nat) (bs : List Bd) (d : Option Addr) (kd : Nat) (l : List Bg) (w : World) (hF : MacL w a ms) (hG : BndL w c bs) (hD : BgL w d l) (hA : ∀ m ∈ ms, MacIn w m) (hB : ∀ b ∈ bs, BndIn w b) (hI : ∀ b ∈ l, BgIn w b) (hl : ms.length ≤ maxLen) (hl2 : bs.length ≤ maxLen) (hlk : l.length ≤ kd) :
    Calls Try.prog 4 #[.slice a ms.length ka, .slice c bs.length kc, .slice d l.length kd] w fun e w' => e = .returned (.bool true) ∧ Below w.heap.size w w' := by
  have hRt := bright_any a c d ka kc kd ms bs l w hF hG hD hA hB hI hl hl2
  have HAll := Lib.hid (fun (hr : RightB ms bs l) =>
    have hly := lightY_iff hr.ly
    have hba := ba_of hD hI hr.lg hr.rg
    have hbb : ∀ x ∈ bs, x.p.labs.length ≤ 1000 := fun x hx => by have := (lightL_iff _).1 (lightP_iff (hly.2.2.2 x hx).1).l0; omega
    show (∀ nm V, Below w.heap.size w V → Calls Try.prog 12 #[.slice c bs.length kc, .slice d l.length kd, .string nm] V fun e w' => e = .returned (.tuple #[.string (whyB l bs nm).1, .int .i64 (whyB l bs nm).2]) ∧ Below V.heap.size V w')
      ∧ (∀ k nm V, k ≤ l.length → Below w.heap.size w V → Calls Try.prog 12 #[.slice c bs.length kc, .slice d k kd, .string nm] V fun e w' => e = .returned (.tuple #[.string (whyB (l.take k) bs nm).1, .int .i64 (whyB (l.take k) bs nm).2]) ∧ Below V.heap.size V w')
      ∧ (∀ nm V, Below w.heap.size w V → Calls Try.prog 12 #[.slice none 0 0, .slice d l.length kd, .string nm] V fun e w' => e = .returned (.tuple #[.string ⟨#[]⟩, .int .i64 0]) ∧ Below V.heap.size V w')
      ∧ ms.length ≤ 200 ∧ l.length ≤ 30 from
    ⟨fun nm V hV => bwhyg_any d c kd kc l bs nm V (hba.mono hV) (hG.mono hV) (fun x hx => ((hB x hx).mono hV).here) (by have := hly.2.1; omega) hbb,
     fun k nm V hk hV => by
       have h9 := bwhyg_any d c kd kc (l.take k) bs nm V ((ba_take hba k).mono hV) (hG.mono hV) (fun x hx => ((hB x hx).mono hV).here) (by have := hly.2.1; omega) hbb
       rw [List.length_take, Nat.min_eq_left hk] at h9
       exact h9,
     fun nm V hV => by
       have h9 := bwhyg_any d none kd 0 l [] nm V (hba.mono hV) RowsAt.nil (fun x hx => by cases hx) (by show 0 ≤ 1000; decide) (fun x hx => by cases hx)
       rw [why_nil] at h9
       exact h9,
     by have := hly.1; omega, hr.lg.1⟩)
  obtain ⟨N, hN⟩ : ∃ N, bs.length = N := ⟨_, rfl⟩
  obtain ⟨n, hn⟩ : ∃ n, ms.length = n := ⟨_, rfl⟩
  obtain ⟨M, hM⟩ : ∃ M, l.length = M := ⟨_, rfl⟩
  have Hn := Lib.hid hn
  have HM := Lib.hid hM
  have HF := Lib.hid hF
  have HD := Lib.hid hD
  rw [hN, hn, hM] at hRt
  rw [hN, hM, hn] at HAll
  rw [hM] at hlk
  rw [hN, hn, hM]
  have HRt := Lib.hid hRt
  clear hRt hF hG hD hA hB hI hl hl2 hN hn hM
  go_enter Try.func4, Try.ntmps4
  go_wp2_with (first
    | (go_at_call 7; (with_reducible refine (HRt.out).mono ?_); rintro e w1 ⟨⟨g, rfl, hg⟩, hb⟩; have HB1 := Lib.hid hb; have HG := Lib.hid hg; clear hb hg; cases g)
    | (go_at_call 8; (with_reducible refine (bknown_any _).mono ?_); rintro e w2 ⟨rfl, hb⟩; have HB2 := Lib.hid (HB1.out.trans (hb.mono HB1.out.size)); clear hb))
  · go_ret
    exact ⟨rfl, HB2.out⟩
  · obtain ⟨h1, h2, h3, hn9, hm9⟩ := HAll.out (HG.out (by first | rfl | trivial))
    have HW1 := Lib.hid h1
    have HW2 := Lib.hid h2
    have HW3 := Lib.hid h3
    clear h1 h2 h3 HAll HG HRt
    go_loopw [7] (fun vi wr => ∃ i : Nat, i ≤ n ∧ vi = .int .i64 i ∧ Below w.heap.size w wr) (fun vi _ => n - (intOf vi).toNat)
    case atStart => exact ⟨0, Nat.zero_le _, rfl, HB1.out⟩
    case round =>
      clear HB1
      obtain ⟨i, hi, rfl, hB⟩ := hrel
      have HB := Lib.hid hB
      by_cases hlt : i < n
      · obtain ⟨m, hm⟩ := mem_at (l := ms) (k := i) (by rw [Hn.out]; exact hlt)
        obtain ⟨q, o, rfl, hq, hc⟩ := HF.out (by rw [Hn.out]; omega)
        have HC0 := Lib.hid (show w.cell? ⟨q, o + i * 10, none⟩ = some (.string m.nm) from hc i m hm 0 (by decide))
        have c0 : wr.cell? ⟨q, o + i * 10, none⟩ = some (.string m.nm) := (hB.cell (p := ⟨q, o + i * 10, none⟩) hq).trans HC0.out
        have hqr := Nat.lt_of_lt_of_le hq hB.size
        obtain ⟨nm, hnm⟩ : ∃ nm, m.nm = nm := ⟨_, rfl⟩
        rw [hnm] at HC0 c0
        have HX1 := Lib.hid (HW1.out nm)
        have HX2 := Lib.hid (HW2.out)
        have HX3 := Lib.hid (HW3.out nm)
        have HTk := Lib.hid (fun k => why_take (l := l) (bs := bs) (nm := nm) k)
        obtain ⟨⟨x, y⟩, hxy⟩ : ∃ z, whyB l bs nm = z := ⟨_, rfl⟩
        rw [hxy] at HX1 HTk
        clear hB hc hm hnm hxy
        go_upto_region 7 with (go_at_call 12; (with_reducible refine (HX1.out _ HB.out).mono ?_); rintro e w2 ⟨rfl, hb⟩; have HB2 := Lib.hid (HB.out.trans (hb.mono HB.out.size)); clear hb)
        clear c0 hqr
        go_wp2
        go_loopw [10] (fun vk wy => ∃ k : Nat, k ≤ M ∧ vk = .int .i64 k ∧ Below w.heap.size w wy) (fun vk _ => M - (intOf vk).toNat)
        case atStart => exact ⟨0, Nat.zero_le _, rfl, HB2.out⟩
        case round =>
          clear HB2
          obtain ⟨k, hk, rfl, hB⟩ := hrel
          have HBk := Lib.hid hB
          have c0 : wr.cell? ⟨q, o + i * 10, none⟩ = some (.string nm) := (hB.cell (p := ⟨q, o + i * 10, none⟩) hq).trans HC0.out
          have hqr := Nat.lt_of_lt_of_le hq hB.size
          by_cases hkm : k < M
          · obtain ⟨qd, od, rfl, hqd, -⟩ := HD.out (by rw [HM.out]; omega)
            have HXk := Lib.hid (HX2.out k nm)
            have ht := HTk.out k
            obtain ⟨⟨u, f⟩, huf⟩ : ∃ z, whyB (l.take k) bs nm = z := ⟨_, rfl⟩
            rw [huf] at HXk ht
            have hkd : k ≤ kd := by omega
            have C : (y = 0 ∧ f = 0) ∨ ((y == 0) = false) := by
              by_cases hy : y = 0
              · exact .inl ⟨hy, ht hy⟩
              · exact .inr (by simpa using hy)
            clear hB huf ht
            rcases C with ⟨rfl, rfl⟩ | q0
            all_goals
              go_upto_region 10 with (fail)
              have hcH := held_cell
              refine region_rel (by kernel_rfl) (by kernel_rfl) ?_
              repeat
                ((with_reducible refine relStep (fun K hK => ?_))
                 (have HK := Lib.hid hK)
                 clear hK
                 (apply relInl
                  · intro r n hf
                    have Hf := Lib.hid hf
                    clear hf
                    (first
                      | (fail)
                      | (unfold relAt
                         go_simp
                         (first | (refine relUpon_val ?_ (Below.refl _ _); exact rfl) | exact rfl | (refine relUpon_enter ?_; (go_at_call 12; (with_reducible refine (HXk.out _ (by omega) (HBk.out.trans (n.below.mono HBk.out.size))).mono ?_); rintro e w9 ⟨rfl, hb⟩; exact ⟨⟨_, rfl, rfl⟩, hb⟩)))))
                  (simp only [Act.put, List.setIfInBounds_toArray, List.set_cons_zero, List.set_cons_succ])
                  (with_reducible refine HK.out _ _ ?_)
                  clear HK K))
              refine relNil ?_
              intro r9 n9 hx9
              clear hcH
              (try simp only [List.nil_append, List.cons_append, List.mem_cons, List.not_mem_nil, or_false, forall_eq_or_imp, forall_eq, false_implies, implies_true] at hx9)
              obtain ⟨w9, hb9⟩ := n9
              (try dsimp only)
              obtain ⟨hc9, hf9⟩ := bcell hb9
              have hz9 := hb9.size
              (try simp at hz9)
              have HB9 := Lib.hid (HBk.out.trans (hb9.mono HBk.out.size))
              clear hb9 hc9 hf9 hz9 c0
              go_wp2
              go_roundw
              case rel => exact ⟨k + 1, by omega, by go_num, HB9.out⟩
              case measure => simp [intOf]; omega
          · obtain rfl : k = M := by omega
            clear hB
            go_wp2_with (go_at_call 12; (with_reducible refine (HX3.out _ HBk.out).mono ?_); rintro e w5 ⟨rfl, hb⟩; have HB5 := Lib.hid (HBk.out.trans (hb.mono HBk.out.size)); clear hb)
            go_roundw
            case rel => exact ⟨i + 1, by omega, by go_num, HB5.out⟩
            case measure => simp [intOf]; omega
      · obtain rfl : i = n := by omega
        clear hB
        go_wp2_with (go_at_call 8; (with_reducible refine (bknown_any _).mono ?_); rintro e w6 ⟨rfl, hb⟩; have HB6 := Lib.hid (HB.out.trans (hb.mono HB.out.size)); clear hb)
        go_ret
        exact ⟨rfl, HB6.out⟩
set_option maxRecDepth 100000 in
theorem walk {H : Type} {enc : TypeId × Value → H} {W : World} {base : Nat} {v u x : Value} {d e f : DataW H} {p q r : List MemPlace}
    (hv : Value.okWide Try.prog W .any base 22 v) (h : DataW.Trod enc Try.prog W 0 (fun _ => true) true 22 v d p)
    (hu : Value.okWide Try.prog W .any base 23 u) (h2 : DataW.Trod enc Try.prog W 0 (fun _ => true) true 23 u e q)
    (hx : Value.okWide Try.prog W .any base 38 x) (h3 : DataW.Trod enc Try.prog W 0 (fun _ => true) true 38 x f r) :
    Calls Try.prog 4 #[v, u, x] W fun e W' => e = .returned (.bool true) ∧ Below W.heap.size W W' := by
  obtain ⟨a, l, k, rfl, -, hF, hm, -, hI⟩ := open_macs hv h
  obtain ⟨c, l2, k2, rfl, -, hG, hm2, -, hI2⟩ := open_bnds hu h2
  obtain ⟨d, l3, k3, rfl, -, hD, -, hm3, hI3⟩ := open_bgs hx h3
  exact walk1 a k l c k2 l2 d k3 l3 W hF hG hD hI hI2 hI3 hm hm2 hm3

set_option maxRecDepth 100000 in
theorem lifted (os : Os) (started : os.Started) (H : Type) (enc : TypeId × Value → H) :
    ReturnsInHanded {} Try.checked os 4 .any (Rows.blockLessSpec.pre6 enc Try.prog Try.f4 Rows.blockLessRow.domain false) (Rows.blockLessSpec.post enc Try.prog Try.f4 false true false false) := by
  refine returnsInHanded_of_change (C := Try.checked) Try.own started (by kernel_rfl) Try.func4
    (ChangeSpec.witness6 (enc := enc) (C := Try.checked) false ⟨#[], #[.slice none 0 0, .slice none 0 0, .slice none 0 0], []⟩ 8 (by kernel_rfl) (by kernel_rfl) (by kernel_rfl) (by kernel_rfl)) ?_
  intro W base args ds gs before hval hW _ _
  have hW' := hW
  obtain ⟨p, q, hA, hV, rfl, hfz, hnd⟩ := hW
  rw [Try.params4] at hA hval
  obtain ⟨v0, v1, v2, d0, d1, d2, p0, p1, p2, rfl, rfl, rfl, h0, h1, h2⟩ := trodAll_three hA
  refine (walk (hval 0 22 v0 rfl rfl) h0 (hval 1 23 v1 rfl rfl) h1 (hval 2 38 v2 rfl rfl) h2).mono fun e W' ⟨he, hb⟩ => ?_
  exact ⟨_, he, law_post Try.laidOut hW' rfl (by kernel_rfl) (by kernel_rfl) Try.underlying4 rfl rfl rfl hb⟩

theorem over : Rows.blockLessRow.holds Try.pinned (OpenSpec.ofChange Rows.blockLessSpec) :=
  OpenClaim.holds_of_wide 4 Try.f4 rfl rfl rfl rfl rfl rfl rfl ⟨rfl, rfl, rfl, rfl, rfl⟩ rfl rfl rfl rfl rfl (by kernel_rfl) Try.func4 (by kernel_rfl)
    (of_decide_eq_true (by kernel_rfl)) (by unfold Func.isWrapper; first | (rw [if_pos (by decide +kernel)]; kernel_rfl) | (rw [if_neg (by decide +kernel)]; exact ⟨rfl, rfl⟩))
    (fun os started H enc _ => lifted os started H enc)

/-- The statement. -/
theorem proved : Rows.BlockLessSaid := over
end blockLess
end Go.Proofs.Ytkmhicoimgpdlaa
