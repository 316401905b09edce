/-
  YardOnce.
-/
import Derived.Test.YthbpnfpalcgfeaaYdP
namespace Go.Proofs.Ythbpnfpalcgfeaa
open Go.ChangeShapes Go.WideShapes Go.ChangeAt Go.RowKit
set_option linter.unusedVariables false
set_option linter.unusedSimpArgs false
namespace yardOnce

set_option maxRecDepth 100000 in
set_option maxHeartbeats 4000000 in
theorem walk1 (a : Option Addr) (ka : Nat) (ms : List Mac) (c : Option Addr) (kc : Nat) (bs : List Bd) (w : World) (hF : MacL w a ms) (hG : BndL w c bs) (hA : ∀ m ∈ ms, MacIn w m) (hB : ∀ b ∈ bs, BndIn w b) (hl : ms.length ≤ maxLen) (hl2 : bs.length ≤ maxLen) :
    Calls Try.prog 5 #[.slice a ms.length ka, .slice c bs.length kc] w fun e w' => e = .returned (.bool true) ∧ Below w.heap.size w w' := by
  have hLi := lighty_any a ka ms c kc bs w hF hG hA hB hl hl2
  cases hL : lightY ms bs with
  | false =>
    rw [hL] at hLi
    have HLi := Lib.hid hLi
    generalize ms.length = n at HLi ⊢
    generalize bs.length = q at HLi ⊢
    clear hF hG hA hB hl hl2 hL hLi
    go_enter Try.func5, Try.ntmps5
    go_wp2_with (first | (go_at_call 12; (with_reducible refine (HLi.out).mono ?_); rintro e w1 ⟨rfl, hb1⟩; have HB1 := Lib.hid hb1; have hz1 := hb1.size; clear hb1) | (go_at_call 13; (with_reducible refine (yknown_any _).mono ?_); rintro e w2 ⟨rfl, hb2⟩; have HB2 := Lib.hid (HB1.out.trans (hb2.mono hz1)); clear hb2))
    go_ret
    exact ⟨rfl, HB2.out⟩
  | true =>
    rw [hL] at hLi
    have HLi := Lib.hid hLi
    obtain ⟨h20, h40, hLm, hLb⟩ := lightY_iff hL
    have hCk := fun V (hV : Below w.heap.size w V) => check_any a ka ms c kc bs V (hF.mono hV) (hG.mono hV) (fun m hm => (hA m hm).mono hV) (fun m hm => (hB m hm).mono hV) hLm (fun b hb => (hLb b hb).1) (by omega) (by omega)
    obtain ⟨E, hE⟩ : ∃ E, checkY ms bs = E := ⟨_, rfl⟩
    rw [hE] at hCk
    have HCk := Lib.hid hCk
    by_cases h0 : E = 0
    · subst h0
      obtain ⟨-, hok, htw, hbd, hch⟩ := check_zero hE
      have hC2 := fun V (hV : Below w.heap.size w V) => check_any a ka ms none 0 [] V (hF.mono hV) RowsAt.nil (fun m hm => (hA m hm).mono hV) (fun m hm => by cases hm) hLm (fun b hb => by cases hb) (by omega) (Nat.zero_le _)
      rw [hch] at hC2
      have HC2 := Lib.hid (show ∀ V, Below w.heap.size w V → Calls Try.prog 14 #[.slice a ms.length ka, .slice none 0 0] V fun e w' => e = .returned (.int .i64 0) ∧ Below V.heap.size V w' from hC2)
      obtain ⟨N, hN⟩ : ∃ N, ms.map Mac.nm = N := ⟨_, rfl⟩
      have hNl : N.length = ms.length := by rw [← hN, List.length_map]
      have HOn := Lib.hid (fun nm V (hV : Below w.heap.size w V) => (on_any c kc bs nm V (hG.mono hV) (by omega)).mono (R' := fun e w' => (∃ a k, e = .returned (.slice a (onL bs nm).length k)) ∧ Below V.heap.size V w') fun e w' h9 => by
        obtain ⟨⟨v, rfl, ho⟩, hb⟩ := h9
        obtain ⟨a, k, rfl⟩ := own_sl ho
        exact ⟨⟨a, k, rfl⟩, hb⟩)
      have HO0 := Lib.hid (show ∀ V, Below w.heap.size w V → Calls Try.prog 21 #[.slice c bs.length kc, .string ⟨#[]⟩] V fun e w' => (∃ a k, e = .returned (.slice a (cntF N bs 0) k)) ∧ Below V.heap.size V w' from fun V hV => by rw [← cnt_start]; exact HOn.out emp V hV)
      have HFd := Lib.hid (fun k x (hx : N[k]? = some x) V (hV : Below w.heap.size w V) => by
        have h9 := find_any a ka ms x V (hF.mono hV) (by omega)
        rw [hN, find_once (hN ▸ htw) hx] at h9
        exact h9)
      have HNx := Lib.hid (fun (k : Nat) (m : Mac) (hm : ms[k]? = some m) => by
        have hx : N[k]? = some m.nm := by rw [← hN]; exact nm_at hm
        have h1 : m.nm ≠ emp := by
          have h9 := List.all_eq_true.1 hok m (List.mem_of_getElem? hm)
          unfold okM at h9
          rw [Bool.and_eq_true, Bool.not_eq_true', decide_eq_false_iff_not] at h9
          exact h9.1
        exact (⟨hx, cnt_next bs hx h1 (once_take (hN ▸ htw) hx)⟩ : N[k]? = some m.nm ∧ cntF N bs (k + 1) = cntF N bs k + (onL bs m.nm).length))
      have HAl := Lib.hid (show cntF N bs ms.length = bs.length by
        rw [← hNl]
        refine cnt_all fun b hb => ?_
        have h9 := List.all_eq_true.1 hbd b hb
        rw [hN] at h9
        unfold onB at h9
        rw [Bool.or_eq_true, decide_eq_true_eq, decide_eq_true_eq] at h9
        rcases h9 with h9 | h9
        · exact .inl h9
        · exact .inr (findN_mem N b.on 0 h9))
      have HLe := Lib.hid (show ∀ k, cntF N bs k ≤ bs.length from fun k => List.length_filter_le _ _)
      have HF := Lib.hid hF
      obtain ⟨n, hn⟩ : ∃ n, ms.length = n := ⟨_, rfl⟩
      obtain ⟨q, hq⟩ : ∃ q, bs.length = q := ⟨_, rfl⟩
      have Hn := Lib.hid hn
      rw [hn, hq] at HLi HCk
      rw [hn] at HC2 HFd HAl h20
      rw [hq] at HO0 HOn HAl HLe h40
      rw [hn, hq]
      clear hF hG hA hB hl hl2 hLi hCk hE hok htw hbd hch hC2 hN hNl hLm hLb hL hn hq
      go_enter Try.func5, Try.ntmps5
      go_wp2_with (first
        | (go_at_call 12; (with_reducible refine (HLi.out).mono ?_); rintro e w1 ⟨rfl, hb1⟩; have HB1 := Lib.hid hb1; have hz1 := hb1.size; clear hb1)
        | (go_at_call 14; (with_reducible refine (HCk.out _ HB1.out).mono ?_); rintro e w2 ⟨rfl, hb2⟩; have HB2 := Lib.hid (HB1.out.trans (hb2.mono hz1)); have hz2 := HB2.out.size; clear hb2)
        | (go_at_call 21; (with_reducible refine (HO0.out _ HB2.out).mono ?_); rintro e w3 ⟨⟨a3, k3, rfl⟩, hb3⟩; have HB3 := Lib.hid (HB2.out.trans (hb3.mono hz2)); clear hb3))
      go_loopw [5, 6] (fun vc vi wr => ∃ k : Nat, k ≤ n ∧ vc = .int .i64 (cntF N bs k) ∧ vi = .int .i64 k ∧ Below w.heap.size w wr) (fun _ vi _ => n - (intOf vi).toNat)
      case atStart => exact ⟨0, Nat.zero_le _, rfl, rfl, HB3.out⟩
      case round =>
        obtain ⟨k, hk, rfl, rfl, hB⟩ := hrel
        have HB := Lib.hid hB
        have hbz := hB.size
        by_cases hlt : k < n
        · obtain ⟨m, hm⟩ := mem_at (l := ms) (k := k) (by rw [Hn.out]; exact hlt)
          obtain ⟨b, o, rfl, hb, hc⟩ := (HF.out.mono hB) (by rw [Hn.out]; omega)
          have c0 : wr.cell? ⟨b, o + k * 10, none⟩ = some (.string m.nm) := hc k m hm 0 (by decide)
          obtain ⟨hx, hcn⟩ := HNx.out k m hm
          have HX := Lib.hid hx
          have hle := HLe.out (k + 1)
          obtain ⟨x, hxx⟩ : ∃ x, m.nm = x := ⟨_, rfl⟩
          rw [hxx] at c0 hcn HX
          have HOx := Lib.hid (HOn.out x)
          have HFx := Lib.hid (HFd.out k x HX.out)
          obtain ⟨u, hu⟩ : ∃ u, cntF N bs k = u := ⟨_, rfl⟩
          obtain ⟨l, hl⟩ : ∃ l, (onL bs x).length = l := ⟨_, rfl⟩
          rw [hu, hl] at hcn
          rw [hu]
          rw [hl] at HOx
          rw [hcn] at hle
          have Hcn := Lib.hid hcn
          have hul : u + l ≤ 40 := by omega
          clear hB hc hm hx hxx hu hl hcn hle
          go_wp2_with (first
            | (go_at_call 21; (with_reducible refine (HOx.out _ HB.out).mono ?_); rintro e w4 ⟨⟨a4, k4, rfl⟩, hb4⟩; have HB4 := Lib.hid (HB.out.trans (hb4.mono hbz)); have hz4 := HB4.out.size; have d0 : w4.cell? ⟨b, o + k * 10, none⟩ = _ := (hb4.cell (p := ⟨b, o + k * 10, none⟩) hb).trans c0; clear hb4)
            | (go_at_call 22; (with_reducible refine (HFx.out _ HB4.out).mono ?_); rintro e w5 ⟨rfl, hb5⟩; have HB5 := Lib.hid (HB4.out.trans (hb5.mono hz4)); clear hb5))
          go_roundw
          case rel => exact ⟨k + 1, by omega, by rw [Hcn.out]; go_num, by go_num, HB5.out⟩
          case measure => simp [intOf]; omega
        · obtain rfl : k = n := by omega
          rw [HAl.out]
          go_wp2_with (first
            | (go_at_call 14; (with_reducible refine (HC2.out _ HB.out).mono ?_); rintro e w4 ⟨rfl, hb4⟩; have HB4 := Lib.hid (HB.out.trans (hb4.mono hbz)); have hz4 := HB4.out.size; clear hb4)
            | (go_at_call 13; (with_reducible refine (yknown_any _).mono ?_); rintro e w5 ⟨rfl, hb5⟩; have HB5 := Lib.hid (HB4.out.trans (hb5.mono hz4)); clear hb5))
          go_ret
          exact ⟨rfl, HB5.out⟩
    · have q0 : (E == 0) = false := by simpa using h0
      rw [show ms.length = ms.length from rfl] at HLi
      generalize ms.length = n at HLi HCk ⊢
      generalize bs.length = q at HLi HCk ⊢
      clear hF hG hA hB hl hl2 hL hLi hE h20 h40 hLm hLb hCk h0
      go_enter Try.func5, Try.ntmps5
      go_wp2_with (first
        | (go_at_call 12; (with_reducible refine (HLi.out).mono ?_); rintro e w1 ⟨rfl, hb1⟩; have HB1 := Lib.hid hb1; have hz1 := hb1.size; clear hb1)
        | (go_at_call 14; (with_reducible refine (HCk.out _ HB1.out).mono ?_); rintro e w2 ⟨rfl, hb2⟩; have HB2 := Lib.hid (HB1.out.trans (hb2.mono hz1)); have hz2 := HB2.out.size; clear hb2)
        | (go_at_call 13; (with_reducible refine (yknown_any _).mono ?_); rintro e w3 ⟨rfl, hb3⟩; have HB3 := Lib.hid (HB2.out.trans (hb3.mono hz2)); clear hb3))
      go_ret
      exact ⟨rfl, HB3.out⟩

set_option maxRecDepth 100000 in
theorem walk {H : Type} {enc : TypeId × Value → H} {W : World} {base : Nat} {v u : Value} {d e : DataW H} {p q : List MemPlace}
    (hv : Value.okWide Try.prog W .any base 22 v) (h : DataW.Trod enc Try.prog W 0 (fun _ => true) true 22 v d p)
    (hu : Value.okWide Try.prog W .any base 23 u) (h2 : DataW.Trod enc Try.prog W 0 (fun _ => true) true 23 u e q) :
    Calls Try.prog 5 #[v, u] W fun e W' => e = .returned (.bool true) ∧ Below W.heap.size W W' := by
  obtain ⟨a, l, k, rfl, -, hF, hm, -, hI⟩ := open_macs hv h
  obtain ⟨c, l2, k2, rfl, -, hG, hm2, -, hI2⟩ := open_bnds hu h2
  exact walk1 a k l c k2 l2 W hF hG hI hI2 hm hm2

set_option maxRecDepth 100000 in
theorem lifted (os : Os) (started : os.Started) (H : Type) (enc : TypeId × Value → H) :
    ReturnsInHanded {} Try.checked os 5 .any (Rows.yardOnceSpec.pre6 enc Try.prog Try.f5 Rows.yardOnceRow.domain false) (Rows.yardOnceSpec.post enc Try.prog Try.f5 false true false false) := by
  refine returnsInHanded_of_change (C := Try.checked) Try.own started (by kernel_rfl) Try.func5
    (ChangeSpec.witness6 (enc := enc) (C := Try.checked) false ⟨#[], #[.slice none 0 0, .slice none 0 0], []⟩ 8 (by kernel_rfl) (by kernel_rfl) (by kernel_rfl) (by kernel_rfl)) ?_
  intro W base args ds gs before hval hW _ _
  have hW' := hW
  obtain ⟨p, q, hA, hV, rfl, hfz, hnd⟩ := hW
  rw [Try.params5] at hA hval
  obtain ⟨v0, v1, d0, d1, p0, p1, rfl, rfl, rfl, h0, h1⟩ := trodAll_two hA
  refine (walk (hval 0 22 v0 rfl rfl) h0 (hval 1 23 v1 rfl rfl) h1).mono fun e W' ⟨he, hb⟩ => ?_
  exact ⟨_, he, law_post Try.laidOut hW' rfl (by kernel_rfl) (by kernel_rfl) Try.underlying4 rfl rfl rfl hb⟩

theorem over : Rows.yardOnceRow.holds Try.pinned (OpenSpec.ofChange Rows.yardOnceSpec) :=
  OpenClaim.holds_of_wide 5 Try.f5 rfl rfl rfl rfl rfl rfl rfl ⟨rfl, rfl, rfl, rfl, rfl⟩ rfl rfl rfl rfl rfl (by kernel_rfl) Try.func5 (by kernel_rfl)
    (of_decide_eq_true (by kernel_rfl)) (by unfold Func.isWrapper; first | (rw [if_pos (by decide +kernel)]; kernel_rfl) | (rw [if_neg (by decide +kernel)]; exact ⟨rfl, rfl⟩))
    (fun os started H enc _ => lifted os started H enc)

/-- The statement. -/
theorem proved : Rows.YardOnceSaid := over
end yardOnce
end Go.Proofs.Ythbpnfpalcgfeaa
