/-
  Block: right at any budgets; fewer budgets.
-/
import Derived.Test.YtkmhicoimgpdlaaBk8
namespace Go.Proofs.Ytkmhicoimgpdlaa
open Go.RowKit
set_option linter.unusedVariables false
set_option linter.unusedSimpArgs false

structure RightB (ms : List Mac) (bs : List Bd) (l : List Bg) : Prop where
  ly : lightY ms bs = true
  ck : checkY ms bs = 0
  lg : LtG l
  rg : RtG l
set_option maxRecDepth 100000 in
set_option maxHeartbeats 4000000 in
theorem bright_any (a c d : Option Addr) (ka kc kd : Nat) (ms : List Mac) (bs : List Bd) (l : List Bg) (w : World) (hF : MacL w a ms) (hG : BndL w c bs) (hD : BgL w d l) (hA : ∀ m ∈ ms, MacIn w m) (hB : ∀ b ∈ bs, BndIn w b) (hI : ∀ b ∈ l, BgIn w b) (hl : ms.length ≤ maxLen) (hl2 : bs.length ≤ maxLen) :
    Calls Try.prog 7 #[.slice a ms.length ka, .slice c bs.length kc, .slice d l.length kd] w fun e w' => (∃ g, e = .returned (.bool g) ∧ (g = true → RightB ms bs l)) ∧ Below w.heap.size w w' := by
  have HLi := Lib.hid (lighty_any a ka ms c kc bs w hF hG hA hB hl hl2)
  have HLg := Lib.hid (fun V (hV : Below w.heap.size w V) => lightg_any d kd l V (hD.mono hV) (fun b hb => (hI b hb).mono hV))
  have HCk := Lib.hid (fun (h : lightY ms bs = true) V (hV : Below w.heap.size w V) => rcheck_any a ka ms c kc bs V (hF.mono hV) (hG.mono hV) (fun m hm => (hA m hm).mono hV) (fun b hb => (hB b hb).mono hV) (lightY_iff h).2.2.1 (fun b hb => ((lightY_iff h).2.2.2 b hb).1) (by have := (lightY_iff h).1; omega) (by have := (lightY_iff h).2.1; omega))
  have HRg := Lib.hid (fun (h : LtG l) V (hV : Below w.heap.size w V) => rightg_any d kd l V (hD.mono hV) (fun b hb => (hI b hb).mono hV) h)
  obtain ⟨b1, h1⟩ : ∃ b, lightY ms bs = b := ⟨_, rfl⟩
  obtain ⟨E, h3⟩ : ∃ b, checkY ms bs = b := ⟨_, rfl⟩
  rw [h1] at HLi HCk
  rw [h3] at HCk
  have H1 := Lib.hid h1
  have H3 := Lib.hid h3
  generalize ms.length = n at HLi HCk ⊢
  generalize bs.length = N at HLi HCk ⊢
  generalize l.length = L at HLg HRg ⊢
  clear h1 h3 hF hG hA hB hl hl2 hD hI
  cases b1 with
  | false =>
    go_enter Try.func7, Try.ntmps7
    go_wp2_with (go_at_call 24; (with_reducible refine (HLi.out).mono ?_); rintro e w1 ⟨rfl, hb⟩; have HB1 := Lib.hid hb; clear hb)
    refine bodyPost_ret (v := .bool false) (by simp [results, Try.results7, go_sem]) rfl ⟨⟨false, rfl, fun h => nomatch h⟩, HB1.out⟩
  | true =>
    have HCk2 := Lib.hid (HCk.out rfl)
    clear HCk
    by_cases he : E = 0
    · subst he
      go_enter Try.func7, Try.ntmps7
      go_wp2_with (first
        | (go_at_call 24; (with_reducible refine (HLi.out).mono ?_); rintro e w1 ⟨rfl, hb⟩; have HB1 := Lib.hid hb; clear hb)
        | (go_at_call 25; (with_reducible refine (HLg.out _ HB1.out).mono ?_); rintro e w2 ⟨⟨g2, rfl, hg2⟩, hb⟩; have HB2 := Lib.hid (HB1.out.trans (hb.mono HB1.out.size)); have HG2 := Lib.hid hg2; clear hb hg2; cases g2)
        | (go_at_call 26; (with_reducible refine (HCk2.out _ HB2.out).mono ?_); rintro e w3 ⟨rfl, hb⟩; have HB3 := Lib.hid (HB2.out.trans (hb.mono HB2.out.size)); clear hb)
        | (go_at_call 27; (with_reducible refine (HRg.out (HG2.out (by first | rfl | trivial)) _ HB3.out).mono ?_); rintro e w4 ⟨⟨g4, rfl, hg4⟩, hb⟩; have HB4 := Lib.hid (HB3.out.trans (hb.mono HB3.out.size)); have HG4 := Lib.hid hg4; clear hb hg4))
      · refine bodyPost_ret (v := .bool false) (by simp [results, Try.results7, go_sem]) rfl ⟨⟨false, rfl, fun h => nomatch h⟩, HB2.out⟩
      · refine bodyPost_ret (v := .bool g4) (by simp [results, Try.results7, go_sem]) rfl ⟨⟨g4, rfl, fun h => ⟨H1.out, H3.out, HG2.out (by first | rfl | trivial), HG4.out h⟩⟩, HB4.out⟩
    · have q0 : (E == 0) = false := by simpa using he
      go_enter Try.func7, Try.ntmps7
      go_wp2_with (first
        | (go_at_call 24; (with_reducible refine (HLi.out).mono ?_); rintro e w1 ⟨rfl, hb⟩; have HB1 := Lib.hid hb; clear hb)
        | (go_at_call 25; (with_reducible refine (HLg.out _ HB1.out).mono ?_); rintro e w2 ⟨⟨g2, rfl, hg2⟩, hb⟩; have HB2 := Lib.hid (HB1.out.trans (hb.mono HB1.out.size)); clear hb hg2; cases g2)
        | (go_at_call 26; (with_reducible refine (HCk2.out _ HB2.out).mono ?_); rintro e w3 ⟨rfl, hb⟩; have HB3 := Lib.hid (HB2.out.trans (hb.mono HB2.out.size)); clear hb))
      · refine bodyPost_ret (v := .bool false) (by simp [results, Try.results7, go_sem]) rfl ⟨⟨false, rfl, fun h => nomatch h⟩, HB2.out⟩
      · refine bodyPost_ret (v := .bool false) (by simp [results, Try.results7, go_sem]) rfl ⟨⟨false, rfl, fun h => nomatch h⟩, HB3.out⟩
theorem may_take {l : List Bg} {bs : List Bd} {nm : ByteArray} (k : Nat) (h : mayE l bs nm = 0) : mayE (l.take k) bs nm = 0 := by
  unfold mayE at h ⊢
  split at h
  · split at h <;> omega
  · rename_i x hx
    split at h
    · omega
    · rename_i h9
      rw [if_neg]
      intro h8
      rw [List.any_eq_true] at h8
      obtain ⟨b, hb, h7⟩ := h8
      exact h9 (List.any_eq_true.2 ⟨b, List.mem_of_mem_take hb, h7⟩)
theorem evA_take {l : List Bg} (k : Nat) : ∀ (bs : List Bd) (L : List Pd), (evA l bs L).2 = 0 → (evA (l.take k) bs L).2 = 0
  | bs, [], _ => rfl
  | bs, p :: L, h => by
    by_cases he : mayE l bs p.nm = 0
    · have e : evA l bs (p :: L) = evA l (evBs p.nm bs) L := if_pos he
      have e2 : evA (l.take k) bs (p :: L) = evA (l.take k) (evBs p.nm bs) L := if_pos (may_take k he)
      rw [e] at h
      rw [e2]
      exact evA_take k _ L h
    · have e : evA l bs (p :: L) = (p.nm, mayE l bs p.nm) := if_neg he
      rw [e] at h
      exact absurd h he
theorem why_take {l : List Bg} {bs : List Bd} {nm : ByteArray} (k : Nat) (h : (whyB l bs nm).2 = 0) : (whyB (l.take k) bs nm).2 = 0 := by
  unfold whyB at h ⊢
  by_cases h0 : blkE (movL bs nm) = 0
  · rw [if_pos h0] at h ⊢
    exact evA_take k _ _ h
  · rw [if_neg h0] at h
    exact absurd h h0
theorem why_nil (l : List Bg) (nm : ByteArray) : whyB l [] nm = (emp, 0) := by
  have e : movL [] nm = [] := by
    unfold movL
    split
    · rfl
    · rfl
  unfold whyB
  rw [e]
  rfl
theorem ba_of {w : World} {d : Option Addr} {l : List Bg} (hD : BgL w d l) (hI : ∀ b ∈ l, BgIn w b) (h1 : LtG l) (h2 : RtG l) : BA w d l :=
  ⟨hD, hI, by have := h1.1; omega, fun b hb => by have := ((lightL_iff b.mt).1 (h1.2 b hb).2).1; omega, fun b hb => by have := h2 b hb; omega⟩
theorem ba_take {w : World} {d : Option Addr} {l : List Bg} (h : BA w d l) (k : Nat) : BA w d (l.take k) := by
  refine ⟨?_, fun b hb => h.bi b (List.mem_of_mem_take hb), Nat.le_trans (List.length_take_le' k l) h.ll, fun b hb => h.ml b (List.mem_of_mem_take hb), fun b hb => h.l0 b (List.mem_of_mem_take hb)⟩
  intro hp
  have hl := List.length_take_le' k l
  obtain ⟨q, o, e, hq, hc⟩ := h.bl (by omega)
  refine ⟨q, o, e, hq, fun j x hx => hc j x ?_⟩
  rw [List.getElem?_take] at hx
  split at hx
  · exact hx
  · cases hx
end Go.Proofs.Ytkmhicoimgpdlaa
