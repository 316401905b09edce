/-
  Two texts, one behind the other's line: what the scanner makes of them.
-/
import Derived.Test.YtlndfognkkobaaaLexX
import Derived.Test.YtlndfognkkobaaaLexN
namespace Go.Proofs.Ytlndfognkkobaaa
open Go.RowKit
set_option linter.unusedVariables false
set_option linter.unusedSimpArgs false

theorem ext_pre {a src : ByteArray} {u : List UInt8} (h : src.toList = a.toList ++ u) {i j : Nat} (hj : j ≤ a.size) : src.extract i j = a.extract i j := by
  refine bytes_inj ?_
  rw [ext_list, ext_list, h]
  by_cases hi : i ≤ j
  · rw [List.drop_append_of_le_length (by rw [toList_len]; omega), List.take_append_of_le_length (by rw [List.length_drop, toList_len]; omega)]
  · rw [show j - i = 0 by omega, List.take_zero, List.take_zero]
theorem pre_dec {a src : ByteArray} {u : List UInt8} (h : src.toList = a.toList ++ u) {pos : Nat} (hp : pos < a.size) (hb : badAt a pos = false) : Utf8.decode src pos = Utf8.decode a pos ∧ badAt src pos = false ∧ pos + (Utf8.decode a pos).2 ≤ a.size := by
  obtain ⟨l, hl⟩ : ∃ l, a.toList.drop pos = l := ⟨_, rfl⟩
  have hS : Sat a pos l := ⟨hl, by omega⟩
  have hlen := hS.len
  have hne : l ≠ [] := fun e => by rw [e, List.length_nil] at hlen; omega
  have hbl : badL l = false := by rw [← (hS.bad hne).1]; exact hb
  obtain ⟨hr, hle, hw⟩ := Rn.head hne hbl
  obtain ⟨b, hbe⟩ : ∃ b, l.take (decL l).2 = b := ⟨_, rfl⟩
  obtain ⟨t, hte⟩ : ∃ t, l.drop (decL l).2 = t := ⟨_, rfl⟩
  have hlt : l = b ++ t := by rw [← hbe, ← hte, List.take_append_drop]
  rw [hbe] at hr
  have ssz : src.size = a.size + u.length := by rw [← toList_len, h, List.length_append, toList_len]
  have hSa : Sat a pos (b ++ t) := hlt ▸ hS
  have hSs : Sat src pos (b ++ (t ++ u)) := ⟨by rw [h, List.drop_append_of_le_length (by rw [toList_len]; omega), hl, hlt, List.append_assoc], by omega⟩
  obtain ⟨d1, d2, d3⟩ := hSa.dec hr
  obtain ⟨e1, e2, e3⟩ := hSs.dec hr
  refine ⟨by rw [d2, e2], e3, ?_⟩
  rw [d2]
  have := hSa.len
  rw [List.length_append] at this
  show pos + b.length ≤ a.size
  omega
theorem badAt_small {s : ByteArray} {p : Nat} (h : (Utf8.decode s p).1 < 128) : badAt s p = false := by
  unfold badAt
  exact decide_eq_false (by omega)
/-- A step that errs not is the same ahead of more text. -/
theorem step_pre {a src : ByteArray} {u : List UInt8} (h : src.toList = a.toList ++ u) {pos : Nat} {s s' : SC} {p : Int} (hp : pos < a.size) (hst : s.step a pos ((Utf8.decode a pos).1 : Nat) = (s', 0, p)) : Utf8.decode src pos = Utf8.decode a pos ∧ s.step src pos ((Utf8.decode a pos).1 : Nat) = (s', 0, p) ∧ pos + (Utf8.decode a pos).2 ≤ a.size := by
  by_cases h3 : s.md = 3
  · rw [step_esc h3] at hst
    have hb : badAt a pos = false := by
      refine badAt_small ?_
      unfold SC.esc at hst
      split at hst
      · omega
      split at hst
      · omega
      split at hst
      · omega
      · have := (Prod.mk.inj (Prod.mk.inj hst).2).1
        cases this
    obtain ⟨e1, e2, e3⟩ := pre_dec h hp hb
    exact ⟨e1, by rw [step_esc h3]; exact hst, e3⟩
  · have hb : badAt a pos = false := by
      cases hbb : badAt a pos with
      | false => rfl
      | true =>
        unfold SC.step at hst
        rw [if_neg h3, if_pos hbb] at hst
        have := (Prod.mk.inj (Prod.mk.inj hst).2).1
        cases this
    obtain ⟨e1, e2, e3⟩ := pre_dec h hp hb
    refine ⟨e1, ?_, e3⟩
    rw [← hst]
    unfold SC.step
    rw [if_neg h3, if_neg h3, e2, hb]
    have i1 : ∀ r, s.inside src pos r = s.inside a pos r := fun r => by
      unfold SC.inside
      rw [e1, ext_pre h e3]
    have i2 : s.endW src pos = s.endW a pos := by
      unfold SC.endW
      rw [ext_pre h (j := (pos : Int).toNat) (by show pos ≤ a.size; omega)]
    rw [i1, i2]
/-- A text that is right is scanned so ahead of more text. -/
theorem pre_run {a src : ByteArray} {u : List UInt8} (h : src.toList = a.toList ++ u) {l : List Tk} : ∀ (f pos : Nat) (s : SC), a.size - pos ≤ f → SInv a pos s → scanF a f pos s = (l, 0, 0) → ∃ s', SInv a a.size s' ∧ endR (s'.fin a) = (l, 0, 0) ∧ scanAt src pos s = scanAt src a.size s'
  | 0, pos, s, hf, hI, hh => by
    have := hI.le
    obtain rfl : pos = a.size := by omega
    exact ⟨s, hI, hh, rfl⟩
  | f + 1, pos, s, hf, hI, hh => by
    rw [scanF_succ] at hh
    have hle := hI.le
    by_cases hp : pos < a.size
    · rw [if_pos hp] at hh
      obtain ⟨⟨s1, e, p⟩, hq⟩ : ∃ q, s.step a pos ((Utf8.decode a pos).1 : Nat) = q := ⟨_, rfl⟩
      rw [hq] at hh
      by_cases he : e = 0
      · subst he
        rw [if_pos rfl] at hh
        obtain ⟨e1, e2, e3⟩ := step_pre h hp hq
        have hw := decode_pos a pos hp
        have ssz : src.size = a.size + u.length := by rw [← toList_len, h, List.length_append, toList_len]
        obtain ⟨s', g1, g2, g3⟩ := pre_run h f (pos + (Utf8.decode a pos).2) (s1.adv ((Utf8.decode a pos).1 : Nat)) (by omega) (hI.step hp hq) hh
        refine ⟨s', g1, g2, ?_⟩
        rw [← g3, scanAt_go (src := src) (s' := s1) (p := p) (by omega) (by rw [e1]; exact e2), e1]
      · rw [if_neg he] at hh
        exact absurd (Prod.mk.inj (Prod.mk.inj hh).2).1 he
    · obtain rfl : pos = a.size := by omega
      rw [if_neg hp] at hh
      exact ⟨s, hI, hh, rfl⟩
/-- The line's end behind it. -/
theorem nl_step {a src : ByteArray} {v : List UInt8} (h : src.toList = a.toList ++ (10 :: v)) {l : List Tk} {s : SC} (hI : SInv a a.size s) (hf : endR (s.fin a) = (l, 0, 0)) : ∃ S, scanAt src a.size s = scanAt src (a.size + 1) S ∧ S.md = 0 ∧ S.tk = l := by
  have ssz : src.size = a.size + (v.length + 1) := by rw [← toList_len, h, List.length_append, toList_len]; rfl
  have hS : Sat src a.size ([10] ++ v) := ⟨by rw [h, List.drop_append_of_le_length (by rw [toList_len]; exact Nat.le_refl _), List.drop_of_length_le (by rw [toList_len]; exact Nat.le_refl _)]; rfl, by omega⟩
  have r10 : Rn [10] 10 := Rn.one 10 (by decide)
  have hd := (hS.dec r10).2.2
  have hm := hI.md
  have bg : ∀ s2 : SC, s2.begin a.size ((10 : Nat) : Int) = (s2.at a.size, 0, 0) := fun s2 => rfl
  have go : ∀ (s' : SC) (q : Int), s.step src a.size ((10 : Nat) : Int) = (s', 0, q) → s'.md = 0 → s'.tk = l → ∃ S, scanAt src a.size s = scanAt src (a.size + 1) S ∧ S.md = 0 ∧ S.tk = l := fun s' q hst h1 h2 => by
    obtain ⟨e1, e2, _⟩ := adv_same s' ((10 : Nat) : Int)
    exact ⟨s'.adv ((10 : Nat) : Int), take_one hS r10 hst, by rw [e1]; exact h1, by rw [e2]; exact h2⟩
  unfold SC.fin at hf
  split at hf
  · rename_i h1
    have hf2 : (s.endW a a.size).tk = l := (Prod.mk.inj hf).1
    have i2 : s.endW src a.size = s.endW a a.size := by
      unfold SC.endW
      rw [ext_pre h (j := (a.size : Int).toNat) (Nat.le_refl _)]
    refine go ((s.endW a a.size).at a.size) 0 ?_ rfl hf2
    unfold SC.step
    rw [if_neg (by rw [h1]; decide), hd, if_neg (by decide), if_neg (by rw [h1]; decide), if_neg (by rw [h1]; decide), if_pos h1, if_neg (by decide), i2, bg]
  split at hf
  · have := (Prod.mk.inj (Prod.mk.inj hf).2).1
    cases this
  split at hf
  · have := (Prod.mk.inj (Prod.mk.inj hf).2).1
    cases this
  · rename_i h1 h2 h3
    have hf2 : s.tk = l := (Prod.mk.inj hf).1
    by_cases h4 : s.md = 4
    · refine go { s with md := 0 } 0 ?_ rfl hf2
      unfold SC.step
      rw [if_neg h3, hd, if_neg (by decide), if_pos h4]
      rfl
    · have h0 : s.md = 0 := by omega
      refine go (s.at a.size) 0 ?_ h0 hf2
      unfold SC.step
      rw [if_neg h3, hd, if_neg (by decide), if_neg h4, if_neg h2, if_neg h1, bg]
/-- A state that goes on as another one does. -/
structure Sim (off : Nat) (T : List (Int × ByteArray)) (s S : SC) : Prop where
  md : S.md = s.md
  ct : s.md = 2 ∨ s.md = 3 → S.ct = s.ct
  ru : s.md = 1 → S.ru = s.ru
  po : s.md = 1 → 0 ≤ s.cu.po ∧ S.cu.po = s.cu.po + off
  tk : S.tk.map kt = T ++ s.tk.map kt
theorem Sim.adv {off : Nat} {T : List (Int × ByteArray)} {s S : SC} (h : Sim off T s S) (r : Int) : Sim off T (s.adv r) (S.adv r) := by
  obtain ⟨e1, e2, e3, e4, e5⟩ := adv_same s r
  obtain ⟨f1, f2, f3, f4, f5⟩ := adv_same S r
  exact ⟨by rw [e1, f1]; exact h.md, by rw [e1, e4, f4]; exact h.ct, by rw [e1, e5, f5]; exact h.ru, by rw [e1, e3, f3]; exact h.po, by rw [e2, f2]; exact h.tk⟩
theorem Sim.add {off : Nat} {T : List (Int × ByteArray)} {s S : SC} (h : S.tk.map kt = T ++ s.tk.map kt) (k : Int) (x : ByteArray) : Sim off T (s.add k x) (S.add k x) := by
  refine ⟨rfl, fun e => (by rcases e with e | e <;> cases e), fun e => (by cases e), fun e => (by cases e), ?_⟩
  show (S.tk ++ [_]).map kt = T ++ (s.tk ++ [_]).map kt
  rw [List.map_append, List.map_append, h, List.append_assoc]
  rfl
theorem begin_sim {off p : Nat} {T : List (Int × ByteArray)} {s S s1 : SC} {r q : Int} (hm : s.md ≠ 1 ∧ s.md ≠ 2 ∧ s.md ≠ 3) (hM : S.md = s.md) (h : S.tk.map kt = T ++ s.tk.map kt) (hb : s.begin p r = (s1, 0, q)) : ∃ S1 q1, S.begin ((off + p : Nat) : Int) r = (S1, 0, q1) ∧ Sim off T s1 S1 := by
  unfold SC.begin at hb ⊢
  split at hb
  · rename_i h1
    obtain rfl := (Prod.mk.inj hb).1
    exact ⟨_, _, if_pos h1, Sim.add (s := s.at p) (S := S.at ((off + p : Nat) : Int)) h 1 _⟩
  rename_i h1
  rw [if_neg h1]
  split at hb
  · rename_i h2
    obtain rfl := (Prod.mk.inj hb).1
    exact ⟨_, _, if_pos h2, Sim.add (s := s.at p) (S := S.at ((off + p : Nat) : Int)) h 2 _⟩
  rename_i h2
  rw [if_neg h2]
  split at hb
  · rename_i h3
    obtain rfl := (Prod.mk.inj hb).1
    exact ⟨_, _, if_pos h3, ⟨rfl, fun _ => rfl, fun e => (by cases e), fun e => (by cases e), h⟩⟩
  rename_i h3
  rw [if_neg h3]
  split at hb
  · rename_i h4
    obtain rfl := (Prod.mk.inj hb).1
    exact ⟨_, _, if_pos h4, ⟨rfl, fun e => (by rcases e with e | e <;> cases e), fun e => (by cases e), fun e => (by cases e), h⟩⟩
  rename_i h4
  rw [if_neg h4]
  split at hb
  · rename_i h5
    unfold SC.grow at hb ⊢
    rw [if_neg (by show ¬ (64 : Int) < 0 + 1; decide)] at hb
    obtain rfl := (Prod.mk.inj hb).1
    refine ⟨_, _, (if_pos h5).trans (if_neg (by show ¬ (64 : Int) < 0 + 1; decide)), ⟨rfl, fun e => (by rcases e with e | e <;> cases e), fun _ => rfl, fun _ => ⟨Int.natCast_nonneg _, ?_⟩, h⟩⟩
    show ((off + p : Nat) : Int) = (p : Int) + (off : Int)
    omega
  rename_i h5
  rw [if_neg h5]
  split at hb
  · rename_i h6
    obtain rfl := (Prod.mk.inj hb).1
    exact ⟨_, _, if_pos h6, ⟨hM, fun e => (by rcases e with e | e; exact absurd e hm.2.1; exact absurd e hm.2.2), fun e => absurd e hm.1, fun e => absurd e hm.1, h⟩⟩
  · have := (Prod.mk.inj (Prod.mk.inj hb).2).1
    cases this
structure Behind (src b : ByteArray) (off : Nat) : Prop where
  d : src.toList.drop off = b.toList
  le : off ≤ src.size
theorem Behind.size {src b : ByteArray} {off : Nat} (h : Behind src b off) : src.size = off + b.size := by
  have h1 := congrArg List.length h.d
  rw [List.length_drop, toList_len, toList_len] at h1
  have := h.le
  omega
theorem Behind.dec {src b : ByteArray} {off p : Nat} (h : Behind src b off) (hp : p < b.size) : Utf8.decode src (off + p) = Utf8.decode b p ∧ badAt src (off + p) = badAt b p := by
  have hs := h.size
  have e : Utf8.decode src (off + p) = Utf8.decode b p := by
    rw [decode_drop src _ (by omega), decode_drop b _ hp, ← List.drop_drop, h.d]
  exact ⟨e, by unfold badAt; rw [e]⟩
theorem Behind.ext {src b : ByteArray} {off : Nat} (h : Behind src b off) (i j : Nat) : src.extract (off + i) (off + j) = b.extract i j := by
  refine bytes_inj ?_
  rw [ext_list, ext_list, ← List.drop_drop, h.d, show off + j - (off + i) = j - i by omega]
theorem step_sim {src b : ByteArray} {off p : Nat} {T : List (Int × ByteArray)} {s S s1 : SC} {r : Nat} {q : Int} (hB : Behind src b off) (hp : p < b.size) (h : Sim off T s S) (hst : s.step b p (r : Nat) = (s1, 0, q)) : ∃ S1 q1, S.step src (off + p) (r : Nat) = (S1, 0, q1) ∧ Sim off T s1 S1 := by
  obtain ⟨d1, d2⟩ := hB.dec hp
  have hmd := h.md
  unfold SC.step at hst ⊢
  rw [hmd, d2]
  split at hst
  · rename_i h3
    rw [if_pos h3]
    have hct := h.ct (.inr h3)
    have ok : ∀ x : UInt8, Sim off T { s with ct := s.ct ++ [x], md := 2 } { S with ct := S.ct ++ [x], md := 2 } := fun x =>
      ⟨rfl, fun _ => (by show S.ct ++ [x] = s.ct ++ [x]; rw [hct]), fun e => (by cases e), fun e => (by cases e), h.tk⟩
    unfold SC.esc at hst ⊢
    split at hst
    · rename_i h4
      obtain rfl := (Prod.mk.inj hst).1
      exact ⟨_, _, if_pos h4, ok 10⟩
    rename_i h4
    rw [if_neg h4]
    split at hst
    · rename_i h5
      obtain rfl := (Prod.mk.inj hst).1
      exact ⟨_, _, if_pos h5, ok 34⟩
    rename_i h5
    rw [if_neg h5]
    split at hst
    · rename_i h6
      obtain rfl := (Prod.mk.inj hst).1
      exact ⟨_, _, if_pos h6, ok 92⟩
    · have := (Prod.mk.inj (Prod.mk.inj hst).2).1
      cases this
  rename_i h3
  rw [if_neg h3]
  split at hst
  · have := (Prod.mk.inj (Prod.mk.inj hst).2).1
    cases this
  rename_i hb
  rw [if_neg hb]
  split at hst
  · rename_i h4
    rw [if_pos h4]
    split at hst
    · rename_i h5
      obtain rfl := (Prod.mk.inj hst).1
      exact ⟨_, _, if_pos h5, ⟨rfl, fun e => (by rcases e with e | e <;> cases e), fun e => (by cases e), fun e => (by cases e), h.tk⟩⟩
    · rename_i h5
      obtain rfl := (Prod.mk.inj hst).1
      exact ⟨_, _, if_neg h5, h⟩
  rename_i h4
  rw [if_neg h4]
  split at hst
  · rename_i h2
    rw [if_pos h2]
    have hct := h.ct (.inl h2)
    unfold SC.inside at hst ⊢
    split at hst
    · rename_i h5
      obtain rfl := (Prod.mk.inj hst).1
      refine ⟨_, _, if_pos h5, ?_⟩
      rw [hct]
      exact Sim.add h.tk 4 _
    rename_i h5
    rw [if_neg h5]
    split at hst
    · rename_i h6
      obtain rfl := (Prod.mk.inj hst).1
      exact ⟨_, _, if_pos h6, ⟨rfl, fun _ => hct, fun e => (by cases e), fun e => (by cases e), h.tk⟩⟩
    rename_i h6
    rw [if_neg h6]
    split at hst
    · have := (Prod.mk.inj (Prod.mk.inj hst).2).1
      cases this
    · rename_i h7
      obtain rfl := (Prod.mk.inj hst).1
      refine ⟨_, _, if_neg h7, ⟨hmd, fun _ => ?_, fun e => (by rw [h2] at e; cases e), fun e => (by rw [h2] at e; cases e), h.tk⟩⟩
      show S.ct ++ _ = s.ct ++ _
      rw [hct, d1, Nat.add_assoc, hB.ext]
  rename_i h2
  rw [if_neg h2]
  split at hst
  · rename_i h1
    rw [if_pos h1]
    have hru := h.ru h1
    obtain ⟨po0, po1⟩ := h.po h1
    split at hst
    · rename_i h5
      rw [if_pos h5]
      unfold SC.grow at hst ⊢
      rw [hru]
      split at hst
      · have := (Prod.mk.inj (Prod.mk.inj hst).2).1
        cases this
      · rename_i h6
        obtain rfl := (Prod.mk.inj hst).1
        exact ⟨_, _, if_neg h6, ⟨hmd, fun e => (by rw [h1] at e; rcases e with e | e <;> cases e), fun _ => rfl, fun _ => ⟨po0, po1⟩, h.tk⟩⟩
    · rename_i h5
      rw [if_neg h5]
      have he : S.endW src ((off + p : Nat) : Int) = S.add 3 (b.extract s.cu.po.toNat p) := by
        unfold SC.endW
        rw [po1, show (s.cu.po + (off : Int)).toNat = off + s.cu.po.toNat by omega, show ((off + p : Nat) : Int).toNat = off + p by omega, hB.ext]
      rw [he]
      exact begin_sim (s := s.add 3 (b.extract s.cu.po.toNat p)) (S := S.add 3 (b.extract s.cu.po.toNat p)) (by show (0 : Int) ≠ 1 ∧ (0 : Int) ≠ 2 ∧ (0 : Int) ≠ 3; decide) rfl (Sim.add (off := off) h.tk 3 _).tk hst
  · rename_i h1
    rw [if_neg h1]
    exact begin_sim ⟨h1, h2, h3⟩ hmd h.tk hst
theorem fin_sim {src b : ByteArray} {off : Nat} {T : List (Int × ByteArray)} {s S : SC} {m : List Tk} (hB : Behind src b off) (h : Sim off T s S) (hf : endR (s.fin b) = (m, 0, 0)) : ∃ M, endR (S.fin src) = (M, 0, 0) ∧ M.map kt = T ++ m.map kt := by
  have hmd := h.md
  unfold SC.fin at hf ⊢
  rw [hmd]
  split at hf
  · rename_i h1
    rw [if_pos h1]
    obtain ⟨po0, po1⟩ := h.po h1
    have hf2 : (s.endW b b.size).tk = m := (Prod.mk.inj hf).1
    have he : S.endW src (src.size : Int) = S.add 3 (b.extract s.cu.po.toNat b.size) := by
      unfold SC.endW
      rw [po1, show (s.cu.po + (off : Int)).toNat = off + s.cu.po.toNat by omega, show ((src.size : Nat) : Int).toNat = off + b.size by have := hB.size; omega, hB.ext]
    refine ⟨_, rfl, ?_⟩
    rw [he, ← hf2]
    exact (Sim.add (off := off) h.tk 3 _).tk
  rename_i h1
  rw [if_neg h1]
  split at hf
  · have := (Prod.mk.inj (Prod.mk.inj hf).2).1
    cases this
  rename_i h2
  rw [if_neg h2]
  split at hf
  · have := (Prod.mk.inj (Prod.mk.inj hf).2).1
    cases this
  rename_i h3
  rw [if_neg h3]
  have hf2 : s.tk = m := (Prod.mk.inj hf).1
  exact ⟨_, rfl, by rw [← hf2]; exact h.tk⟩
theorem sim_run {src b : ByteArray} {off : Nat} {T : List (Int × ByteArray)} {m : List Tk} (hB : Behind src b off) : ∀ (f p : Nat) (s S : SC), b.size - p ≤ f → Sim off T s S → scanF b f p s = (m, 0, 0) → ∃ M, scanAt src (off + p) S = (M, 0, 0) ∧ M.map kt = T ++ m.map kt
  | 0, p, s, S, hf, h, hh => by
    have hs := hB.size
    rw [scanAt_end (by omega)]
    exact fin_sim hB h hh
  | f + 1, p, s, S, hf, h, hh => by
    have hs := hB.size
    rw [scanF_succ] at hh
    by_cases hlt : p < b.size
    · rw [if_pos hlt] at hh
      obtain ⟨⟨s1, e, q⟩, hq⟩ : ∃ q, s.step b p ((Utf8.decode b p).1 : Nat) = q := ⟨_, rfl⟩
      rw [hq] at hh
      by_cases he : e = 0
      · subst he
        rw [if_pos rfl] at hh
        obtain ⟨S1, q1, g1, g2⟩ := step_sim hB hlt h hq
        have d1 := (hB.dec hlt).1
        have hw := decode_pos b p hlt
        obtain ⟨M, k1, k2⟩ := sim_run hB f (p + (Utf8.decode b p).2) _ _ (by omega) (g2.adv ((Utf8.decode b p).1 : Nat)) hh
        refine ⟨M, ?_, k2⟩
        rw [scanAt_go (src := src) (s' := S1) (p := q1) (by omega) (by rw [d1]; exact g1), d1, Nat.add_assoc]
        exact k1
      · rw [if_neg he] at hh
        exact absurd (Prod.mk.inj (Prod.mk.inj hh).2).1 he
    · rw [if_neg hlt] at hh
      rw [scanAt_end (by omega)]
      exact fin_sim hB h hh
/-- Two right texts, a line each. -/
theorem scan_joins {a b src : ByteArray} {l m : List Tk} (h : src.toList = a.toList ++ (10 :: b.toList)) (hs : src.size ≤ 65536) (ha : scanB a = (l, 0, 0)) (hb : scanB b = (m, 0, 0)) : ∃ M, scanB src = (M, 0, 0) ∧ M.map kt = (l ++ m).map kt := by
  have ssz : src.size = a.size + (b.size + 1) := by rw [← toList_len, h, List.length_append, List.length_cons, toList_len, toList_len]
  rw [scanB_at (by omega)] at ha hb
  rw [scanB_at hs]
  obtain ⟨s', g1, g2, g3⟩ := pre_run h (a.size - 0) 0 sc0 (Nat.le_refl _) (SInv.start a) ha
  obtain ⟨S, k1, k2, k3⟩ := nl_step h g1 g2
  rw [g3, k1]
  have hB : Behind src b (a.size + 1) := ⟨by rw [h, ← List.drop_drop, List.drop_append_of_le_length (by rw [toList_len]; exact Nat.le_refl _), show List.drop a.size a.toList = [] from List.drop_of_length_le (by rw [toList_len]; exact Nat.le_refl _)]; rfl, by omega⟩
  have hS : Sim (a.size + 1) (l.map kt) sc0 S := ⟨k2, fun e => (by rcases e with e | e <;> cases e), fun e => (by cases e), fun e => (by cases e), by rw [k3]; show _ = l.map kt ++ []; rw [List.append_nil]⟩
  obtain ⟨M, q1, q2⟩ := sim_run hB (b.size - 0) 0 sc0 S (Nat.le_refl _) hS hb
  exact ⟨M, q1, by rw [q2, List.map_append]⟩
end Go.Proofs.Ytlndfognkkobaaa
