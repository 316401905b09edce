/-
  Texts in quotes: what the scanner makes of them.
-/
import Derived.Test.YtlndfognkkobaaaLexX
import Derived.Test.YtlndfognkkobaaaLexI
namespace Go.Proofs.Ytlndfognkkobaaa
open Go.RowKit
set_option linter.unusedVariables false
set_option linter.unusedSimpArgs false

theorem rf_all {x : ByteArray} : ∀ (c : List (List UInt8 × Nat)) {pos f : Nat}, Chs (fun _ => True) c → Sat x pos (cat c) → (cat c).length ≤ f → runesF x f pos = some c.length
  | [], pos, f, _, hS, _ => by
    have := hS.len
    rw [show (cat []).length = 0 from rfl] at this
    cases f with
    | zero => rfl
    | succ f => unfold runesF; rw [if_neg (by omega)]; rfl
  | (b, r) :: c, pos, f, ⟨h1, h2, h3⟩, hS, hf => by
    have hl : 0 < b.length := List.length_pos_iff.2 h1.ne
    have hS' : Sat x pos (b ++ cat c) := hS
    obtain ⟨d1, d2, d3⟩ := hS'.dec h1
    have hf' : b.length + (cat c).length ≤ f := by rw [← List.length_append]; exact hf
    obtain ⟨g, rfl⟩ : ∃ g, f = g + 1 := ⟨f - 1, by omega⟩
    unfold runesF
    rw [if_pos d1, d2, if_neg (by rw [d3]; decide), rf_all c h3 hS'.next (by omega)]
    rfl
theorem rf_bad {x : ByteArray} : ∀ (c : List (List UInt8 × Nat)) {pos f : Nat} {t : List UInt8}, Chs (fun _ => True) c → Sat x pos (cat c ++ t) → t ≠ [] → badL t = true → (cat c ++ t).length ≤ f → runesF x f pos = none
  | [], pos, f, t, _, hS, ht, hb, hf => by
    have hS' : Sat x pos t := hS
    have hl : 0 < t.length := List.length_pos_iff.2 ht
    have hf' : t.length ≤ f := hf
    obtain ⟨g, rfl⟩ : ∃ g, f = g + 1 := ⟨f - 1, by omega⟩
    obtain ⟨b1, b2⟩ := hS'.bad ht
    unfold runesF
    rw [if_pos b2, if_pos (by rw [b1]; exact hb)]
  | (b, r) :: c, pos, f, t, ⟨h1, h2, h3⟩, hS, ht, hb, hf => by
    have hl : 0 < b.length := List.length_pos_iff.2 h1.ne
    have hS' : Sat x pos (b ++ (cat c ++ t)) := by rw [← List.append_assoc]; exact hS
    obtain ⟨d1, d2, d3⟩ := hS'.dec h1
    have hf' : b.length + (cat c ++ t).length ≤ f := by rw [← List.length_append, ← List.append_assoc]; exact hf
    obtain ⟨g, rfl⟩ : ∃ g, f = g + 1 := ⟨f - 1, by omega⟩
    unfold runesF
    rw [if_pos d1, d2, if_neg (by rw [d3]; decide), rf_bad c h3 hS'.next ht hb (by omega)]
    rfl
/-- A byte that can't stand in a text in quotes. -/
def oddY (b : UInt8) : Bool := oddR ((b.toNat : Nat) : Int)
def oddT (s : ByteArray) : Bool := decide (runesB s < 0) || s.toList.any oddY
theorem odd_big {r : Nat} (h : 128 ≤ r) : oddR (r : Int) = false := by
  unfold oddR
  exact decide_eq_false (by omega)
theorem fine_bytes : ∀ {c : List (List UInt8 × Nat)}, Chs (fun _ => True) c → (cat c).any oddY = false → Chs fineN c
  | [], _, _ => trivial
  | (b, r) :: c, ⟨h1, _, h3⟩, h => by
    have h : (b ++ cat c).any oddY = false := h
    rw [List.any_append, Bool.or_eq_false_iff] at h
    refine ⟨h1, ?_, fine_bytes h3 h.2⟩
    rcases h1.bytes with ⟨x, rfl, hx, hl⟩ | ⟨hl, hb⟩
    · have h4 := h.1
      simp only [List.any_cons, List.any_nil, Bool.or_false] at h4
      unfold oddY at h4
      rw [hx] at h4
      exact h4
    · exact odd_big hl
theorem odd_byte : ∀ {c : List (List UInt8 × Nat)}, Chs fineN c → (cat c).any oddY = false
  | [], _ => rfl
  | (b, r) :: c, ⟨h1, h2, h3⟩ => by
    show (b ++ cat c).any oddY = false
    rw [List.any_append, odd_byte h3, Bool.or_false]
    rcases h1.bytes with ⟨x, rfl, hx, hl⟩ | ⟨hl, hb⟩
    · simp only [List.any_cons, List.any_nil, Bool.or_false]
      unfold oddY
      rw [hx]
      exact h2
    · rw [List.any_eq_false]
      intro x hx
      have := hb x hx
      unfold oddY
      rw [odd_big this]
      decide
/-- A text is fine, or chunks that are stand ahead of what is not. -/
theorem text_cases (s : ByteArray) : (oddT s = false ∧ TextOk s) ∨ (oddT s = true ∧ ∃ a t, Chs fineN a ∧ s.toList = cat a ++ t ∧ t ≠ [] ∧ (badL t = true ∨ ∃ x u, t = x :: u ∧ x.toNat < 128 ∧ oddY x = true)) := by
  have hs := toList_len s
  have odd1 : ∀ {b : List UInt8} {r : Nat}, Rn b r → ¬ fineN r → ∃ x, b = [x] ∧ x.toNat < 128 ∧ oddY x = true := fun {b r} h1 h2 => by
    rcases h1.bytes with ⟨x, rfl, hx, hl⟩ | ⟨hl, hb⟩
    · refine ⟨x, rfl, by omega, ?_⟩
      unfold oddY
      rw [hx]
      unfold fineN at h2
      simpa using h2
    · exact absurd (odd_big hl) h2
  rcases chunks s.toList.length s.toList (Nat.le_refl _) with ⟨c, h1, h2⟩ | ⟨c, t, h1, h2, h3, h4⟩
  · have hr : runesB s = (c.length : Int) := by
      unfold runesB
      rw [rf_all c h1 (h2 ▸ Sat.start s) (by rw [← h2]; omega)]
    rcases split_chs (P := fineN) h1 with h3 | ⟨a, b, r, d, h3, h4, h5, h6⟩
    · refine .inl ⟨?_, c, h3, h2⟩
      unfold oddT
      rw [hr, h2, odd_byte h3, decide_eq_false (by omega)]
      rfl
    · obtain ⟨x, rfl, hx1, hx2⟩ := odd1 h4 h5
      have he : s.toList = cat a ++ (x :: cat d) := by rw [h2, h6, cat_app]; rfl
      refine .inr ⟨?_, a, x :: cat d, h3, he, by simp, .inr ⟨x, _, rfl, hx1, hx2⟩⟩
      unfold oddT
      rw [he, List.any_append, List.any_cons, hx2]
      simp
  · have hr : runesB s = -1 := by
      unfold runesB
      rw [rf_bad c h1 (h4 ▸ Sat.start s) h2 h3 (by rw [← h4]; omega)]
    have ho : oddT s = true := by
      unfold oddT
      rw [hr]
      rfl
    rcases split_chs (P := fineN) h1 with h5 | ⟨a, b, r, d, h5, h6, h7, h8⟩
    · exact .inr ⟨ho, c, t, h5, h4, h2, .inl h3⟩
    · obtain ⟨x, rfl, hx1, hx2⟩ := odd1 h6 h7
      refine .inr ⟨ho, a, x :: (cat d ++ t), h5, by rw [h4, h8, cat_app, List.append_assoc]; rfl, by simp, .inr ⟨x, _, rfl, hx1, hx2⟩⟩
/-- What goes on behind a big byte is copied. -/
theorem pre_q : ∀ (v t z : List UInt8), (∀ x ∈ v, 128 ≤ x.toNat) → v ++ z = qL t ++ [34] → ∃ u, t = v ++ u
  | [], t, _, _, _ => ⟨t, rfl⟩
  | y :: v, [], z, h, e => by
    have e : y :: (v ++ z) = [34] := e
    injection e with e1 e2
    have := h y (List.mem_cons_self ..)
    rw [e1] at this
    exact absurd this (by decide)
  | y :: v, a :: t, z, h, e => by
    have hy := h y (List.mem_cons_self ..)
    have e : y :: (v ++ z) = escB a ++ (qL t ++ [34]) := by rw [← List.append_assoc]; exact e
    have small : ∀ (q : UInt8) (l : List UInt8), q.toNat < 128 → y :: (v ++ z) = q :: l → False := fun q l hq e => by
      injection e with e1 e2
      rw [e1] at hy
      omega
    by_cases x1 : a = 10
    · subst x1; exact absurd e (fun e => small 92 _ (by decide) e)
    by_cases x2 : a = 34
    · subst x2; exact absurd e (fun e => small 92 _ (by decide) e)
    by_cases x3 : a = 92
    · subst x3; exact absurd e (fun e => small 92 _ (by decide) e)
    rw [show escB a = [a] by unfold escB; rw [if_neg x1, if_neg x2, if_neg x3]] at e
    injection e with e1 e2
    obtain ⟨u, hu⟩ := pre_q v t z (fun x hx => h x (List.mem_cons_of_mem _ hx)) e2
    exact ⟨u, by rw [hu, ← e1]; rfl⟩
theorem bad_q {t : List UInt8} (ht : t ≠ []) (hb : badL t = true) : badL (qL t ++ [34]) = true := by
  cases hq : badL (qL t ++ [34]) with
  | true => rfl
  | false =>
    exfalso
    obtain ⟨h1, h2, h3⟩ := Rn.head (l := qL t ++ [34]) (by simp) hq
    cases t with
    | nil => exact ht rfl
    | cons c t =>
      by_cases hc : c.toNat < 128
      · have := (Rn.one c hc).bad_app t
        rw [show [c] ++ t = c :: t from rfl, hb] at this
        cases this
      · have hesc : escB c = [c] := escB_big (by omega)
        obtain ⟨w, hw⟩ : ∃ w, (decL (qL (c :: t) ++ [34])).2 = w := ⟨_, rfl⟩
        rw [hw] at h1 h2 h3
        obtain ⟨b, hbe⟩ : ∃ b, (qL (c :: t) ++ [34]).take w = b := ⟨_, rfl⟩
        rw [hbe] at h1
        have hall : b ++ (qL (c :: t) ++ [34]).drop w = c :: (qL t ++ [34]) := by
          rw [← hbe, List.take_append_drop]
          show (escB c ++ qL t) ++ [34] = _
          rw [hesc]
          rfl
        rcases h1.bytes with ⟨x, rfl, hx, hl⟩ | ⟨hl, hbb⟩
        · injection hall with e1 e2
          rw [e1] at hx
          omega
        · cases b with
          | nil => exact h1.ne rfl
          | cons y v =>
            injection hall with e1 e2
            obtain ⟨u, hu⟩ := pre_q v t _ (fun x hx => hbb x (List.mem_cons_of_mem _ hx)) e2
            have := h1.bad_app u
            rw [show (y :: v) ++ u = c :: t by rw [hu, e1]; rfl, hb] at this
            cases this
/-- Behind an opening quote. -/
theorem open_quote {src : ByteArray} {pos : Nat} {t : List UInt8} {s : SC} (hS : Sat src pos (34 :: t)) (hm : s.md = 0) : scanAt src pos s = scanAt src (pos + 1) { s with cu := ⟨0, emp, pos, s.ln, s.cl⟩, md := 2, ct := [], cl := s.cl + 1 } := by
  have hS' : Sat src pos ([34] ++ t) := hS
  have r34 : Rn [34] 34 := Rn.one 34 (by decide)
  have h9 : s.md ≠ 3 ∧ s.md ≠ 4 ∧ s.md ≠ 2 ∧ s.md ≠ 1 := by rw [hm]; decide
  have st : s.step src pos ((34 : Nat) : Int) = ({ s.at pos with md := 2, ct := [] }, 0, 0) := by
    unfold SC.step
    rw [if_neg h9.1, if_neg (by rw [(hS'.dec r34).2.2]; decide), if_neg h9.2.1, if_neg h9.2.2.1, if_neg h9.2.2.2]
    rfl
  rw [take_one hS' r34 st, show ((34 : Nat) : Int) = 34 from rfl, adv_ne _ (by decide)]
  rfl
theorem close_quote {src : ByteArray} {pos : Nat} {t : List UInt8} {s : SC} (hS : Sat src pos (34 :: t)) (hm : s.md = 2) : scanAt src pos s = scanAt src (pos + 1) { s.add 4 (toB s.ct) with cl := s.cl + 1 } := by
  have hS' : Sat src pos ([34] ++ t) := hS
  have r34 : Rn [34] 34 := Rn.one 34 (by decide)
  have st : s.step src pos ((34 : Nat) : Int) = (s.add 4 (toB s.ct), 0, 0) := by
    rw [step_text hS' r34 hm]
    rfl
  rw [take_one hS' r34 st, show ((34 : Nat) : Int) = 34 from rfl, adv_ne _ (by decide)]
  rfl
theorem quote_list (s : ByteArray) : (quoteB s).toList = 34 :: (qL s.toList ++ [34]) := toB_list _
theorem scan_quote {s : ByteArray} (h : TextOk s) (hs : (quoteB s).size ≤ 65536) : scanB (quoteB s) = ([⟨4, s, 0, 1, 1⟩], 0, 0) := by
  obtain ⟨c, h1, h2⟩ := h
  rw [scanB_at hs]
  have hS0 : Sat (quoteB s) 0 (34 :: (qL (cat c) ++ [34])) := by
    have := Sat.start (quoteB s)
    rw [quote_list, h2] at this
    exact this
  rw [open_quote hS0 rfl]
  have hS1 : Sat (quoteB s) (0 + 1) (qL (cat c) ++ [34]) := Sat.next (b := [34]) hS0
  obtain ⟨ln, cl, e⟩ := text_run c (s := ⟨2, [], ⟨0, emp, 0, 1, 1⟩, [], 0, 1, 1 + 1⟩) h1 hS1 rfl
  have e' : scanAt (quoteB s) (0 + 1) ({ sc0 with cu := ⟨0, emp, ((0 : Nat) : Int), sc0.ln, sc0.cl⟩, md := 2, ct := [], cl := sc0.cl + 1 } : SC) = _ := e
  rw [e']
  have hS2 : Sat (quoteB s) (0 + 1 + (qL (cat c)).length) [34] := hS1.next
  rw [close_quote hS2 rfl]
  have hl := hS2.len
  rw [scanAt_end (by rw [hl]; exact Nat.le_refl _)]
  show ([] ++ [(⟨4, toB ([] ++ cat c), 0, 1, 1⟩ : Tk)], (0 : Int), (0 : Int)) = _
  rw [List.nil_append, List.nil_append, ← h2, toB_of]
theorem scan_odd {s : ByteArray} (h : ∃ a t, Chs fineN a ∧ s.toList = cat a ++ t ∧ t ≠ [] ∧ (badL t = true ∨ ∃ x u, t = x :: u ∧ x.toNat < 128 ∧ oddY x = true)) (hs : (quoteB s).size ≤ 65536) : ∃ p, scanB (quoteB s) = ([], 2, p) := by
  obtain ⟨a, t, h1, h2, h3, h4⟩ := h
  rw [scanB_at hs]
  have hS0 : Sat (quoteB s) 0 (34 :: (qL (cat a) ++ (qL t ++ [34]))) := by
    have := Sat.start (quoteB s)
    rw [quote_list, h2, qL_app, List.append_assoc] at this
    exact this
  rw [open_quote hS0 rfl]
  have hS1 : Sat (quoteB s) (0 + 1) (qL (cat a) ++ (qL t ++ [34])) := Sat.next (b := [34]) hS0
  obtain ⟨ln, cl, e⟩ := text_run a (s := ⟨2, [], ⟨0, emp, 0, 1, 1⟩, [], 0, 1, 1 + 1⟩) h1 hS1 rfl
  have e' : scanAt (quoteB s) (0 + 1) ({ sc0 with cu := ⟨0, emp, ((0 : Nat) : Int), sc0.ln, sc0.cl⟩, md := 2, ct := [], cl := sc0.cl + 1 } : SC) = _ := e
  rw [e']
  have hS2 : Sat (quoteB s) (0 + 1 + (qL (cat a)).length) (qL t ++ [34]) := hS1.next
  obtain ⟨pos, hpos⟩ : ∃ pos, 0 + 1 + (qL (cat a)).length = pos := ⟨_, rfl⟩
  rw [hpos] at hS2 ⊢
  obtain ⟨S, hS⟩ : ∃ S : SC, (⟨2, [], ⟨0, emp, 0, 1, 1⟩, [], 0, 1, 1 + 1⟩ : SC).txt a ln cl = S := ⟨_, rfl⟩
  have hm : S.md = 2 := by rw [← hS]; rfl
  rw [hS]
  have h9 : S.md ≠ 3 := by rw [hm]; decide
  rcases h4 with hb | ⟨x, u, rfl, hx1, hx2⟩
  · obtain ⟨b1, b2⟩ := hS2.bad (by simp)
    rw [bad_q h3 hb] at b1
    refine ⟨pos, scanAt_err (s' := S) b2 ?_ (by decide)⟩
    unfold SC.step
    rw [if_neg h9, if_pos b1]
  · have hesc : escB x = [x] := by
      unfold escB
      rw [if_neg (fun e => by rw [e] at hx2; exact absurd hx2 (by decide)), if_neg (fun e => by rw [e] at hx2; exact absurd hx2 (by decide)), if_neg (fun e => by rw [e] at hx2; exact absurd hx2 (by decide))]
    have hS3 : Sat (quoteB s) pos ([x] ++ (qL u ++ [34])) := by
      rw [show qL (x :: u) ++ [34] = [x] ++ (qL u ++ [34]) by show (escB x ++ qL u) ++ [34] = _; rw [hesc]; rfl] at hS2
      exact hS2
    have rx := Rn.one x hx1
    have ne : ∀ y : UInt8, oddY y = false → ((x.toNat : Nat) : Int) ≠ ((y.toNat : Nat) : Int) := fun y hy e => by
      have : x = y := UInt8.toNat_inj.1 (by omega)
      rw [this, hy] at hx2
      cases hx2
    refine ⟨pos, take_bad (s' := S) hS3 rx ?_ (by decide)⟩
    rw [step_text hS3 rx hm]
    unfold SC.inside
    rw [if_neg (show ((x.toNat : Nat) : Int) ≠ 34 from ne 34 (by decide)), if_neg (show ((x.toNat : Nat) : Int) ≠ 92 from ne 92 (by decide)), if_pos (show oddR ((x.toNat : Nat) : Int) = true from hx2)]
end Go.Proofs.Ytlndfognkkobaaa
