/-
  Texts in quotes, words: the scanner takes what was shown; any bytes are chunks, or chunks ahead of what is bad.
-/
import Derived.Test.YtaehcnoendieaaaDoorLexV
namespace Go.Proofs.YtaehcnoendieaaaDoor
open Go.RowKit
set_option linter.unusedVariables false
set_option linter.unusedSimpArgs false

/-- How a byte stands in a text in quotes. -/
def escB (b : UInt8) : List UInt8 := if b = 10 then [92, 110] else if b = 34 then [92, 34] else if b = 92 then [92, 92] else [b]
def qL (l : List UInt8) : List UInt8 := l.flatMap escB
def quoteB (s : ByteArray) : ByteArray := toB (34 :: (qL s.toList ++ [34]))
theorem escB_big {b : UInt8} (h : 128 ≤ b.toNat) : escB b = [b] := by
  unfold escB
  rw [if_neg (fun e => by rw [e] at h; exact absurd h (by decide)), if_neg (fun e => by rw [e] at h; exact absurd h (by decide)), if_neg (fun e => by rw [e] at h; exact absurd h (by decide))]
theorem qL_big : ∀ {l : List UInt8}, (∀ x ∈ l, 128 ≤ x.toNat) → qL l = l
  | [], _ => rfl
  | b :: l, h => by
    show escB b ++ qL l = b :: l
    rw [escB_big (h b (List.mem_cons_self ..)), qL_big fun x hx => h x (List.mem_cons_of_mem _ hx)]
    rfl
theorem qL_app (a b : List UInt8) : qL (a ++ b) = qL a ++ qL b := List.flatMap_append
theorem rn_byte (b : UInt8) (h : b.toNat < 128) (t : List UInt8) {src : ByteArray} {pos : Nat} (hS : Sat src pos (b :: t)) : Sat src pos ([b] ++ t) ∧ Rn [b] b.toNat := ⟨hS, Rn.one b h⟩
/-- Ahead of a text's end: where the scanner stands behind its runes. -/
def SC.txt (s : SC) (c : List (List UInt8 × Nat)) (ln cl : Int) : SC := { s with ct := s.ct ++ cat c, ln := ln, cl := cl }
theorem step_text {src : ByteArray} {pos : Nat} {b t : List UInt8} {r : Nat} {s : SC} (h : Sat src pos (b ++ t)) (hr : Rn b r) (hm : s.md = 2) : s.step src pos (r : Nat) = s.inside src pos (r : Nat) := by
  have h9 : s.md ≠ 3 ∧ s.md ≠ 4 := by rw [hm]; decide
  unfold SC.step
  rw [if_neg h9.1, if_neg (by rw [(h.dec hr).2.2]; decide), if_neg h9.2, if_pos hm]
theorem step_esc {src : ByteArray} {pos : Nat} {r : Int} {s : SC} (hm : s.md = 3) : s.step src pos r = s.esc pos r := by
  unfold SC.step
  rw [if_pos hm]
set_option maxRecDepth 10000 in
/-- A text's runes, in quotes, are taken. -/
theorem text_run {src : ByteArray} : ∀ (c : List (List UInt8 × Nat)) {pos : Nat} {t : List UInt8} {s : SC}, Chs fineN c → Sat src pos (qL (cat c) ++ t) → s.md = 2 →
    ∃ ln cl, scanAt src pos s = scanAt src (pos + (qL (cat c)).length) (s.txt c ln cl)
  | [], pos, t, s, _, _, hm => by
    refine ⟨s.ln, s.cl, ?_⟩
    show _ = scanAt src (pos + 0) { s with ct := s.ct ++ [], ln := s.ln, cl := s.cl }
    rw [List.append_nil]
    rfl
  | (b, r) :: c, pos, t, s, ⟨h1, h2, h3⟩, hS, hm => by
    have hS' : Sat src pos (qL b ++ (qL (cat c) ++ t)) := by
      have h9 := hS
      rw [show cat ((b, r) :: c) = b ++ cat c from rfl, qL_app, List.append_assoc] at h9
      exact h9
    have hlen : (qL (cat ((b, r) :: c))).length = (qL b).length + (qL (cat c)).length := by rw [show cat ((b, r) :: c) = b ++ cat c from rfl, qL_app, List.length_append]
    -- the state behind the chunk
    have fin : ∀ (ln cl : Int), scanAt src pos s = scanAt src (pos + (qL b).length) { s with ct := s.ct ++ b, ln := ln, cl := cl } → ∃ ln cl, scanAt src pos s = scanAt src (pos + (qL (cat ((b, r) :: c))).length) (s.txt ((b, r) :: c) ln cl) := fun ln cl e => by
      obtain ⟨l2, c2, e2⟩ := text_run c (s := { s with ct := s.ct ++ b, ln := ln, cl := cl }) h3 hS'.next hm
      refine ⟨l2, c2, ?_⟩
      rw [e, e2, hlen, Nat.add_assoc]
      unfold SC.txt
      dsimp only
      rw [List.append_assoc]
      rfl
    -- an escape: two runes
    have esc : ∀ (x y : UInt8) (q : Int), qL b = [92, y] → b = [x] → y.toNat < 128 → (∀ s' : SC, s'.esc ((pos + 1 : Nat) : Int) (y.toNat : Nat) = ({ s' with ct := s'.ct ++ [x], md := 2 }, 0, 0)) → ((y.toNat : Nat) : Int) ≠ 10 → ∃ ln cl, scanAt src pos s = scanAt src (pos + (qL b).length) { s with ct := s.ct ++ b, ln := ln, cl := cl } := fun x y q e1 e2 hy he hn => by
      rw [e1] at hS' ⊢
      have hA : Sat src pos ([92] ++ ([y] ++ (qL (cat c) ++ t))) := hS'
      have r92 : Rn [92] 92 := Rn.one 92 (by decide)
      have s1 : s.step src pos ((92 : Nat) : Int) = ({ s with md := 3 }, 0, 0) := by
        rw [step_text hA r92 hm]
        rfl
      have hB : Sat src (pos + 1) ([y] ++ (qL (cat c) ++ t)) := hA.next
      have s2 : ({ s with md := 3, cl := s.cl + 1 } : SC).step src (pos + 1) (y.toNat : Nat) = ({ s with ct := s.ct ++ [x], md := 2, cl := s.cl + 1 }, 0, 0) := by
        rw [step_esc rfl, he]
      refine ⟨s.ln, s.cl + 1 + 1, ?_⟩
      rw [take_one hA r92 s1, show ((92 : Nat) : Int) = 92 from rfl, adv_ne _ (by decide)]
      show scanAt src (pos + 1) { s with md := 3, cl := s.cl + 1 } = _
      rw [take_one hB (Rn.one y hy) s2, adv_ne _ hn, e2]
      show scanAt src (pos + 1 + 1) { s with ct := s.ct ++ [x], md := 2, cl := s.cl + 1 + 1 } = scanAt src (pos + 2) { s with ct := s.ct ++ [x], ln := s.ln, cl := s.cl + 1 + 1 }
      rw [← hm]
    -- a rune that stands for itself
    have one : qL b = b → (r : Int) ≠ 34 → (r : Int) ≠ 92 → ∃ ln cl, scanAt src pos s = scanAt src (pos + (qL b).length) { s with ct := s.ct ++ b, ln := ln, cl := cl } := fun e n1 n2 => by
      rw [e] at hS' ⊢
      have s1 : s.step src pos (r : Nat) = ({ s with ct := s.ct ++ b }, 0, 0) := by
        rw [step_text hS' h1 hm]
        unfold SC.inside
        rw [if_neg n1, if_neg n2, if_neg (by rw [show oddR (r : Nat) = false from h2]; decide), (hS'.dec h1).2.1]
        show ({ s with ct := s.ct ++ (src.extract pos (pos + b.length)).toList }, _, _) = _
        rw [hS'.ext]
      rw [take_one hS' h1 s1]
      unfold SC.adv
      by_cases hn : (r : Int) = 10
      · rw [if_pos hn]
        exact ⟨_, _, rfl⟩
      · rw [if_neg hn]
        exact ⟨s.ln, _, rfl⟩
    rcases h1.bytes with ⟨x, rfl, hx, hl⟩ | ⟨hl, hb⟩
    · by_cases x1 : x = 10
      · subst x1
        obtain ⟨ln, cl, e⟩ := esc 10 110 0 rfl rfl (by decide) (fun s' => rfl) (by decide)
        exact fin ln cl e
      by_cases x2 : x = 34
      · subst x2
        obtain ⟨ln, cl, e⟩ := esc 34 34 0 rfl rfl (by decide) (fun s' => rfl) (by decide)
        exact fin ln cl e
      by_cases x3 : x = 92
      · subst x3
        obtain ⟨ln, cl, e⟩ := esc 92 92 0 rfl rfl (by decide) (fun s' => rfl) (by decide)
        exact fin ln cl e
      have ne : ∀ y : UInt8, x ≠ y → (r : Int) ≠ (y.toNat : Nat) := fun y h e => h (UInt8.toNat_inj.1 (by omega))
      obtain ⟨ln, cl, e⟩ := one (by show escB x ++ [] = [x]; unfold escB; rw [if_neg x1, if_neg x2, if_neg x3]; rfl) (ne 34 x2) (ne 92 x3)
      exact fin ln cl e
    · obtain ⟨ln, cl, e⟩ := one (qL_big hb) (by omega) (by omega)
      exact fin ln cl e
/-- Any bytes are chunks, or chunks ahead of what is bad. -/
theorem chunks : ∀ (n : Nat) (l : List UInt8), l.length ≤ n → (∃ c, Chs (fun _ => True) c ∧ l = cat c) ∨ (∃ c t, Chs (fun _ => True) c ∧ t ≠ [] ∧ badL t = true ∧ l = cat c ++ t)
  | _, [], _ => .inl ⟨[], trivial, rfl⟩
  | 0, b :: l, h => by simp at h
  | n + 1, b :: l, h => by
    cases hb : badL (b :: l) with
    | true => exact .inr ⟨[], b :: l, trivial, by simp, hb, rfl⟩
    | false =>
      obtain ⟨h1, h2, h3⟩ := Rn.head (l := b :: l) (by simp) hb
      obtain ⟨w, hw⟩ : ∃ w, (decL (b :: l)).2 = w := ⟨_, rfl⟩
      rw [hw] at h1 h2 h3
      have hd : ((b :: l).drop w).length ≤ n := by rw [List.length_drop]; omega
      rcases chunks n ((b :: l).drop w) hd with ⟨c, h4, h5⟩ | ⟨c, t, h4, h5, h6, h7⟩
      · refine .inl ⟨((b :: l).take w, (decL (b :: l)).1) :: c, ⟨h1, trivial, h4⟩, ?_⟩
        show _ = (b :: l).take w ++ cat c
        rw [← h5, List.take_append_drop]
      · refine .inr ⟨((b :: l).take w, (decL (b :: l)).1) :: c, t, ⟨h1, trivial, h4⟩, h5, h6, ?_⟩
        show _ = ((b :: l).take w ++ cat c) ++ t
        rw [List.append_assoc, ← h7, List.take_append_drop]
/-- Chunks all of which are so, or the first that is not. -/
theorem split_chs {P : Nat → Prop} [DecidablePred P] : ∀ {c : List (List UInt8 × Nat)}, Chs (fun _ => True) c → Chs P c ∨ ∃ a b r d, Chs P a ∧ Rn b r ∧ ¬ P r ∧ c = a ++ (b, r) :: d
  | [], _ => .inl trivial
  | (b, r) :: c, ⟨h1, _, h3⟩ => by
    by_cases hp : P r
    · rcases split_chs (P := P) h3 with h4 | ⟨a, b', r', d, h4, h5, h6, h7⟩
      · exact .inl ⟨h1, hp, h4⟩
      · exact .inr ⟨(b, r) :: a, b', r', d, ⟨h1, hp, h4⟩, h5, h6, by rw [h7]; rfl⟩
    · exact .inr ⟨[], b, r, c, trivial, h1, hp, rfl⟩
end Go.Proofs.YtaehcnoendieaaaDoor
