/-
  The scanner's run over a text, rune by rune; words and texts as chunks.
-/
import Derived.Test.YtaehcnoendieaaaDoorLexU
namespace Go.Proofs.YtaehcnoendieaaaDoor
open Go.RowKit
set_option linter.unusedVariables false
set_option linter.unusedSimpArgs false

theorem decode_pos (s : ByteArray) (p : Nat) (h : p < s.size) : 0 < (Utf8.decode s p).2 := Lib.decode_width_pos s p h
/-- What comes of a text from a place on. -/
def scanAt (src : ByteArray) (pos : Nat) (s : SC) : ScanR := scanF src (src.size - pos) pos s
theorem scanF_fuel (src : ByteArray) : ∀ (f g pos : Nat) (s : SC), src.size - pos ≤ f → src.size - pos ≤ g → scanF src f pos s = scanF src g pos s
  | 0, 0, _, _, _, _ => rfl
  | 0, g + 1, pos, s, hf, _ => by
    show endR (s.fin src) = _
    unfold scanF
    rw [if_neg (by omega)]
  | f + 1, 0, pos, s, _, hg => by
    show _ = endR (s.fin src)
    unfold scanF
    rw [if_neg (by omega)]
  | f + 1, g + 1, pos, s, hf, hg => by
    unfold scanF
    by_cases h : pos < src.size
    · rw [if_pos h, if_pos h]
      have hp := decode_pos src pos h
      dsimp only
      rw [scanF_fuel src f g _ _ (by omega) (by omega)]
    · rw [if_neg h, if_neg h]
theorem scanAt_end {src : ByteArray} {pos : Nat} {s : SC} (h : src.size ≤ pos) : scanAt src pos s = endR (s.fin src) := by
  unfold scanAt
  rw [show src.size - pos = 0 by omega]
  rfl
theorem scanF_succ (src : ByteArray) (f pos : Nat) (s : SC) : scanF src (f + 1) pos s = if pos < src.size then (if (s.step src pos ((Utf8.decode src pos).1 : Nat)).2.1 = 0 then scanF src f (pos + (Utf8.decode src pos).2) ((s.step src pos ((Utf8.decode src pos).1 : Nat)).1.adv ((Utf8.decode src pos).1 : Nat)) else ([], (s.step src pos ((Utf8.decode src pos).1 : Nat)).2.1, (s.step src pos ((Utf8.decode src pos).1 : Nat)).2.2)) else endR (s.fin src) := rfl
theorem scanAt_go {src : ByteArray} {pos : Nat} {s s' : SC} {p : Int} (h : pos < src.size) (hs : s.step src pos ((Utf8.decode src pos).1 : Nat) = (s', 0, p)) : scanAt src pos s = scanAt src (pos + (Utf8.decode src pos).2) (s'.adv ((Utf8.decode src pos).1 : Nat)) := by
  have hp := decode_pos src pos h
  unfold scanAt
  obtain ⟨f, hf⟩ : ∃ f, src.size - pos = f + 1 := ⟨src.size - pos - 1, by omega⟩
  rw [hf, scanF_succ, if_pos h, hs, if_pos rfl]
  exact scanF_fuel src f (src.size - (pos + (Utf8.decode src pos).2)) (pos + (Utf8.decode src pos).2) _ (by omega) (by omega)
theorem scanAt_err {src : ByteArray} {pos : Nat} {s s' : SC} {e p : Int} (h : pos < src.size) (hs : s.step src pos ((Utf8.decode src pos).1 : Nat) = (s', e, p)) (he : e ≠ 0) : scanAt src pos s = ([], e, p) := by
  unfold scanAt
  obtain ⟨f, hf⟩ : ∃ f, src.size - pos = f + 1 := ⟨src.size - pos - 1, by omega⟩
  rw [hf, scanF_succ, if_pos h, hs, if_neg he]
theorem scanB_at {src : ByteArray} (h : src.size ≤ 65536) : scanB src = scanAt src 0 sc0 := by
  unfold scanB scanAt
  rw [if_neg (by omega), Nat.sub_zero]
/-- What stands at a place. -/
structure Sat (src : ByteArray) (pos : Nat) (l : List UInt8) : Prop where
  d : src.toList.drop pos = l
  le : pos ≤ src.size
theorem Sat.len {src : ByteArray} {pos : Nat} {l : List UInt8} (h : Sat src pos l) : src.size = pos + l.length := by
  have := h.le
  rw [← h.d, List.length_drop, toList_len]
  omega
theorem Sat.next {src : ByteArray} {pos : Nat} {b t : List UInt8} (h : Sat src pos (b ++ t)) : Sat src (pos + b.length) t := by
  refine ⟨?_, by have := h.len; rw [List.length_append] at this; omega⟩
  rw [← List.drop_drop, h.d, List.drop_left]
theorem Sat.start (src : ByteArray) : Sat src 0 src.toList := ⟨rfl, Nat.zero_le _⟩
theorem Sat.dec {src : ByteArray} {pos : Nat} {b t : List UInt8} {r : Nat} (h : Sat src pos (b ++ t)) (hr : Rn b r) : pos < src.size ∧ Utf8.decode src pos = (r, b.length) ∧ badAt src pos = false := by
  have h1 := h.len
  have h2 : 0 < b.length := List.length_pos_iff.2 hr.ne
  rw [List.length_append] at h1
  have h3 : pos < src.size := by omega
  have h4 := decode_drop src pos h3
  rw [h.d, hr.app t] at h4
  refine ⟨h3, h4, ?_⟩
  have h5 := hr.bad_app t
  unfold badL at h5
  rw [hr.app t] at h5
  unfold badAt
  rw [h4]
  exact h5
theorem Sat.bad {src : ByteArray} {pos : Nat} {l : List UInt8} (h : Sat src pos l) (hl : l ≠ []) : badAt src pos = badL l ∧ pos < src.size := by
  have h1 := h.len
  have h2 : 0 < l.length := List.length_pos_iff.2 hl
  refine ⟨?_, by omega⟩
  unfold badAt badL
  rw [decode_drop src pos (by omega), h.d]
theorem ext_list (src : ByteArray) (i j : Nat) : (src.extract i j).toList = (src.toList.drop i).take (j - i) := by
  rw [ByteArray.toList_eq, ByteArray.toList_eq, ByteArray.data_extract, Array.toList_extract]
theorem Sat.ext {src : ByteArray} {pos : Nat} {b t : List UInt8} (h : Sat src pos (b ++ t)) : (src.extract pos (pos + b.length)).toList = b := by
  rw [ext_list, h.d, Nat.add_sub_cancel_left, List.take_left]
theorem bytes_inj {a b : ByteArray} (h : a.toList = b.toList) : a = b := by
  rw [ByteArray.toList_eq, ByteArray.toList_eq] at h
  exact ByteArray.ext (Array.toList_inj.mp h)
theorem toB_list (l : List UInt8) : (toB l).toList = l := by rw [ByteArray.toList_eq]; rfl
theorem toB_of {s : ByteArray} : toB s.toList = s := bytes_inj (toB_list _)
/-- One rune that is taken. -/
theorem take_one {src : ByteArray} {pos : Nat} {b t : List UInt8} {r : Nat} {s s' : SC} {p : Int} (h : Sat src pos (b ++ t)) (hr : Rn b r) (hs : s.step src pos (r : Nat) = (s', 0, p)) : scanAt src pos s = scanAt src (pos + b.length) (s'.adv (r : Nat)) := by
  obtain ⟨h1, h2, h3⟩ := h.dec hr
  have := scanAt_go (s' := s') (p := p) h1 (by rw [h2]; exact hs)
  rw [this, h2]
theorem take_bad {src : ByteArray} {pos : Nat} {b t : List UInt8} {r : Nat} {s s' : SC} {e p : Int} (h : Sat src pos (b ++ t)) (hr : Rn b r) (hs : s.step src pos (r : Nat) = (s', e, p)) (he : e ≠ 0) : scanAt src pos s = ([], e, p) := by
  obtain ⟨h1, h2, h3⟩ := h.dec hr
  exact scanAt_err (s' := s') (p := p) h1 (by rw [h2]; exact hs) he
/-- Chunks, one behind the other. -/
def Chs (P : Nat → Prop) : List (List UInt8 × Nat) → Prop
  | [] => True
  | (b, r) :: l => Rn b r ∧ P r ∧ Chs P l
def cat : List (List UInt8 × Nat) → List UInt8
  | [] => []
  | (b, _) :: l => b ++ cat l
theorem cat_app (a b : List (List UInt8 × Nat)) : cat (a ++ b) = cat a ++ cat b := by
  induction a with
  | nil => rfl
  | cons x a ih => show x.1 ++ cat (a ++ b) = (x.1 ++ cat a) ++ cat b; rw [ih, List.append_assoc]
theorem Chs.app {P : Nat → Prop} : ∀ {a b : List (List UInt8 × Nat)}, Chs P a → Chs P b → Chs P (a ++ b)
  | [], _, _, h => h
  | (_, _) :: _, _, ⟨h1, h2, h3⟩, h => ⟨h1, h2, h3.app h⟩
theorem Chs.mono {P Q : Nat → Prop} (hpq : ∀ r, P r → Q r) : ∀ {a : List (List UInt8 × Nat)}, Chs P a → Chs Q a
  | [], _ => trivial
  | (_, _) :: _, ⟨h1, h2, h3⟩ => ⟨h1, hpq _ h2, h3.mono hpq⟩
def inWN (r : Nat) : Prop := inW (r : Nat) = true
def fineN (r : Nat) : Prop := oddR (r : Nat) = false
/-- A word; a text that may stand in quotes. -/
def WordOk (x : ByteArray) : Prop := ∃ c, Chs inWN c ∧ 1 ≤ c.length ∧ c.length ≤ 64 ∧ x.toList = cat c
def TextOk (x : ByteArray) : Prop := ∃ c, Chs fineN c ∧ x.toList = cat c
theorem adv_ne (s : SC) {r : Int} (h : r ≠ 10) : s.adv r = { s with cl := s.cl + 1 } := by unfold SC.adv; rw [if_neg h]
theorem inW_ne {r : Int} (h : inW r = true) : r ≠ 10 ∧ r ≠ 40 ∧ r ≠ 41 ∧ r ≠ 34 ∧ r ≠ 59 ∧ blankR r = false := by
  unfold inW at h
  unfold blankR
  have h := of_decide_eq_true h
  refine ⟨by omega, by omega, by omega, by omega, by omega, decide_eq_false (by omega)⟩
/-- A word goes on. -/
theorem word_run {src : ByteArray} : ∀ (c : List (List UInt8 × Nat)) {pos : Nat} {t : List UInt8} {s : SC}, Chs inWN c → Sat src pos (cat c ++ t) → s.md = 1 → 0 ≤ s.ru → s.ru + c.length ≤ 64 →
    scanAt src pos s = scanAt src (pos + (cat c).length) { s with ru := s.ru + c.length, cl := s.cl + c.length }
  | [], pos, t, s, _, _, _, _, _ => by
    show _ = scanAt src (pos + 0) { s with ru := s.ru + (0 : Nat), cl := s.cl + (0 : Nat) }
    simp
  | (b, r) :: c, pos, t, s, ⟨h1, h2, h3⟩, hS, hm, h0, hr => by
    rw [List.length_cons] at hr
    have hS' : Sat src pos (b ++ (cat c ++ t)) := by rw [← List.append_assoc]; exact hS
    have h9 : s.md ≠ 3 ∧ s.md ≠ 4 ∧ s.md ≠ 2 := by rw [hm]; decide
    have hst : s.step src pos (r : Nat) = ({ s with ru := s.ru + 1 }, 0, 0) := by
      unfold SC.step
      rw [if_neg h9.1, if_neg (by rw [(hS'.dec h1).2.2]; decide), if_neg h9.2.1, if_neg h9.2.2, if_pos hm, if_pos (show inW (r : Nat) = true from h2)]
      unfold SC.grow
      rw [if_neg (by omega)]
    rw [take_one hS' h1 hst, adv_ne _ (inW_ne h2).1, word_run c (s := { s with ru := s.ru + 1, cl := s.cl + 1 }) h3 hS'.next hm (by show 0 ≤ s.ru + 1; omega) (by show s.ru + 1 + (c.length : Int) ≤ 64; omega)]
    show scanAt src (pos + b.length + (cat c).length) _ = scanAt src (pos + (b ++ cat c).length) _
    rw [List.length_append, Nat.add_assoc, List.length_cons]
    congr 1
    show SC.mk _ _ _ _ _ _ _ = SC.mk _ _ _ _ _ _ _
    congr 1
    · show s.ru + 1 + (c.length : Int) = s.ru + ((c.length + 1 : Nat) : Int)
      omega
    · show s.cl + 1 + (c.length : Int) = s.cl + ((c.length + 1 : Nat) : Int)
      omega
end Go.Proofs.YtaehcnoendieaaaDoor
