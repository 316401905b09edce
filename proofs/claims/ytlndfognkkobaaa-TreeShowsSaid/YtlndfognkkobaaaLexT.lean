/-
  What is shown of tokens is read as them.
-/
import Derived.Test.YtlndfognkkobaaaLexO
import Derived.Test.YtlndfognkkobaaaLexN
namespace Go.Proofs.Ytlndfognkkobaaa
open Go.RowKit
set_option linter.unusedVariables false
set_option linter.unusedSimpArgs false

def ReadsA (l : List Tk) : Prop := ∀ (src : ByteArray) (pos : Nat) (s : SC) (p : Option Int), Sat src pos (shF p l) → s.md = 0 → ∃ M, scanAt src pos s = (s.tk ++ M, 0, 0) ∧ M.map kt = l.map kt
def ReadsB (l : List Tk) : Prop := ∀ (src : ByteArray) (pos : Nat) (s : SC), Sat src pos (shF (some 3) l) → s.md = 1 → ∃ M, scanAt src pos s = (s.tk ++ M, 0, 0) ∧ M.map kt = (3, src.extract s.cu.po.toNat pos) :: l.map kt
def ReadsT (t : Tk) (l : List Tk) : Prop := ∀ (src : ByteArray) (pos : Nat) (s : SC), Sat src pos ((tokB t).toList ++ shF (some t.kd) l) → s.md = 0 → ∃ M, scanAt src pos s = (s.tk ++ M, 0, 0) ∧ M.map kt = kt t :: l.map kt
theorem r32 : Rn [32] 32 := Rn.one 32 (by decide)
theorem r40 : Rn [40] 40 := Rn.one 40 (by decide)
theorem r41 : Rn [41] 41 := Rn.one 41 (by decide)
theorem step_zero {src : ByteArray} {pos : Nat} {b t : List UInt8} {r : Nat} {s : SC} (hS : Sat src pos (b ++ t)) (hr : Rn b r) (hm : s.md = 0) : s.step src pos (r : Nat) = s.begin pos (r : Nat) := by
  have h9 : s.md ≠ 3 ∧ s.md ≠ 4 ∧ s.md ≠ 2 ∧ s.md ≠ 1 := by rw [hm]; decide
  unfold SC.step
  rw [if_neg h9.1, if_neg (by rw [(hS.dec hr).2.2]; decide), if_neg h9.2.1, if_neg h9.2.2.1, if_neg h9.2.2.2]
theorem step_word {src : ByteArray} {pos : Nat} {b t : List UInt8} {r : Nat} {s : SC} (hS : Sat src pos (b ++ t)) (hr : Rn b r) (hm : s.md = 1) (hw : inW (r : Nat) = false) : s.step src pos (r : Nat) = (s.endW src pos).begin pos (r : Nat) := by
  have h9 : s.md ≠ 3 ∧ s.md ≠ 4 ∧ s.md ≠ 2 := by rw [hm]; decide
  unfold SC.step
  rw [if_neg h9.1, if_neg (by rw [(hS.dec hr).2.2]; decide), if_neg h9.2.1, if_neg h9.2.2, if_pos hm, if_neg (by rw [hw]; decide)]
theorem snoc_more {a M : List Tk} {x : Tk} : a ++ [x] ++ M = a ++ (x :: M) := by rw [List.append_assoc]; rfl
theorem reads_tok {t : Tk} {l : List Tk} (ht : TkOk t) (hA : ReadsA l) (hB : ReadsB l) : ReadsT t l := by
  intro src pos s hS hm
  obtain ⟨kd, tx, po, ln, cl⟩ := t
  rcases ht with ⟨h1, h2⟩ | ⟨h1, h2⟩ | ⟨h1, c, g1, g2, g3, g4⟩ | ⟨h1, c, g1, g2⟩
  · obtain rfl : kd = 1 := h1
    obtain rfl : tx = chB 40 := h2
    have e : (tokB ⟨1, chB 40, po, ln, cl⟩).toList = [40] := toB_list [40]
    rw [e] at hS
    rw [take_one hS r40 (step_zero hS r40 hm)]
    obtain ⟨M, k1, k2⟩ := hA src _ (((s.at pos).add 1 (chB 40)).adv ((40 : Nat) : Int)) _ hS.next rfl
    refine ⟨{ (s.at pos).cu with kd := 1, tx := chB 40 } :: M, ?_, ?_⟩
    · rw [← snoc_more]
      exact k1
    · rw [List.map_cons, k2]
      rfl
  · obtain rfl : kd = 2 := h1
    obtain rfl : tx = chB 41 := h2
    have e : (tokB ⟨2, chB 41, po, ln, cl⟩).toList = [41] := toB_list [41]
    rw [e] at hS
    rw [take_one hS r41 (step_zero hS r41 hm)]
    obtain ⟨M, k1, k2⟩ := hA src _ (((s.at pos).add 2 (chB 41)).adv ((41 : Nat) : Int)) _ hS.next rfl
    refine ⟨{ (s.at pos).cu with kd := 2, tx := chB 41 } :: M, ?_, ?_⟩
    · rw [← snoc_more]
      exact k1
    · rw [List.map_cons, k2]
      rfl
  · obtain rfl : kd = 3 := h1
    have g4 : tx.toList = cat c := g4
    have e : (tokB ⟨3, tx, po, ln, cl⟩).toList = cat c := g4
    rw [e] at hS
    have hx : src.extract pos (pos + (cat c).length) = tx := bytes_inj (by rw [hS.ext, g4])
    have hn := hS.next
    match c, g2 with
    | (b, r) :: c, _ =>
      obtain ⟨q1, q2, q3⟩ := g1
      have hS' : Sat src pos (b ++ (cat c ++ shF (some 3) l)) := by rw [← List.append_assoc]; exact hS
      have hin : inW (r : Int) = true := q2
      obtain ⟨n1, n2, n3, n4, n5, n6⟩ := inW_ne hin
      have st : s.step src pos (r : Int) = ({ s.at pos with md := 1, ru := 1 }, 0, 0) := by
        rw [step_zero hS' q1 hm]
        unfold SC.begin
        rw [if_neg n2, if_neg n3, if_neg n4, if_neg n5, if_pos hin]
        rfl
      rw [take_one hS' q1 st, adv_ne _ n1]
      rw [word_run c (s := { ({ s.at pos with md := 1, ru := 1 } : SC) with cl := ({ s.at pos with md := 1, ru := 1 } : SC).cl + 1 }) q3 hS'.next rfl (by show (0 : Int) ≤ 1; decide) (by rw [List.length_cons] at g3; show (1 : Int) + (c.length : Int) ≤ 64; omega)]
      have hpl : pos + b.length + (cat c).length = pos + (cat ((b, r) :: c)).length := by
        show _ = pos + (b ++ cat c).length
        rw [List.length_append]
        omega
      rw [hpl]
      obtain ⟨M, k1, k2⟩ := hB src _ (⟨1, s.tk, ⟨0, emp, pos, s.ln, s.cl⟩, s.ct, 1 + c.length, s.ln, s.cl + 1 + c.length⟩ : SC) hn rfl
      refine ⟨M, k1, ?_⟩
      rw [k2]
      show (3, src.extract ((pos : Nat) : Int).toNat _) :: _ = (3, tx) :: _
      rw [← hx]
      rfl
  · obtain rfl : kd = 4 := h1
    have g2 : tx.toList = cat c := g2
    have e : (tokB ⟨4, tx, po, ln, cl⟩).toList = 34 :: (qL (cat c) ++ [34]) := by rw [← g2]; exact quote_list tx
    rw [e] at hS
    have hS0 : Sat src pos (34 :: (qL (cat c) ++ ([34] ++ shF (some 4) l))) := by
      have h9 := hS
      rw [List.cons_append, List.append_assoc] at h9
      exact h9
    rw [open_quote hS0 hm]
    have hS1 : Sat src (pos + 1) (qL (cat c) ++ ([34] ++ shF (some 4) l)) := Sat.next (b := [34]) hS0
    obtain ⟨ln1, cl1, e1⟩ := text_run c (s := { s with cu := ⟨0, emp, pos, s.ln, s.cl⟩, md := 2, ct := [], cl := s.cl + 1 }) g1 hS1 rfl
    rw [e1]
    have hS2 : Sat src (pos + 1 + (qL (cat c)).length) (34 :: shF (some 4) l) := hS1.next
    rw [close_quote hS2 rfl]
    have hS3 : Sat src (pos + 1 + (qL (cat c)).length + 1) (shF (some 4) l) := Sat.next (b := [34]) hS2
    obtain ⟨M, k1, k2⟩ := hA src _ ({ ((({ s with cu := ⟨0, emp, pos, s.ln, s.cl⟩, md := 2, ct := [], cl := s.cl + 1 } : SC).txt c ln1 cl1).add 4 (toB ((({ s with cu := ⟨0, emp, pos, s.ln, s.cl⟩, md := 2, ct := [], cl := s.cl + 1 } : SC).txt c ln1 cl1).ct))) with cl := ((({ s with cu := ⟨0, emp, pos, s.ln, s.cl⟩, md := 2, ct := [], cl := s.cl + 1 } : SC).txt c ln1 cl1).cl) + 1 }) _ hS3 rfl
    refine ⟨⟨4, toB ([] ++ cat c), pos, s.ln, s.cl⟩ :: M, ?_, ?_⟩
    · rw [← snoc_more]
      exact k1
    · rw [List.map_cons, k2]
      show (4, toB ([] ++ cat c)) :: _ = (4, tx) :: _
      rw [List.nil_append, ← g2, toB_of]
theorem sep_cases (p : Option Int) (t : Tk) : sepL p t = [] ∨ sepL p t = [32] := by
  unfold sepL
  split
  · split
    · exact .inr rfl
    · exact .inl rfl
  · exact .inl rfl
theorem reads_all : ∀ (l : List Tk), (∀ t ∈ l, TkOk t) → ReadsA l ∧ ReadsB l
  | [], _ => by
    refine ⟨fun src pos s p hS hm => ?_, fun src pos s hS hm => ?_⟩
    · have hl := hS.len
      rw [show shF p [] = [] from rfl, List.length_nil] at hl
      rw [scanAt_end (by omega)]
      refine ⟨[], ?_, rfl⟩
      unfold SC.fin
      rw [if_neg (by rw [hm]; decide), if_neg (by rw [hm]; decide), if_neg (by rw [hm]; decide), List.append_nil]
      rfl
    · have hl := hS.len
      rw [show shF (some 3) [] = [] from rfl, List.length_nil] at hl
      rw [scanAt_end (by omega)]
      unfold SC.fin
      rw [if_pos hm]
      refine ⟨[{ s.cu with kd := 3, tx := src.extract s.cu.po.toNat ((src.size : Nat) : Int).toNat }], rfl, ?_⟩
      show [(3, src.extract s.cu.po.toNat src.size)] = [(3, src.extract s.cu.po.toNat pos)]
      rw [hl]
      rfl
  | t :: l, h => by
    obtain ⟨hA, hB⟩ := reads_all l fun x hx => h x (List.mem_cons_of_mem _ hx)
    have ht := h t (List.mem_cons_self ..)
    have hT := reads_tok ht hA hB
    refine ⟨fun src pos s p hS hm => ?_, fun src pos s hS hm => ?_⟩
    · have hS' : Sat src pos (sepL p t ++ ((tokB t).toList ++ shF (some t.kd) l)) := hS
      rcases sep_cases p t with e | e
      · rw [e] at hS'
        exact hT src pos s hS' hm
      · rw [e] at hS'
        rw [take_one hS' r32 (step_zero hS' r32 hm)]
        exact hT src _ ((s.at pos).adv ((32 : Nat) : Int)) hS'.next hm
    · have hS' : Sat src pos (sepL (some 3) t ++ ((tokB t).toList ++ shF (some t.kd) l)) := hS
      by_cases h2 : t.kd = 2
      · rw [sep_two h2] at hS'
        obtain ⟨kd, tx, po, ln, cl⟩ := t
        obtain rfl : kd = 2 := h2
        obtain rfl : tx = chB 41 := by
          rcases ht with ⟨h1, _⟩ | ⟨_, h1⟩ | ⟨h1, _⟩ | ⟨h1, _⟩
          · exact absurd h1 (by show ¬ (2 : Int) = 1; decide)
          · exact h1
          · exact absurd h1 (by show ¬ (2 : Int) = 3; decide)
          · exact absurd h1 (by show ¬ (2 : Int) = 4; decide)
        have e : (tokB ⟨2, chB 41, po, ln, cl⟩).toList = [41] := toB_list [41]
        rw [e, List.nil_append] at hS'
        rw [take_one hS' r41 (step_word hS' r41 hm (by decide))]
        obtain ⟨M, k1, k2⟩ := hA src _ ((((s.endW src pos).at pos).add 2 (chB 41)).adv ((41 : Nat) : Int)) _ hS'.next rfl
        refine ⟨{ s.cu with kd := 3, tx := src.extract s.cu.po.toNat ((pos : Nat) : Int).toNat } :: { (s.at pos).cu with kd := 2, tx := chB 41 } :: M, ?_, ?_⟩
        · rw [← snoc_more, ← snoc_more]
          exact k1
        · rw [List.map_cons, List.map_cons, k2]
          rfl
      · rw [sep_yes (by decide) h2] at hS'
        rw [take_one hS' r32 (step_word hS' r32 hm (by decide))]
        obtain ⟨M, k1, k2⟩ := hT src _ (((s.endW src pos).at pos).adv ((32 : Nat) : Int)) hS'.next rfl
        refine ⟨{ s.cu with kd := 3, tx := src.extract s.cu.po.toNat ((pos : Nat) : Int).toNat } :: M, ?_, ?_⟩
        · rw [← snoc_more]
          exact k1
        · rw [List.map_cons, k2]
          rfl
/-- What is shown of right tokens. -/
theorem scan_show {l : List Tk} (h : ∀ t ∈ l, TkOk t) (hs : (shF none l).length ≤ 65536) : ∃ M, scanB (toB (shF none l)) = (M, 0, 0) ∧ l.map kt = M.map kt := by
  have hz : (toB (shF none l)).size ≤ 65536 := by rw [← toList_len, toB_list]; exact hs
  rw [scanB_at hz]
  have hS : Sat (toB (shF none l)) 0 (shF none l) := by
    have := Sat.start (toB (shF none l))
    rw [toB_list] at this
    exact this
  obtain ⟨M, k1, k2⟩ := (reads_all l h).1 _ 0 sc0 none hS rfl
  exact ⟨M, k1, k2.symm⟩
end Go.Proofs.Ytlndfognkkobaaa
