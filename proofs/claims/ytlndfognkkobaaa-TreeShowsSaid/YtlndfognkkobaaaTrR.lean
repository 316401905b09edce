/-
  Places of tokens; what Parse gives, in plain words.
-/
import Derived.Test.YtlndfognkkobaaaTrN
import Derived.Test.YtlndfognkkobaaaLexZ
import Derived.Test.YtlndfognkkobaaaLexR
namespace Go.Proofs.Ytlndfognkkobaaa
open Go.RowKit
set_option linter.unusedVariables false
set_option linter.unusedSimpArgs false

def In0 (N : Nat) (p : Int) : Prop := 0 ≤ p ∧ p ≤ N
def PoOk (N : Nat) (s : SC) : Prop := In0 N s.cu.po ∧ ∀ t ∈ s.tk, In0 N t.po
theorem PoOk.add {N : Nat} {s : SC} (h : PoOk N s) (k : Int) (x : ByteArray) : PoOk N (s.add k x) := by
  refine ⟨h.1, fun t ht => ?_⟩
  rcases List.mem_append.1 ht with ht | ht
  · exact h.2 t ht
  · rw [List.mem_singleton.1 ht]
    exact h.1
theorem PoOk.adv {N : Nat} {s : SC} (h : PoOk N s) (r : Int) : PoOk N (s.adv r) := by
  obtain ⟨e1, e2, e3, e4, e5⟩ := adv_same s r
  exact ⟨by rw [e3]; exact h.1, by rw [e2]; exact h.2⟩
theorem PoOk.begin {N : Nat} {s : SC} (h : PoOk N s) {i : Nat} (hi : i ≤ N) (r : Int) : PoOk N (s.begin i r).1 := by
  have ha : PoOk N (s.at i) := ⟨⟨Int.natCast_nonneg i, Int.ofNat_le.2 hi⟩, h.2⟩
  unfold SC.begin
  split
  · exact ha.add _ _
  split
  · exact ha.add _ _
  split
  · exact ha
  split
  · exact ha
  split
  · unfold SC.grow
    split <;> exact ha
  split <;> exact ha
theorem PoOk.step {N : Nat} {s : SC} {src : ByteArray} (h : PoOk N s) {i : Nat} (hi : i ≤ N) (r : Int) : PoOk N (s.step src i r).1 := by
  unfold SC.step
  split
  · unfold SC.esc
    split
    · exact h
    split
    · exact h
    split <;> exact h
  split
  · exact h
  split
  · split <;> exact h
  split
  · unfold SC.inside
    split
    · exact h.add _ _
    split
    · exact h
    split <;> exact h
  split
  · split
    · unfold SC.grow
      split <;> exact h
    · exact (show PoOk N (s.endW src i) from h.add _ _).begin hi r
  · exact h.begin hi r
theorem endR_po {N : Nat} {s : SC} (h : PoOk N s) (src : ByteArray) : ∀ t ∈ (endR (s.fin src)).1, In0 N t.po := by
  unfold SC.fin
  split
  · exact (show PoOk N (s.endW src src.size) from h.add _ _).2
  split
  · exact fun t ht => by cases ht
  split
  · exact fun t ht => by cases ht
  · exact h.2
theorem scanF_po (src : ByteArray) : ∀ (f pos : Nat) (s : SC), PoOk src.size s → ∀ t ∈ (scanF src f pos s).1, In0 src.size t.po
  | 0, pos, s, h => endR_po h src
  | f + 1, pos, s, h => by
    rw [scanF_succ]
    by_cases hlt : pos < src.size
    · rw [if_pos hlt]
      split
      · exact scanF_po src f _ _ ((h.step (Nat.le_of_lt hlt) _).adv _)
      · exact fun t ht => by cases ht
    · rw [if_neg hlt]
      exact endR_po h src
theorem scanB_po {src : ByteArray} : ∀ t ∈ (scanB src).1, In0 src.size t.po := by
  unfold scanB
  split
  · exact fun t ht => by cases ht
  · exact scanF_po src _ 0 sc0 ⟨⟨Int.le_refl _, Int.natCast_nonneg _⟩, fun t ht => by cases ht⟩
/-- What is wrong, and where. -/
theorem prun_err {N : Nat} : ∀ (ts : List Tk) (l : List Nd) (op : List Nat), (∀ t ∈ ts, In0 N t.po) → (∀ y ∈ l, In0 N y.po) → ((prun ts l op).2.1 = 0 ∧ (prun ts l op).2.2 = 0) ∨ ((prun ts l op).2.1 ≠ 0 ∧ (prun ts l op).1 = [] ∧ In0 N (prun ts l op).2.2)
  | [], l, op, _, hl => by
    unfold prun
    split
    · refine .inr ⟨(by show ¬ (5 : Int) = 0; decide), rfl, ?_⟩
      dsimp only
      split
      · rename_i x hx
        exact hl x (List.mem_of_getElem? hx)
      · exact ⟨Int.le_refl _, Int.natCast_nonneg _⟩
    · exact .inl ⟨rfl, rfl⟩
  | t :: ts, l, op, ht, hl => by
    have ht0 := ht t (List.mem_cons_self ..)
    have htt : ∀ x ∈ ts, In0 N x.po := fun x hx => ht x (List.mem_cons_of_mem _ hx)
    rw [prunC]
    by_cases k2 : t.kd = 2
    · by_cases ho : op = []
      · subst ho
        have e : pstep t l [] = (l, [], 6, t.po) := by unfold pstep; rw [if_pos k2, if_pos rfl]
        rw [e, if_neg (by show ¬ (6 : Int) = 0; decide)]
        exact .inr ⟨(by show ¬ (6 : Int) = 0; decide), rfl, ht0⟩
      · have e : pstep t l op = (l, op.dropLast, 0, 0) := by unfold pstep; rw [if_pos k2, if_neg ho]
        rw [e, if_pos rfl]
        exact prun_err ts l op.dropLast htt hl
    · by_cases hb : l.length = 4000 ∨ (t.kd = 1 ∧ op.length = 20)
      · rw [pstep_full k2 hb, if_neg (by show ¬ (7 : Int) = 0; decide)]
        exact .inr ⟨(by show ¬ (7 : Int) = 0; decide), rfl, ht0⟩
      · rw [pstep_add k2 (fun e => hb (.inl e)) (fun e => hb (.inr e)), if_pos rfl]
        refine prun_err ts _ _ htt fun y hy => ?_
        rcases List.mem_append.1 hy with hy | hy
        · have : ∀ (m : List Nd) (i : Nat) (n : Int), (∀ y ∈ m, In0 N y.po) → ∀ y ∈ raiseK m i n, In0 N y.po := fun m i n hm y hy => by
            unfold raiseK at hy
            split at hy
            · rename_i x hx
              rcases List.mem_or_eq_of_mem_set hy with hy | rfl
              · exact hm y hy
              · exact hm x (List.mem_of_getElem? hx)
            · exact hm y hy
          unfold raisedK at hy
          split at hy
          · exact this _ _ _ hl y hy
          · exact hl y hy
        · rw [List.mem_singleton.1 hy]
          unfold ndOf
          split <;> exact ht0
theorem parse_err {s : ByteArray} (hs : s.size ≤ 65536) : ((parseB s).2.1 = 0 ∧ (parseB s).2.2 = 0) ∨ ((parseB s).2.1 ≠ 0 ∧ (parseB s).1 = [] ∧ In0 s.size (parseB s).2.2) := by
  have h1 := (scanB_inv hs).2.2
  have h2 := scanB_po (src := s)
  unfold parseB
  dsimp only
  split
  · exact prun_err _ _ _ h2 fun y hy => by cases hy
  · rename_i he
    obtain ⟨_, h4, h5⟩ := h1 he
    exact .inr ⟨he, rfl, h4, h5⟩
theorem parse_ok {s : ByteArray} (hs : s.size ≤ 65536) (h : (parseB s).2.1 = 0) : ∃ (f : Fo) (ts : List Tk), scanB s = (ts, 0, 0) ∧ parseB s = (f.flat, 0, 0) ∧ f.Good ∧ f.Wf ∧ f.Pos ∧ f.deep ≤ 20 ∧ f.flat.length ≤ 4000 ∧ ts.map kt = toksF f := by
  have h1 := (scanB_inv hs).1
  have h2 := scanB_po (src := s)
  have h3 := (scanB_facts hs).2
  have hP : parseB s = if (scanB s).2.1 = 0 then prun (scanB s).1 [] [] else ([], (scanB s).2.1, (scanB s).2.2) := rfl
  obtain ⟨⟨ts, er, pe⟩, hq⟩ : ∃ q, scanB s = q := ⟨_, rfl⟩
  rw [hq] at h1 h2 h3 hP
  by_cases he : er = 0
  · subst he
    obtain rfl : pe = 0 := h3 rfl
    have hP : parseB s = prun ts [] [] := hP
    rw [hP] at h ⊢
    obtain ⟨t1, t2, f, i1, i2, i3, i4, i5, i6, i7, i8, i9⟩ := run_read ts.length ts [] [] (Nat.le_refl _) (fun t ht => ⟨h1 t ht, (h2 t ht).1⟩) (fun i hi => by cases hi) (Nat.zero_le _) (Nat.zero_le _) h
    have e0 : raisedK [] [] ((f.len : Nat) : Int) ++ f.flat = f.flat := rfl
    rw [e0] at i8
    rcases i9 with rfl | ⟨c, t3, rfl, hc⟩
    · rw [List.append_nil] at i1
      subst i1
      refine ⟨f, ts, hq, by rw [i8]; rfl, i3, i4, i5, ?_, ?_, i2⟩
      · have i6 : 0 + f.deep ≤ 20 := i6
        omega
      · have i7 : 0 + f.flat.length ≤ 4000 := i7
        omega
    · exfalso
      rw [i8, prunC] at h
      have e : pstep c f.flat [] = (f.flat, [], 6, c.po) := by unfold pstep; rw [if_pos hc, if_pos rfl]
      rw [e, if_neg (by show ¬ (6 : Int) = 0; decide)] at h
      exact absurd h (by show ¬ (6 : Int) = 0; decide)
  · exfalso
    rw [hP] at h
    rw [if_neg he] at h
    exact he h
/-- What is read of tokens that are a forest's. -/
theorem parse_of {s : ByteArray} {M : List Tk} {f : Fo} (hM : scanB s = (M, 0, 0)) (hK : M.map kt = toksF f) (hg : f.Good) (hw : f.Wf) (hd : f.deep ≤ 20) (hl : f.flat.length ≤ 4000) : ∃ m, parseB s = (m, 0, 0) ∧ m.map nk = f.flat.map nk := by
  obtain ⟨m, h1, h2⟩ := run_forest f M [] [] [] hg hw hK (by show 0 + _ ≤ 20; omega) (by show 0 + _ ≤ 4000; omega) (fun i hi => by cases hi)
  refine ⟨m, ?_, h1⟩
  unfold parseB
  rw [hM]
  show prun M [] [] = _
  rw [List.append_nil] at h2
  rw [h2]
  rfl
theorem toks_app : ∀ (f g : Fo), toksF (f.app g) = toksF f ++ toksF g
  | .nil, g => rfl
  | .cons x k r, g => by
    show _ ++ toksF (r.app g) = (_ ++ toksF r) ++ toksF g
    rw [toks_app r g, List.append_assoc]
theorem deep_app : ∀ (f g : Fo), (f.app g).deep = max f.deep g.deep
  | .nil, g => by show g.deep = max 0 g.deep; omega
  | .cons x k r, g => by
    show max _ (r.app g).deep = max (max _ r.deep) g.deep
    rw [deep_app r g]
    omega
theorem good_app : ∀ {f g : Fo}, f.Good → g.Good → (f.app g).Good
  | .nil, _, _, h => h
  | .cons _ _ _, _, ⟨h1, h2, h3⟩, h => ⟨h1, h2, good_app h3 h⟩
/-- A forest has no more nodes than tokens. -/
theorem flat_toks : ∀ (f : Fo), f.Good → f.flat.length ≤ (toksF f).length
  | .nil, _ => Nat.le_refl _
  | .cons x k r, ⟨g1, g2, g3⟩ => by
    have h1 := flat_toks k g2
    have h2 := flat_toks r g3
    show (x :: (k.flat ++ r.flat)).length ≤ ((if x.kd = 5 then (1, chB 40) :: (toksF k ++ [(2, chB 41)]) else [(x.kd, x.tx)]) ++ toksF r).length
    split
    · simp only [List.length_cons, List.length_append, List.length_nil]
      omega
    · rename_i h
      rcases g1 with ⟨g, _⟩ | ⟨_, rfl⟩
      · exact absurd g h
      · show ([] ++ r.flat).length + 1 ≤ (toksF r).length + 1
        rw [List.nil_append]
        omega
end Go.Proofs.Ytlndfognkkobaaa
