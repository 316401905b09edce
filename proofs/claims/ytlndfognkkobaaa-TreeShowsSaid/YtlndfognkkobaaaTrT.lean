/-
  Weights of what is read; how long what is shown is; what Parse of what is shown gives.
-/
import Derived.Test.YtlndfognkkobaaaTrR
namespace Go.Proofs.Ytlndfognkkobaaa
open Go.RowKit
set_option linter.unusedVariables false
set_option linter.unusedSimpArgs false

theorem flat_tx : ∀ (f : Fo), f.Good → ∀ y ∈ f.flat, y.tx = emp ∨ ∃ t ∈ toksF f, t.2 = y.tx
  | .nil, _, y, hy => by cases hy
  | .cons x k r, ⟨g1, g2, g3⟩, y, hy => by
    have hy : y ∈ x :: (k.flat ++ r.flat) := hy
    have inr : ∀ t ∈ toksF r, t ∈ toksF (.cons x k r) := fun t ht => List.mem_append_right _ ht
    rcases List.mem_cons.1 hy with rfl | hy
    · rcases g1 with ⟨_, g⟩ | ⟨g, rfl⟩
      · exact .inl g
      · have h5 : y.kd ≠ 5 := by rcases g with ⟨g, _⟩ | ⟨g, _⟩ <;> omega
        refine .inr ⟨(y.kd, y.tx), ?_, rfl⟩
        show _ ∈ (if y.kd = 5 then _ else [(y.kd, y.tx)]) ++ toksF r
        rw [if_neg h5]
        exact List.mem_cons_self ..
    rcases List.mem_append.1 hy with hy | hy
    · rcases g1 with ⟨g, _⟩ | ⟨_, rfl⟩
      · rcases flat_tx k g2 y hy with h | ⟨t, h1, h2⟩
        · exact .inl h
        · refine .inr ⟨t, ?_, h2⟩
          show t ∈ (if x.kd = 5 then (1, chB 40) :: (toksF k ++ [(2, chB 41)]) else _) ++ toksF r
          rw [if_pos g]
          simp [h1]
      · cases hy
    · rcases flat_tx r g3 y hy with h | ⟨t, h1, h2⟩
      · exact .inl h
      · exact .inr ⟨t, inr t h1, h2⟩
theorem flat_wt {f : Fo} {ts : List Tk} (hg : f.Good) (hK : ts.map kt = toksF f) : ∀ y ∈ f.flat, y.tx.size ≤ wt ts := fun y hy => by
  rcases flat_tx f hg y hy with h | ⟨t, h1, h2⟩
  · rw [h]; exact Nat.zero_le _
  · rw [← hK] at h1
    obtain ⟨z, hz, rfl⟩ := List.mem_map.1 h1
    rw [← h2]
    exact wt_mem hz
/-- How long what is shown of any nodes is. -/
theorem shown_any (N : Nat) : ∀ (f : Fo) (q : Bool), (∀ y ∈ f.flat, y.tx.size ≤ N) → (showL q f).length ≤ f.flat.length * (2 * N + 5) ∧ (topsL f).length ≤ f.flat.length * (2 * N + 5)
  | .nil, _, _ => ⟨Nat.zero_le _, Nat.zero_le _⟩
  | .cons x k r, q, h => by
    have h : ∀ y ∈ x :: (k.flat ++ r.flat), y.tx.size ≤ N := h
    obtain ⟨i1, _⟩ := shown_any N k false fun y hy => h y (List.mem_cons_of_mem _ (List.mem_append_left _ hy))
    obtain ⟨j1, j2⟩ := shown_any N r true fun y hy => h y (List.mem_cons_of_mem _ (List.mem_append_right _ hy))
    have hx := h x (List.mem_cons_self ..)
    have e : (Fo.cons x k r).flat.length = 1 + k.flat.length + r.flat.length := by
      show (x :: (k.flat ++ r.flat)).length = _
      rw [List.length_cons, List.length_append]
      omega
    rw [e, Nat.add_mul, Nat.add_mul, Nat.one_mul]
    obtain ⟨A, hA⟩ : ∃ A, k.flat.length * (2 * N + 5) = A := ⟨_, rfl⟩
    obtain ⟨B, hB⟩ : ∃ B, r.flat.length * (2 * N + 5) = B := ⟨_, rfl⟩
    rw [hA] at i1 ⊢
    rw [hB] at j1 j2 ⊢
    have ht : (showT x (showL false k)).length ≤ A + 2 * N + 3 := by
      unfold showT
      split
      · rw [toList_len]; omega
      split
      · have := quote_size x.tx; rw [toList_len]; omega
      split
      · rw [List.length_cons, List.length_append]; show _ + 1 + 1 ≤ _; omega
      · exact Nat.zero_le _
    refine ⟨?_, ?_⟩
    · show ((if q then [32] else []) ++ (showT x (showL false k) ++ showL true r)).length ≤ _
      rw [List.length_append, List.length_append]
      have : (if q = true then ([32] : List UInt8) else []).length ≤ 1 := by cases q <;> decide
      omega
    · show (showT x (showL false k) ++ (10 :: topsL r)).length ≤ _
      rw [List.length_append, List.length_cons]
      omega
theorem check_zero {f : Fo} (hg : f.Good) (hw : f.Wf) (hp : f.Pos) (hd : f.deep ≤ 20) (hl : f.flat.length ≤ 4000) : checkI f.flat f [] = 0 := by
  unfold checkI
  rw [if_pos ⟨by rw [decide_eq_true hl, right_of f 1 hg hw hp (by omega)]; rfl, rfl⟩]
theorem check_good {l : List Nd} {f : Fo} {rest : List Nd} (hw : f.Wf) (h : checkI l f rest = 0) : l.length ≤ 4000 ∧ rest = [] ∧ f.Good ∧ f.Pos ∧ f.deep ≤ 20 := by
  unfold checkI at h
  split at h
  · rename_i h1
    obtain ⟨h1, h2⟩ := h1
    rw [Bool.and_eq_true, decide_eq_true_iff] at h1
    obtain ⟨h3, h4, h5⟩ := good_of f 1 hw h1.2
    exact ⟨h1.1, h2, h3, h4, by omega⟩
  · cases h
/-- What is shown of a right forest is read as it. -/
theorem parse_show {f : Fo} (hg : f.Good) (hw : f.Wf) (hd : f.deep ≤ 20) (hl : f.flat.length ≤ 4000) (hs : (topsL f).length ≤ 65536) : ∃ m, parseB (toB (topsL f)) = (m, 0, 0) ∧ m.map nk = f.flat.map nk := by
  obtain ⟨M, h1, h2⟩ := scan_tops hg hs
  exact parse_of h1 h2 hg hw hd hl
/-- How many trees. -/
theorem fin_add : ∀ (l : List Nd) (n k : Nat), fin l (n + k) = (fin l n).bind fun r => fin r k
  | l, 0, k => by rw [Nat.zero_add, fin_zero]; rfl
  | [], n + 1, k => by rw [show n + 1 + k = (n + k) + 1 by omega]; rfl
  | x :: l, n + 1, k => by
    rw [show n + 1 + k = (n + k) + 1 by omega, fin_cons, fin_cons]
    split
    · rw [show n + k + x.ki.toNat = n + x.ki.toNat + k by omega]
      exact fin_add l _ k
    · rfl
theorem fin_nk : ∀ (l m : List Nd) (n : Nat), l.map nk = m.map nk → (fin l n = some [] ↔ fin m n = some [])
  | [], [], n, _ => Iff.rfl
  | [], y :: m, _, h => by cases h
  | x :: l, [], _, h => by cases h
  | x :: l, y :: m, 0, _ => by rw [fin_zero, fin_zero]; exact ⟨fun h => (by cases h), fun h => (by cases h)⟩
  | x :: l, y :: m, n + 1, h => by
    rw [List.map_cons, List.map_cons] at h
    injection h with h1 h2
    have h3 : x.ki = y.ki := congrArg (fun z => z.2.2) h1
    rw [fin_cons, fin_cons, h3]
    split
    · exact fin_nk l m _ h2
    · exact Iff.rfl
theorem fin_one {l : List Nd} {n m : Nat} (h1 : fin l n = some []) (h2 : fin l m = some []) : n = m := by
  have key : ∀ (n m : Nat), n < m → fin l n = some [] → fin l m = some [] → False := fun n m hlt h1 h2 => by
    rw [show m = n + ((m - n - 1) + 1) by omega, fin_add, h1] at h2
    have h2 : fin [] (m - n - 1 + 1) = some [] := h2
    rw [fin_nil] at h2
    cases h2
  rcases Nat.lt_trichotomy n m with h | h | h
  · exact (key n m h h1 h2).elim
  · exact h
  · exact (key m n h h2 h1).elim
theorem len_one {f g : Fo} (hf : f.Wf) (hg : g.Wf) (h : f.flat.map nk = g.flat.map nk) : f.len = g.len := by
  have h1 : Go.Proofs.Ytlndfognkkobaaa.fin f.flat f.len = some [] := by have := Fo.fin f 0 [] hf; rw [List.append_nil] at this; exact this.trans (fin_zero _)
  have h2 : Go.Proofs.Ytlndfognkkobaaa.fin g.flat g.len = some [] := by have := Fo.fin g 0 [] hg; rw [List.append_nil] at this; exact this.trans (fin_zero _)
  exact fin_one ((fin_nk _ _ _ h).1 h1) h2
end Go.Proofs.Ytlndfognkkobaaa
