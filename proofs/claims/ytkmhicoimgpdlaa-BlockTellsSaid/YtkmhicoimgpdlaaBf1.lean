/-
  Budgets in plain words: pods stopped one after the other where names stand once.
-/
import Derived.Test.YtkmhicoimgpdlaaBk9
namespace Go.Proofs.Ytkmhicoimgpdlaa
open Go.RowKit
set_option linter.unusedVariables false
set_option linter.unusedSimpArgs false

/-- Names that stand once. -/
abbrev OnceN (bs : List Bd) : Prop := bs.Pairwise fun a b => a.p.nm ≠ b.p.nm
theorem once_of {bs : List Bd} (h : twiceN (bs.map pnm) = false) : OnceN bs := by
  show bs.Pairwise _
  rw [List.pairwise_iff_getElem]
  intro i j hi hj hij e
  have h1 := find_once h (i := i) (x := bs[i].p.nm) (by rw [List.getElem?_map, List.getElem?_eq_getElem hi]; rfl)
  have h2 := find_once h (i := j) (x := bs[j].p.nm) (by rw [List.getElem?_map, List.getElem?_eq_getElem hj]; rfl)
  rw [← e, h1] at h2
  omega
theorem stQ_iff (nm : ByteArray) (r : Bool) (b : Bd) : stQ nm r b = true ↔ b.p.nm = nm ∧ (r = true ↔ b.on ≠ emp) := by
  unfold stQ stB runB
  by_cases h : b.on = emp <;> cases r <;> simp [h]
theorem check_pods {ms : List Mac} {bs : List Bd} (h : checkY ms bs = 0) : (∀ b ∈ bs, rightP b.p = true) ∧ twiceN (bs.map pnm) = false := by
  unfold checkY at h
  split at h
  · omega
  · split at h
    · omega
    · rename_i h2
      split at h
      · omega
      · rename_i h3
        have h2' : ms.all okM = true ∧ bs.all okBd = true := Decidable.not_not.1 h2
        refine ⟨fun b hb => List.all_eq_true.1 h2'.2 b hb, ?_⟩
        cases ht : twiceN (bs.map pnm)
        · rfl
        · exact absurd (.inr ht) h3
theorem findN_none : ∀ (l : List ByteArray) (x : ByteArray) (k : Nat), x ∉ l → findN l x k = -1
  | [], x, k, _ => rfl
  | y :: l, x, k, h => by
    unfold findN
    rw [if_neg (fun e => h (by rw [e]; exact List.mem_cons_self)), findN_none l x (k + 1) fun hm => h (List.mem_cons_of_mem _ hm)]
/-- Where a name stands, and whether its pod runs: three cases. -/
theorem place_cases {l : List Bg} {bs : List Bd} (h : twiceN (bs.map pnm) = false) (nm : ByteArray) :
    (findN (bs.map pnm) nm 0 = -1 ∧ mayE l bs nm = 16) ∨ ∃ (k : Nat) (x : Bd), bs[k]? = some x ∧ findN (bs.map pnm) nm 0 = k ∧ ((x.on = emp ∧ mayE l bs nm = 22) ∨ (¬ x.on = emp ∧ (bs.take k).any (stQ nm true) = false ∧ stQ nm true x = true ∧ mayE l bs nm = if l.any (minQ bs x.p) = true then 20 else 0)) := by
  unfold mayE
  rcases idx_find (stQ nm true) bs with ⟨e1, e2⟩ | ⟨k, x, e1, e2, e3, e4⟩
  · rw [e1]
    rcases idx_find (stQ nm false) bs with ⟨g1, g2⟩ | ⟨k, x, g1, g2, g3, g4⟩
    · refine .inl ⟨findN_none _ _ _ fun hm => ?_, by rw [g2]; rfl⟩
      obtain ⟨x, hx, e⟩ := List.mem_map.1 hm
      rw [List.any_eq_false] at e2 g2
      by_cases ho : x.on = emp
      · exact g2 x hx ((stQ_iff _ _ _).2 ⟨e, by simp [ho]⟩)
      · exact e2 x hx ((stQ_iff _ _ _).2 ⟨e, by simp [ho]⟩)
    · have g5 := (stQ_iff _ _ _).1 g3
      refine .inr ⟨k, x, g1, find_once h (by rw [List.getElem?_map, g1]; exact congrArg some g5.1), .inl ⟨?_, if_pos (List.any_eq_true.2 ⟨x, List.mem_of_getElem? g1, g3⟩)⟩⟩
      have := g5.2
      simpa using this
  · rw [e4]
    have e5 := (stQ_iff _ _ _).1 e3
    refine .inr ⟨k, x, e1, find_once h (by rw [List.getElem?_map, e1]; exact congrArg some e5.1), .inr ⟨?_, e2, e3, rfl⟩⟩
    have := e5.2
    simpa using this
theorem ev_pods (nm : ByteArray) : ∀ (bs : List Bd), (evBs nm bs).map Bd.p = bs.map Bd.p
  | [] => rfl
  | b :: bs => by
    unfold evBs
    split
    · rfl
    · rw [List.map_cons, List.map_cons, ev_pods nm bs]
theorem ev_names (nm : ByteArray) (bs : List Bd) : (evBs nm bs).map pnm = bs.map pnm := by
  have h := congrArg (List.map Pd.nm) (ev_pods nm bs)
  rw [List.map_map, List.map_map] at h
  exact h
theorem ev_run (nm : ByteArray) : ∀ {bs : List Bd}, OnceN bs → ∀ x ∈ evBs nm bs, x.on ≠ emp → x ∈ bs ∧ x.p.nm ≠ nm
  | [], _, x, h, _ => by cases h
  | b :: bs, ho, x, h, hx => by
    obtain ⟨h1, h2⟩ := List.pairwise_cons.1 ho
    unfold evBs at h
    split at h
    · rename_i hs
      have hn := ((stQ_iff _ _ _).1 hs).1
      rcases List.mem_cons.1 h with rfl | h
      · exact absurd rfl hx
      · exact ⟨List.mem_cons_of_mem _ h, fun e => h1 x h (hn.trans e.symm)⟩
    · rename_i hs
      rcases List.mem_cons.1 h with rfl | h
      · exact ⟨List.mem_cons_self, fun e => hs ((stQ_iff _ _ _).2 ⟨e, by simpa using hx⟩)⟩
      · have ih := ev_run nm h2 x h hx
        exact ⟨List.mem_cons_of_mem _ ih.1, ih.2⟩
theorem ev_once (nm : ByteArray) {bs : List Bd} (h : OnceN bs) : OnceN (evBs nm bs) := by
  have h1 : (bs.map Bd.p).Pairwise fun a b => a.nm ≠ b.nm := List.pairwise_map.2 h
  rw [← ev_pods nm bs] at h1
  exact (List.pairwise_map (f := Bd.p) (R := fun a b : Pd => a.nm ≠ b.nm)).1 h1
/-- The pods with some of them pending. -/
def evL : List Bd → List Pd → List Bd
  | bs, [] => bs
  | bs, p :: L => evL (evBs p.nm bs) L
theorem evL_next : ∀ (bs : List Bd) (L : List Pd) (k : Nat) (p : Pd), L[k]? = some p → evL bs (L.take (k + 1)) = evBs p.nm (evL bs (L.take k))
  | bs, [], k, p, h => by simp at h
  | bs, q :: L, 0, p, h => by
    obtain rfl : q = p := by simpa using h
    rfl
  | bs, q :: L, k + 1, p, h => by
    rw [List.take_succ_cons, List.take_succ_cons]
    exact evL_next (evBs q.nm bs) L k p (by simpa using h)
theorem evL_run : ∀ {L : List Pd} {bs : List Bd}, OnceN bs → ∀ x ∈ evL bs L, x.on ≠ emp → x ∈ bs ∧ ∀ p ∈ L, x.p.nm ≠ p.nm
  | [], bs, _, x, h, _ => ⟨h, fun p hp => by cases hp⟩
  | q :: L, bs, ho, x, h, hx => by
    have ih := evL_run (L := L) (ev_once q.nm ho) x h hx
    have h9 := ev_run q.nm ho x ih.1 hx
    refine ⟨h9.1, fun p hp => ?_⟩
    rcases List.mem_cons.1 hp with rfl | hp
    · exact h9.2
    · exact ih.2 p hp
/-- Behind all of them nothing would have to move. -/
theorem mov_free {bs : List Bd} (ho : OnceN bs) (nm : ByteArray) : movL (evL bs (movL bs nm)) nm = [] := by
  by_cases hn : nm = emp
  · unfold movL
    rw [if_pos hn]
  · have key : ∀ x ∈ evL bs (movL bs nm), x.on = nm → isMov x.p = true → False := by
      intro x hx e hm
      have h9 := evL_run ho x hx (by rw [e]; exact hn)
      refine h9.2 x.p ?_ rfl
      unfold movL onL
      rw [if_neg hn]
      exact List.mem_filter.2 ⟨List.mem_map.2 ⟨x, List.mem_filter.2 ⟨h9.1, decide_eq_true e⟩, rfl⟩, hm⟩
    obtain ⟨B, hB⟩ : ∃ B, evL bs (movL bs nm) = B := ⟨_, rfl⟩
    rw [hB] at key ⊢
    unfold movL onL
    rw [if_neg hn, List.filter_eq_nil_iff]
    intro p hp hm
    obtain ⟨x, hx, rfl⟩ := List.mem_map.1 hp
    obtain ⟨h1, h2⟩ := List.mem_filter.1 hx
    exact key x h1 (of_decide_eq_true h2) hm
theorem cov_pend (b : Bg) (p : Pd) : covB b ⟨p, emp⟩ = false := by
  unfold covB runB
  simp
theorem ev_count (b : Bg) (nm : ByteArray) : ∀ (bs : List Bd) (x : Bd), bs.find? (stQ nm true) = some x → (bs.filter (covB b)).length = ((evBs nm bs).filter (covB b)).length + if covB b x = true then 1 else 0
  | [], x, h => by cases h
  | y :: bs, x, h => by
    unfold evBs
    by_cases hs : stQ nm true y = true
    · rw [List.find?_cons_of_pos hs] at h
      obtain rfl : y = x := by injection h
      rw [if_pos hs, List.filter_cons, List.filter_cons, cov_pend]
      by_cases hc : covB b y = true
      · rw [if_pos hc, if_pos hc]; rfl
      · rw [if_neg hc, if_neg hc]; rfl
    · rw [List.find?_cons_of_neg hs] at h
      have ih := ev_count b nm bs x h
      rw [if_neg hs, List.filter_cons, List.filter_cons]
      by_cases hc : covB b y = true
      · rw [if_pos hc, if_pos hc, List.length_cons, List.length_cons]; omega
      · rw [if_neg hc, if_neg hc]; exact ih
theorem spare_ev {l : List Bg} {b : Bg} (hb : b ∈ l) {bs : List Bd} {nm : ByteArray} (hm : mayE l bs nm = 0) (h0 : 0 ≤ spareB b bs) : 0 ≤ spareB b (evBs nm bs) := by
  unfold mayE at hm
  split at hm
  · split at hm <;> omega
  · rename_i x hx
    have hc := ev_count b nm bs x hx
    split at hm
    · omega
    · rename_i hq
      have hq2 : minQ bs x.p b = false := by
        have h9 : l.any (minQ bs x.p) = false := by simpa using hq
        rw [List.any_eq_false] at h9
        have := h9 b hb
        simpa using this
      unfold spareB at h0 ⊢
      by_cases hv : covB b x = true
      · rw [if_pos hv] at hc
        have hh : Lb.hasP x.p.labs b.mt = true := by unfold covB at hv; rw [Bool.and_eq_true] at hv; exact hv.2
        unfold minQ at hq2
        rw [hh, Bool.true_and, decide_eq_false_iff_not] at hq2
        unfold spareB at hq2
        omega
      · rw [if_neg hv] at hc
        omega
theorem spare_evL {l : List Bg} {b : Bg} (hb : b ∈ l) : ∀ {L : List Pd} {bs : List Bd}, evA l bs L = (emp, 0) → 0 ≤ spareB b bs → 0 ≤ spareB b (evL bs L)
  | [], bs, _, h => h
  | p :: L, bs, h, h0 => by
    by_cases he : mayE l bs p.nm = 0
    · have e : evA l bs (p :: L) = evA l (evBs p.nm bs) L := if_pos he
      rw [e] at h
      exact spare_evL (L := L) hb h (spare_ev hb he h0)
    · have e : evA l bs (p :: L) = (p.nm, mayE l bs p.nm) := if_neg he
      rw [e] at h
      injection h with h1 h2
      exact absurd h2 he
theorem evA_may {l : List Bg} {bs : List Bd} {p : Pd} {L : List Pd} (h : evA l bs (p :: L) = (emp, 0)) : mayE l bs p.nm = 0 ∧ evA l (evBs p.nm bs) L = (emp, 0) := by
  by_cases he : mayE l bs p.nm = 0
  · have e : evA l bs (p :: L) = evA l (evBs p.nm bs) L := if_pos he
    exact ⟨he, e ▸ h⟩
  · have e : evA l bs (p :: L) = (p.nm, mayE l bs p.nm) := if_neg he
    rw [e] at h
    injection h with h1 h2
    exact absurd h2 he
theorem mov_day {bs : List Bd} {nm : ByteArray} : ∀ p ∈ movL bs nm, p.dm = false := by
  intro p hp
  unfold movL at hp
  split at hp
  · cases hp
  · have := (List.mem_filter.1 hp).2
    unfold isMov at this
    simpa using this
theorem blk_free {L : List Pd} (h : blkE L = 0) : ∀ p ∈ L, blkB p = false := by
  unfold blkE at h
  split at h
  · rename_i h9
    intro p hp
    have := List.find?_eq_none.1 h9 p hp
    simpa using this
  · omega
theorem why_free {l : List Bg} {bs : List Bd} {nm : ByteArray} (h : (whyB l bs nm).2 = 0) : blkE (movL bs nm) = 0 ∧ evA l bs (movL bs nm) = (emp, 0) := by
  unfold whyB at h
  by_cases h0 : blkE (movL bs nm) = 0
  · rw [if_pos h0] at h
    exact ⟨h0, evA_ok l bs _ h⟩
  · rw [if_neg h0] at h
    exact absurd h h0
theorem why_none {l : List Bg} {bs : List Bd} {nm : ByteArray} (h : movL bs nm = []) : whyB l bs nm = (emp, 0) := by
  unfold whyB
  rw [h]
  rfl
end Go.Proofs.Ytkmhicoimgpdlaa
