/-
  Regions whose last operations stand behind all others, but for parts of tuples that may be taken late: 'x, y := f()' where x lies in memory.
-/
import Derived.Test.YtmkdfcggjlhcpaaMA
namespace Go.Proofs.Ytmkdfcggjlhcpaa
open Go.RowKit
set_option linter.unusedVariables false
set_option linter.unusedSimpArgs false

/-- The operation takes a part of a tuple, or hands a value on. -/
def partB (o : Oper) : Bool := match o.op with
  | .extract _ _ => true
  | .move _ => true
  | _ => false
def lateB (l : List Oper) (m : Nat) (ps : List Nat) : Bool :=
  decide (m ≤ l.length) && (ps.all fun p => decide (p < m) && (match l[p]? with | some o => partB o | none => false) && Region.free .any l.toArray ((List.range l.length).map fun j => ((masks l []).getD p 0).testBit j).toArray p) &&
  (List.range l.length).all fun i => decide (i < m) || (List.range i).all fun j => ((masks l []).getD i 0).testBit j ||
    (ps.contains j && match l[j]? with | some oj => oj.after.toList.all fun e => !Region.binds .any e || ((masks l []).getD i 0).testBit e.on | none => false)

/-- What is not listed when the operation may come up stands apart from it. -/
def FreeAt (ops : Array Oper) (p : Nat) : Prop := ∀ (L : Nat → Prop) (o : Oper), Closed ops L → ops[p]? = some o → (∀ e ∈ o.after, Region.binds .any e = true → L e.on) →
  ∀ j oj, ops[j]? = some oj → j ≠ p → ¬ L j → (∀ e ∈ oj.after, Region.binds .any e = true → e.on ≠ p) → o.apart ops oj = true

section
variable {P : Program} {ops : Array Oper} {W : World}

theorem part_op {o : Oper} (hp : partB o = true) : (∃ x, o.op = .move x) ∨ ∃ t ix, o.op = .extract t ix := by
  unfold partB at hp
  cases ho : o.op <;> rw [ho] at hp <;> first | exact absurd hp Bool.false_ne_true | exact .inl ⟨_, rfl⟩ | exact .inr ⟨_, _, rfl⟩
theorem move_run {o : Oper} {x : Operand} (ho : o.op = .move x) (a : Act) (w : World) : (execOp a.eval o).run P w = .ok (.value (a.eval x)) w := by
  unfold execOp
  rw [ho]
  rfl
theorem part_run {o : Oper} {t : Operand} {ix : Nat} (ho : o.op = .extract t ix) (a : Act) : (∃ v, ∀ w : World, (execOp a.eval o).run P w = .ok (.value v) w) ∨ ∀ (R : Value → World → Prop) (w : World), ¬ relUpon P R w ((execOp a.eval o).run P w) := by
  have e : execOp a.eval o = (do pure (.value (← Instr.extract (a.eval t) ix)) : Sem Next) := by
    unfold execOp
    rw [ho]
  rw [e]
  cases hx : a.eval t with
  | tuple vs =>
    cases hv : vs[ix]? with
    | some v => exact .inl ⟨v, fun w => by simp [Instr.extract, hv]⟩
    | none => exact .inr fun R w h => by simp [Instr.extract, hv, relUpon, stuck] at h
  | _ => exact .inr fun R w h => by simp [Instr.extract, relUpon, stuck] at h
theorem part_yields {o : Oper} (hp : partB o = true) {a : Act} {w : World} {R : Value → World → Prop} (h : relAt P ops o a w R) : ∃ v, Yields P ops o v a ∧ R v w := by
  unfold relAt at h
  unfold Yields
  by_cases hw : Region.wanted o (yielded ops a.tmps) = true
  · rw [if_pos hw] at h
    rcases part_op hp with ⟨x, ho⟩ | ⟨t, ix, ho⟩
    · rw [move_run ho a w] at h
      exact ⟨_, .inl ⟨hw, move_run ho a⟩, h.1⟩
    · rcases part_run (P := P) ho a with ⟨v, hv⟩ | hn
      · rw [hv w] at h
        exact ⟨v, .inl ⟨hw, hv⟩, h.1⟩
      · exact absurd h (hn R w)
  · rw [if_neg hw] at h
    exact ⟨undef, .inr ⟨by simpa using hw, rfl⟩, h⟩
/-- A part is taken first. -/
theorem part_take (hB : relB ops = true) {a0 : Act} {Q : Exit → Act → World → Prop} (hQ : ∀ c a (d : Nat) v w, Q (.panic c) (a.put (some d) v) w → Q (.panic c) a w) {Rs : List Rel} {i : Nat} {o : Oper} (ho : ops[i]? = some o) (hp : partB o = true)
    (hfr : FreeAt ops i) (hop : opSpec P ops W a0 Rs i o) {fuel : Nat}
    {listed : Array Bool} {a : Act} {n : Held W} {r : Nat → Value} (hsz : listed.size = ops.size) (ha : Agree ops a0 a (fun j => listed.getD j false = true) r)
    (hr : ∀ j, listed.getD j false = true → (Rs.getD j fun _ _ => True) (r j) n.w) (hi : i ∈ Region.ready .any ops listed) (hcl : ∀ j o, ops[j]? = some o → listed.getD j false = true → ∀ e ∈ o.after, Region.binds .any e = true → listed.getD e.on false = true)
    (hK : ∀ a' (n' : Held W) r', Agree ops a0 a' (fun j => (listed.setIfInBounds i true).getD j false = true) r' → (∀ j, (listed.setIfInBounds i true).getD j false = true → (Rs.getD j fun _ _ => True) (r' j) n'.w) → wpAny P .any ops Q fuel (listed.setIfInBounds i true) a' n'.w) : wpAny P .any ops Q (fuel + 1) listed a n.w := by
  obtain ⟨hl, o', ho', hall⟩ := mem_ready.1 hi
  obtain rfl : o' = o := Option.some.inj (ho'.symm.trans ho)
  have hio : i < ops.size := (Array.getElem?_eq_some_iff.1 ho).1
  have hlf : ¬ listed.getD i false = true := by
    have hil : i < listed.size := by omega
    simp [hil] at hl ⊢
    exact hl
  have hspec := hop a _ r n ha (fun j hb => by
    obtain ⟨e, he, h1, h2⟩ := behind_iff.1 hb
    subst h1
    exact ⟨hall e he h2, hr _ (hall e he h2)⟩) (fun j oj hoj hb hlj => by
    obtain ⟨e, he, h1, h2⟩ := behind_iff.1 hb
    have := hcl j oj hoj hlj e he h2
    rw [h1] at this
    exact hlf this)
  obtain ⟨v, hy, hR⟩ := part_yields hp hspec
  have hset : ∀ j, ((listed.setIfInBounds i true).getD j false = true) ↔ (listed.getD j false = true ∨ j = i) := fun j => by
    by_cases e : i = j
    · subst e
      have hil : i < listed.size := by omega
      simp [hil]
    · rw [getD_set_ne false e]
      exact ⟨.inl, fun h => h.resolve_right (Ne.symm e)⟩
  have hfr' : ∀ j oj, ops[j]? = some oj → j ≠ i → listed.getD j true = false → (∀ e ∈ oj.after, Region.binds .any e = true → e.on ≠ i) → o'.apart ops oj = true := fun j oj hj hne hun hno =>
    hfr (fun j => listed.getD j false = true) o' hcl ho hall j oj hj hne (fun h => by
      have hjl : j < listed.size := by have := (Array.getElem?_eq_some_iff.1 hj).1; omega
      simp [hjl] at hun h
      rw [hun] at h
      cases h) hno
  refine wpAny_first ho (Region.noSelect_spec (relB_spec hB).1) (fun c a w h => ?_) fuel listed a n.w hfr' hi hy (hK _ n (fun j => if j = i then v else r j) ?_ fun j hj => ?_)
  · cases hd : o'.dst with
    | none => rw [hd] at h; exact h
    | some d => rw [hd] at h; exact hQ c a d v w h
  · have := ha.put hB ho hlf v
    have e : (fun j => listed.getD j false = true ∨ j = i) = (fun j => (listed.setIfInBounds i true).getD j false = true) := funext fun j => propext (hset j).symm
    rw [e] at this
    exact this
  · by_cases e : j = i
    · subst e; simp only [if_true]; exact hR
    · simp only [if_neg e]
      exact hr j (((hset j).1 hj).resolve_right e)
theorem anyRelL (hB : relB ops = true) {m : Nat} (hmn : m ≤ ops.size) (ps : List Nat) (hps : ∀ p ∈ ps, p < m ∧ (∃ o, ops[p]? = some o ∧ partB o = true) ∧ FreeAt ops p)
    (hT : ∀ L : Nat → Prop, Closed ops L → ∀ i o, m ≤ i → ops[i]? = some o → (∀ e ∈ o.after, Region.binds .any e = true → L e.on) → ∀ j, j < i → L j ∨ (j ∈ ps ∧ ∀ oj, ops[j]? = some oj → ∀ e ∈ oj.after, Region.binds .any e = true → L e.on))
    {a0 : Act} {Q : Exit → Act → World → Prop} (hQP : ∀ c a (d : Nat) v w, Q (.panic c) (a.put (some d) v) w → Q (.panic c) a w) {Rs : List Rel} (hst : ∀ R ∈ Rs, Stays R)
    (hop : ∀ i o, i < m → ops[i]? = some o → opSpec P ops W a0 Rs i o)
    (hQ : ∀ r (n : Held W) a, Agree ops a0 a (· < m) r → (∀ j, j < m → (Rs.getD j fun _ _ => True) (r j) n.w) → wpOps P ops Q (List.range' m (ops.size - m)) a n.w) :
    ∀ (fuel : Nat) (listed : Array Bool) (a : Act) (n : Held W) (r : Nat → Value), listed.size = ops.size → fuel + (List.range ops.size).countP (fun i => listed.getD i false) = ops.size →
      (∀ j, m ≤ j → listed.getD j false = false) → Closed ops (fun j => listed.getD j false = true) →
      Agree ops a0 a (fun j => listed.getD j false = true) r → (∀ j, listed.getD j false = true → (Rs.getD j fun _ _ => True) (r j) n.w) → wpAny P .any ops Q fuel listed a n.w := by
  have hunl : ∀ (listed : Array Bool) (i : Nat), listed.size = ops.size → i < ops.size → listed.getD i true = false → listed.getD i false = false := fun listed i hsz hi h => by
    have hil : i < listed.size := by omega
    simp [hil] at h ⊢
    exact h
  have hone : ∀ k listed, (∀ j, listed.getD j false = decide (j < k)) → listed.size = ops.size → m ≤ k → ∀ i ∈ Region.ready .any ops listed, i = k := by
    intro k listed hl hsz hmk i hi
    obtain ⟨h0, o, ho, hall⟩ := mem_ready.1 hi
    have hio : i < ops.size := (Array.getElem?_eq_some_iff.1 ho).1
    have h1 := hunl listed i hsz hio h0
    rw [hl] at h1
    have hki : ¬ i < k := by simpa using h1
    by_cases e : i = k
    · exact e
    · have hcl : Closed ops (fun j => listed.getD j false = true) := fun j o ho hj e he hb => by
        show listed.getD e.on false = true
        have hj : listed.getD j false = true := hj
        rw [hl] at hj ⊢
        have := ((relB_spec hB).2 j o ho).1 e he hb
        simp at hj ⊢
        omega
      rcases hT _ hcl i o (by omega) ho hall k (by omega) with this | this
      · rw [hl] at this
        simp at this
      · have := (hps k this.1).1
        omega
  have hall' : ∀ k' (listed' : Array Bool), k' < ops.size → listed'.size = ops.size → (∀ j, listed'.getD j false = decide (j < k')) → k' ∈ Region.ready .any ops listed' := by
    intro k listed hk hsz hl
    have hkl : k < listed.size := by omega
    refine mem_ready.2 ⟨?_, ops[k], Array.getElem?_eq_getElem hk, fun e he hb => ?_⟩
    · have := hl k
      simp [hkl] at this ⊢
      exact this
    · have := ((relB_spec hB).2 k _ (Array.getElem?_eq_getElem hk)).1 e he hb
      rw [hl]
      exact decide_eq_true this
  have hfin : ∀ (fuel : Nat) (listed : Array Bool) (a : Act) (n : Held W) (r : Nat → Value), listed.size = ops.size → fuel + (List.range ops.size).countP (fun i => listed.getD i false) = ops.size →
      (∀ j, listed.getD j false = decide (j < m)) → Agree ops a0 a (fun j => listed.getD j false = true) r → (∀ j, listed.getD j false = true → (Rs.getD j fun _ _ => True) (r j) n.w) → wpAny P .any ops Q fuel listed a n.w := by
    intro fuel listed a n r hsz hc hl ha hr
    have e1 : (fun i => listed.getD i false) = fun i => decide (i < m) := funext hl
    rw [e1, cnt_first m ops.size hmn] at hc
    have e2 : (fun j => listed.getD j false = true) = (· < m) := funext fun j => propext (by rw [hl]; simp)
    rw [e2] at ha
    have hq := hQ r n a ha fun j hj => hr j (by rw [hl]; exact decide_eq_true hj)
    obtain rfl : fuel = ops.size - m := by omega
    refine any_tail hone _ m listed a n.w (Nat.le_refl m) (by omega) hsz hl ?_ (fun k' l' _ h2 h3 h4 => hall' k' l' h2 h3 h4) hq
    by_cases e : ops.size - m = 0
    · exact .inl e
    · exact .inr (hall' m listed (by omega) hsz hl)
  intro fuel
  induction fuel with
  | zero =>
    intro listed a n r hsz hc hno hcl ha hr
    have hfull : ∀ j, j < ops.size → listed.getD j false = true := fun j hj => by
      have : (List.range ops.size).countP (fun i => listed.getD i false) = (List.range ops.size).length := by simpa using hc
      exact List.countP_eq_length.1 this j (List.mem_range.2 hj)
    refine hfin 0 listed a n r hsz hc (fun j => ?_) ha hr
    by_cases e : j < m
    · rw [hfull j (by omega)]; simp [e]
    · rw [hno j (by omega)]; simp [e]
  | succ fuel ih =>
    intro listed a n r hsz hc hno hcl ha hr
    by_cases hpre : ∀ j, j < m → listed.getD j false = true
    · refine hfin (fuel + 1) listed a n r hsz hc (fun j => ?_) ha hr
      by_cases e : j < m
      · rw [hpre j e]; simp [e]
      · rw [hno j (by omega)]; simp [e]
    · have hcnt : ∀ i, i ∈ Region.ready .any ops listed → fuel + (List.range ops.size).countP (fun j => (listed.setIfInBounds i true).getD j false) = ops.size := fun i hi => by
        obtain ⟨h0, o, ho, _⟩ := mem_ready.1 hi
        have hio : i < ops.size := (Array.getElem?_eq_some_iff.1 ho).1
        have hil : i < listed.size := by omega
        have h1 := hunl listed i hsz hio h0
        have e : (fun j => (listed.setIfInBounds i true).getD j false) = fun j => decide (j = i) || listed.getD j false := funext fun j => by
          by_cases e : i = j
          · subst e; simp [hil]
          · rw [getD_set_ne false e]; simp [Ne.symm e]
        rw [e, cnt_set _ i h1, if_pos hio]
        omega
      have hclo : ∀ i, i ∈ Region.ready .any ops listed → Closed ops (fun j => (listed.setIfInBounds i true).getD j false = true) := fun i hi j o ho hj e he hb => by
        by_cases e1 : i = j
        · subst e1
          obtain ⟨_, o', ho', hall⟩ := mem_ready.1 hi
          obtain rfl : o = o' := Option.some.inj (ho.symm.trans ho')
          exact getD_set_true (hall e he hb)
        · have hj : (listed.setIfInBounds i true).getD j false = true := hj
          rw [getD_set_ne false e1] at hj
          exact getD_set_true (hcl j o ho hj e he hb)
      by_cases hpr : ∃ p ∈ ps, p ∈ Region.ready .any ops listed
      · obtain ⟨p, hpm, hpi⟩ := hpr
        obtain ⟨hplt, ⟨o, ho, hpo⟩, hfr⟩ := hps p hpm
        exact part_take hB hQP ho hpo hfr (hop p o hplt ho) hsz ha hr hpi hcl fun a' n' r' ha' hr' => ih _ a' n' r' (by simpa using hsz) (hcnt p hpi) (fun j hj => by rw [getD_set_ne false (by omega)]; exact hno j hj) (hclo p hpi) ha' hr'
      · have hlow : ∀ i ∈ Region.ready .any ops listed, i < m := fun i hi => by
          obtain ⟨h0, o, ho, hall⟩ := mem_ready.1 hi
          rcases Nat.lt_or_ge i m with h | h
          · exact h
          · refine absurd (fun j hj => ?_) hpre
            rcases hT _ hcl i o h ho hall j (by omega) with h2 | ⟨h2, h3⟩
            · exact h2
            · by_cases hlj : listed.getD j false = true
              · exact hlj
              · refine absurd ⟨j, h2, mem_ready.2 ⟨?_, ops[j]'(by omega), Array.getElem?_eq_getElem (by omega), h3 _ (Array.getElem?_eq_getElem (by omega))⟩⟩ hpr
                have hil : j < listed.size := by omega
                simp [hil] at hlj ⊢
                exact hlj
        refine ⟨fun hnil => ?_, fun i hi => ?_⟩
        · exfalso
          refine hpre fun j hj => ?_
          have hall : ∀ q i, i < q → i < m → listed.getD i false = true := by
            intro q
            induction q with
            | zero => intro i h; omega
            | succ q ihq =>
              intro i hiq him
              by_cases hl : listed.getD i false = true
              · exact hl
              · exfalso
                have : i ∈ Region.ready .any ops listed := by
                  refine mem_ready.2 ⟨?_, ops[i], Array.getElem?_eq_getElem (by omega), fun e he hb => ?_⟩
                  · have hil : i < listed.size := by omega
                    simp [hil] at hl ⊢
                    exact hl
                  · have h1 := ((relB_spec hB).2 i ops[i] (Array.getElem?_eq_getElem (by omega))).1 e he hb
                    exact ihq e.on (by omega) (by omega)
                rw [hnil] at this
                cases this
          exact hall (j + 1) j (by omega) hj
        · have him := hlow i hi
          exact rel_step hB hst (fun o ho => hop i o him ho) hsz ha hr hi hcl fun a' n' r' ha' hr' => ih _ a' n' r' (by simpa using hsz) (hcnt i hi) (fun j hj => by rw [getD_set_ne false (by omega)]; exact hno j hj) (hclo i hi) ha' hr'

theorem region_rel_late {id : Nat} {Q : Exit → Act → World → Prop} {a : Act} {w : World} {l : List Oper} {b : Bool} (m : Nat) (ps : List Nat) (hm : P.follows .mixedOrders = true) (hB : relB l.toArray = true) (hT : lateB l m ps = true) (hQP : ∀ c a (d : Nat) v w, Q (.panic c) (a.put (some d) v) w → Q (.panic c) a w)
    (h : wpRel P l.toArray w (fun a' w' => wpList P l.toArray Q (l.drop m) a' w') (l.take m) 0 (fun _ => a) []) : (Code.region id l.toArray b).wp P Q a w := by
  unfold lateB at hT
  rw [Bool.and_eq_true, Bool.and_eq_true, decide_eq_true_eq, List.all_eq_true, List.all_eq_true] at hT
  obtain ⟨⟨hml, hps⟩, hT⟩ := hT
  have hps' : ∀ p ∈ ps, p < m ∧ (∃ o, l.toArray[p]? = some o ∧ partB o = true) ∧ FreeAt l.toArray p := fun p hp => by
    have h1 := hps p hp
    rw [Bool.and_eq_true, Bool.and_eq_true, decide_eq_true_eq] at h1
    refine ⟨h1.1.1, ?_, fun L o hc ho hL j oj hj hne hnl hno => Region.free_spec ho h1.2 j oj hj hne ?_ hno⟩
    rotate_left
    · have hpl : p < l.length := by simpa using (Array.getElem?_eq_some_iff.1 ho).1
      have hjl : j < l.length := by simpa using (Array.getElem?_eq_some_iff.1 hj).1
      have hM := masks_ok hc l [] (fun j => by simp) (fun i o h => absurd h (by simp)) p o (by simpa using hpl) ho hL j
      cases hb : ((masks l []).getD p 0).testBit j
      · simpa [hjl] using hb
      · exact absurd (hM hb) hnl
    have h2 := h1.1.2
    cases ho : l[p]? with
    | none => rw [ho] at h2; exact absurd h2 Bool.false_ne_true
    | some o => rw [ho] at h2; exact ⟨o, by simpa using ho, h2⟩
  have hlen : (l.take m).length = m := by rw [List.length_take]; omega
  have hsub : ∀ j, j < m → (l.take m)[j]? = l[j]? := fun j hj => by rw [List.getElem?_take, if_pos hj]
  obtain ⟨Rs, e1, e2, _, e4, e5⟩ := plan hB a _ (l.take m) 0 (fun _ => a) [] [] (fun r => r) (fun j hj => by rw [hsub j (by omega)]; simp) rfl (fun _ h => by cases h) (fun r => ⟨rfl, rfl, fun _ _ _ h => absurd h (by omega), fun _ _ => rfl⟩) (fun _ _ _ h => absurd h (by omega)) (fun _ h => by cases h) h
  rw [hlen, Nat.zero_add] at e1 e4 e5
  have hcl : ∀ L : Nat → Prop, Closed l.toArray L → ∀ i o, m ≤ i → l.toArray[i]? = some o → (∀ e ∈ o.after, Region.binds .any e = true → L e.on) → ∀ j, j < i → L j ∨ (j ∈ ps ∧ ∀ oj, l.toArray[j]? = some oj → ∀ e ∈ oj.after, Region.binds .any e = true → L e.on) := by
    intro L hc i o hmi ho hL j hj
    have hil : i < l.length := by simpa using (Array.getElem?_eq_some_iff.1 ho).1
    have h1 := hT i (List.mem_range.2 hil)
    rw [Bool.or_eq_true, decide_eq_true_eq, List.all_eq_true] at h1
    have h2 := (h1.resolve_left (by omega)) j (List.mem_range.2 hj)
    have hM := fun j h2 => masks_ok hc l [] (fun j => by simp) (fun i o h => absurd h (by simp)) i o (by simpa using hil) ho hL j h2
    rw [Bool.or_eq_true, Bool.and_eq_true] at h2
    rcases h2 with h2 | ⟨h2, h3⟩
    · exact .inl (hM j h2)
    · refine .inr ⟨by simpa using h2, fun oj hoj e he hb => ?_⟩
      have hoj' : l[j]? = some oj := by simpa using hoj
      rw [hoj'] at h3
      have h4 := List.all_eq_true.1 h3 e (by simpa using he)
      rw [Bool.or_eq_true, Bool.not_eq_true'] at h4
      rcases h4 with h4 | h4
      · rw [hb] at h4; cases h4
      · exact hM e.on h4
  have hany : ∀ n : Held w, wpAny P .any l.toArray Q l.toArray.size (Array.replicate l.toArray.size false) a n.w := fun n => by
    have hrep : ∀ j, (Array.replicate l.toArray.size false).getD j false = false := fun j => by
      rcases Nat.lt_or_ge j l.length with h' | h'
      · simp [h']
      · simp [Array.getElem?_eq_none, h']
    refine anyRelL (W := w) (a0 := a) (Rs := Rs) hB (by simpa using hml) ps hps' hcl hQP e2 (fun i o hi ho => e4 i o (Nat.zero_le _) ho hi) (fun r n a ha hr => ?_) _ _ _ n (fun _ => undef) (by simp) ?_ (fun j _ => hrep j) (fun j o ho hj => ?_) ?_ ?_
    · have := e5 r n a ha hr
      have hx := wpOps_eq_wpList (P := P) (ops := l.toArray) (Q := Q) (l.drop m) m (fun j => by simp [List.getElem?_drop])
      have hz : l.toArray.size - m = (l.drop m).length := by simp
      rw [hz, hx]
      exact this
    · have : (List.range l.toArray.size).countP (fun i => (Array.replicate l.toArray.size false).getD i false) = 0 := by
        rw [List.countP_eq_zero]
        intro j _
        rw [hrep j]; simp
      rw [this, Nat.add_zero]
    · exact absurd (show (Array.replicate l.toArray.size false).getD j false = true from hj) (by rw [hrep j]; simp)
    · exact ⟨rfl, rfl, fun j d _ h => absurd (show (Array.replicate l.toArray.size false).getD j false = true from h) (by rw [hrep j]; simp), fun _ _ => rfl⟩
    · exact fun j h => absurd h (by rw [hrep j]; simp)
  cases b
  · refine wp_region ?_
    rw [List.range_eq_range']
    exact any_lex hB _ 0 _ a w (by simp) (by simp) (fun j => by
      rcases Nat.lt_or_ge j l.length with h' | h'
      · simp [h']
      · simp [Array.getElem?_eq_none, h']) (hany ⟨w, Below.refl _ _⟩)
  · exact wp_region_any hm (hany ⟨w.drew, (Below.refl _ _).drew⟩)
end
end Go.Proofs.Ytmkdfcggjlhcpaa
