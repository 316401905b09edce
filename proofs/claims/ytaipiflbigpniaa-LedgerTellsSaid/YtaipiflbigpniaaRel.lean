/-
  Regions that draw their order and hold calls that give back memory of their own: each temporary is known up to a relation that every later world keeps. One walk in the order of the text serves every order.
-/
import Derived.Test.YtaipiflbigpniaaHeld
namespace Go.Proofs.Ytaipiflbigpniaa
open Go.RowKit
set_option linter.unusedVariables false
set_option linter.unusedSimpArgs false

/-- What an operation gives, up to a relation; memory that was there stays. -/
def relUpon (P : Program) (R : Value → World → Prop) (w : World) : Result Next → Prop
  | .ok (.value u) w' => R u w' ∧ Below w.heap.size w w'
  | .ok .skip w' => R undef w' ∧ Below w.heap.size w w'
  | .ok (.enter f args) w' => Calls P f args w' fun e w'' => (∃ v, e = .returned v ∧ R v w'') ∧ Below w.heap.size w w''
  | _ => False

def relAt (P : Program) (ops : Array Oper) (o : Oper) (a : Act) (w : World) (R : Value → World → Prop) : Prop :=
  if Region.wanted o (yielded ops a.tmps) then relUpon P R w ((execOp a.eval o).run P w) else R undef w

def Stays (R : Value → World → Prop) : Prop := ∀ v w w', Below w.heap.size w w' → R v w → R v w'

def behind (o : Oper) (j : Nat) : Bool := o.after.any fun e => e.on == j && Region.binds .any e

abbrev Told := List (Nat × (Value → World → Prop))

def given (o : Oper) (Fs : Told) (r : Nat → Value) (w : World) : Prop := ∀ x ∈ Fs, behind o x.1 = true → x.2 (r x.1) w

def wpRel (P : Program) (ops : Array Oper) (W : World) (Q : Act → World → Prop) : List Oper → Nat → ((Nat → Value) → Act) → Told → Prop
  | [], _, F, Fs => ∀ r (n : Held W), (∀ x ∈ Fs, x.2 (r x.1) n.w) → Q (F r) n.w
  | o :: rest, i, F, Fs =>
    (∃ x, (∀ r (n : Held W), given o Fs r n.w → relAt P ops o (F r) n.w fun v _ => v = x) ∧ wpRel P ops W Q rest (i + 1) (fun r => (F r).put o.dst x) Fs) ∨
    (∃ R, Stays R ∧ (∀ r (n : Held W), given o Fs r n.w → relAt P ops o (F r) n.w R) ∧ wpRel P ops W Q rest (i + 1) (fun r => (F r).put o.dst (r i)) (Fs ++ [(i, R)]))

/-- The check of a region: nothing is read but what stands behind an edge, no temporary is written twice. -/
def relB (ops : Array Oper) : Bool :=
  Region.noSelect ops && (List.range ops.size).all fun i =>
    match ops[i]? with
    | none => true
    | some o => o.after.all (fun e => !Region.binds .any e || decide (e.on < i)) &&
      (List.range ops.size).all fun j => match (ops[j]?).bind (·.dst) with
        | none => true
        | some d => (i == j || o.dst != some d) && (!(o.looksAt ops).contains d || behind o j || ((ops[j]?).map (behind · i)).getD false)

section
variable {P : Program} {ops : Array Oper} {W : World}

/-- The act has, in the slots of the operations in L, their values r; else it is as a0. -/
structure Agree (ops : Array Oper) (a0 a : Act) (L : Nat → Prop) (r : Nat → Value) : Prop where
  defers : a.defers = a0.defers
  size : a.tmps.size = a0.tmps.size
  on : ∀ j d, (ops[j]?).bind (·.dst) = some d → L j → d < a0.tmps.size → a.tmps[d]? = some (r j)
  off : ∀ t, (∀ j, (ops[j]?).bind (·.dst) = some t → ¬ L j) → a.tmps[t]? = a0.tmps[t]?

theorem relB_spec (h : relB ops = true) : Region.noSelect ops = true ∧ ∀ i o, ops[i]? = some o → (∀ e ∈ o.after, Region.binds .any e = true → e.on < i) ∧
    ∀ j d, (ops[j]?).bind (·.dst) = some d → (i ≠ j → o.dst ≠ some d) ∧ (d ∈ o.looksAt ops → behind o j = true ∨ ∃ oj, ops[j]? = some oj ∧ behind oj i = true) := by
  unfold relB at h
  rw [Bool.and_eq_true, List.all_eq_true] at h
  refine ⟨h.1, fun i o ho => ?_⟩
  have hi : i < ops.size := (Array.getElem?_eq_some_iff.1 ho).1
  have h1 := h.2 i (List.mem_range.2 hi)
  simp only [ho, Bool.and_eq_true, List.all_eq_true, Array.all_eq_true_iff_forall_mem] at h1
  refine ⟨fun e he hb => by have := h1.1 e he; simpa [hb] using this, fun j d hj => ?_⟩
  have hjl : j < ops.size := by
    cases hx : ops[j]? with
    | none => rw [hx] at hj; cases hj
    | some x => exact (Array.getElem?_eq_some_iff.1 hx).1
  have h2 := h1.2 j (List.mem_range.2 hjl)
  simp only [hj, Bool.and_eq_true, Bool.or_eq_true, beq_iff_eq, bne_iff_ne, Bool.not_eq_true'] at h2
  refine ⟨fun hne => h2.1.resolve_left hne, fun hd => ?_⟩
  rcases h2.2 with (h3 | h3) | h3
  · exact absurd h3 (by simpa using hd)
  · exact .inl h3
  · cases hx : ops[j]? with
    | none => rw [hx] at h3; simp at h3
    | some x => rw [hx] at h3; exact .inr ⟨x, rfl, by simpa using h3⟩

theorem behind_iff {o : Oper} {j : Nat} : behind o j = true ↔ ∃ e ∈ o.after, e.on = j ∧ Region.binds .any e = true := by
  simp only [behind, Array.any_eq_true, Bool.and_eq_true, beq_iff_eq]
  constructor
  · rintro ⟨i, h, h1, h2⟩
    exact ⟨_, Array.getElem_mem h, h1, h2⟩
  · rintro ⟨e, he, h⟩
    obtain ⟨i, hi, rfl⟩ := Array.mem_iff_getElem.1 he
    exact ⟨i, hi, h⟩

theorem countP_lt {α : Type} {p q : α → Bool} {i : α} (h : ∀ x, q x = true → p x = true) (hp : p i = true) (hq : q i = false) : ∀ l : List α, i ∈ l → l.countP q < l.countP p
  | x :: l, hi => by
    have hle := List.countP_mono_left (l := l) fun x _ => h x
    rcases List.mem_cons.1 hi with rfl | hi
    · rw [List.countP_cons, List.countP_cons]
      simp [hp, hq]
      omega
    · have := countP_lt h hp hq l hi
      rw [List.countP_cons, List.countP_cons]
      have : (if q x = true then 1 else 0) ≤ (if p x = true then 1 else 0) := by
        by_cases e : q x = true
        · rw [if_pos e, if_pos (h x e)]; exact Nat.le_refl _
        · rw [if_neg e]; omega
      omega

theorem Agree.put (hB : relB ops = true) {a0 a : Act} {L : Nat → Prop} {r : Nat → Value} {i : Nat} {o : Oper} (ho : ops[i]? = some o) (h : Agree ops a0 a L r) (hL : ¬ L i) (v : Value) :
    Agree ops a0 (a.put o.dst v) (fun j => L j ∨ j = i) (fun j => if j = i then v else r j) := by
  obtain ⟨_, hs⟩ := relB_spec hB
  have hi : (ops[i]?).bind (·.dst) = o.dst := by rw [ho]; rfl
  have huniq : ∀ j d, (ops[j]?).bind (·.dst) = some d → o.dst = some d → j = i := fun j d hj hd => by
    by_cases e : j = i
    · exact e
    · exact absurd hd (((hs i o ho).2 j d hj).1 (Ne.symm e))
  have htm : ∀ t, (a.put o.dst v).tmps[t]? = if o.dst = some t then (if t < a.tmps.size then some v else none) else a.tmps[t]? := by
    intro t
    cases hd : o.dst with
    | none => simp [Act.put]
    | some d =>
      simp only [Act.put, Array.getElem?_setIfInBounds, Option.some.injEq]
      by_cases e : d = t
      · subst e; simp
      · simp [e]
  refine ⟨?_, ?_, ?_, ?_⟩
  · rw [← h.defers]; cases o.dst <;> rfl
  · rw [← h.size]; cases o.dst <;> simp [Act.put]
  · intro j d hj hLj hd
    rw [htm]
    by_cases e : o.dst = some d
    · have := huniq j d hj e
      subst this
      rw [if_pos e, if_pos (by rw [h.size]; exact hd), if_pos rfl]
    · rw [if_neg e]
      have hne : j ≠ i := fun x => e (by subst x; rw [← hi]; exact hj)
      rw [if_neg hne]
      exact h.on j d hj (hLj.resolve_right hne) hd
  · intro t ht
    rw [htm]
    by_cases e : o.dst = some t
    · exact absurd (.inr rfl) (ht i (by rw [hi]; exact e))
    · rw [if_neg e]
      exact h.off t fun j hj hLj => ht j hj (.inl hLj)

/-- What an operation does hangs on what stands behind its edges alone. -/
theorem relAt_of_agree (hB : relB ops = true) {a0 a b : Act} {L M : Nat → Prop} {r s : Nat → Value} {i : Nat} {o : Oper} (ho : ops[i]? = some o)
    (ha : Agree ops a0 a L r) (hb : Agree ops a0 b M s) (hL : ∀ j, behind o j = true → L j ∧ M j ∧ r j = s j) (hN : ∀ j oj, ops[j]? = some oj → behind oj i = true → ¬ L j ∧ ¬ M j) {w : World} {R : Value → World → Prop} (h : relAt P ops o a w R) : relAt P ops o b w R := by
  obtain ⟨hns, hs⟩ := relB_spec hB
  have hsel := fun cs bb => Region.noSelect_spec hns i o cs bb ho
  have hat : ∀ t, t ∈ o.looksAt ops → a.tmps[t]? = b.tmps[t]? := by
    intro t ht
    by_cases hx : ∃ j : Nat, (ops[j]?).bind (fun o => o.dst) = some t
    · obtain ⟨j, hj⟩ := hx
      rcases ((hs i o ho).2 j t hj).2 ht with hbh | ⟨oj, hoj, hbh⟩
      rotate_left
      · obtain ⟨n1, n2⟩ := hN j oj hoj hbh
        have huniq : ∀ j', (ops[j']?).bind (fun o => o.dst) = some t → j' = j := fun j' hj' => by
          by_cases e : j' = j
          · exact e
          · have hoj' : oj.dst = some t := by rw [hoj] at hj; exact hj
            exact absurd hoj' (((hs j oj hoj).2 j' t hj').1 (Ne.symm e))
        rw [ha.off t fun j' hj' => by rw [huniq j' hj']; exact n1, hb.off t fun j' hj' => by rw [huniq j' hj']; exact n2]
      obtain ⟨h1, h2, h3⟩ := hL j hbh
      by_cases hlt : t < a0.tmps.size
      · rw [ha.on j t hj h1 hlt, hb.on j t hj h2 hlt, h3]
      · have hge : a0.tmps.size ≤ t := Nat.le_of_not_lt hlt
        rw [Array.getElem?_eq_none (by rw [ha.size]; exact hge), Array.getElem?_eq_none (by rw [hb.size]; exact hge)]
    · rw [ha.off t fun j hj => absurd ⟨j, hj⟩ hx, hb.off t fun j hj => absurd ⟨j, hj⟩ hx]
  have he : execOp a.eval o = execOp b.eval o := execOp_congr o hsel fun x hx => by
    cases x with
    | tmp t =>
      have := hat t (List.mem_append_left _ (List.mem_filterMap.2 ⟨.tmp t, by simpa using hx, rfl⟩))
      simp [Act.eval, this]
    | _ => rfl
  have hw : Region.wanted o (yielded ops a.tmps) = Region.wanted o (yielded ops b.tmps) := by
    unfold Region.wanted
    cases hg : o.guard with
    | none => rfl
    | some gw =>
      obtain ⟨g, want⟩ := gw
      have hy : yielded ops a.tmps g = yielded ops b.tmps g := by
        unfold yielded
        cases ht : (ops[g]?).bind (·.dst) with
        | none => rfl
        | some t =>
          have := hat t (List.mem_append_right _ (by simp [hg, ht]))
          simp [this]
      simp only [hy]
  unfold relAt at *
  rw [he, hw] at h
  exact h

abbrev Rel := Value → World → Prop
def opSpec (P : Program) (ops : Array Oper) (W : World) (a0 : Act) (Rs : List Rel) (i : Nat) (o : Oper) : Prop :=
  ∀ a L r (n : Held W), Agree ops a0 a L r → (∀ j, behind o j = true → L j ∧ (Rs.getD j fun _ _ => True) (r j) n.w) → (∀ j oj, ops[j]? = some oj → behind oj i = true → ¬ L j) → relAt P ops o a n.w (Rs.getD i fun _ _ => True)

theorem plan (hB : relB ops = true) (a0 : Act) (Q : Act → World → Prop) : ∀ (l : List Oper) (k : Nat) (F : (Nat → Value) → Act) (Fs : Told) (Rs : List Rel) (hat : (Nat → Value) → Nat → Value),
    (∀ j, j < l.length → l[j]? = ops[k + j]?) → Rs.length = k → (∀ R ∈ Rs, Stays R) → (∀ r, Agree ops a0 (F r) (· < k) (hat r)) → (∀ r j w, j < k → (Rs.getD j fun _ _ => True) (r j) w → hat r j = r j) →
    (∀ x ∈ Fs, x.1 < k ∧ Rs[x.1]? = some x.2) → wpRel P ops W Q l k F Fs →
    ∃ Rs' : List Rel, Rs'.length = k + l.length ∧ (∀ R ∈ Rs', Stays R) ∧ (∀ j, j < k → Rs'[j]? = Rs[j]?) ∧ (∀ i o, k ≤ i → ops[i]? = some o → i < k + l.length → opSpec P ops W a0 Rs' i o) ∧
      ∀ r (n : Held W) a, Agree ops a0 a (· < k + l.length) r → (∀ j, j < k + l.length → (Rs'.getD j fun _ _ => True) (r j) n.w) → Q a n.w
  | [], k, F, Fs, Rs, hat, _, hlen, hst, hag, hhat, hFs, h => by
    refine ⟨Rs, by simpa using hlen, hst, fun _ _ => rfl, fun i o h1 _ h2 => absurd h2 (by simp; omega), fun r n a ha hR => ?_⟩
    simp only [List.length_nil, Nat.add_zero] at ha hR
    have e : F r = a := by
      have hF := hag r
      have h1 : (F r).tmps = a.tmps := by
        apply Array.ext_getElem?
        intro t
        by_cases hx : ∃ j, (ops[j]?).bind (·.dst) = some t ∧ j < k
        · obtain ⟨j, hj, hjk⟩ := hx
          by_cases hlt : t < a0.tmps.size
          · rw [hF.on j t hj hjk hlt, ha.on j t hj hjk hlt, hhat r j n.w hjk (hR j hjk)]
          · rw [Array.getElem?_eq_none (by rw [hF.size]; omega), Array.getElem?_eq_none (by rw [ha.size]; omega)]
        · rw [hF.off t fun j hj hl => hx ⟨j, hj, hl⟩, ha.off t fun j hj hl => hx ⟨j, hj, hl⟩]
      have h2 : (F r).defers = a.defers := by rw [hF.defers, ha.defers]
      cases hc : F r; cases a; rw [hc] at h1 h2; simp only at h1 h2; subst h1; subst h2; rfl
    rw [← e]
    exact h r n fun x hx => by
      obtain ⟨h1, h2⟩ := hFs x hx
      have := hR x.1 h1
      rw [List.getD_eq_getElem?_getD, h2] at this
      exact this
  | o :: l, k, F, Fs, Rs, hat, hl, hlen, hst, hag, hhat, hFs, h => by
    have h0 : ops[k]? = some o := by simpa using (hl 0 (by simp)).symm
    have hl' : ∀ j, j < l.length → l[j]? = ops[k + 1 + j]? := fun j hj => by have := hl (j + 1) (by simp; omega); simpa [Nat.add_assoc, Nat.add_comm 1 j] using this
    obtain ⟨R, F', Fs', hat', hR, hstep, hag', hhat', hFs', hrest⟩ : ∃ (R : Rel) (F' : (Nat → Value) → Act) (Fs' : Told) (hat' : (Nat → Value) → Nat → Value), Stays R ∧ (∀ r (n : Held W), given o Fs r n.w → relAt P ops o (F r) n.w R) ∧
        (∀ r, Agree ops a0 (F' r) (· < k + 1) (hat' r)) ∧ (∀ r j w, j < k + 1 → ((Rs ++ [R]).getD j fun _ _ => True) (r j) w → hat' r j = r j) ∧ (∀ x ∈ Fs', x.1 < k + 1 ∧ (Rs ++ [R])[x.1]? = some x.2) ∧ wpRel P ops W Q l (k + 1) F' Fs' := by
      have hkeep : ∀ (R : Rel) (x : Nat × Rel), x ∈ Fs → x.1 < k + 1 ∧ (Rs ++ [R])[x.1]? = some x.2 := fun R x hx => by
        obtain ⟨h1, h2⟩ := hFs x hx
        exact ⟨by omega, by rw [List.getElem?_append_left (by omega)]; exact h2⟩
      have hlt : ∀ (R : Rel) (r : Nat → Value) (j : Nat) (w : World), j < k → ((Rs ++ [R]).getD j fun _ _ => True) (r j) w → hat r j = r j := fun R r j w hj hr => by
        refine hhat r j w hj ?_
        rw [List.getD_eq_getElem?_getD, List.getElem?_append_left (by omega)] at hr
        rw [List.getD_eq_getElem?_getD]
        exact hr
      have hk : ∀ (R : Rel) (v : Value) (w : World), ((Rs ++ [R]).getD k fun _ _ => True) v w → R v w := fun R v w hr => by
        rw [List.getD_eq_getElem?_getD, List.getElem?_append_right (by omega), hlen] at hr
        simpa using hr
      have hput : ∀ (r : Nat → Value) (v : Value), Agree ops a0 ((F r).put o.dst v) (· < k + 1) (fun j => if j = k then v else hat r j) := fun r v => by
        have := (hag r).put hB h0 (Nat.lt_irrefl k) v
        have e : (fun j => j < k ∨ j = k) = (· < k + 1) := funext fun j => propext (by omega)
        rw [e] at this
        exact this
      unfold wpRel at h
      rcases h with ⟨x, h1, h2⟩ | ⟨R, hR, h1, h2⟩
      · refine ⟨fun v _ => v = x, _, _, fun r j => if j = k then x else hat r j, fun _ _ _ _ h => h, h1, fun r => hput r x, fun r j w hj hr => ?_, fun y hy => hkeep _ y hy, h2⟩
        by_cases e : j = k
        · subst e; simp only [if_true]; exact (hk _ _ _ hr).symm
        · simp only [if_neg e]; exact hlt _ r j w (by omega) hr
      · refine ⟨R, _, _, fun r j => if j = k then r k else hat r j, hR, h1, fun r => hput r (r k), fun r j w hj hr => ?_, fun y hy => ?_, h2⟩
        · by_cases e : j = k
          · subst e; simp
          · simp only [if_neg e]; exact hlt _ r j w (by omega) hr
        · rcases List.mem_append.1 hy with hy | hy
          · exact hkeep _ y hy
          · simp only [List.mem_singleton] at hy
            subst hy
            exact ⟨Nat.lt_succ_self k, by rw [List.getElem?_append_right (by omega), hlen]; simp⟩
    obtain ⟨Rs', e1, e2, e3, e4, e5⟩ := plan hB a0 Q l (k + 1) F' Fs' (Rs ++ [R]) hat' hl' (by simp [hlen]) (fun x hx => by
      rcases List.mem_append.1 hx with hx | hx
      · exact hst x hx
      · simp only [List.mem_singleton] at hx; subst hx; exact hR) hag' hhat' hFs' hrest
    have eL : k + (l.length + 1) = k + 1 + l.length := by omega
    refine ⟨Rs', by rw [e1, List.length_cons]; omega, e2, fun j hj => by rw [e3 j (by omega), List.getElem?_append_left (by omega)], fun i oi hi ho hlt => ?_, fun r n a ha hr => ?_⟩
    · rw [List.length_cons] at hlt
      by_cases e : i = k
      · subst e
        have : oi = o := Option.some.inj (ho.symm.trans h0)
        subst this
        intro a L r n ha hL hNL
        have eR : Rs'.getD i (fun _ _ => True) = R := by
          rw [List.getD_eq_getElem?_getD, e3 i (by omega), List.getElem?_append_right (by omega), hlen]; simp
        rw [eR]
        have hj : ∀ j, behind oi j = true → j < i := fun j hj => by
          obtain ⟨e, he, h1, h2⟩ := behind_iff.1 hj
          rw [← h1]
          exact ((relB_spec hB).2 i oi h0).1 e he h2
        have eRj : ∀ j, j < i → Rs'.getD j (fun _ _ => True) = Rs.getD j fun _ _ => True := fun j hj => by
          rw [List.getD_eq_getElem?_getD, e3 j (by omega), List.getElem?_append_left (by omega), List.getD_eq_getElem?_getD]
        refine relAt_of_agree hB h0 (hag r) ha (fun j hb => ⟨hj j hb, (hL j hb).1, ?_⟩) (fun j oj hoj hb => ⟨fun hlt => ?_, hNL j oj hoj hb⟩) (hstep r n ?_)
        · refine hhat r j n.w (hj j hb) ?_
          rw [← eRj j (hj j hb)]
          exact (hL j hb).2
        · obtain ⟨e, he, h1, h2⟩ := behind_iff.1 hb
          have h3 := ((relB_spec hB).2 j oj hoj).1 e he h2
          have hlt' : j < i := hlt
          omega
        · intro x hx hb
          obtain ⟨h1, h2⟩ := hFs x hx
          have := (hL x.1 hb).2
          rw [eRj x.1 h1, List.getD_eq_getElem?_getD, h2] at this
          exact this
      · exact e4 i oi (by omega) ho (by omega)
    · rw [List.length_cons] at ha hr
      exact e5 r n a (by rw [← eL]; exact ha) (fun j hj => hr j (by omega))

theorem rel_step (hB : relB ops = true) {a0 : Act} {Q : Exit → Act → World → Prop} {Rs : List Rel} (hst : ∀ R ∈ Rs, Stays R) {i : Nat} (hop : ∀ o, ops[i]? = some o → opSpec P ops W a0 Rs i o)
    {listed : Array Bool} {a : Act} {n : Held W} {r : Nat → Value} {K : Act → World → Prop} (hsz : listed.size = ops.size) (ha : Agree ops a0 a (fun j => listed.getD j false = true) r)
    (hr : ∀ j, listed.getD j false = true → (Rs.getD j fun _ _ => True) (r j) n.w) (hi : i ∈ Region.ready .any ops listed) (hcl : ∀ j o, ops[j]? = some o → listed.getD j false = true → ∀ e ∈ o.after, Region.binds .any e = true → listed.getD e.on false = true)
    (hK : ∀ a' (n' : Held W) r', Agree ops a0 a' (fun j => (listed.setIfInBounds i true).getD j false = true) r' → (∀ j, (listed.setIfInBounds i true).getD j false = true → (Rs.getD j fun _ _ => True) (r' j) n'.w) → K a' n'.w) : wpOp P ops Q i K a n.w := by
  obtain ⟨hl, o, ho, hall⟩ := mem_ready.1 hi
  have hio : i < ops.size := (Array.getElem?_eq_some_iff.1 ho).1
  have hlf : ¬ listed.getD i false = true := by
    have hil : i < listed.size := by omega
    simp [hil] at hl ⊢
    exact hl
  have hspec := hop o ho a _ r n ha (fun j hb => by
    obtain ⟨e, he, h1, h2⟩ := behind_iff.1 hb
    subst h1
    exact ⟨hall e he h2, hr _ (hall e he h2)⟩) (fun j oj hoj hb hlj => by
    obtain ⟨e, he, h1, h2⟩ := behind_iff.1 hb
    have := hcl j oj hoj hlj e he h2
    rw [h1] at this
    exact hlf this)
  have hnext : ∀ (v : Value) (n' : Held W), Below n.w.heap.size n.w n'.w → (Rs.getD i fun _ _ => True) v n'.w → K (a.put o.dst v) n'.w := by
    intro v n' hb hR
    have hset : ∀ j, ((listed.setIfInBounds i true).getD j false = true) ↔ (listed.getD j false = true ∨ j = i) := fun j => by
      by_cases e : i = j
      · subst e
        have hil : i < listed.size := by omega
        simp [hil]
      · rw [getD_set_ne false e]
        exact ⟨.inl, fun h => h.resolve_right (Ne.symm e)⟩
    refine hK _ n' (fun j => if j = i then v else r j) ?_ fun j hj => ?_
    · have := ha.put hB ho hlf v
      have e : (fun j => listed.getD j false = true ∨ j = i) = (fun j => (listed.setIfInBounds i true).getD j false = true) := funext fun j => propext (hset j).symm
      rw [e] at this
      exact this
    · by_cases e : j = i
      · subst e; simp only [if_true]; exact hR
      · simp only [if_neg e]
        have hjl := ((hset j).1 hj).resolve_right e
        have hmem : (Rs.getD j fun _ _ => True) ∈ Rs ∨ (Rs.getD j fun _ _ => True) = fun _ _ => True := by
          rw [List.getD_eq_getElem?_getD]
          cases hx : Rs[j]? with
          | none => exact .inr rfl
          | some x => exact .inl (List.mem_of_getElem? hx)
        rcases hmem with hm | hm
        · exact hst _ hm _ _ _ hb (hr j hjl)
        · rw [hm]; trivial
  unfold wpOp
  simp only [ho]
  unfold relAt at hspec
  split
  · rename_i hw
    rw [if_pos hw] at hspec
    refine .inl ?_
    unfold Oper.wp
    generalize (execOp a.eval o).run P n.w = x at hspec ⊢
    cases x with
    | ok y w' =>
      cases y <;> simp only [relUpon] at hspec <;> simp only [Oper.upon]
      case value u => exact hnext u ⟨w', n.below.trans (hspec.2.mono n.below.size)⟩ hspec.2 hspec.1
      case skip => exact hnext undef ⟨w', n.below.trans (hspec.2.mono n.below.size)⟩ hspec.2 hspec.1
      case enter f args =>
        refine hspec.mono fun e w'' h => ?_
        obtain ⟨⟨v, rfl, hR⟩, hb⟩ := h
        exact hnext v ⟨w'', n.below.trans (hb.mono n.below.size)⟩ hb hR
    | halt x w' => simp only [relUpon] at hspec
  · rename_i hw
    rw [if_neg hw] at hspec
    exact hnext undef n (Below.refl _ _) hspec

theorem closed_set {listed : Array Bool} {i : Nat} (hi : i ∈ Region.ready .any ops listed) (hcl : ∀ j o, ops[j]? = some o → listed.getD j false = true → ∀ e ∈ o.after, Region.binds .any e = true → listed.getD e.on false = true) :
    ∀ j o, ops[j]? = some o → (listed.setIfInBounds i true).getD j false = true → ∀ e ∈ o.after, Region.binds .any e = true → (listed.setIfInBounds i true).getD e.on false = true := by
  intro j o ho hj e he hb
  by_cases e1 : i = j
  · subst e1
    obtain ⟨_, o', ho', hall⟩ := mem_ready.1 hi
    obtain rfl : o = o' := Option.some.inj (ho.symm.trans ho')
    exact getD_set_true (hall e he hb)
  · rw [getD_set_ne false e1] at hj
    exact getD_set_true (hcl j o ho hj e he hb)

theorem anyRel (hB : relB ops = true) {a0 : Act} {Q : Exit → Act → World → Prop} {Rs : List Rel} (hst : ∀ R ∈ Rs, Stays R)
    (hop : ∀ i o, ops[i]? = some o → opSpec P ops W a0 Rs i o) (hlen : Rs.length = ops.size)
    (hQ : ∀ r (n : Held W) a, Agree ops a0 a (· < ops.size) r → (∀ j, j < ops.size → (Rs.getD j fun _ _ => True) (r j) n.w) → Q .normal a n.w) :
    ∀ (fuel : Nat) (listed : Array Bool) (a : Act) (n : Held W) (r : Nat → Value), listed.size = ops.size → ((List.range ops.size).countP fun i => !listed.getD i false) ≤ fuel → (∀ j o, ops[j]? = some o → listed.getD j false = true → ∀ e ∈ o.after, Region.binds .any e = true → listed.getD e.on false = true) →
      Agree ops a0 a (fun j => listed.getD j false = true) r → (∀ j, listed.getD j false = true → (Rs.getD j fun _ _ => True) (r j) n.w) → wpAny P .any ops Q fuel listed a n.w := by
  have hdone : ∀ (listed : Array Bool) (a : Act) (n : Held W) (r : Nat → Value), listed.size = ops.size → Agree ops a0 a (fun j => listed.getD j false = true) r →
      (∀ j, listed.getD j false = true → (Rs.getD j fun _ _ => True) (r j) n.w) → Region.ready .any ops listed = [] → Q .normal a n.w := by
    intro listed a n r hsz ha hr hnil
    have hall : ∀ m i, i < m → i < ops.size → listed.getD i false = true := by
      intro m
      induction m with
      | zero => intro i h; omega
      | succ m ih =>
        intro i him hi
        by_cases hl : listed.getD i false = true
        · exact hl
        · exfalso
          have : i ∈ Region.ready .any ops listed := by
            refine mem_ready.2 ⟨?_, ops[i], Array.getElem?_eq_getElem hi, fun e he hb => ?_⟩
            · have hil : i < listed.size := by omega
              simp [hil] at hl ⊢
              exact hl
            · have h1 := ((relB_spec hB).2 i ops[i] (Array.getElem?_eq_getElem hi)).1 e he hb
              exact ih e.on (by omega) (by omega)
          rw [hnil] at this
          cases this
    have hL : (fun j => listed.getD j false = true) = (· < ops.size) := funext fun j => propext ⟨fun h => by
      by_cases hj : j < ops.size
      · exact hj
      · simp [Array.getElem?_eq_none (show listed.size ≤ j by omega)] at h, fun h => hall (j + 1) j (by omega) h⟩
    rw [hL] at ha
    exact hQ r n a ha fun j hj => hr j (hall (j + 1) j (by omega) hj)
  intro fuel
  induction fuel with
  | zero =>
    intro listed a n r hsz hc hcl ha hr
    have hnil : Region.ready .any ops listed = [] := by
      cases hx : Region.ready .any ops listed with
      | nil => rfl
      | cons i xs =>
        exfalso
        have hi : i ∈ Region.ready .any ops listed := by rw [hx]; exact List.mem_cons_self
        obtain ⟨hl, o, ho, _⟩ := mem_ready.1 hi
        have hio : i < ops.size := (Array.getElem?_eq_some_iff.1 ho).1
        have : 0 < (List.range ops.size).countP fun i => !listed.getD i false := List.countP_pos_iff.2 ⟨i, List.mem_range.2 hio, by
          have hil : i < listed.size := by omega
          simp [hil] at hl ⊢
          exact hl⟩
        omega
    exact ⟨hnil, hdone listed a n r hsz ha hr hnil⟩
  | succ fuel ih =>
    intro listed a n r hsz hc hcl ha hr
    refine ⟨hdone listed a n r hsz ha hr, fun i hi => rel_step hB hst (hop i) hsz ha hr hi hcl fun a' n' r' ha' hr' => ih _ a' n' r' (by simpa using hsz) ?_ (closed_set hi hcl) ha' hr'⟩
    obtain ⟨hl, o, ho, _⟩ := mem_ready.1 hi
    have hio : i < ops.size := (Array.getElem?_eq_some_iff.1 ho).1
    have hil : i < listed.size := by omega
    have : ((List.range ops.size).countP fun j => !(listed.setIfInBounds i true).getD j false) < ((List.range ops.size).countP fun j => !listed.getD j false) := by
      refine countP_lt (i := i) (fun j hj => ?_) ?_ ?_ _ (List.mem_range.2 hio)
      · by_cases e : i = j
        · subst e; simp [hil] at hj
        · rw [getD_set_ne false e] at hj; exact hj
      · simp [hil] at hl ⊢
        exact hl
      · simp [hil]
    omega
end

section
variable {P : Program} {ops : Array Oper} {W : World} {Q : Act → World → Prop}
theorem relStep {o : Oper} {rest : List Oper} {i : Nat} {F : (Nat → Value) → Act} {Fs : Told}
    (h : ∀ K : ((Nat → Value) → Act) → Told → Prop, (∀ F Fs, wpRel P ops W Q rest (i + 1) F Fs → K F Fs) →
      (∃ x, (∀ r (n : Held W), given o Fs r n.w → relAt P ops o (F r) n.w fun v _ => v = x) ∧ K (fun r => (F r).put o.dst x) Fs) ∨
      (∃ R, Stays R ∧ (∀ r (n : Held W), given o Fs r n.w → relAt P ops o (F r) n.w R) ∧ K (fun r => (F r).put o.dst (r i)) (Fs ++ [(i, R)]))) : wpRel P ops W Q (o :: rest) i F Fs :=
  h _ fun _ _ h => h
theorem relNil {i : Nat} {F : (Nat → Value) → Act} {Fs : Told} (h : ∀ r (n : Held W), (∀ x ∈ Fs, x.2 (r x.1) n.w) → Q (F r) n.w) : wpRel P ops W Q [] i F Fs := h
theorem relInl {o : Oper} {i : Nat} {F : (Nat → Value) → Act} {Fs : Told} {K : ((Nat → Value) → Act) → Told → Prop} {x : Value} (h1 : ∀ r (n : Held W), given o Fs r n.w → relAt P ops o (F r) n.w fun v _ => v = x) (h2 : K (fun r => (F r).put o.dst x) Fs) :
    (∃ x, (∀ r (n : Held W), given o Fs r n.w → relAt P ops o (F r) n.w fun v _ => v = x) ∧ K (fun r => (F r).put o.dst x) Fs) ∨
      (∃ R, Stays R ∧ (∀ r (n : Held W), given o Fs r n.w → relAt P ops o (F r) n.w R) ∧ K (fun r => (F r).put o.dst (r i)) (Fs ++ [(i, R)])) := .inl ⟨x, h1, h2⟩
theorem relInr {o : Oper} {i : Nat} {F : (Nat → Value) → Act} {Fs : Told} {K : ((Nat → Value) → Act) → Told → Prop} (R : Value → World → Prop) (hR : Stays R) (h1 : ∀ r (n : Held W), given o Fs r n.w → relAt P ops o (F r) n.w R) (h2 : K (fun r => (F r).put o.dst (r i)) (Fs ++ [(i, R)])) :
    (∃ x, (∀ r (n : Held W), given o Fs r n.w → relAt P ops o (F r) n.w fun v _ => v = x) ∧ K (fun r => (F r).put o.dst x) Fs) ∨
      (∃ R, Stays R ∧ (∀ r (n : Held W), given o Fs r n.w → relAt P ops o (F r) n.w R) ∧ K (fun r => (F r).put o.dst (r i)) (Fs ++ [(i, R)])) := .inr ⟨R, hR, h1, h2⟩
theorem relUpon_val {R : Value → World → Prop} {w w' : World} {u : Value} (h : R u w') (hb : Below w.heap.size w w') : relUpon P R w (.ok (.value u) w') := ⟨h, hb⟩
theorem relUpon_enter {R : Value → World → Prop} {w w' : World} {f : FuncId} {args : Array Value} (h : Calls P f args w' fun e w'' => (∃ v, e = .returned v ∧ R v w'') ∧ Below w.heap.size w w'') : relUpon P R w (.ok (.enter f args) w') := h
end

theorem relAt_load {P : Program} {ops : Array Oper} {o : Oper} {a : Act} {w : World} {R : Value → World → Prop} {t : TypeId} {x : Operand} {p : Addr} {v : Value} (ho : o.op = .load t x) (hx : a.eval x = .pointer (some p)) (hw : Region.wanted o (yielded ops a.tmps) = true)
    (hl : (Instr.loadAt t (.pointer (some p))).run P w = .ok v w) (h : R v w) : relAt P ops o a w R := by
  unfold relAt
  rw [if_pos hw]
  have e : (execOp a.eval o).run P w = .ok (.value v) w := by
    unfold execOp
    rw [ho]
    simp only [hx]
    show ((Instr.loadAt t (.pointer (some p))) >>= fun v => (Pure.pure (Next.value v) : Sem Next)).run P w = _
    rw [Sem.run_bind, hl]
    rfl
  rw [e]
  exact ⟨h, Below.refl _ _⟩
theorem given_at {o : Oper} {Fs : Told} {r : Nat → Value} {w : World} (h : given o Fs r w) (k : Nat) {x : Nat × (Value → World → Prop)} (hx : Fs[k]? = some x) (hb : behind o x.1 = true) : x.2 (r x.1) w := h x (List.mem_of_getElem? hx) hb

/-- The order of the text is one of the orders. -/
theorem any_lex {P : Program} {ops : Array Oper} {Q : Exit → Act → World → Prop} (hB : relB ops = true) : ∀ (m k : Nat) (listed : Array Bool) (a : Act) (w : World), k + m = ops.size → listed.size = ops.size → (∀ j, listed.getD j false = decide (j < k)) →
    wpAny P .any ops Q m listed a w → wpOps P ops Q (List.range' k m) a w
  | 0, _, _, _, _, _, _, _, h => h.2
  | m + 1, k, listed, a, w, hk, hsz, hl, h => by
    have hkl : k < listed.size := by omega
    have hr : k ∈ Region.ready .any ops listed := by
      refine mem_ready.2 ⟨?_, ops[k]'(by omega), Array.getElem?_eq_getElem (by omega), fun e he hb => ?_⟩
      · have := hl k
        simp [hkl] at this ⊢
        exact this
      · have := ((relB_spec hB).2 k _ (Array.getElem?_eq_getElem (by omega))).1 e he hb
        rw [hl]
        exact decide_eq_true this
    rw [List.range'_succ, wpOps_cons]
    refine wpOp_mono (fun a w h => any_lex hB m (k + 1) _ a w (by omega) (by simpa using hsz) (fun j => ?_) h) (h.2 k hr)
    by_cases e : k = j
    · subst e; simp [hkl]
    · rw [getD_set_ne false e, hl]
      exact decide_eq_decide.2 (by omega)

theorem region_rel {P : Program} {id : Nat} {Q : Exit → Act → World → Prop} {a : Act} {w : World} {l : List Oper} {b : Bool} (hm : P.follows .mixedOrders = true) (hB : relB l.toArray = true)
    (h : wpRel P l.toArray w (fun a' w' => Q .normal a' w') l 0 (fun _ => a) []) : (Code.region id l.toArray b).wp P Q a w := by
  obtain ⟨Rs, e1, e2, _, e4, e5⟩ := plan hB a _ l 0 (fun _ => a) [] [] (fun r => r) (fun j _ => by simp) rfl (fun _ h => by cases h) (fun r => ⟨rfl, rfl, fun _ _ _ h => absurd h (by omega), fun _ _ => rfl⟩) (fun _ _ _ h => absurd h (by omega)) (fun _ h => by cases h) h
  have hany : ∀ n : Held w, wpAny P .any l.toArray Q l.toArray.size (Array.replicate l.toArray.size false) a n.w := fun n => by
    refine anyRel (W := w) (a0 := a) (Rs := Rs) hB e2 (fun i o ho => e4 i o (Nat.zero_le _) ho ?_) (by simpa using e1) (fun r n a ha hr => e5 r n a (by simpa using ha) (by simpa using hr)) _ _ _ n (fun _ => undef) (by simp) ?_ ?_ ?_ ?_
    · have := (Array.getElem?_eq_some_iff.1 ho).1
      simpa using this
    · refine Nat.le_trans List.countP_le_length (by simp)
    · intro j o _ h
      exfalso
      rcases Nat.lt_or_ge j l.length with h' | h'
      · simp [h'] at h
      · simp [Array.getElem?_eq_none, h'] at h
    · refine ⟨rfl, rfl, fun j d _ h => ?_, fun _ _ => rfl⟩
      rcases Nat.lt_or_ge j l.length with h' | h'
      · simp [h'] at h
      · simp [Array.getElem?_eq_none, h'] at h
    · intro j h
      rcases Nat.lt_or_ge j l.length with h' | h'
      · simp [h'] at h
      · simp [Array.getElem?_eq_none, h'] at h
  cases b
  · refine wp_region ?_
    rw [List.range_eq_range']
    refine any_lex hB _ 0 _ a w (by simp) (by simp) (fun j => ?_) (hany ⟨w, Below.refl _ _⟩)
    rcases Nat.lt_or_ge j l.length with h' | h'
    · simp [h']
    · simp [Array.getElem?_eq_none, h']
  · exact wp_region_any hm (hany ⟨w.drew, (Below.refl _ _).drew⟩)
end Go.Proofs.Ytaipiflbigpniaa
